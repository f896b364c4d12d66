/- Lemmas: VauPu VauG VauV VauH VauI CodeW. -/
import Derived.Test.YtigdlnfgdjfdoaaGreatZK11
set_option maxHeartbeats 4000000
set_option maxRecDepth 100000
set_option linter.unusedVariables false
set_option linter.unusedSimpArgs false
namespace Go.Proofs.YtigdlnfgdjfdoaaGreat
namespace Vault
open Go Go.RowKit Kit
def pur (s : ByteArray) (ns : List Int) : List UInt8 := textB s ++ ns.flatMap num8
theorem pur_le (s : ByteArray) (ns : List Int) : (pur s ns).length ≤ 3 + s.size + 8 * ns.length := by
 have := textB_le s
 rw [pur, List.length_append, nums_length]; omega
open Ideal (Iw Iq Ans Arg Args Thing mk out sealT opn derT hashT z32)
open Sha (Pc PcsOk catP)
theorem place_size (l : List UInt8) (h : l.length = 44) : (Tryz.prog.info? 213).map (·.size) = some (bvs l).length := by rw [bvs_length, h]; kernel_rfl
def uF (F : Nat → Prop) (v m : Nat) : Nat → Prop := fun i => F i ∨ vF v m i
theorem _root_.Go.Proofs.YtigdlnfgdjfdoaaGreat.Ideal.Ans.over {w0 w2 w3 : World} {F2 : Nat → Prop} {v m : Nat} {X : Option Addr} {cX : Nat} {l : List UInt8} (h : Ans w0 w2 F2 X cX l) (k : Kp (vF v m) w2 w3) (hv : v < w0.heap.size) (hm : m < w0.heap.size) : Ans w0 w3 (uF F2 v m) X cX l :=
 ⟨h.row.keep k (fun i e h2 => by have := (h.far i e).1; rcases h2 with h2 | h2 <;> omega), fun i e => ⟨(h.far i e).1, fun h2 => h2.elim (h.far i e).2 (fun h2 => by have := (h.far i e).1; rcases h2 with h2 | h2 <;> omega)⟩, h.cap, h.mx, h.nil⟩
theorem _root_.Go.Proofs.YtigdlnfgdjfdoaaGreat.Ideal.Args.mono {w : World} {F G : Nat → Prop} {B : Option Addr} {m : Nat} {ps : List Pc} (h : Args w F B m ps) (hG : ∀ i, i < w.heap.size → G i → F i) : Args w G B m ps :=
 ⟨h.len, h.row, by
  by_cases e : ps = []
  · exact .inl e
  · exact .inr (fun k hk hg => (h.far.resolve_left e) k hk (hG k (h.row.lt (by simpa using e) k hk) hg)), fun q hq => by
  obtain ⟨h1, h2, h3, h4, h5⟩ := h.pcs q hq
  refine ⟨h1, h2, ?_, h4, h5⟩
  by_cases e : q.l = []
  · exact .inl e
  · exact .inr (fun k hk hg => (h3.resolve_left e) k hk (hG k (h2.lt (by simpa [bvs] using e) k hk) hg)), h.nil, h.max⟩
structure SealedG (G : Nat → Prop) (w0 w' : World) (v m p : Nat) (F F2 : Nat → Prop) (ms : List UInt8) (lim : Nat) (sl : List (Pl × List UInt8)) (cl : Nat) (ts : List Thing) (X : Option Addr) (cX : Nat) (l : List UInt8) : Prop where
 iw : Iw w' p F2 ts
 f : ∀ k, F2 k → F k ∨ w0.heap.size ≤ k
 vs : Vs (fun i => G i ∨ F2 i ∨ ab X = some i) w' v m (imk p) ms lim sl cl
 kp : Kp (uF F v m) w0 w'
 ne : ¬ F2 v ∧ ¬ F2 m
 x : Ans w0 w' (uF F2 v m) X cX l
theorem seal_yesG (dif : List UInt8 → List UInt8 → Bool) (Z : World → Prop) (hN : NoteC dif Z) (v m p : Nat) (F : Nat → Prop) (ts : List Thing) (ms : List UInt8) (lim : Nat) (sl : List (Pl × List UInt8)) (cl : Nat) (G : Nat → Prop) (key : List UInt8) (hk : key.length = 32) (e s : Int)
    (T : Option Addr) (nt ct' : Nat) (text : List UInt8) (B : Option Addr) (md d : Nat) (ps : List Pc) (w0 : World)
    (hv : Vs G w0 v m (imk p) ms lim sl cl) (hGs : ∀ k, G k → k < w0.heap.size) (hFG : ∀ k, F k → G k) (hw : Iw w0 p F ts) (hF : ¬ F v ∧ ¬ F m) (ht : Arg w0 (uF F v m) T nt ct' text) (hp : Args w0 (uF F v m) B md ps) (hl : ts.length ≤ 100000) (lt : text.length ≤ 1048576) (lp : (catP ps).length ≤ 1048576) (hc : cl ≤ 1099511627776)
    (hr : refu lim e s = 0) (hz : ∀ w', Kp F w0 w' → Z w') :
    Calls Tryz.prog 113 #[.pointer (some ⟨v, 0, none⟩), .agg (bvs key).toArray, .int .i64 e, .int .i64 s, .slice T nt ct', .slice B md d] w0 fun x w' => ∃ F2 X cX, x = .returned (.tuple #[.slice X (text.length + 16) cX, .int .i64 0]) ∧
     SealedG G w0 w' v m p F F2 ms lim (upd sl (pl key (nonce e s) hk (nonce_length e s)) text) (cl + clash dif sl (pl key (nonce e s) hk (nonce_length e s)) text) (mk ts (sealT key (nonce e s) (catP ps) text)) X cX (out ts (sealT key (nonce e s) (catP ps) text) (text.length + 16)) := by
 have k0 := (Kp.refl nob w0).alloc (.cells (bvs key).toArray 77)
 have HB := Lib.hid (Blk.new w0 77 (bvs key))
 have HV0 := Lib.hid hv; have HW0 := Lib.hid hw; have HT0 := Lib.hid ht; have HP0 := Lib.hid hp
 have HR := Lib.hid (show Calls Tryz.prog 124 #[.pointer (some ⟨v, 0, none⟩), .int .i64 e, .int .i64 s] (w0.alloc (.cells (bvs key).toArray 77)) fun x w' => x = .returned (.int .i64 0) ∧ (w0.alloc (.cells (bvs key).toArray 77)) = w' by
  obtain ⟨ps0, hvb⟩ := hv.vb
  have := refused_any v m (imk p) ms lim _ cl e s _ (hvb.keep0 k0)
  rw [hr] at this; exact this)
 have HK0 := Lib.hid k0
 have HH := Lib.hid (And.intro hk (And.intro hl (And.intro lt (And.intro lp hc))))
 obtain ⟨P0, hP0⟩ : ∃ P0, P0 = pl key (nonce e s) hk (nonce_length e s) := ⟨_, rfl⟩
 rw [← hP0]
 have HPV := Lib.hid (show pv P0 = .agg (bvs (key ++ nonce e s)).toArray by rw [hP0]; rfl)
 have HBP := Lib.hid (fun w => build_place key (nonce e s) hk (nonce_length e s) w)
 rw [← hP0, HPV.out] at HBP
 clear hv hw ht hp k0 hr hP0
 go_enter Tryz.func113, Tryz.ntmps113
 go_wp2_with fail
 refine HR.out.mono ?_
 rintro x w1 ⟨rfl, rfl⟩
 clear HR
 clear hk hl lt lp hc
 go_wp2
 rename_i K1 hK1
 have hcont : ∀ (g : Nat) (w9 : World), Kp nob w0 w9 → Blk w9 g 213 (bvs (key ++ nonce e s)) → w0.heap.size ≤ g → K1 { tmps := #[.pointer (some ⟨v, 0, none⟩), .agg (bvs key).toArray, .int .i64 e, .int .i64 s, .slice T nt ct', .slice B md d, undef, .pointer (some ⟨w0.heap.size, 0, none⟩), undef, undef, undef, undef, .slice none 0 0, .int .i64 0, .int .i64 0, .pointer (some ⟨g, 0, none⟩), undef, undef, .pointer (some ⟨v, 0, none⟩), .int .i64 e, .int .i64 s, .int .i64 0, .int .i64 0, .bool false, undef, .agg (bvs key).toArray, .int .i64 e, .int .i64 s, .agg (bvs (nonce e s)).toArray, .agg (bvs (key ++ nonce e s)).toArray, undef, undef, undef, undef, undef, undef, undef, undef, undef, undef, undef, undef, undef, undef, undef, undef, undef, undef, undef], defers := [] } w9 := by
  intro g w9 k9 b9 hg
  have HK9 := Lib.hid k9; have HG := Lib.hid hg
  have hF2 := HW0.out.lt
  have HFG := Lib.hid (show ¬ F g from fun e => by have := hF2 g e; omega)
  have HW9 := Lib.hid (HW0.out.keep k9 (fun _ _ e => e))
  have HT9 := Lib.hid ((HT0.out.keep0 k9).mono (G := F) (fun i _ e => .inl e))
  have HP9 := Lib.hid ((HP0.out.keep0 k9).mono (G := F) (fun i _ e => .inl e))
  have HS : Hid (Kp F w0 w9.drew ∧ Blk w9.drew g 213 (bvs (key ++ nonce e s))) := Lib.hid ⟨(k9.nob F).drew, b9.keep (Kp.refl nob _).drew (fun e => e)⟩
  have HV9 := Lib.hid (fun (w : World) (h : Kp F w0 w) => HV0.out.turnG h (G2 := G) (fun i _ e => hFG i e) hF.1 hF.2 (fun i e => .inl e))
  have HPS := Lib.hid (place_size (key ++ nonce e s) (by rw [List.length_append, HH.out.1, nonce_length]))
  clear hg k9 b9
  apply hK1
  go_wp2
  refine reg_begin (fun w => Kp F w0 w ∧ Blk w g 213 (bvs (key ++ nonce e s))) (by kernel_rfl) HS.out (fun _ => ?_)
  refine reg_tk (v := .pointer (some ⟨v, 0, none⟩)) 0 31 rfl rfl (by kernel_rfl) (by rfl) HS.out (fun w hw => by go_simp) ?_; simp only [Act.put, zp1, zp2, zp3]
  refine reg_tk (v := .pointer (some ⟨v, 0, none⟩)) 1 32 rfl rfl (by kernel_rfl) (by rfl) HS.out (fun w hw => by go_simp) ?_; simp only [Act.put, zp1, zp2, zp3]
  refine reg_tk (v := .pointer (some ⟨v, 0, none⟩)) 2 33 rfl rfl (by kernel_rfl) (by rfl) HS.out (fun w hw => by go_simp) ?_; simp only [Act.put, zp1, zp2, zp3]
  refine reg_tk (v := imk p) 3 34 rfl rfl (by kernel_rfl) (by rfl) HS.out (fun w hw => by have hc := (HV9.out w hw.1).mk_; go_simp) ?_; simp only [Act.put, zp1, zp2, zp3]
  refine reg_load 4 (some 35) 213 (.tmp 15) rfl rfl rfl (by kernel_rfl) (by kernel_rfl) (by kernel_rfl) (by rfl) HS.out g 0 rfl (bvs (key ++ nonce e s)) _ (fun w hw => hw.2.range) place_under rfl HPS.out ?_; simp only [Act.put, zp1, zp2, zp3]
  refine reg_tk (v := .slice T nt ct') 5 36 rfl rfl (by kernel_rfl) (by rfl) HS.out (fun w hw => by go_simp) ?_; simp only [Act.put, zp1, zp2, zp3]
  refine reg_tk (v := .slice B md d) 6 37 rfl rfl (by kernel_rfl) (by rfl) HS.out (fun w hw => by go_simp) ?_; simp only [Act.put, zp1, zp2, zp3]
  refine reg_call 7 (some 38) rfl rfl (by kernel_rfl) (by rfl) _ _ (exec_invoke 152 117 (.agg #[.pointer (some ⟨p, 0, none⟩)]) (.agg #[.pointer (some ⟨p, 0, none⟩)]) _ _ _ _ [.agg (bvs (key ++ nonce e s)).toArray, .slice T nt ct', .slice B md d] rfl rfl (by kernel_rfl) (by kernel_rfl) rfl) ?_
  have kd := (Kp.refl nob w9).drew
  refine (im_seal p F ts key (nonce e s) HH.out.1 (nonce_length e s) T nt ct' text B md d ps _ (HW9.out.keep kd (fun _ _ e => e)) (HT9.out.keep0 kd) (HP9.out.keep0 kd) HH.out.2.1 HH.out.2.2.1 HH.out.2.2.2.1).mono ?_
  rintro x w2 ⟨F2, X, cX, rfl, hq, hx⟩
  have hq0 := hq.back (HK9.out.trans kd (fun _ e => e.elim))
  have HQ := Lib.hid hq0
  have HX := Lib.hid (hx.back (HK9.out.trans kd (fun _ e => e.elim)))
  have HS2 : Hid (Kp F w0 w2 ∧ Blk w2 g 213 (bvs (key ++ nonce e s))) := Lib.hid ⟨hq0.k, HS.out.2.keep hq.k HFG.out⟩
  clear hq hx hq0 kd HS
  refine ⟨_, rfl, HS2.out, fun _ => ?_⟩
  simp only [Act.put, zp1, zp2, zp3]
  refine reg_tk (v := .tuple #[.slice X (text.length + 16) cX, .int .i64 0]) 8 30 rfl rfl (by kernel_rfl) (by rfl) HS2.out (fun w hw => by go_simp) ?_; simp only [Act.put, zp1, zp2, zp3]
  refine reg_tk (v := .slice X (text.length + 16) cX) 9 39 rfl rfl (by kernel_rfl) (by rfl) HS2.out (fun w hw => by go_simp) ?_; simp only [Act.put, zp1, zp2, zp3]
  refine reg_tk (v := .int .i64 0) 10 40 rfl rfl (by kernel_rfl) (by rfl) HS2.out (fun w hw => by go_simp) ?_; simp only [Act.put, zp1, zp2, zp3]
  refine reg_tk (v := .slice X (text.length + 16) cX) 11 16 rfl rfl (by kernel_rfl) (by rfl) HS2.out (fun w hw => by go_simp) ?_; simp only [Act.put, zp1, zp2, zp3]
  refine reg_tk (v := .int .i64 0) 12 17 rfl rfl (by kernel_rfl) (by rfl) HS2.out (fun w hw => by go_simp) ?_; simp only [Act.put, zp1, zp2, zp3]
  refine reg_end (by kernel_rfl) ?_
  have HV2 := Lib.hid (HV0.out.turnG HS2.out.1 (G2 := fun i => G i ∨ F2 i ∨ ab X = some i) (fun i _ e => hFG i e) hF.1 hF.2 (fun i e => e.elim .inl (fun e => e.elim (fun e => (HQ.out.f i e).elim (fun e => .inl (hFG i e)) .inr) (fun e => .inr (HX.out.far i e).1))))
  have hG2 : ∀ k, (G k ∨ F2 k ∨ ab X = some k) → k < w2.heap.size := fun k e => e.elim (fun e => Nat.lt_of_lt_of_le (hGs k e) HS2.out.1.size) (fun e => e.elim (HQ.out.i.lt k) (fun e => HX.out.row.lt (by intro e2; have h2 := congrArg List.length e2; rw [bvs_length, Ideal.out_length _ _ _ (by omega)] at h2; simp at h2) k e))
  have HB2 := Lib.hid HS2.out.2
  have hlt : v < w0.heap.size ∧ m < w0.heap.size := HV0.out.lt
  have HNE : Hid (¬ F2 v ∧ ¬ F2 m) := Lib.hid ⟨fun e => (HQ.out.f v e).elim hF.1 (fun e => by omega), fun e => (HQ.out.f m e).elim hF.2 (fun e => by omega)⟩
  have HNT := Lib.hid (hN (fun i => G i ∨ F2 i ∨ ab X = some i) v m (imk p) ms lim sl cl P0 T nt ct' text w2 (hz w2 HS2.out.1) HV2.out hG2 ((HT0.out.keep HS2.out.1 (fun i e => .inl e)).mono (fun i _ e => .inr e)) HH.out.2.2.2.2 HH.out.2.2.1)
  rw [HPV.out] at HNT
  have HLT := Lib.hid hlt
  clear hlt hF hF2 hz hN hG2 hGs hFG
  go_wp2_with (first
   | (refine wpList_load_blk rfl 213 (.tmp 15) rfl _ _ _ HB2.out rfl _ place_under rfl HPS.out ?_)
   | (go_at_call 127; refine HNT.out.mono ?_; rintro x w3 ⟨rfl, hv3, k3⟩; have HV3 := Lib.hid hv3; have HK3 := Lib.hid k3; clear hv3 k3)
   | fail)
  go_ret2
  exact ⟨F2, X, cX, rfl, HQ.out.i.keep HK3.out (fun i e h => h.elim (fun h => HNE.out.1 (h ▸ e)) (fun h => HNE.out.2 (h ▸ e))), HQ.out.f, HV3.out, (HQ.out.k.mono (fun i _ e => .inl e)).trans HK3.out (fun i e => .inl (.inr e)), HNE.out, HX.out.over HK3.out HLT.out.1 HLT.out.2⟩
 have HS : Hid (Kp nob w0 (w0.alloc (.cells (bvs key).toArray 77)).drew) := Lib.hid HK0.out.drew
 have HBK := Lib.hid (HB.out.keep (Kp.refl nob _).drew (fun e => e))
 have HKS := Lib.hid (key_size key HH.out.1)
 generalize hw1 : (w0.alloc (.cells (bvs key).toArray 77)).drew = w1 at *
 clear HB HK0
 refine reg_begin (fun w => Kp nob w0 w ∧ Blk w w0.heap.size 77 (bvs key)) (by kernel_rfl) ?hb (fun _ => ?_)
 case hb => rw [hw1]; exact ⟨HS.out, HBK.out⟩
 rw [hw1]
 clear hw1
 have HS0 := Lib.hid (And.intro HS.out HBK.out)
 have HPS := Lib.hid (place_size (key ++ nonce e s) (by rw [List.length_append, HH.out.1, nonce_length]))
 refine reg_load 0 (some 25) 77 (.tmp 7) rfl rfl rfl (by kernel_rfl) (by kernel_rfl) (by kernel_rfl) (by rfl) HS0.out w0.heap.size 0 rfl (bvs key) _ (fun w hw => hw.2.range) key_under rfl HKS.out ?_; simp only [Act.put, zp1, zp2, zp3]
 refine reg_tk (v := .int .i64 e) 1 26 rfl rfl (by kernel_rfl) (by rfl) HS0.out (fun w hw => by go_simp) ?_; simp only [Act.put, zp1, zp2, zp3]
 refine reg_tk (v := .int .i64 s) 2 27 rfl rfl (by kernel_rfl) (by rfl) HS0.out (fun w hw => by go_simp) ?_; simp only [Act.put, zp1, zp2, zp3]
 refine reg_callOr (w' := w1.alloc (.cells (bvs (List.replicate 44 0)).toArray 213)) (v := .pointer (some ⟨w1.heap.size, 0, none⟩)) 3 5 (some 28) (some 15) rfl rfl rfl rfl (by kernel_rfl) (by rfl) (by rfl) _ _ (exec_func 125 _ _ [.int .i64 e, .int .i64 s] rfl (by kernel_rfl) rfl) (by kernel_rfl) ⟨HS0.out.1.alloc _, HS0.out.2.alloc _⟩ ?_ (fun _ => ?_)
 · refine (nonceOf_any e s _).mono ?_
   rintro x w2 ⟨rfl, k2⟩
   have HS1 := Lib.hid (show Kp nob w0 w2 ∧ Blk w2 w0.heap.size 77 (bvs key) from ⟨HS0.out.1.trans k2 (fun _ e => e.elim), HS0.out.2.keep k2 (fun e => e)⟩)
   clear k2
   refine ⟨_, rfl, HS1.out, fun _ => ?_⟩
   simp only [Act.put, zp1, zp2, zp3]
   refine reg_tk (v := .agg (bvs (key ++ nonce e s)).toArray) 4 29 rfl rfl (by kernel_rfl) (by rfl) HS1.out (fun w hw => by exact exec_build _ _ rfl [(0, .agg (bvs key).toArray), (1, .agg (bvs (nonce e s)).toArray)] _ rfl (HBP.out w)) ?_; simp only [Act.put, zp1, zp2, zp3]
   refine reg_step (w' := w2.alloc (.cells (bvs (List.replicate 44 0)).toArray 213)) (v := .pointer (some ⟨w2.heap.size, 0, none⟩)) 5 (some 15) rfl rfl (by kernel_rfl) (by rfl) (by kernel_rfl) ⟨HS1.out.1.alloc _, HS1.out.2.alloc _⟩ (fun _ => ?_)
   simp only [Act.put, zp1, zp2, zp3]
   have HB9 := Lib.hid (Blk.new w2 213 (bvs (List.replicate 44 0)))
   refine reg_store 6 none 213 (.tmp 15) (.tmp 29) rfl rfl rfl (by kernel_rfl) (by rfl) w2.heap.size 213 _ (bvs (key ++ nonce e s)) HB9.out rfl rfl (by rw [bvs_length, bvs_length, List.length_append, HH.out.1, nonce_length]; rfl) HPS.out (bvs_one _) ?_
   intro w5 b5 k5 z5
   have hge : w0.heap.size ≤ w2.heap.size := HS1.out.1.size
   have hk5 : Kp nob w0 w5 := (HS1.out.1.alloc _).since k5 (fun i e => by have e : i = w2.heap.size := e; omega)
   refine ⟨⟨hk5, (HS1.out.2.alloc _).keep k5 (fun e => by have e : w0.heap.size = w2.heap.size := e; have := HS1.out.2.lt; omega)⟩, fun _ => ?_⟩
   simp only [Act.put, zp1, zp2, zp3]
   exact reg_end (by kernel_rfl) (hcont w2.heap.size w5 hk5 b5 hge)
 · have HS1 := Lib.hid (show Kp nob w0 (w1.alloc (.cells (bvs (List.replicate 44 0)).toArray 213)) ∧ Blk (w1.alloc (.cells (bvs (List.replicate 44 0)).toArray 213)) w0.heap.size 77 (bvs key) from ⟨HS0.out.1.alloc _, HS0.out.2.alloc _⟩)
   have HB9 := Lib.hid (Blk.new w1 213 (bvs (List.replicate 44 0)))
   simp only [Act.put, zp1, zp2, zp3]
   refine reg_call 3 (some 28) rfl rfl (by kernel_rfl) (by rfl) _ _ (exec_func 125 _ _ [.int .i64 e, .int .i64 s] rfl (by kernel_rfl) rfl) ?_
   refine (nonceOf_any e s _).mono ?_
   rintro x w2 ⟨rfl, k2⟩
   have HS2 := Lib.hid (show Kp nob w0 w2 ∧ Blk w2 w0.heap.size 77 (bvs key) from ⟨HS1.out.1.trans k2 (fun _ e => e.elim), HS1.out.2.keep k2 (fun e => e)⟩)
   have HB8 := Lib.hid (HB9.out.keep k2 (fun e => e))
   clear k2
   refine ⟨_, rfl, HS2.out, fun _ => ?_⟩
   simp only [Act.put, zp1, zp2, zp3]
   refine reg_tk (v := .agg (bvs (key ++ nonce e s)).toArray) 4 29 rfl rfl (by kernel_rfl) (by rfl) HS2.out (fun w hw => by exact exec_build _ _ rfl [(0, .agg (bvs key).toArray), (1, .agg (bvs (nonce e s)).toArray)] _ rfl (HBP.out w)) ?_; simp only [Act.put, zp1, zp2, zp3]
   refine reg_store 6 none 213 (.tmp 15) (.tmp 29) rfl rfl rfl (by kernel_rfl) (by rfl) w1.heap.size 213 _ (bvs (key ++ nonce e s)) HB8.out rfl rfl (by rw [bvs_length, bvs_length, List.length_append, HH.out.1, nonce_length]; rfl) HPS.out (bvs_one _) ?_
   intro w5 b5 k5 z5
   have hge : w0.heap.size ≤ w1.heap.size := HS0.out.1.size
   have hk5 : Kp nob w0 w5 := HS2.out.1.since k5 (fun i e => by have e : i = w1.heap.size := e; omega)
   refine ⟨⟨hk5, HS2.out.2.keep k5 (fun e => by have e : w0.heap.size = w1.heap.size := e; have := HS0.out.2.lt; omega)⟩, fun _ => ?_⟩
   simp only [Act.put, zp1, zp2, zp3]
   exact reg_end (by kernel_rfl) (hcont w1.heap.size w5 hk5 b5 hge)
theorem open_yes (G : Nat → Prop) (v m p : Nat) (F : Nat → Prop) (ts : List Thing) (ms : List UInt8) (lim : Nat) (sl : List (Pl × List UInt8)) (cl : Nat) (key : List UInt8) (hk : key.length = 32) (e s : Int)
    (T : Option Addr) (nt ct' : Nat) (b : List UInt8) (B : Option Addr) (md d : Nat) (ps : List Pc) (w0 : World)
    (hv : Vs G w0 v m (imk p) ms lim sl cl) (hw : Iw w0 p F ts) (ht : Arg w0 F T nt ct' b) (hp : Args w0 F B md ps) (hl : ts.length ≤ 100000) (lt : b.length ≤ 1048592) (lp : (catP ps).length ≤ 1048576) (hr : refu lim e s = 0) :
    Calls Tryz.prog 108 #[.pointer (some ⟨v, 0, none⟩), .agg (bvs key).toArray, .int .i64 e, .int .i64 s, .slice T nt ct', .slice B md d] w0 fun x w' => OpenA (opn ts key (nonce e s) (catP ps) b) w0 w' x := by
 have k0 := (Kp.refl nob w0).alloc (.cells (bvs key).toArray 77)
 have HB := Lib.hid (Blk.new w0 77 (bvs key))
 have HV0 := Lib.hid hv; have HW0 := Lib.hid hw; have HT0 := Lib.hid ht; have HP0 := Lib.hid hp
 have HR := Lib.hid (show Calls Tryz.prog 124 #[.pointer (some ⟨v, 0, none⟩), .int .i64 e, .int .i64 s] (w0.alloc (.cells (bvs key).toArray 77)) fun x w' => x = .returned (.int .i64 0) ∧ (w0.alloc (.cells (bvs key).toArray 77)) = w' by
  have := refused_any v m (imk p) ms lim _ cl e s _ (hv.b.keep0 k0)
  rw [hr] at this; exact this)
 have HK0 := Lib.hid k0
 have HH := Lib.hid (And.intro hk (And.intro hl (And.intro lt lp)))
 have HBP := Lib.hid (fun w => build_place key (nonce e s) hk (nonce_length e s) w)
 rw [show pv (pl key (nonce e s) hk (nonce_length e s)) = .agg (bvs (key ++ nonce e s)).toArray from rfl] at HBP
 clear hv hw ht hp k0 hr hk hl lt lp
 go_enter Tryz.func108, Tryz.ntmps108
 go_wp2_with fail
 refine HR.out.mono ?_
 rintro x w1 ⟨rfl, rfl⟩
 clear HR
 go_wp2
 have HS : Hid (Kp nob w0 (w0.alloc (.cells (bvs key).toArray 77)).drew) := Lib.hid HK0.out.drew
 have HBK := Lib.hid (HB.out.keep (Kp.refl nob _).drew (fun e => e))
 have HKS := Lib.hid (key_size key HH.out.1)
 generalize hw1 : (w0.alloc (.cells (bvs key).toArray 77)).drew = w1 at *
 clear HB HK0
 refine reg_begin (fun w => Kp nob w0 w ∧ Blk w w0.heap.size 77 (bvs key)) (by kernel_rfl) ?hb (fun _ => ?_)
 case hb => rw [hw1]; exact ⟨HS.out, HBK.out⟩
 rw [hw1]
 clear hw1
 have HS0 := Lib.hid (And.intro HS.out HBK.out)
 refine reg_tk (v := .pointer (some ⟨v, 0, none⟩)) 0 22 rfl rfl (by kernel_rfl) (by rfl) HS0.out (fun w hw => by go_simp) ?_; simp only [Act.put, zp1, zp2, zp3]
 refine reg_tk (v := .pointer (some ⟨v, 0, none⟩)) 1 23 rfl rfl (by kernel_rfl) (by rfl) HS0.out (fun w hw => by go_simp) ?_; simp only [Act.put, zp1, zp2, zp3]
 refine reg_tk (v := .pointer (some ⟨v, 0, none⟩)) 2 24 rfl rfl (by kernel_rfl) (by rfl) HS0.out (fun w hw => by go_simp) ?_; simp only [Act.put, zp1, zp2, zp3]
 refine reg_tk (v := imk p) 3 25 rfl rfl (by kernel_rfl) (by rfl) HS0.out (fun w hw => by have hc := (HV0.out.keep0 hw.1).b.mk_; go_simp) ?_; simp only [Act.put, zp1, zp2, zp3]
 refine reg_load 4 (some 26) 77 (.tmp 7) rfl rfl rfl (by kernel_rfl) (by kernel_rfl) (by kernel_rfl) (by rfl) HS0.out w0.heap.size 0 rfl (bvs key) _ (fun w hw => hw.2.range) key_under rfl HKS.out ?_; simp only [Act.put, zp1, zp2, zp3]
 refine reg_tk (v := .int .i64 e) 5 27 rfl rfl (by kernel_rfl) (by rfl) HS0.out (fun w hw => by go_simp) ?_; simp only [Act.put, zp1, zp2, zp3]
 refine reg_tk (v := .int .i64 s) 6 28 rfl rfl (by kernel_rfl) (by rfl) HS0.out (fun w hw => by go_simp) ?_; simp only [Act.put, zp1, zp2, zp3]
 refine reg_tk (v := .slice T nt ct') 9 31 rfl rfl (by kernel_rfl) (by rfl) HS0.out (fun w hw => by go_simp) ?_; simp only [Act.put, zp1, zp2, zp3]
 refine reg_tk (v := .slice B md d) 10 32 rfl rfl (by kernel_rfl) (by rfl) HS0.out (fun w hw => by go_simp) ?_; simp only [Act.put, zp1, zp2, zp3]
 refine reg_tk (v := imk p) 11 33 rfl rfl (by kernel_rfl) (by rfl) HS0.out (fun w hw => by first | (go_simp; done) | kernel_rfl) ?_; simp only [Act.put, zp1, zp2, zp3]
 refine reg_tk (v := imk p) 12 34 rfl rfl (by kernel_rfl) (by rfl) HS0.out (fun w hw => by go_simp) ?_; simp only [Act.put, zp1, zp2, zp3]
 refine reg_call 7 (some 29) rfl rfl (by kernel_rfl) (by rfl) _ _ (exec_func 125 _ _ [.int .i64 e, .int .i64 s] rfl (by kernel_rfl) rfl) ?_
 refine (nonceOf_any e s _).mono ?_
 rintro x w2 ⟨rfl, k2⟩
 have HS1 := Lib.hid (show Kp nob w0 w2 ∧ Blk w2 w0.heap.size 77 (bvs key) from ⟨HS0.out.1.trans k2 (fun _ e => e.elim), HS0.out.2.keep k2 (fun e => e)⟩)
 clear k2
 refine ⟨_, rfl, HS1.out, fun _ => ?_⟩
 simp only [Act.put, zp1, zp2, zp3]
 refine reg_tk (v := .agg (bvs (key ++ nonce e s)).toArray) 8 30 rfl rfl (by kernel_rfl) (by rfl) HS1.out (fun w hw => by exact exec_build _ _ rfl [(0, .agg (bvs key).toArray), (1, .agg (bvs (nonce e s)).toArray)] _ rfl (HBP.out w)) ?_; simp only [Act.put, zp1, zp2, zp3]
 refine reg_call 13 (some 35) rfl rfl (by kernel_rfl) (by rfl) _ _ (exec_invoke 151 117 (.agg #[.pointer (some ⟨p, 0, none⟩)]) (.agg #[.pointer (some ⟨p, 0, none⟩)]) _ _ _ _ [.agg (bvs (key ++ nonce e s)).toArray, .slice T nt ct', .slice B md d] rfl rfl (by kernel_rfl) (by kernel_rfl) rfl) ?_
 refine (im_open p F ts key (nonce e s) HH.out.1 (nonce_length e s) T nt ct' b B md d ps _ (HW0.out.keep HS1.out.1 (fun _ _ e => e)) (HT0.out.keep0 HS1.out.1) (HP0.out.keep0 HS1.out.1) HH.out.2.1 HH.out.2.2.1 HH.out.2.2.2).mono ?_
 rintro x w3 ⟨X, cX, rfl, k3, hx, f3⟩
 have HFX := Lib.hid (fun k e => Nat.le_trans HS1.out.1.size (f3 k e))
 clear f3
 obtain ⟨er, her⟩ : ∃ er : Int, er = (if (opn ts key (nonce e s) (catP ps) b).isSome then (0 : Int) else 9) := ⟨_, rfl⟩
 rw [← her]
 have HER := Lib.hid her
 have HX := Lib.hid hx
 have HS3 := Lib.hid (show Kp nob w0 w3 ∧ Blk w3 w0.heap.size 77 (bvs key) from ⟨HS1.out.1.trans k3 (fun _ e => e.elim), HS1.out.2.keep k3 (fun e => e)⟩)
 clear hx k3 her
 refine ⟨_, rfl, HS3.out, fun _ => ?_⟩
 simp only [Act.put, zp1, zp2, zp3]
 refine reg_tk (v := .slice X ((opn ts key (nonce e s) (catP ps) b).getD []).length cX) 14 36 rfl rfl (by kernel_rfl) (by rfl) HS3.out (fun w hw => by go_simp) ?_; simp only [Act.put, zp1, zp2, zp3]
 refine reg_tk (v := .int .i64 er) 15 37 rfl rfl (by kernel_rfl) (by rfl) HS3.out (fun w hw => by go_simp) ?_; simp only [Act.put, zp1, zp2, zp3]
 refine reg_tk (v := .slice X ((opn ts key (nonce e s) (catP ps) b).getD []).length cX) 16 12 rfl rfl (by kernel_rfl) (by rfl) HS3.out (fun w hw => by go_simp) ?_; simp only [Act.put, zp1, zp2, zp3]
 refine reg_tk (v := .int .i64 er) 17 13 rfl rfl (by kernel_rfl) (by rfl) HS3.out (fun w hw => by go_simp) ?_; simp only [Act.put, zp1, zp2, zp3]
 refine reg_end (by kernel_rfl) ?_
 go_wp2
 go_ret2
 unfold OpenA
 exact ⟨X, cX, by rw [← HER.out]; rfl, HS3.out.1, HX.out, HFX.out⟩
end Vault
namespace Vault
open Go Go.RowKit Kit
open Ideal (zc zc_run zc_length zc_eq z32 arr32_under)
theorem zk_run (w : World) : (zeroValue 77).run Tryz.prog w = .ok (.agg zc.toArray) w := by rw [zc_eq]; kernel_rfl
end Vault
namespace Vault
open Go Go.RowKit Kit
open Ideal (Iw Iq Ans Arg Args Thing mk out sealT opn derT hashT z32 zc zc_run zc_length zc_eq args_one arr32_under)
open Sha (Pc PcsOk catP)
structure Db (w0 : World) (t : TypeId) (G : Nat → Prop) (p : Nat) (l : List UInt8) (w : World) : Prop where
 m : Blk w w0.heap.size 117 [.pointer (some ⟨p, 0, none⟩)]
 p : Blk w (w0.heap.size + 1) 77 (bvs l)
 z : ∃ cs, Blk w (w0.heap.size + 2) t cs ∧ cs.length = 32
 k : Kp G w0 w
theorem Db.keep {w0 w w2 : World} {t : TypeId} {G : Nat → Prop} {p : Nat} {l : List UInt8} (h : Db w0 t G p l w) (k : Kp G w w2) (hG : ∀ i, G i → i < w0.heap.size) : Db w0 t G p l w2 := ⟨h.m.keep k (fun e => Nat.lt_irrefl _ (hG _ e)), h.p.keep k (fun e => by have := hG _ e; omega), (let ⟨cs, h1, h2⟩ := h.z; ⟨cs, h1.keep k (fun e => by have := hG _ e; omega), h2⟩), h.k.trans k (fun _ e => .inl e)⟩
theorem Db.keep0 {w0 w w2 : World} {t : TypeId} {G : Nat → Prop} {p : Nat} {l : List UInt8} (h : Db w0 t G p l w) (k : Kp nob w w2) : Db w0 t G p l w2 := ⟨h.m.keep k (fun e => e), h.p.keep k (fun e => e), (let ⟨cs, h1, h2⟩ := h.z; ⟨cs, h1.keep k (fun e => e), h2⟩), h.k.trans k (fun _ e => e.elim)⟩
theorem Db.zlt {w0 w : World} {t : TypeId} {G : Nat → Prop} {p : Nat} {l : List UInt8} (h : Db w0 t G p l w) : w0.heap.size + 2 < w.heap.size := let ⟨_, h1, _⟩ := h.z; h1.lt
theorem Db.key {w0 w : World} {t : TypeId} {G : Nat → Prop} {p : Nat} {k : List UInt8} (h : Db w0 t G p k w) (hk : k.length = 32) (F : Nat → Prop) (hF : ∀ i, F i → i < w0.heap.size) : Arg w F (some ⟨w0.heap.size + 1, 0, none⟩) 32 32 k :=
 ⟨hk, .inr ⟨w0.heap.size + 1, 0, rfl, h.p.lt, fun i v hv => by rw [Nat.zero_add, h.p.cell]; exact hv⟩, .inr (fun j e hj => by simp only [ab, Option.map_some, Option.some.injEq] at e; have := hF j hj; omega), Nat.le_refl _, by decide, fun e => by cases e⟩
theorem Db.new (w0 : World) (t : TypeId) (p : Nat) (l : List UInt8) : Db w0 t nob p l (((w0.alloc (.cells #[.pointer (some ⟨p, 0, none⟩)] 117)).alloc (.cells (bvs l).toArray 77)).alloc (.cells zc.toArray t)).drew :=
 ⟨(((Blk.new' rfl rfl).alloc _).alloc _).keep (Kp.refl nob _).drew (fun e => e), ((Blk.new' (by simp) rfl).alloc _).keep (Kp.refl nob _).drew (fun e => e), ⟨zc, (Blk.new' (by simp) rfl).keep (Kp.refl nob _).drew (fun e => e), zc_length⟩, ((((Kp.refl _ _).alloc _).alloc _).alloc _).drew⟩
theorem Db.to {w0 w : World} {t : TypeId} {G : Nat → Prop} {p : Nat} {l : List UInt8} (h : Db w0 t nob p l w) : Db w0 t G p l w := ⟨h.m, h.p, h.z, h.k.nob G⟩
theorem out_len32 (ts : List Thing) (t : Thing) : (bvs (out ts t 32)).length = 32 := by rw [bvs_length, Ideal.out_length _ _ _ (by omega)]
theorem im_derive (p : Nat) (F : Nat → Prop) (ts : List Thing) (key : List UInt8) (hk : key.length = 32) (T : Option Addr) (nt ct' : Nat) (text : List UInt8) (w0 : World)
    (hw : Iw w0 p F ts) (ht : Arg w0 F T nt ct' text) (hl : ts.length ≤ 100000) (lt : text.length ≤ 1048576) :
    Calls Tryz.prog 148 #[.agg #[.pointer (some ⟨p, 0, none⟩)], .agg (bvs key).toArray, .slice T nt ct'] w0 fun e w' => ∃ F2, e = .returned (.agg (bvs (out ts (derT key text) 32)).toArray) ∧ Iq w0 F w' p F2 (mk ts (derT key text)) := by
 have HW := Lib.hid hw
 have HKN := Lib.hid hk
 have HM := Lib.hid (Db.new w0 77 p key)
 have hz := zk_run
 have HT := Lib.hid ht; have HL := Lib.hid (And.intro hl lt); clear ht lt hl
 clear hw hk
 go_enter Tryz.func148, Tryz.ntmps148
 go_wp2
 generalize hw1 : (((w0.alloc (.cells #[.pointer (some ⟨p, 0, none⟩)] 117)).alloc (.cells (bvs key).toArray 77)).alloc (.cells zc.toArray 77)) = wb at *
 have HS : Hid (Db w0 77 F p key wb.drew) := Lib.hid HM.out.to
 have hF := HW.out.lt
 have HW1 := Lib.hid (HW.out.keep HM.out.k (fun _ _ e => e))
 have HTY := Lib.hid (HT.out.keep0 HM.out.k)
 clear hw1
 refine reg_begin (Db w0 77 F p key) (by kernel_rfl) HS.out (fun _ => ?_)
 refine reg_tk (v := .pointer (some ⟨w0.heap.size, 0, none⟩)) 0 7 rfl rfl (by kernel_rfl) (by rfl) HS.out (fun w hw => by go_simp) ?_; simp only [Act.put, zp1, zp2, zp3]
 refine reg_tk (v := .pointer (some ⟨p, 0, none⟩)) 1 8 rfl rfl (by kernel_rfl) (by rfl) HS.out (fun w hw => by have hc : w.cell? ⟨w0.heap.size, 0, none⟩ = some (.pointer (some ⟨p, 0, none⟩)) := (by rw [hw.m.cell]; rfl); go_simp) ?_; simp only [Act.put, zp1, zp2, zp3]
 refine reg_tk (v := .slice (some ⟨w0.heap.size + 1, 0, none⟩) 32 32) 2 9 rfl rfl (by kernel_rfl) (by rfl) HS.out (fun w hw => by have hc := key_all (w0.heap.size + 1) 0 w; go_simp) ?_; simp only [Act.put, zp1, zp2, zp3]
 refine reg_tk (v := .slice T nt ct') 3 10 rfl rfl (by kernel_rfl) (by rfl) HS.out (fun w hw => by go_simp) ?_; simp only [Act.put, zp1, zp2, zp3]
 have k9 : Kp nob w0 (wb.drew.alloc (.cells #[.slice T nt ct'] 58)) := HM.out.k.alloc _
 have HS1 : Hid (Db w0 77 F p key (wb.drew.alloc (.cells #[.slice T nt ct'] 58))) := Lib.hid (HS.out.keep0 ((Kp.refl nob _).alloc _))
 have HK9 := Lib.hid k9
 have HA := Lib.hid (args_one (t := 58) HTY.out HW1.out.lt)
 have HW2 := Lib.hid (HW1.out.keep ((Kp.refl nob _).alloc (.cells #[.slice T nt ct'] 58)) (fun _ _ e => e))
 clear k9
 refine reg_step (w' := wb.drew.alloc (.cells #[.slice T nt ct'] 58)) (v := .slice (some ⟨wb.drew.heap.size, 0, none⟩) 1 1) 4 (some 11) rfl rfl (by kernel_rfl) (by rfl) (by first | kernel_rfl | (go_simp; rfl)) HS1.out (fun _ => ?_)
 simp only [Act.put, zp1, zp2, zp3]
 refine reg_call 5 (some 12) rfl rfl (by kernel_rfl) (by rfl) _ _ (exec_func 153 _ _ [.pointer (some ⟨p, 0, none⟩), .slice (some ⟨w0.heap.size + 1, 0, none⟩) 32 32, .slice (some ⟨wb.drew.heap.size, 0, none⟩) 1 1] rfl (by kernel_rfl) rfl) ?_
 have hdv := Ideal.derive_i p F ts (some ⟨w0.heap.size + 1, 0, none⟩) 32 32 key _ _ 1 _ _ HW2.out (HS1.out.key HKN.out F hF) HA.out HL.out.1 (by rw [HKN.out]; omega) (by rw [Sha.catP_one]; exact HL.out.2)
 rw [Sha.catP_one] at hdv
 refine hdv.mono ?_
 clear hdv
 rintro e w2 ⟨F2, rfl, hq⟩
 have HNZ : Hid (¬ F2 (w0.heap.size + 2)) := Lib.hid (fun h => (hq.f _ h).elim (fun h => by have := hF _ h; omega) (fun h => by have := HS1.out.zlt; omega))
 have HQ := Lib.hid (hq.back HK9.out)
 have HS2 : Hid (Db w0 77 F p key w2) := Lib.hid (HS1.out.keep hq.k hF)
 clear hq HS HM HW1 HW2 HS1 HA HK9
 obtain ⟨D, hD⟩ : ∃ D, D = out ts (derT key text) 32 := ⟨_, rfl⟩
 have HTL := Lib.hid (show (bvs D).length = 32 by rw [hD]; exact out_len32 _ _)
 have HDD := Lib.hid hD
 rw [← hD]
 clear hD
 refine ⟨_, rfl, HS2.out, fun _ => ?_⟩
 simp only [Act.put, zp1, zp2, zp3]
 obtain ⟨cs, hcs, hcl⟩ := HS2.out.z
 refine reg_store 6 none 77 (.tmp 6) (.tmp 12) rfl rfl rfl (by kernel_rfl) (by rfl) (w0.heap.size + 2) 77 cs (bvs D) hcs rfl rfl (by rw [HTL.out, hcl]) (by rw [HTL.out]; kernel_rfl) (bvs_one _) ?_
 intro w4 hB4 k4 z4
 have HW4 := Lib.hid (HQ.out.i.keep k4 (fun i h e => HNZ.out (by have e : i = w0.heap.size + 2 := e; rw [← e]; exact h)))
 have hz4 : ¬ oneB (w0.heap.size + 2) w0.heap.size := fun e => by have e : w0.heap.size = w0.heap.size + 2 := e; omega
 have hz5 : ¬ oneB (w0.heap.size + 2) (w0.heap.size + 1) := fun e => by have e : w0.heap.size + 1 = w0.heap.size + 2 := e; omega
 have HK4 := Lib.hid (HQ.out.k.trans k4 (fun i e => .inr (by have e : i = w0.heap.size + 2 := e; omega)))
 have HB4 := Lib.hid hB4
 refine ⟨⟨HS2.out.m.keep k4 hz4, HS2.out.p.keep k4 hz5, ⟨_, hB4, HTL.out⟩, HK4.out⟩, fun _ => ?_⟩
 clear k4 z4 hB4 hz4 hz5 hcs hcl
 simp only [Act.put, zp1, zp2, zp3]
 refine reg_end (by kernel_rfl) ?_
 go_wp2
 have hsz : (Tryz.prog.info? 77).map (·.size) = some (bvs D).toArray.size := by rw [List.size_toArray, HTL.out]; kernel_rfl
 exact bodyPost_ret (results_cell_row rfl _ _ (w0.heap.size + 2) _ _ _ _ rfl HB4.out key_under rfl hsz) rfl (by first | exact ⟨F2, by rw [HDD.out], HW4.out, HQ.out.f, HK4.out⟩ | exact ⟨by rw [HDD.out], F2, HW4.out, HQ.out.f, HK4.out⟩)
end Vault
open Go Go.RowKit Kit
def svs (ss : List ByteArray) : List Value := ss.map .string
@[simp] theorem svs_length (ss : List ByteArray) : (svs ss).length = ss.length := by simp [svs]
theorem take_flat_le {α : Type} (f : α → List UInt8) (ns : List α) (k : Nat) : ((ns.take k).flatMap f).length ≤ (ns.flatMap f).length := by
 conv => rhs; rw [← List.take_append_drop k ns, List.flatMap_append, List.length_append]
 omega
theorem wText (b : Nat) (A : Option Addr) (l : List UInt8) (B : Option Addr) (m d : Nat) (ss : List ByteArray) (w : World) (h : IsW w b A l) (hm : ss.length = m) (hr : Row w B (svs ss)) (hB : ∀ k, ab B = some k → ¬ WF b A k) (hmm : m ≤ 1099511627776) (hl : l.length + (ss.flatMap textB).length ≤ 1099511627776) :
    Calls Tryz.prog 68 #[.pointer (some ⟨b, 0, none⟩), .slice B m d] w fun e w' => e = .returned (.tuple #[]) ∧ WPost w b A (l ++ ss.flatMap textB) w' := by
 obtain ⟨i0, hi, hz0, hz1, hz2⟩ := info_parts u8_info
 go_enter Tryz.func68, Tryz.ntmps68
 go_wp2
 go_loopw [10] (fun i wr => ∃ (k : Nat) (A' : Option Addr), k ≤ m ∧ i = .int .i64 k ∧ IsW wr b A' (l ++ (ss.take k).flatMap textB) ∧ Kp (WF b A) w wr ∧ Grew A A' w.heap.size)
  (fun i _ => m - (intOf i).toNat)
 case atStart => exact ⟨0, A, Nat.zero_le _, rfl, by simpa using h, Kp.refl _ _, Grew.refl _ _⟩
 case round =>
  obtain ⟨k, A', hk, rfl, ho, hkp, hgr⟩ := hrel
  by_cases hlt : k < m
  · obtain ⟨x, hx⟩ : ∃ x, x = ss[k]'(by omega) := ⟨_, rfl⟩
    obtain ⟨bb, oo, rfl, hbb, hcell⟩ := hr.at_ (i := k) (by simp [hm]; exact hlt)
    have hce : wr.cell? ⟨bb, oo + k, none⟩ = some (.string x) := by rw [hkp.cell (p := ⟨bb, oo + k, none⟩) hbb (hB bb rfl), hcell, hx]; simp [svs]
    have hsn := flat_snoc textB ss k (by omega)
    rw [← hx] at hsn
    have hle := take_flat_le textB ss (k + 1)
    rw [hsn, List.length_append] at hle
    have HS := Lib.hid hsn; clear hsn
    have HX := Lib.hid hx; clear hx hcell
    have H := ho
    have hb := ho.lt
    by_cases hbig : x.size < 16777216
    · have htx : textB x = le 3 x.size ++ sl x := if_pos hbig
      have HT := Lib.hid htx
      have hxl : (textB x).length = 3 + x.size := by rw [htx]; simp
      clear htx
      obtain ⟨c, h1, h2, h3⟩ := ho
      obtain ⟨L, hL⟩ : ∃ L, L = (l ++ (ss.take k).flatMap textB).length := ⟨_, rfl⟩
      have hL' : L = l.length + ((ss.take k).flatMap textB).length := by rw [hL, List.length_append]
      have hLL : L + 3 + x.size ≤ 1099511627776 := by omega
      have hc : wr.cell? ⟨b, 0, none⟩ = some (.slice A' L c) := by rw [cell_of_heap h1, hL]; rfl
      rw [← hL] at h2
      have H1 := Lib.hid h1; clear h1
      clear hL hL' hle hxl
      have hbd : decide ((16777216 : Int) ≤ (x.size : Int)) = false := by simp; omega
      have hxs : 0 ≤ (x.size : Int) ∧ (x.size : Int) < 18446744073709551616 := by omega
      have HG := Lib.hid hbig; clear hbig
      go_wp2_with fail
      refine (appendLow_int A' L c _ _ 3 _ h2 (by omega) (by omega) (by omega) (by omega)).mono ?_
      rintro e w1 ⟨A'', c'', rfl, ho1, hk1, hg1⟩
      have HB := Lib.hid (hk1.block b hb h3)
      have hc1 : w1.cell? ⟨b, 0, none⟩ = some (.slice A' L c) := (hk1.cell (p := ⟨b, 0, none⟩) hb h3).trans hc
      have hf1 : w1.frozen? ⟨b, 0, none⟩ = false := (hk1.frozen (p := ⟨b, 0, none⟩) hb h3).trans (frozen_of_heap H1.out 0)
      have R := H.put hk1 ho1 hg1
      have ho2 := R.2.2
      have hb2 := R.1.lt
      have hk2 := R.2.1
      obtain ⟨L3, hL3⟩ : ∃ q, q = l ++ (ss.take k).flatMap textB ++ le 3 (x.size : Int).toNat := ⟨_, rfl⟩
      rw [← hL3] at ho2
      have R1 := R.1
      rw [← hL3] at R1
      have HL3 := Lib.hid hL3; clear hL3 R
      go_wp2_with (at_builtin; refine wpList_appS _ rfl (.tmp 32) (.tmp 33) 58 9 rfl 5 i0 u8_under u8_string hi hz0 hz1 hz2 A'' (L + 3) c'' (bvs L3) rfl ho2 x rfl (by omega) ?_)
      intro A3 c3 w3 ho3 hg3 hab3
      have hk3 := (Kp.refl (rowF A'') _).grown hg3 (fun k e => .inl e)
      obtain ⟨c4, q1, q2, q3⟩ := id R1
      have hc3 := (hk3.cell (p := ⟨b, 0, none⟩) hb2 q3).trans (cell_of_heap q1 0)
      have hf3 := (hk3.frozen (p := ⟨b, 0, none⟩) hb2 q3).trans (frozen_of_heap q1 0)
      have hlen3 : L3.length = L + 3 := by simpa using ho2.len
      have S0 : Grew A'' A3 (w1.setCell ⟨b, 0, none⟩ (.slice A'' (L + 3) c'')).heap.size := .of hab3 (by simp [World.setCell])
      have S := And.intro (R1.put (l' := L3 ++ sl x) hk3 (by rw [bvs_append]; exact ho3) S0) (And.intro True.intro S0)
      simp at hc3
      clear q1 hlen3 ho3 hab3 hg3
      go_wp2
      go_roundw
      case rel =>
       have hG2 : Grew A'' A3 (w1.setCell ⟨b, 0, none⟩ (.slice A'' (L + 3) c'')).heap.size := S.2.2
       refine ⟨k + 1, A3, by omega, by go_num, ?_, hkp.trans (hk2.trans S.1.2.1 (fun i hi => ?_)) (fun i hi => ?_), hgr.trans (hg1.trans hG2 (by simp [World.setCell]; exact hk1.size)) hkp.size⟩
       · have := S.1.1
         rwa [HL3.out, List.append_assoc, List.append_assoc, Int.toNat_natCast, ← HT.out, ← HS.out] at this
       · rcases hi with rfl | hi
         · exact .inl (.inl rfl)
         · exact (hg1.sub i hi).imp_left .inr
       · rcases hi with rfl | hi
         · exact .inl (.inl rfl)
         · exact (hgr.sub i hi).imp_left .inr
      case measure => simp [intOf]; omega
    · have hbd : decide ((16777216 : Int) ≤ (x.size : Int)) = true := by simp; omega
      have htx : textB x = [] := if_neg hbig
      rw [htx, List.append_nil] at HS
      clear hbig htx hle
      go_wp2
      go_roundw
      case rel => exact ⟨k + 1, A', by omega, by go_num, by rw [HS.out]; exact H, hkp, hgr⟩
      case measure => simp [intOf]; omega
  · go_wp2
    go_end0
    obtain rfl : k = m := by omega
    rw [List.take_of_length_le (by omega)] at ho
    exact ⟨rfl, A', ho, hkp, hgr⟩
end Go.Proofs.YtigdlnfgdjfdoaaGreat
