/- Package vault: Seal in a world. · Package vault: a nil vault's noughts. · What the statements of layer 10 play: the document's example. -/
import Derived.Test.YtmmpmncioifeoaaZG16
import Derived.Lib.SlBytesConst
namespace Go.Proofs.Ytmmpmncioifeoaa.Vault
set_option linter.unusedVariables false
set_option linter.unusedSimpArgs false
open Go Go.RowKit Kit
open Ideal (Iw Iq Ans Arg Args Thing mk out sealT opn macT derT hashT z32)
open Sha (Pc PcsOk catP)

theorem place_size (l : List UInt8) (h : l.length = 44) : (Try.prog.info? 56).map (·.size) = some (bvs l).length := by rw [bvs_length, h]; kernel_rfl
/-- The blocks of a world and of a vault. -/
def uF (F : Nat → Prop) (v m : Nat) : Nat → Prop := fun i => F i ∨ vF v m i
/-- What is sealed. -/
structure Sealed (w0 w' : World) (v m p : Nat) (F F2 : Nat → Prop) (ms : List UInt8) (lim : Nat) (sl : List (Pl × List UInt8)) (cl : Nat) (ts : List Thing) (X : Option Addr) (cX : Nat) (l : List UInt8) : Prop where
  iw : Iw w' p F2 ts
  f : ∀ k, F2 k → F k ∨ w0.heap.size ≤ k
  vs : Vs F2 w' v m (imk p) ms lim sl cl
  kp : Kp (uF F v m) w0 w'
  ne : ¬ F2 v ∧ ¬ F2 m
  x : Ans w0 w' (uF F2 v m) X cX l
theorem _root_.Go.Proofs.Ytmmpmncioifeoaa.Ideal.Ans.over {w0 w2 w3 : World} {F2 : Nat → Prop} {v m : Nat} {X : Option Addr} {cX : Nat} {l : List UInt8} (h : Ans w0 w2 F2 X cX l) (k : Kp (vF v m) w2 w3) (hv : v < w0.heap.size) (hm : m < w0.heap.size) : Ans w0 w3 (uF F2 v m) X cX l :=
  ⟨h.row.keep k (fun i e h2 => by have := (h.far i e).1; rcases h2 with h2 | h2 <;> omega), fun i e => ⟨(h.far i e).1, fun h2 => h2.elim (h.far i e).2 (fun h2 => by have := (h.far i e).1; rcases h2 with h2 | h2 <;> omega)⟩, h.cap, h.mx, h.nil⟩
theorem _root_.Go.Proofs.Ytmmpmncioifeoaa.Ideal.Args.mono {w : World} {F G : Nat → Prop} {B : Option Addr} {m : Nat} {ps : List Pc} (h : Args w F B m ps) (hG : ∀ i, i < w.heap.size → G i → F i) : Args w G B m ps :=
  ⟨h.len, h.row, by
    by_cases e : ps = []
    · exact .inl e
    · exact .inr (fun k hk hg => (h.far.resolve_left e) k hk (hG k (h.row.lt (by simpa using e) k hk) hg)), fun q hq => by
    obtain ⟨h1, h2, h3, h4, h5⟩ := h.pcs q hq
    refine ⟨h1, h2, ?_, h4, h5⟩
    by_cases e : q.l = []
    · exact .inl e
    · exact .inr (fun k hk hg => (h3.resolve_left e) k hk (hG k (h2.lt (by simpa [bvs] using e) k hk) hg)), h.nil, h.max⟩
set_option maxHeartbeats 4000000 in
set_option maxRecDepth 100000 in
theorem seal_yes (dif : List UInt8 → List UInt8 → Bool) (Z : World → Prop) (hN : NoteC dif Z) (v m p : Nat) (F : Nat → Prop) (ts : List Thing) (ms : List UInt8) (lim : Nat) (sl : List (Pl × List UInt8)) (cl : Nat) (key : List UInt8) (hk : key.length = 32) (e s : Int)
    (T : Option Addr) (nt ct' : Nat) (text : List UInt8) (B : Option Addr) (md d : Nat) (ps : List Pc) (w0 : World)
    (hv : Vs F w0 v m (imk p) ms lim sl cl) (hw : Iw w0 p F ts) (hF : ¬ F v ∧ ¬ F m) (ht : Arg w0 (uF F v m) T nt ct' text) (hp : Args w0 (uF F v m) B md ps) (hl : ts.length ≤ 100000) (lt : text.length ≤ 1048576) (lp : (catP ps).length ≤ 1048576) (hc : cl ≤ 1099511627776)
    (hr : refu lim e s = 0) (hz : ∀ w', Kp F w0 w' → Z w') :
    Calls Try.prog 9 #[.pointer (some ⟨v, 0, none⟩), .agg (bvs key).toArray, .int .i64 e, .int .i64 s, .slice T nt ct', .slice B md d] w0 fun x w' => ∃ F2 X cX, x = .returned (.tuple #[.slice X (text.length + 16) cX, .int .i64 0]) ∧
      Sealed w0 w' v m p F F2 ms lim (upd sl (pl key (nonce e s) hk (nonce_length e s)) text) (cl + clash dif sl (pl key (nonce e s) hk (nonce_length e s)) text) (mk ts (sealT key (nonce e s) (catP ps) text)) X cX (out ts (sealT key (nonce e s) (catP ps) text) (text.length + 16)) := by
  have k0 := (Kp.refl nob w0).alloc (.cells (bvs key).toArray 28)
  have HB := Lib.hid (Blk.new w0 28 (bvs key))
  have HV0 := Lib.hid hv; have HW0 := Lib.hid hw; have HT0 := Lib.hid ht; have HP0 := Lib.hid hp
  have HR := Lib.hid (show Calls Try.prog 18 #[.pointer (some ⟨v, 0, none⟩), .int .i64 e, .int .i64 s] (w0.alloc (.cells (bvs key).toArray 28)) fun x w' => x = .returned (.int .i64 0) ∧ (w0.alloc (.cells (bvs key).toArray 28)) = w' by
    obtain ⟨ps0, hvb⟩ := hv.vb
    have := refused_any v m (imk p) ms lim _ cl e s _ (hvb.keep0 k0)
    rw [hr] at this; exact this)
  have HK0 := Lib.hid k0
  have HH := Lib.hid (And.intro hk (And.intro hl (And.intro lt (And.intro lp hc))))
  obtain ⟨P0, hP0⟩ : ∃ P0, P0 = pl key (nonce e s) hk (nonce_length e s) := ⟨_, rfl⟩
  rw [← hP0]
  have HPV := Lib.hid (show pv P0 = .agg (bvs (key ++ nonce e s)).toArray by rw [hP0]; rfl)
  have HBP := Lib.hid (fun w => build_place key (nonce e s) hk (nonce_length e s) w)
  rw [← hP0, HPV.out] at HBP
  clear hv hw ht hp k0 hr hP0
  go_enter Try.func9, Try.ntmps9
  go_wp2_with fail
  refine HR.out.mono ?_
  rintro x w1 ⟨rfl, rfl⟩
  clear HR
  clear hk hl lt lp hc
  go_wp2
  rename_i K1 hK1
  have hcont : ∀ (g : Nat) (w9 : World), Kp nob w0 w9 → Blk w9 g 56 (bvs (key ++ nonce e s)) → w0.heap.size ≤ g → K1 { tmps := #[.pointer (some ⟨v, 0, none⟩), .agg (bvs key).toArray, .int .i64 e, .int .i64 s, .slice T nt ct', .slice B md d, undef, .pointer (some ⟨w0.heap.size, 0, none⟩), undef, undef, undef, undef, .slice none 0 0, .int .i64 0, .int .i64 0, .pointer (some ⟨g, 0, none⟩), undef, undef, .pointer (some ⟨v, 0, none⟩), .int .i64 e, .int .i64 s, .int .i64 0, .int .i64 0, .bool false, undef, .agg (bvs key).toArray, .int .i64 e, .int .i64 s, .agg (bvs (nonce e s)).toArray, .agg (bvs (key ++ nonce e s)).toArray, undef, undef, undef, undef, undef, undef, undef, undef, undef, undef, undef, undef, undef, undef, undef, undef, undef, undef, undef], defers := [] } w9 := by
    intro g w9 k9 b9 hg
    have HK9 := Lib.hid k9; have HG := Lib.hid hg
    have hF2 := HW0.out.lt
    have HFG := Lib.hid (show ¬ F g from fun e => by have := hF2 g e; omega)
    have HW9 := Lib.hid (HW0.out.keep k9 (fun _ _ e => e))
    have HT9 := Lib.hid ((HT0.out.keep0 k9).mono (G := F) (fun i _ e => .inl e))
    have HP9 := Lib.hid ((HP0.out.keep0 k9).mono (G := F) (fun i _ e => .inl e))
    have HS : Hid (Kp F w0 w9.drew ∧ Blk w9.drew g 56 (bvs (key ++ nonce e s))) := Lib.hid ⟨(k9.nob F).drew, b9.keep (Kp.refl nob _).drew (fun e => e)⟩
    have HV9 := Lib.hid (fun (w : World) (h : Kp F w0 w) => HV0.out.keep h hF.1 hF.2)
    have HPS := Lib.hid (place_size (key ++ nonce e s) (by rw [List.length_append, HH.out.1, nonce_length]))
    clear hg k9 b9
    apply hK1
    go_wp2
    refine reg_begin (fun w => Kp F w0 w ∧ Blk w g 56 (bvs (key ++ nonce e s))) (by kernel_rfl) HS.out (fun _ => ?_)
    refine reg_take (v := .pointer (some ⟨v, 0, none⟩)) 0 (some 31) rfl rfl (by kernel_rfl) (by kernel_rfl) (by kernel_rfl) (by rfl) HS.out (fun w hw => by go_simp) ?_
    simp only [Act.put, List.setIfInBounds_toArray, List.set_cons_zero, List.set_cons_succ]
    refine reg_take (v := .pointer (some ⟨v, 0, none⟩)) 1 (some 32) rfl rfl (by kernel_rfl) (by kernel_rfl) (by kernel_rfl) (by rfl) HS.out (fun w hw => by go_simp) ?_
    simp only [Act.put, List.setIfInBounds_toArray, List.set_cons_zero, List.set_cons_succ]
    refine reg_take (v := .pointer (some ⟨v, 0, none⟩)) 2 (some 33) rfl rfl (by kernel_rfl) (by kernel_rfl) (by kernel_rfl) (by rfl) HS.out (fun w hw => by go_simp) ?_
    simp only [Act.put, List.setIfInBounds_toArray, List.set_cons_zero, List.set_cons_succ]
    refine reg_take (v := imk p) 3 (some 34) rfl rfl (by kernel_rfl) (by kernel_rfl) (by kernel_rfl) (by rfl) HS.out (fun w hw => by have hc := (HV9.out w hw.1).mk_; go_simp) ?_
    simp only [Act.put, List.setIfInBounds_toArray, List.set_cons_zero, List.set_cons_succ]
    refine reg_load 4 (some 35) 56 (.tmp 15) rfl rfl rfl (by kernel_rfl) (by kernel_rfl) (by kernel_rfl) (by rfl) HS.out g 0 rfl (bvs (key ++ nonce e s)) _ (fun w hw => hw.2.range) place_under rfl HPS.out ?_
    simp only [Act.put, List.setIfInBounds_toArray, List.set_cons_zero, List.set_cons_succ]
    refine reg_take (v := .slice T nt ct') 5 (some 36) rfl rfl (by kernel_rfl) (by kernel_rfl) (by kernel_rfl) (by rfl) HS.out (fun w hw => by go_simp) ?_
    simp only [Act.put, List.setIfInBounds_toArray, List.set_cons_zero, List.set_cons_succ]
    refine reg_take (v := .slice B md d) 6 (some 37) rfl rfl (by kernel_rfl) (by kernel_rfl) (by kernel_rfl) (by rfl) HS.out (fun w hw => by go_simp) ?_
    simp only [Act.put, List.setIfInBounds_toArray, List.set_cons_zero, List.set_cons_succ]
    refine reg_call 7 (some 38) rfl rfl (by kernel_rfl) (by rfl) _ _ (exec_invoke 47 45 (.agg #[.pointer (some ⟨p, 0, none⟩)]) (.agg #[.pointer (some ⟨p, 0, none⟩)]) _ _ _ _ [.agg (bvs (key ++ nonce e s)).toArray, .slice T nt ct', .slice B md d] rfl rfl (by kernel_rfl) (by kernel_rfl) rfl) ?_
    have kd := (Kp.refl nob w9).drew
    refine (im_seal p F ts key (nonce e s) HH.out.1 (nonce_length e s) T nt ct' text B md d ps _ (HW9.out.keep kd (fun _ _ e => e)) (HT9.out.keep0 kd) (HP9.out.keep0 kd) HH.out.2.1 HH.out.2.2.1 HH.out.2.2.2.1).mono ?_
    rintro x w2 ⟨F2, X, cX, rfl, hq, hx⟩
    have hq0 := hq.back (HK9.out.trans kd (fun _ e => e.elim))
    have HQ := Lib.hid hq0
    have HX := Lib.hid (hx.back (HK9.out.trans kd (fun _ e => e.elim)))
    have HS2 : Hid (Kp F w0 w2 ∧ Blk w2 g 56 (bvs (key ++ nonce e s))) := Lib.hid ⟨hq0.k, HS.out.2.keep hq.k HFG.out⟩
    clear hq hx hq0 kd HS
    refine ⟨_, rfl, HS2.out, fun _ => ?_⟩
    simp only [Act.put, List.setIfInBounds_toArray, List.set_cons_zero, List.set_cons_succ]
    refine reg_take (v := .tuple #[.slice X (text.length + 16) cX, .int .i64 0]) 8 (some 30) rfl rfl (by kernel_rfl) (by kernel_rfl) (by kernel_rfl) (by rfl) HS2.out (fun w hw => by go_simp) ?_
    simp only [Act.put, List.setIfInBounds_toArray, List.set_cons_zero, List.set_cons_succ]
    refine reg_take (v := .slice X (text.length + 16) cX) 9 (some 39) rfl rfl (by kernel_rfl) (by kernel_rfl) (by kernel_rfl) (by rfl) HS2.out (fun w hw => by go_simp) ?_
    simp only [Act.put, List.setIfInBounds_toArray, List.set_cons_zero, List.set_cons_succ]
    refine reg_take (v := .int .i64 0) 10 (some 40) rfl rfl (by kernel_rfl) (by kernel_rfl) (by kernel_rfl) (by rfl) HS2.out (fun w hw => by go_simp) ?_
    simp only [Act.put, List.setIfInBounds_toArray, List.set_cons_zero, List.set_cons_succ]
    refine reg_take (v := .slice X (text.length + 16) cX) 11 (some 16) rfl rfl (by kernel_rfl) (by kernel_rfl) (by kernel_rfl) (by rfl) HS2.out (fun w hw => by go_simp) ?_
    simp only [Act.put, List.setIfInBounds_toArray, List.set_cons_zero, List.set_cons_succ]
    refine reg_take (v := .int .i64 0) 12 (some 17) rfl rfl (by kernel_rfl) (by kernel_rfl) (by kernel_rfl) (by rfl) HS2.out (fun w hw => by go_simp) ?_
    simp only [Act.put, List.setIfInBounds_toArray, List.set_cons_zero, List.set_cons_succ]
    refine reg_end (by kernel_rfl) ?_
    have HV2 := Lib.hid (HV0.out.turn HS2.out.1 hF.1 hF.2 HQ.out.f)
    have HB2 := Lib.hid HS2.out.2
    have hlt : v < w0.heap.size ∧ m < w0.heap.size := HV0.out.lt
    have HNE : Hid (¬ F2 v ∧ ¬ F2 m) := Lib.hid ⟨fun e => (HQ.out.f v e).elim hF.1 (fun e => by omega), fun e => (HQ.out.f m e).elim hF.2 (fun e => by omega)⟩
    have HNT := Lib.hid (hN F2 v m (imk p) ms lim sl cl P0 T nt ct' text w2 (hz w2 HS2.out.1) HV2.out HQ.out.i.lt ((HT0.out.keep HS2.out.1 (fun i e => .inl e)).mono (fun i _ e => .inr e)) HH.out.2.2.2.2 HH.out.2.2.1)
    rw [HPV.out] at HNT
    have HLT := Lib.hid hlt
    clear hlt hF hF2 hz hN
    go_wp2_with (first
      | (refine wpList_load_blk rfl 56 (.tmp 15) rfl _ _ _ HB2.out rfl _ place_under rfl HPS.out ?_)
      | (go_at_call 20; refine HNT.out.mono ?_; rintro x w3 ⟨rfl, hv3, k3⟩; have HV3 := Lib.hid hv3; have HK3 := Lib.hid k3; clear hv3 k3)
      | fail)
    go_ret2
    exact ⟨F2, X, cX, rfl, HQ.out.i.keep HK3.out (fun i e h => h.elim (fun h => HNE.out.1 (h ▸ e)) (fun h => HNE.out.2 (h ▸ e))), HQ.out.f, HV3.out, (HQ.out.k.mono (fun i _ e => .inl e)).trans HK3.out (fun i e => .inl (.inr e)), HNE.out, HX.out.over HK3.out HLT.out.1 HLT.out.2⟩
  have HS : Hid (Kp nob w0 (w0.alloc (.cells (bvs key).toArray 28)).drew) := Lib.hid HK0.out.drew
  have HBK := Lib.hid (HB.out.keep (Kp.refl nob _).drew (fun e => e))
  have HKS := Lib.hid (key_size key HH.out.1)
  generalize hw1 : (w0.alloc (.cells (bvs key).toArray 28)).drew = w1 at *
  clear HB HK0
  refine reg_begin (fun w => Kp nob w0 w ∧ Blk w w0.heap.size 28 (bvs key)) (by kernel_rfl) ?hb (fun _ => ?_)
  case hb => rw [hw1]; exact ⟨HS.out, HBK.out⟩
  rw [hw1]
  clear hw1
  have HS0 := Lib.hid (And.intro HS.out HBK.out)
  have HPS := Lib.hid (place_size (key ++ nonce e s) (by rw [List.length_append, HH.out.1, nonce_length]))
  refine reg_load 0 (some 25) 28 (.tmp 7) rfl rfl rfl (by kernel_rfl) (by kernel_rfl) (by kernel_rfl) (by rfl) HS0.out w0.heap.size 0 rfl (bvs key) _ (fun w hw => hw.2.range) key_under rfl HKS.out ?_
  simp only [Act.put, List.setIfInBounds_toArray, List.set_cons_zero, List.set_cons_succ]
  refine reg_take (v := .int .i64 e) 1 (some 26) rfl rfl (by kernel_rfl) (by kernel_rfl) (by kernel_rfl) (by rfl) HS0.out (fun w hw => by go_simp) ?_
  simp only [Act.put, List.setIfInBounds_toArray, List.set_cons_zero, List.set_cons_succ]
  refine reg_take (v := .int .i64 s) 2 (some 27) rfl rfl (by kernel_rfl) (by kernel_rfl) (by kernel_rfl) (by rfl) HS0.out (fun w hw => by go_simp) ?_
  simp only [Act.put, List.setIfInBounds_toArray, List.set_cons_zero, List.set_cons_succ]
  refine reg_callOr (w' := w1.alloc (.cells (bvs (List.replicate 44 0)).toArray 56)) (v := .pointer (some ⟨w1.heap.size, 0, none⟩)) 3 5 (some 28) (some 15) rfl rfl rfl rfl (by kernel_rfl) (by rfl) (by rfl) _ _ (exec_func 19 _ _ [.int .i64 e, .int .i64 s] rfl (by kernel_rfl) rfl) (by kernel_rfl) ⟨HS0.out.1.alloc _, HS0.out.2.alloc _⟩ ?_ (fun _ => ?_)
  · refine (nonceOf_any e s _).mono ?_
    rintro x w2 ⟨rfl, k2⟩
    have HS1 := Lib.hid (show Kp nob w0 w2 ∧ Blk w2 w0.heap.size 28 (bvs key) from ⟨HS0.out.1.trans k2 (fun _ e => e.elim), HS0.out.2.keep k2 (fun e => e)⟩)
    clear k2
    refine ⟨_, rfl, HS1.out, fun _ => ?_⟩
    simp only [Act.put, List.setIfInBounds_toArray, List.set_cons_zero, List.set_cons_succ]
    refine reg_take (v := .agg (bvs (key ++ nonce e s)).toArray) 4 (some 29) rfl rfl (by kernel_rfl) (by kernel_rfl) (by kernel_rfl) (by rfl) HS1.out (fun w hw => by exact exec_build _ _ rfl [(0, .agg (bvs key).toArray), (1, .agg (bvs (nonce e s)).toArray)] _ rfl (HBP.out w)) ?_
    simp only [Act.put, List.setIfInBounds_toArray, List.set_cons_zero, List.set_cons_succ]
    refine reg_step (w' := w2.alloc (.cells (bvs (List.replicate 44 0)).toArray 56)) (v := .pointer (some ⟨w2.heap.size, 0, none⟩)) 5 (some 15) rfl rfl (by kernel_rfl) (by rfl) (by kernel_rfl) ⟨HS1.out.1.alloc _, HS1.out.2.alloc _⟩ (fun _ => ?_)
    simp only [Act.put, List.setIfInBounds_toArray, List.set_cons_zero, List.set_cons_succ]
    have HB9 := Lib.hid (Blk.new w2 56 (bvs (List.replicate 44 0)))
    refine reg_store 6 none 56 (.tmp 15) (.tmp 29) rfl rfl rfl (by kernel_rfl) (by rfl) w2.heap.size 56 _ (bvs (key ++ nonce e s)) HB9.out rfl rfl (by rw [bvs_length, bvs_length, List.length_append, HH.out.1, nonce_length]; rfl) HPS.out (bvs_one _) ?_
    intro w5 b5 k5 z5
    have hge : w0.heap.size ≤ w2.heap.size := HS1.out.1.size
    have hk5 : Kp nob w0 w5 := (HS1.out.1.alloc _).since k5 (fun i e => by have e : i = w2.heap.size := e; omega)
    refine ⟨⟨hk5, (HS1.out.2.alloc _).keep k5 (fun e => by have e : w0.heap.size = w2.heap.size := e; have := HS1.out.2.lt; omega)⟩, fun _ => ?_⟩
    simp only [Act.put, List.setIfInBounds_toArray, List.set_cons_zero, List.set_cons_succ]
    exact reg_end (by kernel_rfl) (hcont w2.heap.size w5 hk5 b5 hge)
  · have HS1 := Lib.hid (show Kp nob w0 (w1.alloc (.cells (bvs (List.replicate 44 0)).toArray 56)) ∧ Blk (w1.alloc (.cells (bvs (List.replicate 44 0)).toArray 56)) w0.heap.size 28 (bvs key) from ⟨HS0.out.1.alloc _, HS0.out.2.alloc _⟩)
    have HB9 := Lib.hid (Blk.new w1 56 (bvs (List.replicate 44 0)))
    simp only [Act.put, List.setIfInBounds_toArray, List.set_cons_zero, List.set_cons_succ]
    refine reg_call 3 (some 28) rfl rfl (by kernel_rfl) (by rfl) _ _ (exec_func 19 _ _ [.int .i64 e, .int .i64 s] rfl (by kernel_rfl) rfl) ?_
    refine (nonceOf_any e s _).mono ?_
    rintro x w2 ⟨rfl, k2⟩
    have HS2 := Lib.hid (show Kp nob w0 w2 ∧ Blk w2 w0.heap.size 28 (bvs key) from ⟨HS1.out.1.trans k2 (fun _ e => e.elim), HS1.out.2.keep k2 (fun e => e)⟩)
    have HB8 := Lib.hid (HB9.out.keep k2 (fun e => e))
    clear k2
    refine ⟨_, rfl, HS2.out, fun _ => ?_⟩
    simp only [Act.put, List.setIfInBounds_toArray, List.set_cons_zero, List.set_cons_succ]
    refine reg_take (v := .agg (bvs (key ++ nonce e s)).toArray) 4 (some 29) rfl rfl (by kernel_rfl) (by kernel_rfl) (by kernel_rfl) (by rfl) HS2.out (fun w hw => by exact exec_build _ _ rfl [(0, .agg (bvs key).toArray), (1, .agg (bvs (nonce e s)).toArray)] _ rfl (HBP.out w)) ?_
    simp only [Act.put, List.setIfInBounds_toArray, List.set_cons_zero, List.set_cons_succ]
    refine reg_store 6 none 56 (.tmp 15) (.tmp 29) rfl rfl rfl (by kernel_rfl) (by rfl) w1.heap.size 56 _ (bvs (key ++ nonce e s)) HB8.out rfl rfl (by rw [bvs_length, bvs_length, List.length_append, HH.out.1, nonce_length]; rfl) HPS.out (bvs_one _) ?_
    intro w5 b5 k5 z5
    have hge : w0.heap.size ≤ w1.heap.size := HS0.out.1.size
    have hk5 : Kp nob w0 w5 := HS2.out.1.since k5 (fun i e => by have e : i = w1.heap.size := e; omega)
    refine ⟨⟨hk5, HS2.out.2.keep k5 (fun e => by have e : w0.heap.size = w1.heap.size := e; have := HS0.out.2.lt; omega)⟩, fun _ => ?_⟩
    simp only [Act.put, List.setIfInBounds_toArray, List.set_cons_zero, List.set_cons_succ]
    exact reg_end (by kernel_rfl) (hcont w1.heap.size w5 hk5 b5 hge)
end Go.Proofs.Ytmmpmncioifeoaa.Vault
namespace Go.Proofs.Ytmmpmncioifeoaa.Vault
set_option linter.unusedVariables false
set_option linter.unusedSimpArgs false
open Go Go.RowKit Kit
open Ideal (zc zc_run zc_length zc_eq z32 arr32_under)

theorem zk_run (w : World) : (zeroValue 28).run Try.prog w = .ok (.agg zc.toArray) w := by rw [zc_eq]; kernel_rfl
theorem zk_build (w : World) : (Instr.build 28 #[]).run Try.prog w = .ok (.agg zc.toArray) w := by rw [zc_eq]; kernel_rfl
theorem z_build (w : World) : (Instr.build 27 #[]).run Try.prog w = .ok (.agg zc.toArray) w := by rw [zc_eq]; kernel_rfl
theorem zc_one : ∀ u ∈ zc, u.oneCell' = true := by rw [zc_eq]; exact bvs_one _
theorem zc_key : (Try.prog.info? 28).map (·.size) = some zc.length := by rw [zc_length]; kernel_rfl
theorem zc_arr : (Try.prog.info? 27).map (·.size) = some zc.length := by rw [zc_length]; kernel_rfl
set_option maxHeartbeats 1000000 in
set_option maxRecDepth 100000 in
theorem hash_nil (B : Value) (w0 : World) :
    Calls Try.prog 14 #[.pointer none, B] w0 fun x w' => x = .returned (.agg (bvs z32).toArray) ∧ Kp nob w0 w' := by
  rw [← zc_eq]
  have hz := zc_run
  have HB := Lib.hid (Blk.new w0 27 zc)
  have HK := Lib.hid ((Kp.refl nob w0).alloc (.cells zc.toArray 27))
  go_enter Try.func14, Try.ntmps14
  go_wp2_with (first
    | (refine wpList_built rfl 27 _ rfl (.agg zc.toArray) (by exact exec_build _ _ rfl [] _ rfl (z_build _)) ?_)
    | (refine wpList_store_blk rfl 27 (.tmp 4) (.tmp 7) rfl _ _ _ zc HB.out rfl rfl rfl zc_arr zc_one ?_; intro w2 hB2 k2 z2)
    | fail)
  have hsz : (Try.prog.info? 27).map (·.size) = some zc.toArray.size := by rw [List.size_toArray]; exact zc_arr
  exact bodyPost_ret (results_cell_row rfl _ _ w0.heap.size _ _ _ _ rfl hB2 arr32_under rfl hsz) rfl ⟨rfl, HK.out.since k2 (fun i e => by cases e; omega)⟩
set_option maxHeartbeats 1000000 in
set_option maxRecDepth 100000 in
theorem mac_nil (key : List UInt8) (B : Value) (w0 : World) :
    Calls Try.prog 15 #[.pointer none, .agg (bvs key).toArray, B] w0 fun x w' => x = .returned (.agg (bvs z32).toArray) ∧ Kp nob w0 w' := by
  rw [← zc_eq]
  have hz := zc_run
  have HB := Lib.hid (show Blk ((w0.alloc (.cells (bvs key).toArray 28)).alloc (.cells zc.toArray 27)) (w0.heap.size + 1) 27 zc from Blk.new' (by simp) rfl)
  have HK := Lib.hid (((Kp.refl nob w0).alloc (.cells (bvs key).toArray 28)).alloc (.cells zc.toArray 27))
  go_enter Try.func15, Try.ntmps15
  go_wp2_with (first
    | (refine wpList_built rfl 27 _ rfl (.agg zc.toArray) (by exact exec_build _ _ rfl [] _ rfl (z_build _)) ?_)
    | (refine wpList_store_blk rfl 27 (.tmp 6) (.tmp 9) rfl _ _ _ zc HB.out rfl rfl rfl zc_arr zc_one ?_; intro w2 hB2 k2 z2)
    | fail)
  have hsz : (Try.prog.info? 27).map (·.size) = some zc.toArray.size := by rw [List.size_toArray]; exact zc_arr
  exact bodyPost_ret (results_cell_row rfl _ _ (w0.heap.size + 1) _ _ _ _ rfl hB2 arr32_under rfl hsz) rfl ⟨rfl, HK.out.since k2 (fun i e => by cases e; omega)⟩
set_option maxHeartbeats 1000000 in
set_option maxRecDepth 100000 in
theorem key_nil (S B : Value) (w0 : World) :
    Calls Try.prog 13 #[.pointer none, S, B] w0 fun x w' => x = .returned (.agg (bvs z32).toArray) ∧ Kp nob w0 w' := by
  rw [← zc_eq]
  have hz := zk_run
  have HB := Lib.hid (Blk.new w0 28 zc)
  have HK := Lib.hid ((Kp.refl nob w0).alloc (.cells zc.toArray 28))
  go_enter Try.func13, Try.ntmps13
  go_wp2_with (first
    | (refine wpList_built rfl 28 _ rfl (.agg zc.toArray) (by exact exec_build _ _ rfl [] _ rfl (zk_build _)) ?_)
    | (refine wpList_store_blk rfl 28 (.tmp 6) (.tmp 10) rfl _ _ _ zc HB.out rfl rfl rfl zc_key zc_one ?_; intro w2 hB2 k2 z2)
    | fail)
  have hsz : (Try.prog.info? 28).map (·.size) = some zc.toArray.size := by rw [List.size_toArray]; exact zc_key
  exact bodyPost_ret (results_cell_row rfl _ _ w0.heap.size _ _ _ _ rfl hB2 key_under rfl hsz) rfl ⟨rfl, HK.out.since k2 (fun i e => by cases e; omega)⟩
end Go.Proofs.Ytmmpmncioifeoaa.Vault
namespace Go.Proofs.Ytmmpmncioifeoaa.Vault
set_option linter.unusedVariables false
set_option linter.unusedSimpArgs false
open Go Go.RowKit Kit
open Ideal (Iw Iq Ans Arg Args Thing mk out sealT opn macT derT hashT z32 zc zc_run zc_length zc_eq args_none lit_arg)
open Sha (Pc PcsOk catP)

theorem z32_length : z32.length = 32 := by simp [z32]
theorem u8v : Try.prog.underlying 5 = some (.int .u8) := by kernel_rfl
/-- A new vault of a new world, and the world. -/
structure Fresh0 (w w' : World) (v m p : Nat) (F : Nat → Prop) (ms : List UInt8) (lim : Nat) : Prop where
  iw : Iw w' p F []
  f : ∀ k, F k → w.heap.size ≤ k
  vs : Vs F w' v m (imk p) ms lim [] 0
  kp : Kp nob w w'
  ne : ¬ F v ∧ ¬ F m
  lt : w.heap.size ≤ v ∧ w.heap.size ≤ m
theorem fresh_of {w w1 w2 : World} {v m p : Nat} {F : Nat → Prop} {ms : List UInt8} {lim : Nat} (hq : Iq w nob w1 p F []) (hv : Vb w2 v m (imk p) ms lim [] 0) (k2 : Kp nob w1 w2) (n1 : w1.heap.size ≤ v) (n2 : w1.heap.size ≤ m) : Fresh0 w w2 v m p F ms lim :=
  ⟨hq.i.keep k2 (fun _ _ e => e), fun k e => (hq.f k e).resolve_left (fun e => e), vs_new hv, hq.k.trans k2 (fun _ e => e.elim), ⟨fun e => by have := hq.i.lt v e; omega, fun e => by have := hq.i.lt m e; omega⟩, by have := hq.k.size; omega, by have := hq.k.size; omega⟩

set_option maxHeartbeats 2000000 in
set_option maxRecDepth 100000 in
theorem alive_yes (dif : List UInt8 → List UInt8 → Bool) (Z : World → Prop) (hN : NoteC dif Z) (w : World) (hz : ∀ w', Kp nob w w' → Z w') :
    Calls Try.prog 6 #[] w fun e w' => e = .returned (.bool true) ∧ Kp nob w w' := by
  go_enter Try.func6, Try.ntmps6
  go_wp2_with fail
  refine (Ideal.new_i w).mono ?_
  rintro e w1 ⟨p, F, rfl, hq⟩
  have HQ := Lib.hid hq; clear hq
  go_wp2_with (first
    | (refine wpList_built rfl 28 _ rfl (.agg zc.toArray) (by exact exec_build _ _ rfl [] _ rfl (zk_build _)) ?_)
    | fail)
  rw [zc_eq]
  refine (ideal_any p z32 3 w1 z32_length).mono ?_
  rintro e w2 ⟨v, m, rfl, hv, k2, n1, n2⟩
  have HF : Hid (Fresh0 w w2 v m p F z32 3) := Lib.hid (fresh_of HQ.out hv k2 n1 n2)
  clear hv k2 n1 n2 HQ
  go_wp2_with (first
    | (refine wpList_built rfl 28 _ rfl (.agg zc.toArray) (by exact exec_build _ _ rfl [] _ rfl (zk_build _)) ?_)
    | fail)
  rw [zc_eq]
  obtain ⟨ps2, hvb2⟩ := HF.out.vs.vb
  refine (seal_no v m (imk p) z32 3 _ 0 _ 0 3 _ _ w2 z32 rfl hvb2 (by decide)).mono ?_
  rintro e w3 ⟨rfl, k3⟩
  have HK3 := Lib.hid k3
  clear k3
  rw [show refu 3 0 3 = 10 from rfl]
  have kc := fun (w : World) (C : Array Value) (n c : Nat) => Lib.run_convert_bytes_const (P := Try.prog) w 29 5 C n c u8n_under u8v
  go_wp2_with (first
    | (refine wpList_built rfl 28 _ rfl (.agg zc.toArray) (by exact exec_build _ _ rfl [] _ rfl (zk_build _)) ?_)
    | fail)
  rw [zc_eq]
  have k4 : Kp nob w2 (w3.alloc (.cells (bvs [120]).toArray 5 (1, 2))) := HK3.out.alloc _
  have hlt := HF.out.iw.lt
  have hvl := HF.out.vs.lt.1
  have hml := HF.out.vs.lt.2
  have hu : ∀ k, uF F v m k → k < w3.heap.size := fun k h => Nat.lt_of_lt_of_le (h.elim (hlt k) (fun h => h.elim (fun h => h ▸ hvl) (fun h => h ▸ hml))) HK3.out.size
  refine (seal_yes dif Z hN v m p F [] z32 3 [] 0 z32 z32_length 0 2 (some ⟨w3.heap.size, 0, none⟩) 1 1 [120] none 0 0 [] (w3.alloc (.cells (bvs [120]).toArray 5 (1, 2))) (HF.out.vs.keep0 k4) (HF.out.iw.keep k4 (fun _ _ e => e)) HF.out.ne (lit_arg w3 [120] 5 (1, 2) (by decide) _ hu) (args_none _ _) (Nat.zero_le _) (by decide) (by decide) (Nat.zero_le _) (by decide)
    (fun w' h => hz w' ((HF.out.kp.trans k4 (fun _ e => e.elim)).since h HF.out.f))).mono ?_
  rintro e w5 ⟨F2, X, cX, rfl, hs⟩
  have HS := Lib.hid hs
  have HK5 : Hid (Kp nob w w5) := Lib.hid ((HF.out.kp.trans k4 (fun _ e => e.elim)).since hs.kp (fun i e => e.elim (HF.out.f i) (fun e => e.elim (fun e => e ▸ HF.out.lt.1) (fun e => e ▸ HF.out.lt.2))))
  clear hs hz hN kc hu hlt hvl hml k4
  rw [show ([120] : List UInt8).length + 16 = 17 from rfl]
  go_wp2_with fail
  obtain ⟨ps5, hvb5⟩ := HS.out.vs.vb
  refine (limit_any v m (imk p) z32 3 _ _ w5 hvb5).mono ?_
  rintro e w6 ⟨rfl, rfl⟩
  go_wp2
  go_ret
  exact ⟨rfl, HK5.out⟩
end Go.Proofs.Ytmmpmncioifeoaa.Vault
