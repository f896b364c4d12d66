/- Lemmas: IdealD VauE MapP VauM RegX VauF. -/
import Derived.Test.YtigdlnfgdjfdoaaGreatZK10
set_option maxHeartbeats 4000000
set_option maxRecDepth 100000
set_option linter.unusedVariables false
set_option linter.unusedSimpArgs false
namespace Go.Proofs.YtigdlnfgdjfdoaaGreat
namespace Ideal
open Go Go.RowKit Kit
open Sha (Pc PcsOk catP)
theorem Iq.back {w w1 w2 : World} {F F2 : Nat → Prop} {p : Nat} {ts : List Thing} (h : Iq w1 F w2 p F2 ts) (k : Kp nob w w1) : Iq w F w2 p F2 ts :=
 ⟨h.i, fun i e => (h.f i e).imp_right (fun e => Nat.le_trans k.size e), (k.nob F).trans h.k (fun _ e => .inl e)⟩
theorem Ans.back {w w1 w2 : World} {F : Nat → Prop} {A : Option Addr} {c : Nat} {l : List UInt8} (h : Ans w1 w2 F A c l) (k : Kp nob w w1) : Ans w w2 F A c l :=
 ⟨h.row, fun i e => ⟨Nat.le_trans k.size (h.far i e).1, (h.far i e).2⟩, h.cap, h.mx, h.nil⟩
end Ideal
namespace Vault
open Go Go.RowKit Kit
open Ideal (Iw Iq Ans Arg Args Thing mk out sealT opn derT hashT z32)
open Sha (Pc PcsOk catP)
theorem key_all (g o : Nat) (w : World) : (Instr.sliceAt 77 (.pointer (some ⟨g, o, none⟩)) none none none).run Tryz.prog w = .ok (.slice (some ⟨g, o, none⟩) 32 32) w := by
 have ha : Tryz.prog.underlying 77 = some (.array (Tryz.prog.arrayLen 77) (Tryz.prog.elem 77)) := by kernel_rfl
 have hl : Tryz.prog.arrayLen 77 = 32 := by kernel_rfl
 have he : Tryz.prog.elem 77 = 5 := by kernel_rfl
 have hz : (sizeOf 5).run Tryz.prog w = .ok 1 w := by kernel_rfl
 rw [run_sliceAt_array_all w _ _ ha, hl, he, hz]
 simp [Result.andThen, slicedAt, Addr.add]
theorem nonce_all (g o : Nat) (w : World) : (Instr.sliceAt 210 (.pointer (some ⟨g, o, none⟩)) none none none).run Tryz.prog w = .ok (.slice (some ⟨g, o, none⟩) 12 12) w := by
 have ha : Tryz.prog.underlying 210 = some (.array (Tryz.prog.arrayLen 210) (Tryz.prog.elem 210)) := by kernel_rfl
 have hl : Tryz.prog.arrayLen 210 = 12 := by kernel_rfl
 have he : Tryz.prog.elem 210 = 5 := by kernel_rfl
 have hz : (sizeOf 5).run Tryz.prog w = .ok 1 w := by kernel_rfl
 rw [run_sliceAt_array_all w _ _ ha, hl, he, hz]
 simp [Result.andThen, slicedAt, Addr.add]
structure Mb (w0 : World) (G : Nat → Prop) (p : Nat) (l : List UInt8) (w : World) : Prop where
 m : Blk w w0.heap.size 117 [.pointer (some ⟨p, 0, none⟩)]
 p : Blk w (w0.heap.size + 1) 213 (bvs l)
 k : Kp G w0 w
theorem Mb.keep {w0 w w2 : World} {G : Nat → Prop} {p : Nat} {l : List UInt8} (h : Mb w0 G p l w) (k : Kp G w w2) (hG : ∀ i, G i → i < w0.heap.size) : Mb w0 G p l w2 := ⟨h.m.keep k (fun e => Nat.lt_irrefl _ (hG _ e)), h.p.keep k (fun e => by have := hG _ e; omega), h.k.trans k (fun _ e => .inl e)⟩
theorem Mb.key {w0 w : World} {G : Nat → Prop} {p : Nat} {k n : List UInt8} (h : Mb w0 G p (k ++ n) w) (hk : k.length = 32) (F : Nat → Prop) (hF : ∀ i, F i → i < w0.heap.size) : Arg w F (some ⟨w0.heap.size + 1, 0, none⟩) 32 32 k :=
 ⟨hk, .inr ⟨w0.heap.size + 1, 0, rfl, h.p.lt, fun i v hv => by rw [Nat.zero_add, h.p.cell, bvs_append, List.getElem?_append_left (List.getElem?_eq_some_iff.1 hv).1]; exact hv⟩, .inr (fun j e hj => by simp only [ab, Option.map_some, Option.some.injEq] at e; have := hF j hj; omega), Nat.le_refl _, by decide, fun e => by cases e⟩
theorem Mb.nonce {w0 w : World} {G : Nat → Prop} {p : Nat} {k n : List UInt8} (h : Mb w0 G p (k ++ n) w) (hk : k.length = 32) (hn : n.length = 12) (F : Nat → Prop) (hF : ∀ i, F i → i < w0.heap.size) : Arg w F (some ⟨w0.heap.size + 1, 32, none⟩) 12 12 n :=
 ⟨hn, .inr ⟨w0.heap.size + 1, 32, rfl, h.p.lt, fun i v hv => by rw [h.p.cell, bvs_append, List.getElem?_append_right (by rw [bvs_length, hk]; omega), bvs_length, hk, show 32 + i - 32 = i by omega]; exact hv⟩, .inr (fun j e hj => by simp only [ab, Option.map_some, Option.some.injEq] at e; have := hF j hj; omega), Nat.le_refl _, by decide, fun e => by cases e⟩
theorem Mb.new (w0 : World) (p : Nat) (l : List UInt8) : Mb w0 nob p l ((w0.alloc (.cells #[.pointer (some ⟨p, 0, none⟩)] 117)).alloc (.cells (bvs l).toArray 213)).drew :=
 ⟨((Blk.new' rfl rfl).alloc _).keep (Kp.refl nob _).drew (fun e => e), (Blk.new' (by simp) rfl).keep (Kp.refl nob _).drew (fun e => e), (((Kp.refl _ _).alloc _).alloc _).drew⟩
def OpenA (x : Option (List UInt8)) (w w' : World) (e : Ending) : Prop := ∃ X cX, e = .returned (.tuple #[.slice X (x.getD []).length cX, .int .i64 (if x.isSome then 0 else 9)]) ∧ Kp nob w w' ∧ Row w' X (bvs (x.getD [])) ∧ ∀ k, ab X = some k → w.heap.size ≤ k
theorem Mb.to {w0 w : World} {G : Nat → Prop} {p : Nat} {l : List UInt8} (h : Mb w0 nob p l w) : Mb w0 G p l w := ⟨h.m, h.p, h.k.nob G⟩
theorem im_seal (p : Nat) (F : Nat → Prop) (ts : List Thing) (key nonce : List UInt8) (hk : key.length = 32) (hn : nonce.length = 12) (T : Option Addr) (nt ct' : Nat) (text : List UInt8) (B : Option Addr) (m d : Nat) (ps : List Pc) (w0 : World)
    (hw : Iw w0 p F ts) (ht : Arg w0 F T nt ct' text) (hp : Args w0 F B m ps) (hl : ts.length ≤ 100000) (lt : text.length ≤ 1048576) (lp : (catP ps).length ≤ 1048576) :
    Calls Tryz.prog 152 #[.agg #[.pointer (some ⟨p, 0, none⟩)], .agg (bvs (key ++ nonce)).toArray, .slice T nt ct', .slice B m d] w0 fun e w' => ∃ F2 X cX, e = .returned (.tuple #[.slice X (text.length + 16) cX, .int .i64 0]) ∧
     Iq w0 F w' p F2 (mk ts (sealT key nonce (catP ps) text)) ∧ Ans w0 w' F2 X cX (out ts (sealT key nonce (catP ps) text) (text.length + 16)) := by
 have HW := Lib.hid hw; have HT := Lib.hid ht; have HP := Lib.hid hp
 have HLT := Lib.hid (And.intro hl (And.intro lt lp))
 have HKN := Lib.hid (And.intro hk hn)
 have HM := Lib.hid (Mb.new w0 p (key ++ nonce))
 clear hw ht hp hl lt lp hk hn
 go_enter Tryz.func152, Tryz.ntmps152
 go_wp2
 generalize hw1 : ((w0.alloc (.cells #[.pointer (some ⟨p, 0, none⟩)] 117)).alloc (.cells (bvs (key ++ nonce)).toArray 213)) = wb at *
 have HS : Hid (Mb w0 F p (key ++ nonce) wb.drew) := Lib.hid HM.out.to
 have hF := HW.out.lt
 have HW1 := Lib.hid (HW.out.keep HM.out.k (fun _ _ e => e)); have HT1 := Lib.hid (HT.out.keep0 HM.out.k); have HP1 := Lib.hid (HP.out.keep0 HM.out.k)
 clear hw1
 refine reg_begin (Mb w0 F p (key ++ nonce)) (by kernel_rfl) HS.out (fun _ => ?_)
 refine reg_tk (v := .pointer (some ⟨w0.heap.size, 0, none⟩)) 0 10 rfl rfl (by kernel_rfl) (by rfl) HS.out (fun w hw => by go_simp) ?_; simp only [Act.put, zp1, zp2, zp3]
 refine reg_tk (v := .pointer (some ⟨p, 0, none⟩)) 1 11 rfl rfl (by kernel_rfl) (by rfl) HS.out (fun w hw => by have hc : w.cell? ⟨w0.heap.size, 0, none⟩ = some (.pointer (some ⟨p, 0, none⟩)) := (by rw [hw.m.cell]; rfl); go_simp) ?_; simp only [Act.put, zp1, zp2, zp3]
 refine reg_tk (v := .pointer (some ⟨w0.heap.size + 1, 0, none⟩)) 2 12 rfl rfl (by kernel_rfl) (by rfl) HS.out (fun w hw => by go_simp) ?_; simp only [Act.put, zp1, zp2, zp3]
 refine reg_tk (v := .slice (some ⟨w0.heap.size + 1, 0, none⟩) 32 32) 3 13 rfl rfl (by kernel_rfl) (by rfl) HS.out (fun w hw => by have hc := key_all (w0.heap.size + 1) 0 w; go_simp) ?_; simp only [Act.put, zp1, zp2, zp3]
 refine reg_tk (v := .pointer (some ⟨w0.heap.size + 1, 32, none⟩)) 4 14 rfl rfl (by kernel_rfl) (by rfl) HS.out (fun w hw => by go_simp) ?_; simp only [Act.put, zp1, zp2, zp3]
 refine reg_tk (v := .slice (some ⟨w0.heap.size + 1, 32, none⟩) 12 12) 5 15 rfl rfl (by kernel_rfl) (by rfl) HS.out (fun w hw => by have hc := nonce_all (w0.heap.size + 1) 32 w; go_simp) ?_; simp only [Act.put, zp1, zp2, zp3]
 refine reg_tk (v := .slice T nt ct') 6 16 rfl rfl (by kernel_rfl) (by rfl) HS.out (fun w hw => by go_simp) ?_; simp only [Act.put, zp1, zp2, zp3]
 refine reg_tk (v := .slice B m d) 7 17 rfl rfl (by kernel_rfl) (by rfl) HS.out (fun w hw => by go_simp) ?_; simp only [Act.put, zp1, zp2, zp3]
 refine reg_call 8 (some 18) rfl rfl (by kernel_rfl) (by rfl) _ _ (exec_func 156 _ _ [.pointer (some ⟨p, 0, none⟩), .slice (some ⟨w0.heap.size + 1, 0, none⟩) 32 32, .slice (some ⟨w0.heap.size + 1, 32, none⟩) 12 12, .slice T nt ct', .slice B m d] rfl (by kernel_rfl) rfl) ?_
 refine (Ideal.seal_i p F ts _ _ _ key _ _ _ nonce T nt ct' text B m d ps _ HW1.out (HS.out.key HKN.out.1 F hF) (HS.out.nonce HKN.out.1 HKN.out.2 F hF) HT1.out HP1.out HLT.out.1 (by rw [HKN.out.1]; omega) (by rw [HKN.out.2]; omega) HLT.out.2.1 HLT.out.2.2).mono ?_
 rintro e w2 ⟨F2, X, cX, rfl, hq, hx⟩
 have HQ := Lib.hid (hq.back HM.out.k)
 have HX := Lib.hid (hx.back HM.out.k)
 have HS2 : Hid (Mb w0 F p (key ++ nonce) w2) := Lib.hid (HS.out.keep hq.k hF)
 clear hq hx HS HM HW1 HT1 HP1
 refine ⟨_, rfl, HS2.out, fun _ => ?_⟩
 simp only [Act.put, zp1, zp2, zp3]
 refine reg_tk (v := .slice X (text.length + 16) cX) 9 19 rfl rfl (by kernel_rfl) (by rfl) HS2.out (fun w hw => by go_simp) ?_; simp only [Act.put, zp1, zp2, zp3]
 refine reg_tk (v := .int .i64 0) 10 20 rfl rfl (by kernel_rfl) (by rfl) HS2.out (fun w hw => by go_simp) ?_; simp only [Act.put, zp1, zp2, zp3]
 refine reg_tk (v := .slice X (text.length + 16) cX) 11 8 rfl rfl (by kernel_rfl) (by rfl) HS2.out (fun w hw => by go_simp) ?_; simp only [Act.put, zp1, zp2, zp3]
 refine reg_tk (v := .int .i64 0) 12 9 rfl rfl (by kernel_rfl) (by rfl) HS2.out (fun w hw => by go_simp) ?_; simp only [Act.put, zp1, zp2, zp3]
 refine reg_end (by kernel_rfl) ?_
 go_wp2
 go_ret2
 exact ⟨F2, X, cX, rfl, HQ.out, HX.out⟩
theorem im_open (p : Nat) (F : Nat → Prop) (ts : List Thing) (key nonce : List UInt8) (hk : key.length = 32) (hn : nonce.length = 12) (T : Option Addr) (nt ct' : Nat) (text : List UInt8) (B : Option Addr) (m d : Nat) (ps : List Pc) (w0 : World)
    (hw : Iw w0 p F ts) (ht : Arg w0 F T nt ct' text) (hp : Args w0 F B m ps) (hl : ts.length ≤ 100000) (lt : text.length ≤ 1048592) (lp : (catP ps).length ≤ 1048576) :
    Calls Tryz.prog 151 #[.agg #[.pointer (some ⟨p, 0, none⟩)], .agg (bvs (key ++ nonce)).toArray, .slice T nt ct', .slice B m d] w0 fun e w' => OpenA (opn ts key nonce (catP ps) text) w0 w' e := by
 have HW := Lib.hid hw; have HT := Lib.hid ht; have HP := Lib.hid hp
 have HLT := Lib.hid (And.intro hl (And.intro lt lp))
 have HKN := Lib.hid (And.intro hk hn)
 have HM := Lib.hid (Mb.new w0 p (key ++ nonce))
 clear hw ht hp hl lt lp hk hn
 go_enter Tryz.func151, Tryz.ntmps151
 go_wp2
 generalize hw1 : ((w0.alloc (.cells #[.pointer (some ⟨p, 0, none⟩)] 117)).alloc (.cells (bvs (key ++ nonce)).toArray 213)) = wb at *
 have HS : Hid (Mb w0 nob p (key ++ nonce) wb.drew) := Lib.hid HM.out.to
 have hF := HW.out.lt
 have HW1 := Lib.hid (HW.out.keep HM.out.k (fun _ _ e => e)); have HT1 := Lib.hid (HT.out.keep0 HM.out.k); have HP1 := Lib.hid (HP.out.keep0 HM.out.k)
 clear hw1
 refine reg_begin (Mb w0 nob p (key ++ nonce)) (by kernel_rfl) HS.out (fun _ => ?_)
 refine reg_tk (v := .pointer (some ⟨w0.heap.size, 0, none⟩)) 0 10 rfl rfl (by kernel_rfl) (by rfl) HS.out (fun w hw => by go_simp) ?_; simp only [Act.put, zp1, zp2, zp3]
 refine reg_tk (v := .pointer (some ⟨p, 0, none⟩)) 1 11 rfl rfl (by kernel_rfl) (by rfl) HS.out (fun w hw => by have hc : w.cell? ⟨w0.heap.size, 0, none⟩ = some (.pointer (some ⟨p, 0, none⟩)) := (by rw [hw.m.cell]; rfl); go_simp) ?_; simp only [Act.put, zp1, zp2, zp3]
 refine reg_tk (v := .pointer (some ⟨w0.heap.size + 1, 0, none⟩)) 2 12 rfl rfl (by kernel_rfl) (by rfl) HS.out (fun w hw => by go_simp) ?_; simp only [Act.put, zp1, zp2, zp3]
 refine reg_tk (v := .slice (some ⟨w0.heap.size + 1, 0, none⟩) 32 32) 3 13 rfl rfl (by kernel_rfl) (by rfl) HS.out (fun w hw => by have hc := key_all (w0.heap.size + 1) 0 w; go_simp) ?_; simp only [Act.put, zp1, zp2, zp3]
 refine reg_tk (v := .pointer (some ⟨w0.heap.size + 1, 32, none⟩)) 4 14 rfl rfl (by kernel_rfl) (by rfl) HS.out (fun w hw => by go_simp) ?_; simp only [Act.put, zp1, zp2, zp3]
 refine reg_tk (v := .slice (some ⟨w0.heap.size + 1, 32, none⟩) 12 12) 5 15 rfl rfl (by kernel_rfl) (by rfl) HS.out (fun w hw => by have hc := nonce_all (w0.heap.size + 1) 32 w; go_simp) ?_; simp only [Act.put, zp1, zp2, zp3]
 refine reg_tk (v := .slice T nt ct') 6 16 rfl rfl (by kernel_rfl) (by rfl) HS.out (fun w hw => by go_simp) ?_; simp only [Act.put, zp1, zp2, zp3]
 refine reg_tk (v := .slice B m d) 7 17 rfl rfl (by kernel_rfl) (by rfl) HS.out (fun w hw => by go_simp) ?_; simp only [Act.put, zp1, zp2, zp3]
 refine reg_call 8 (some 18) rfl rfl (by kernel_rfl) (by rfl) _ _ (exec_func 155 _ _ [.pointer (some ⟨p, 0, none⟩), .slice (some ⟨w0.heap.size + 1, 0, none⟩) 32 32, .slice (some ⟨w0.heap.size + 1, 32, none⟩) 12 12, .slice T nt ct', .slice B m d] rfl (by kernel_rfl) rfl) ?_
 refine (Ideal.open_if p F ts _ _ _ key _ _ _ nonce T nt ct' text B m d ps _ HW1.out (HS.out.key HKN.out.1 F hF) (HS.out.nonce HKN.out.1 HKN.out.2 F hF) HT1.out HP1.out HLT.out.1 (by rw [HKN.out.1]; omega) (by rw [HKN.out.2]; omega) HLT.out.2.1 HLT.out.2.2).mono ?_
 rintro e w2 ⟨X, cX, rfl, hq, hx, hf⟩
 have HFX := Lib.hid (fun k e => Nat.le_trans HM.out.k.size (hf k e))
 clear hf
 obtain ⟨er, her⟩ : ∃ er : Int, er = (if (opn ts key nonce (catP ps) text).isSome then (0 : Int) else 9) := ⟨_, rfl⟩
 rw [← her]
 have HER := Lib.hid her
 clear her
 have HQ := Lib.hid (HM.out.k.trans hq (fun _ e => e.elim))
 have HX := Lib.hid hx
 have HS2 : Hid (Mb w0 nob p (key ++ nonce) w2) := Lib.hid (HS.out.keep hq (fun _ e => e.elim))
 clear hq hx HS HM HW1 HT1 HP1
 refine ⟨_, rfl, HS2.out, fun _ => ?_⟩
 simp only [Act.put, zp1, zp2, zp3]
 refine reg_tk (v := .slice X ((opn ts key nonce (catP ps) text).getD []).length cX) 9 19 rfl rfl (by kernel_rfl) (by rfl) HS2.out (fun w hw => by go_simp) ?_; simp only [Act.put, zp1, zp2, zp3]
 refine reg_tk (v := .int .i64 er) 10 20 rfl rfl (by kernel_rfl) (by rfl) HS2.out (fun w hw => by go_simp) ?_; simp only [Act.put, zp1, zp2, zp3]
 refine reg_tk (v := .slice X ((opn ts key nonce (catP ps) text).getD []).length cX) 11 8 rfl rfl (by kernel_rfl) (by rfl) HS2.out (fun w hw => by go_simp) ?_; simp only [Act.put, zp1, zp2, zp3]
 refine reg_tk (v := .int .i64 er) 12 9 rfl rfl (by kernel_rfl) (by rfl) HS2.out (fun w hw => by go_simp) ?_; simp only [Act.put, zp1, zp2, zp3]
 refine reg_end (by kernel_rfl) ?_
 go_wp2
 go_ret2
 unfold OpenA
 exact ⟨X, cX, by rw [← HER.out]; rfl, HQ.out, HX.out, HFX.out⟩
end Vault
namespace Kit
open Go Go.RowKit
theorem MapB.store_at {P : Program} {t k e : TypeId} {α : Type} {kv : α → Value} {w : World} {b : Nat} {ps : List (Value × Value)} (h : MapB w b ps) (K : KeyL P k kv) (hk : ∀ p ∈ ps, ∃ a, p.1 = kv a) (ht : P.underlying t = some (.map k e)) (a : α) (v : Value) (j : Nat) (u : Value) (hm : ps[j]? = some (kv a, u)) (hone : ∀ i u, ps[i]? = some (kv a, u) → i = j) :
    ∃ w', (Instr.mapUpdate t (.map (some b)) (kv a) v).run P w = .ok () w' ∧ MapB w' b (ps.set j (kv a, v)) ∧ Kp (fun i => i = b) w w' ∧ w'.heap.size = w.heap.size := by
 have hlt := h.lt
 obtain ⟨es, n, hb, rfl⟩ := h
 have hks : ∀ x ∈ es.toList, ∃ b, x.key = kv b := fun x hx => hk (x.key, x.val) (List.mem_map.2 ⟨x, hx, rfl⟩)
 rcases K.find w a es.toList hks with ⟨h1, h2⟩ | ⟨i, x, h1, h2, h3⟩
 · obtain ⟨x, hx, e⟩ := List.mem_map.1 (List.mem_of_getElem? hm)
   injection e with e1 e2
   exact absurd e1 (h2 x hx)
 · have hij : i = j := hone i x.val (by rw [List.getElem?_map, h2, Option.map_some, h3])
   subst hij
   have hes : es[i]? = some x := by rw [← Array.getElem?_toList]; exact h2
   have hil := (List.getElem?_eq_some_iff.1 h2).1
   refine ⟨ChangeMaps.setBlock w b (.map (es.modify i fun e => { e with key := kv a, val := v }) n), ?_, ⟨_, _, ChangeMaps.heap_setBlock_same hb _, ?_⟩, ⟨rfl, rfl, rfl, by simp [ChangeMaps.setBlock], fun i _ hi => ChangeMaps.heap_setBlock_other hb _ hi⟩, by simp [ChangeMaps.setBlock]⟩
   · simp [Instr.mapUpdate, run_underlying ht, MapKept.run_getObj_map hb, K.check, h1, hes, h3, K.stays, MapKept.run_setObj_map _ hb, Result.andThen, ChangeMaps.setBlock]
   · apply List.ext_getElem?
     intro q
     rw [List.getElem?_map, Array.toList_modify, List.getElem?_modify, List.getElem?_set, List.getElem?_map]
     by_cases hi : i = q
     · subst hi
       rw [h2]; simp at hil; simp [hil]
     · simp [hi]
end Kit
namespace Vault
open Go Go.RowKit Kit
def last {β : Type} : List (Pl × β) → Pl → Option β
 | [], _ => none
 | q :: r, p => if q.1 = p then some q.2 else last r p
def upd {β : Type} : List (Pl × β) → Pl → β → List (Pl × β)
 | [], p, t => [(p, t)]
 | q :: r, p, t => if q.1 = p then (p, t) :: r else q :: upd r p t
theorem last_upd {β : Type} (sl : List (Pl × β)) (p q : Pl) (t : β) : last (upd sl p t) q = if p = q then some t else last sl q := by
 induction sl with
 | nil => simp [upd, last]
 | cons x r ih =>
   by_cases h : x.1 = p
   · rw [upd, if_pos h, last, last, h]
     by_cases h2 : p = q <;> simp [h2]
   · rw [upd, if_neg h, last, ih, last]
     by_cases h2 : x.1 = q
     · subst h2
       rw [if_pos rfl, if_neg (fun e => h e.symm), if_pos rfl]
     · rw [if_neg h2, if_neg h2]
theorem last_none {β : Type} (sl : List (Pl × β)) (p : Pl) : last sl p = none ↔ ∀ q ∈ sl, q.1 ≠ p := by
 induction sl with
 | nil => simp [last]
 | cons x r ih =>
   rw [last]
   by_cases h : x.1 = p
   · simp [h]
   · simp [h, ih]
theorem upd_new {β : Type} (sl : List (Pl × β)) (p : Pl) (t : β) (h : last sl p = none) : upd sl p t = sl ++ [(p, t)] := by
 induction sl with
 | nil => rfl
 | cons x r ih =>
   rw [last] at h
   by_cases h2 : x.1 = p
   · simp [h2] at h
   · rw [if_neg h2] at h
     rw [upd, if_neg h2, ih h, List.cons_append]
theorem upd_old {β : Type} (sl : List (Pl × β)) (p : Pl) (t u : β) (h : last sl p = some u) : ∃ j, sl[j]? = some (p, u) ∧ upd sl p t = sl.set j (p, t) := by
 induction sl with
 | nil => cases h
 | cons x r ih =>
   rw [last] at h
   by_cases h2 : x.1 = p
   · rw [if_pos h2] at h
     obtain ⟨x1, x2⟩ := x
     simp only [Option.some.injEq] at h h2
     subst h; subst h2
     exact ⟨0, rfl, by rw [upd, if_pos rfl]; rfl⟩
   · rw [if_neg h2] at h
     obtain ⟨j, h3, h4⟩ := ih h
     exact ⟨j + 1, h3, by rw [upd, if_neg h2, h4]; rfl⟩
theorem upd_keys {β : Type} (sl : List (Pl × β)) (p : Pl) (t : β) (h : (sl.map (·.1)).Nodup) : ((upd sl p t).map (·.1)).Nodup := by
 cases hl : last sl p with
 | none =>
   rw [upd_new _ _ _ hl, List.map_append, List.nodup_append]
   refine ⟨h, by simp, fun a ha b hb => ?_⟩
   obtain ⟨q, hq, rfl⟩ := List.mem_map.1 ha
   simp only [List.map_cons, List.map_nil, List.mem_singleton] at hb
   subst hb
   exact (last_none _ _).1 hl q hq
 | some u =>
   obtain ⟨j, h1, h2⟩ := upd_old sl p t u hl
   rw [h2, List.map_set]
   have : (sl.map (·.1)).set j p = sl.map (·.1) := by
    apply List.ext_getElem?
    intro i
    rw [List.getElem?_set]
    by_cases hij : j = i
    · subst hij
      rw [if_pos rfl, List.getElem?_map, h1]
      simp [(List.getElem?_eq_some_iff.1 h1).1]
    · rw [if_neg hij]
   rw [this]; exact h
def ents {β : Type} (dv : β → Value) (sl : List (Pl × β)) : List (Value × Value) := sl.map fun q => (pv q.1, dv q.2)
theorem ents_keys {β : Type} (dv : β → Value) (sl : List (Pl × β)) : ∀ p ∈ ents dv sl, ∃ a, p.1 = pv a := by
 intro p hp
 obtain ⟨q, _, rfl⟩ := List.mem_map.1 hp
 exact ⟨q.1, rfl⟩
theorem ents_not {β : Type} (dv : β → Value) (sl : List (Pl × β)) (p : Pl) (h : last sl p = none) : ∀ q ∈ ents dv sl, q.1 ≠ pv p := by
 intro q hq e
 obtain ⟨x, hx, rfl⟩ := List.mem_map.1 hq
 exact (last_none _ _).1 h x hx (pv_inj _ _ e)
theorem ents_at {β : Type} (dv : β → Value) (sl : List (Pl × β)) (p : Pl) (u : β) (j : Nat) (h : sl[j]? = some (p, u)) : (ents dv sl)[j]? = some (pv p, dv u) := by
 rw [ents, List.getElem?_map, h]; rfl
theorem ents_one {β : Type} (dv : β → Value) (sl : List (Pl × β)) (p : Pl) (u : β) (j : Nat) (hn : (sl.map (·.1)).Nodup) (h : sl[j]? = some (p, u)) (i : Nat) (v : Value) (hi : (ents dv sl)[i]? = some (pv p, v)) : i = j := by
 rw [ents, List.getElem?_map] at hi
 cases hx : sl[i]? with
 | none => rw [hx] at hi; cases hi
 | some x =>
   rw [hx] at hi
   simp only [Option.map_some, Option.some.injEq, Prod.mk.injEq] at hi
   have e := pv_inj _ _ hi.1
   have h1 : (sl.map (·.1))[i]? = some p := by rw [List.getElem?_map, hx, Option.map_some, e]
   have h2 : (sl.map (·.1))[j]? = some p := by rw [List.getElem?_map, h, Option.map_some]
   exact (List.getElem?_inj (List.getElem?_eq_some_iff.1 h1).1 hn).1 (h1.trans h2.symm)
theorem store_upd {β : Type} {P : Program} {t k e : TypeId} (K : KeyL P k pv) (ht : P.underlying t = some (.map k e)) (dv : β → Value) (w : World) (b : Nat) (sl : List (Pl × β)) (p : Pl) (x : β) (h : MapB w b (ents dv sl)) (hn : (sl.map (·.1)).Nodup) :
    ∃ w', (Instr.mapUpdate t (.map (some b)) (pv p) (dv x)).run P w = .ok () w' ∧ MapB w' b (ents dv (upd sl p x)) ∧ Kp (fun i => i = b) w w' ∧ w'.heap.size = w.heap.size := by
 cases hl : last sl p with
 | none =>
   have := h.store_new (t := t) K (ents_keys dv sl) ht p (dv x) (ents_not dv sl p hl)
   rw [upd_new _ _ _ hl]
   simpa [ents] using this
 | some u =>
   obtain ⟨j, h1, h2⟩ := upd_old sl p x u hl
   have := h.store_at (t := t) K (ents_keys dv sl) ht p (dv x) j _ (ents_at dv sl p u j h1) (ents_one dv sl p u j hn h1)
   rw [h2, ents, List.map_set]
   exact this
theorem look_last {β : Type} {P : Program} {t k e : TypeId} (K : KeyL P k pv) (ht : P.underlying t = some (.map k e)) (dv : β → Value) {z : Value} (w : World) (hz : (zeroValue e).run P w = .ok z w) (b : Nat) (sl : List (Pl × β)) (p : Pl) (h : MapB w b (ents dv sl)) (hn : (sl.map (·.1)).Nodup) :
    (Instr.lookup t (.map (some b)) (pv p) true).run P w = .ok (.tuple (match last sl p with | none => #[z, .bool false] | some u => #[dv u, .bool true])) w := by
 cases hl : last sl p with
 | none => exact h.look_not K (ents_keys dv sl) ht hz p (ents_not dv sl p hl)
 | some u =>
   obtain ⟨j, h1, _⟩ := upd_old sl p u u hl
   have h2 := ents_at dv sl p u j h1
   refine h.look_has K (ents_keys dv sl) ht p (dv u) (List.mem_of_getElem? h2) fun v hv => ?_
   obtain ⟨i, hi, he⟩ := List.mem_iff_getElem.1 hv
   have h3 : (ents dv sl)[i]? = some (pv p, v) := by rw [List.getElem?_eq_getElem hi, he]
   have := ents_one dv sl p u j hn h1 i v h3
   subst this
   rw [h2] at h3
   simp only [Option.some.injEq, Prod.mk.injEq] at h3
   exact h3.2.symm
theorem upd_same {β : Type} (sl : List (Pl × β)) (p : Pl) (t : β) (h : last sl p = some t) : upd sl p t = sl := by
 induction sl with
 | nil => cases h
 | cons x r ih =>
   obtain ⟨x1, x2⟩ := x
   rw [last] at h
   by_cases h2 : x1 = p
   · rw [if_pos h2] at h
     simp only [Option.some.injEq] at h
     subst h; subst h2
     rw [upd, if_pos rfl]
   · rw [if_neg h2] at h
     rw [upd, if_neg h2, ih h]
theorem last_map {β γ : Type} (f : β → γ) (sl : List (Pl × β)) (p : Pl) : last (sl.map fun q => (q.1, f q.2)) p = (last sl p).map f := by
 induction sl with
 | nil => rfl
 | cons x r ih =>
   rw [List.map_cons, last, last]
   by_cases h : x.1 = p
   · rw [if_pos h, if_pos h]; rfl
   · rw [if_neg h, if_neg h, ih]
theorem upd_map {β γ : Type} (f : β → γ) (sl : List (Pl × β)) (p : Pl) (t : β) : upd (sl.map fun q => (q.1, f q.2)) p (f t) = (upd sl p t).map fun q => (q.1, f q.2) := by
 induction sl with
 | nil => rfl
 | cons x r ih =>
   rw [List.map_cons, upd, upd]
   by_cases h : x.1 = p
   · rw [if_pos h, if_pos h, List.map_cons]
   · rw [if_neg h, if_neg h, ih, List.map_cons]
theorem upd_mem {β : Type} (sl : List (Pl × β)) (p : Pl) (t : β) (q : Pl × β) (h : q ∈ upd sl p t) : q ∈ sl ∨ q = (p, t) := by
 induction sl with
 | nil => right; simpa [upd] using h
 | cons x r ih =>
   rw [upd] at h
   by_cases h2 : x.1 = p
   · rw [if_pos h2] at h
     rcases List.mem_cons.1 h with h | h
     · exact .inr h
     · exact .inl (List.mem_cons_of_mem _ h)
   · rw [if_neg h2] at h
     rcases List.mem_cons.1 h with h | h
     · exact .inl (by rw [h]; simp)
     · exact (ih h).imp (List.mem_cons_of_mem _) id
theorem last_mem {β : Type} (sl : List (Pl × β)) (p : Pl) (t : β) (h : last sl p = some t) : (p, t) ∈ sl := by
 induction sl with
 | nil => cases h
 | cons x r ih =>
   obtain ⟨x1, x2⟩ := x
   rw [last] at h
   by_cases h2 : x1 = p
   · rw [if_pos h2] at h
     simp only [Option.some.injEq] at h
     subst h; subst h2; simp
   · rw [if_neg h2] at h
     exact List.mem_cons_of_mem _ (ih h)
end Vault
namespace Kit
open Go Go.RowKit
theorem exec_invoke {P : Program} {a : Act} {o : Oper} {w : World} (f : FuncId) (T : TypeId) (u v : Value) (r : Operand) (nm : String) (xs : Array Operand) (ts : Array TypeId) (args : List Value) (ho : o.op = .call { callee := .invoke r nm, args := xs, argTypes := ts })
    (hr : a.eval r = .iface T u) (hm : (method (P.types.size + Made.depth) T u nm).run P w = .ok (f, v) w)
    (hf : (P.funcs[f]?).any (fun fn => !(fn.name == "runtime.NumGoroutine") && fn.body.isSome) = true) (hx : xs.toList.map a.eval = args) : (execOp a.eval o).run P w = .ok (.enter f (v :: args).toArray) w := by
 subst hx
 cases hq : P.funcs[f]? with
 | none => rw [hq] at hf; cases hf
 | some fn =>
   rw [hq] at hf
   simp only [Option.any_some, Bool.and_eq_true, Bool.not_eq_true'] at hf
   obtain ⟨h1, h2⟩ := hf
   have h3 : fn.body.isNone = false := by cases hb : fn.body <;> simp_all
   have e : ∀ zs : Array Value, (callFunc f zs).run P w = .ok (.enter f zs) w := by
    intro zs
    unfold callFunc
    simp [go_sem, hq]
    simp at h1
    cases hb : fn.body with
    | none => simp [hb] at h3
    | some c => simp [h1]
   have e2 : (#[v] ++ xs.map a.eval) = (v :: List.map a.eval xs.toList).toArray := by apply Array.ext'; simp
   unfold execOp
   simp only [ho, resolve, Sem.run_bind, Sem.run_pure, Result.andThen_ok]
   unfold Go.invoke
   have e3 : (#[a.eval r] ++ xs.map a.eval)[0]? = some (.iface T u) := by rw [hr, ← Array.getElem?_toList, Array.toList_append]; rfl
   have e4 : (#[a.eval r] ++ xs.map a.eval).extract 1 (#[a.eval r] ++ xs.map a.eval).size = xs.map a.eval   := by apply Array.ext'; simp; exact List.take_of_length_le (by simp)
   simp only [e3, e4]
   unfold callMethod
   simp only [Sem.run_bind, run_program, Result.andThen_ok, hm, e2, e]
end Kit
namespace Vault
open Go Go.RowKit Kit
open Ideal (Iw Iq Ans Arg Args Thing mk out sealT opn derT hashT z32)
open Sha (Pc PcsOk catP)
def Kpt (F : Nat → Prop) (w : World) (v m : Nat) (x : Value) (t : List UInt8) : Prop := ∃ A c, x = .slice A t.length c ∧ t.length ≤ c ∧ c ≤ maxLen ∧ (A = none → c = 0) ∧ Row w A (bvs t) ∧ ∀ k, ab A = some k → ¬ F k ∧ k ≠ v ∧ k ≠ m ∧ k < w.heap.size
def Vs (F : Nat → Prop) (w : World) (v m : Nat) (mk : Value) (ms : List UInt8) (lim : Nat) (sl : List (Pl × List UInt8)) (cl : Nat) : Prop :=
 ∃ sx : List (Pl × (Value × List UInt8)), sl = sx.map (fun q => (q.1, q.2.2)) ∧ Vb w v m mk ms lim (ents (·.1) sx) cl ∧ (sx.map (·.1)).Nodup ∧ ∀ q ∈ sx, Kpt F w v m q.2.1 q.2.2
theorem Kpt.keep {F G : Nat → Prop} {w w2 : World} {v m : Nat} {x : Value} {t : List UInt8} (h : Kpt F w v m x t) (k : Kp G w w2) (hG : ∀ i, G i → F i ∨ i = v ∨ i = m) : Kpt F w2 v m x t := by
 obtain ⟨A, c, h1, h2, h3, h4, h5, h6⟩ := h
 refine ⟨A, c, h1, h2, h3, h4, h5.keep k (fun i e e2 => ?_), fun i e => ?_⟩
 · obtain ⟨a1, a2, a3, _⟩ := h6 i e
   rcases hG i e2 with h | h | h
   · exact a1 h
   · exact a2 h
   · exact a3 h
 · obtain ⟨a1, a2, a3, a4⟩ := h6 i e
   exact ⟨a1, a2, a3, Nat.lt_of_lt_of_le a4 k.size⟩
theorem Vs.turnG {G G2 H : Nat → Prop} {w w2 : World} {v m : Nat} {mk : Value} {ms : List UInt8} {lim : Nat} {sl : List (Pl × List UInt8)} {cl : Nat} (h : Vs G w v m mk ms lim sl cl) (k : Kp H w w2) (hH : ∀ i, i < w.heap.size → H i → G i) (hv : ¬ H v) (hm : ¬ H m) (hG : ∀ i, G2 i → G i ∨ w.heap.size ≤ i) : Vs G2 w2 v m mk ms lim sl cl := by
 obtain ⟨sx, h1, h2, h3, h4⟩ := h
 refine ⟨sx, h1, h2.keep k hv hm, h3, fun q hq => ?_⟩
 obtain ⟨A, c, a1, a2, a3, a4, a5, a6⟩ := h4 q hq
 refine ⟨A, c, a1, a2, a3, a4, a5.keep k (fun i e e2 => ?_), fun i e => ?_⟩
 · obtain ⟨b1, b2, b3, b4⟩ := a6 i e
   exact b1 (hH i b4 e2)
 · obtain ⟨b1, b2, b3, b4⟩ := a6 i e
   exact ⟨fun e2 => (hG i e2).elim b1 (fun h => by omega), b2, b3, Nat.lt_of_lt_of_le b4 k.size⟩
theorem Vs.mono {F G : Nat → Prop} {w : World} {v m : Nat} {mk : Value} {ms : List UInt8} {lim : Nat} {sl : List (Pl × List UInt8)} {cl : Nat} (h : Vs G w v m mk ms lim sl cl) (hG : ∀ i, F i → G i) : Vs F w v m mk ms lim sl cl := by
 obtain ⟨sx, h1, h2, h3, h4⟩ := h
 refine ⟨sx, h1, h2, h3, fun q hq => ?_⟩
 obtain ⟨A, c, a1, a2, a3, a4, a5, a6⟩ := h4 q hq
 exact ⟨A, c, a1, a2, a3, a4, a5, fun i e => ⟨fun e2 => (a6 i e).1 (hG i e2), (a6 i e).2⟩⟩
theorem Vs.keep0 {F : Nat → Prop} {w w2 : World} {v m : Nat} {mk : Value} {ms : List UInt8} {lim : Nat} {sl : List (Pl × List UInt8)} {cl : Nat} (h : Vs F w v m mk ms lim sl cl) (k : Kp nob w w2) : Vs F w2 v m mk ms lim sl cl := by
 obtain ⟨sx, h1, h2, h3, h4⟩ := h
 exact ⟨sx, h1, h2.keep0 k, h3, fun q hq => (h4 q hq).keep k (fun i e => e.elim)⟩
theorem Vs.vb {F : Nat → Prop} {w : World} {v m : Nat} {mk : Value} {ms : List UInt8} {lim : Nat} {sl : List (Pl × List UInt8)} {cl : Nat} (h : Vs F w v m mk ms lim sl cl) : ∃ ps, Vb w v m mk ms lim ps cl := by
 obtain ⟨sx, h1, h2, h3, h4⟩ := h
 exact ⟨_, h2⟩
noncomputable def Vs.pp {F : Nat → Prop} {w : World} {v m : Nat} {mk : Value} {ms : List UInt8} {lim : Nat} {sl : List (Pl × List UInt8)} {cl : Nat} (h : Vs F w v m mk ms lim sl cl) : List (Value × Value) := h.vb.choose
theorem Vs.b {F : Nat → Prop} {w : World} {v m : Nat} {mk : Value} {ms : List UInt8} {lim : Nat} {sl : List (Pl × List UInt8)} {cl : Nat} (h : Vs F w v m mk ms lim sl cl) : Vb w v m mk ms lim h.pp cl := h.vb.choose_spec
theorem Vs.lt {F : Nat → Prop} {w : World} {v m : Nat} {mk : Value} {ms : List UInt8} {lim : Nat} {sl : List (Pl × List UInt8)} {cl : Nat} (h : Vs F w v m mk ms lim sl cl) : v < w.heap.size ∧ m < w.heap.size := by
 obtain ⟨ps, h2⟩ := h.vb
 exact ⟨h2.b.lt, h2.s.lt⟩
theorem Vs.mk_ {F : Nat → Prop} {w : World} {v m : Nat} {mk : Value} {ms : List UInt8} {lim : Nat} {sl : List (Pl × List UInt8)} {cl : Nat} (h : Vs F w v m mk ms lim sl cl) : w.cell? ⟨v, 0, none⟩ = some mk := by
 obtain ⟨ps, h2⟩ := h.vb
 exact h2.mk_
theorem vs_new {F : Nat → Prop} {w : World} {v m : Nat} {mk : Value} {ms : List UInt8} {lim : Nat} (h : Vb w v m mk ms lim [] 0) : Vs F w v m mk ms lim [] 0 := ⟨[], rfl, h, List.nodup_nil, fun q hq => by cases hq⟩
def clash (dif : List UInt8 → List UInt8 → Bool) (sl : List (Pl × List UInt8)) (p : Pl) (t : List UInt8) : Nat := match last sl p with | none => 0 | some u => if dif u t then 1 else 0
def vF (v m : Nat) : Nat → Prop := fun i => i = v ∨ i = m
def NoteC (dif : List UInt8 → List UInt8 → Bool) (Z : World → Prop) : Prop :=
 ∀ (F : Nat → Prop) (v m : Nat) (mk : Value) (ms : List UInt8) (lim : Nat) (sl : List (Pl × List UInt8)) (cl : Nat) (p : Pl) (T : Option Addr) (n c : Nat) (text : List UInt8) (w : World), Z w → Vs F w v m mk ms lim sl cl → (∀ k, F k → k < w.heap.size) → Arg w (vF v m) T n c text → cl ≤ 1099511627776 → text.length ≤ 1048576 →
  Calls Tryz.prog 127 #[.pointer (some ⟨v, 0, none⟩), pv p, .slice T n c] w fun e w' => e = .returned (.tuple #[]) ∧ Vs F w' v m mk ms lim (upd sl p text) (cl + clash dif sl p text) ∧ Kp (vF v m) w w'
theorem seal_no (v m : Nat) (mk : Value) (ms : List UInt8) (lim : Nat) (ps : List (Value × Value)) (cl : Nat) (K : Value) (e s : Int) (T B : Value) (w0 : World) (key : List UInt8) (hK : K = .agg (bvs key).toArray)
    (hv : Vb w0 v m mk ms lim ps cl) (hr : refu lim e s ≠ 0) :
    Calls Tryz.prog 113 #[.pointer (some ⟨v, 0, none⟩), K, .int .i64 e, .int .i64 s, T, B] w0 fun x w' => x = .returned (.tuple #[.slice none 0 0, .int .i64 (refu lim e s)]) ∧ Kp nob w0 w' := by
 subst hK
 have HV := Lib.hid (hv.keep0 ((Kp.refl nob w0).alloc (.cells (bvs key).toArray 77)))
 obtain ⟨r, hr2⟩ : ∃ r, r = refu lim e s := ⟨_, rfl⟩
 rw [← hr2] at hr ⊢
 have HR := Lib.hid hr2
 clear hr2 hv
 go_enter Tryz.func113, Tryz.ntmps113
 go_wp2_with fail
 refine (refused_any v m mk ms lim ps cl e s _ HV.out).mono ?_
 rintro x w1 ⟨rfl, rfl⟩
 rw [← HR.out]
 go_wp2
 go_ret2
 exact ⟨rfl, (Kp.refl nob w0).alloc _⟩
end Vault
end Go.Proofs.YtigdlnfgdjfdoaaGreat
