/- Package vault: what makes things in a world: keys, tags, digests. · Contracts of the writer of package code: texts. · Package vault: Key in a world. -/
import Derived.Test.YtmmpmncioifeoaaZG15
import Derived.Test.YtmmpmncioifeoaaZG17
import Derived.Test.YtmmpmncioifeoaaZG05
import Derived.Test.YtmmpmncioifeoaaZG04
import Derived.Test.YtmmpmncioifeoaaZG16
namespace Go.Proofs.Ytmmpmncioifeoaa.Vault
set_option linter.unusedVariables false
set_option linter.unusedSimpArgs false
open Go Go.RowKit Kit
open Ideal (Iw Iq Ans Arg Args Thing mk out sealT opn macT derT hashT z32 zc zc_run zc_length zc_eq args_one arr32_under)
open Sha (Pc PcsOk catP)

/-- A maker's block, a key's, an answer's. -/
structure Db (w0 : World) (t : TypeId) (G : Nat → Prop) (p : Nat) (l : List UInt8) (w : World) : Prop where
  m : Blk w w0.heap.size 45 [.pointer (some ⟨p, 0, none⟩)]
  p : Blk w (w0.heap.size + 1) 28 (bvs l)
  z : ∃ cs, Blk w (w0.heap.size + 2) t cs ∧ cs.length = 32
  k : Kp G w0 w
theorem Db.keep {w0 w w2 : World} {t : TypeId} {G : Nat → Prop} {p : Nat} {l : List UInt8} (h : Db w0 t G p l w) (k : Kp G w w2) (hG : ∀ i, G i → i < w0.heap.size) : Db w0 t G p l w2 := ⟨h.m.keep k (fun e => Nat.lt_irrefl _ (hG _ e)), h.p.keep k (fun e => by have := hG _ e; omega), (let ⟨cs, h1, h2⟩ := h.z; ⟨cs, h1.keep k (fun e => by have := hG _ e; omega), h2⟩), h.k.trans k (fun _ e => .inl e)⟩
theorem Db.keep0 {w0 w w2 : World} {t : TypeId} {G : Nat → Prop} {p : Nat} {l : List UInt8} (h : Db w0 t G p l w) (k : Kp nob w w2) : Db w0 t G p l w2 := ⟨h.m.keep k (fun e => e), h.p.keep k (fun e => e), (let ⟨cs, h1, h2⟩ := h.z; ⟨cs, h1.keep k (fun e => e), h2⟩), h.k.trans k (fun _ e => e.elim)⟩
theorem Db.zlt {w0 w : World} {t : TypeId} {G : Nat → Prop} {p : Nat} {l : List UInt8} (h : Db w0 t G p l w) : w0.heap.size + 2 < w.heap.size := let ⟨_, h1, _⟩ := h.z; h1.lt
theorem Db.key {w0 w : World} {t : TypeId} {G : Nat → Prop} {p : Nat} {k : List UInt8} (h : Db w0 t G p k w) (hk : k.length = 32) (F : Nat → Prop) (hF : ∀ i, F i → i < w0.heap.size) : Arg w F (some ⟨w0.heap.size + 1, 0, none⟩) 32 32 k :=
  ⟨hk, .inr ⟨w0.heap.size + 1, 0, rfl, h.p.lt, fun i v hv => by rw [Nat.zero_add, h.p.cell]; exact hv⟩, .inr (fun j e hj => by simp only [ab, Option.map_some, Option.some.injEq] at e; have := hF j hj; omega), Nat.le_refl _, by decide, fun e => by cases e⟩
theorem Db.new (w0 : World) (t : TypeId) (p : Nat) (l : List UInt8) : Db w0 t nob p l (((w0.alloc (.cells #[.pointer (some ⟨p, 0, none⟩)] 45)).alloc (.cells (bvs l).toArray 28)).alloc (.cells zc.toArray t)).drew :=
  ⟨(((Blk.new' rfl rfl).alloc _).alloc _).keep (Kp.refl nob _).drew (fun e => e), ((Blk.new' (by simp) rfl).alloc _).keep (Kp.refl nob _).drew (fun e => e), ⟨zc, (Blk.new' (by simp) rfl).keep (Kp.refl nob _).drew (fun e => e), zc_length⟩, ((((Kp.refl _ _).alloc _).alloc _).alloc _).drew⟩
theorem Db.to {w0 w : World} {t : TypeId} {G : Nat → Prop} {p : Nat} {l : List UInt8} (h : Db w0 t nob p l w) : Db w0 t G p l w := ⟨h.m, h.p, h.z, h.k.nob G⟩
theorem out_len32 (ts : List Thing) (t : Thing) : (bvs (out ts t 32)).length = 32 := by rw [bvs_length, Ideal.out_length _ _ _ (by omega)]
set_option maxHeartbeats 2000000 in
set_option maxRecDepth 100000 in
theorem im_derive (p : Nat) (F : Nat → Prop) (ts : List Thing) (key : List UInt8) (hk : key.length = 32) (T : Option Addr) (nt ct' : Nat) (text : List UInt8) (w0 : World)
    (hw : Iw w0 p F ts) (ht : Arg w0 F T nt ct' text) (hl : ts.length ≤ 100000) (lt : text.length ≤ 1048576) :
    Calls Try.prog 43 #[.agg #[.pointer (some ⟨p, 0, none⟩)], .agg (bvs key).toArray, .slice T nt ct'] w0 fun e w' => ∃ F2, e = .returned (.agg (bvs (out ts (derT key text) 32)).toArray) ∧ Iq w0 F w' p F2 (mk ts (derT key text)) := by
  have HW := Lib.hid hw
  have HKN := Lib.hid hk
  have HM := Lib.hid (Db.new w0 28 p key)
  have hz := zk_run
  have HT := Lib.hid ht; have HL := Lib.hid (And.intro hl lt); clear ht lt hl
  clear hw hk
  go_enter Try.func43, Try.ntmps43
  go_wp2
  generalize hw1 : (((w0.alloc (.cells #[.pointer (some ⟨p, 0, none⟩)] 45)).alloc (.cells (bvs key).toArray 28)).alloc (.cells zc.toArray 28)) = wb at *
  have HS : Hid (Db w0 28 F p key wb.drew) := Lib.hid HM.out.to
  have hF := HW.out.lt
  have HW1 := Lib.hid (HW.out.keep HM.out.k (fun _ _ e => e))
  have HTY := Lib.hid (HT.out.keep0 HM.out.k)
  clear hw1
  refine reg_begin (Db w0 28 F p key) (by kernel_rfl) HS.out (fun _ => ?_)
  refine reg_take (v := .pointer (some ⟨w0.heap.size, 0, none⟩)) 0 (some 7) rfl rfl (by kernel_rfl) (by kernel_rfl) (by kernel_rfl) (by rfl) HS.out (fun w hw => by go_simp) ?_
  simp only [Act.put, List.setIfInBounds_toArray, List.set_cons_zero, List.set_cons_succ]
  refine reg_take (v := .pointer (some ⟨p, 0, none⟩)) 1 (some 8) rfl rfl (by kernel_rfl) (by kernel_rfl) (by kernel_rfl) (by rfl) HS.out (fun w hw => by have hc : w.cell? ⟨w0.heap.size, 0, none⟩ = some (.pointer (some ⟨p, 0, none⟩)) := (by rw [hw.m.cell]; rfl); go_simp) ?_
  simp only [Act.put, List.setIfInBounds_toArray, List.set_cons_zero, List.set_cons_succ]
  refine reg_take (v := .slice (some ⟨w0.heap.size + 1, 0, none⟩) 32 32) 2 (some 9) rfl rfl (by kernel_rfl) (by kernel_rfl) (by kernel_rfl) (by rfl) HS.out (fun w hw => by have hc := key_all (w0.heap.size + 1) 0 w; go_simp) ?_
  simp only [Act.put, List.setIfInBounds_toArray, List.set_cons_zero, List.set_cons_succ]
  refine reg_take (v := .slice T nt ct') 3 (some 10) rfl rfl (by kernel_rfl) (by kernel_rfl) (by kernel_rfl) (by rfl) HS.out (fun w hw => by go_simp) ?_
  simp only [Act.put, List.setIfInBounds_toArray, List.set_cons_zero, List.set_cons_succ]
  have k9 : Kp nob w0 (wb.drew.alloc (.cells #[.slice T nt ct'] 29)) := HM.out.k.alloc _
  have HS1 : Hid (Db w0 28 F p key (wb.drew.alloc (.cells #[.slice T nt ct'] 29))) := Lib.hid (HS.out.keep0 ((Kp.refl nob _).alloc _))
  have HK9 := Lib.hid k9
  have HA := Lib.hid (args_one (t := 29) HTY.out HW1.out.lt)
  have HW2 := Lib.hid (HW1.out.keep ((Kp.refl nob _).alloc (.cells #[.slice T nt ct'] 29)) (fun _ _ e => e))
  clear k9
  refine reg_step (w' := wb.drew.alloc (.cells #[.slice T nt ct'] 29)) (v := .slice (some ⟨wb.drew.heap.size, 0, none⟩) 1 1) 4 (some 11) rfl rfl (by kernel_rfl) (by rfl) (by first | kernel_rfl | (go_simp; rfl)) HS1.out (fun _ => ?_)
  simp only [Act.put, List.setIfInBounds_toArray, List.set_cons_zero, List.set_cons_succ]
  refine reg_call 5 (some 12) rfl rfl (by kernel_rfl) (by rfl) _ _ (exec_func 48 _ _ [.pointer (some ⟨p, 0, none⟩), .slice (some ⟨w0.heap.size + 1, 0, none⟩) 32 32, .slice (some ⟨wb.drew.heap.size, 0, none⟩) 1 1] rfl (by kernel_rfl) rfl) ?_
  have hdv := Ideal.derive_i p F ts (some ⟨w0.heap.size + 1, 0, none⟩) 32 32 key _ _ 1 _ _ HW2.out (HS1.out.key HKN.out F hF) HA.out HL.out.1 (by rw [HKN.out]; omega) (by rw [Sha.catP_one]; exact HL.out.2)
  rw [Sha.catP_one] at hdv
  refine hdv.mono ?_
  clear hdv
  rintro e w2 ⟨F2, rfl, hq⟩
  have HNZ : Hid (¬ F2 (w0.heap.size + 2)) := Lib.hid (fun h => (hq.f _ h).elim (fun h => by have := hF _ h; omega) (fun h => by have := HS1.out.zlt; omega))
  have HQ := Lib.hid (hq.back HK9.out)
  have HS2 : Hid (Db w0 28 F p key w2) := Lib.hid (HS1.out.keep hq.k hF)
  clear hq HS HM HW1 HW2 HS1 HA HK9
  obtain ⟨D, hD⟩ : ∃ D, D = out ts (derT key text) 32 := ⟨_, rfl⟩
  have HTL := Lib.hid (show (bvs D).length = 32 by rw [hD]; exact out_len32 _ _)
  have HDD := Lib.hid hD
  rw [← hD]
  clear hD
  refine ⟨_, rfl, HS2.out, fun _ => ?_⟩
  simp only [Act.put, List.setIfInBounds_toArray, List.set_cons_zero, List.set_cons_succ]
  obtain ⟨cs, hcs, hcl⟩ := HS2.out.z
  refine reg_store 6 none 28 (.tmp 6) (.tmp 12) rfl rfl rfl (by kernel_rfl) (by rfl) (w0.heap.size + 2) 28 cs (bvs D) hcs rfl rfl (by rw [HTL.out, hcl]) (by rw [HTL.out]; kernel_rfl) (bvs_one _) ?_
  intro w4 hB4 k4 z4
  have HW4 := Lib.hid (HQ.out.i.keep k4 (fun i h e => HNZ.out (by have e : i = w0.heap.size + 2 := e; rw [← e]; exact h)))
  have hz4 : ¬ oneB (w0.heap.size + 2) w0.heap.size := fun e => by have e : w0.heap.size = w0.heap.size + 2 := e; omega
  have hz5 : ¬ oneB (w0.heap.size + 2) (w0.heap.size + 1) := fun e => by have e : w0.heap.size + 1 = w0.heap.size + 2 := e; omega
  have HK4 := Lib.hid (HQ.out.k.trans k4 (fun i e => .inr (by have e : i = w0.heap.size + 2 := e; omega)))
  have HB4 := Lib.hid hB4
  refine ⟨⟨HS2.out.m.keep k4 hz4, HS2.out.p.keep k4 hz5, ⟨_, hB4, HTL.out⟩, HK4.out⟩, fun _ => ?_⟩
  clear k4 z4 hB4 hz4 hz5 hcs hcl
  simp only [Act.put, List.setIfInBounds_toArray, List.set_cons_zero, List.set_cons_succ]
  refine reg_end (by kernel_rfl) ?_
  go_wp2
  have hsz : (Try.prog.info? 28).map (·.size) = some (bvs D).toArray.size := by rw [List.size_toArray, HTL.out]; kernel_rfl
  exact bodyPost_ret (results_cell_row rfl _ _ (w0.heap.size + 2) _ _ _ _ rfl HB4.out key_under rfl hsz) rfl (by first | exact ⟨F2, by rw [HDD.out], HW4.out, HQ.out.f, HK4.out⟩ | exact ⟨by rw [HDD.out], F2, HW4.out, HQ.out.f, HK4.out⟩)
set_option maxHeartbeats 2000000 in
set_option maxRecDepth 100000 in
theorem im_mac (p : Nat) (F : Nat → Prop) (ts : List Thing) (key : List UInt8) (hk : key.length = 32) (B : Option Addr) (m d : Nat) (ps : List Pc) (w0 : World)
    (hw : Iw w0 p F ts) (hp : Args w0 F B m ps) (hl : ts.length ≤ 100000) (lp : (catP ps).length ≤ 1048576) :
    Calls Try.prog 45 #[.agg #[.pointer (some ⟨p, 0, none⟩)], .agg (bvs key).toArray, .slice B m d] w0 fun e w' => ∃ F2, e = .returned (.agg (bvs (out ts (macT key (catP ps)) 32)).toArray) ∧ Iq w0 F w' p F2 (mk ts (macT key (catP ps))) := by
  have HW := Lib.hid hw
  have HKN := Lib.hid hk
  have HM := Lib.hid (Db.new w0 27 p key)
  have hz := zc_run
  have HP := Lib.hid hp; have HL := Lib.hid (And.intro hl lp); clear hp lp hl
  clear hw hk
  go_enter Try.func45, Try.ntmps45
  go_wp2
  generalize hw1 : (((w0.alloc (.cells #[.pointer (some ⟨p, 0, none⟩)] 45)).alloc (.cells (bvs key).toArray 28)).alloc (.cells zc.toArray 27)) = wb at *
  have HS : Hid (Db w0 27 F p key wb.drew) := Lib.hid HM.out.to
  have hF := HW.out.lt
  have HW1 := Lib.hid (HW.out.keep HM.out.k (fun _ _ e => e))
  have HTY := Lib.hid (HP.out.keep0 HM.out.k)
  clear hw1
  refine reg_begin (Db w0 27 F p key) (by kernel_rfl) HS.out (fun _ => ?_)
  refine reg_take (v := .pointer (some ⟨w0.heap.size, 0, none⟩)) 0 (some 7) rfl rfl (by kernel_rfl) (by kernel_rfl) (by kernel_rfl) (by rfl) HS.out (fun w hw => by go_simp) ?_
  simp only [Act.put, List.setIfInBounds_toArray, List.set_cons_zero, List.set_cons_succ]
  refine reg_take (v := .pointer (some ⟨p, 0, none⟩)) 1 (some 8) rfl rfl (by kernel_rfl) (by kernel_rfl) (by kernel_rfl) (by rfl) HS.out (fun w hw => by have hc : w.cell? ⟨w0.heap.size, 0, none⟩ = some (.pointer (some ⟨p, 0, none⟩)) := (by rw [hw.m.cell]; rfl); go_simp) ?_
  simp only [Act.put, List.setIfInBounds_toArray, List.set_cons_zero, List.set_cons_succ]
  refine reg_take (v := .slice (some ⟨w0.heap.size + 1, 0, none⟩) 32 32) 2 (some 9) rfl rfl (by kernel_rfl) (by kernel_rfl) (by kernel_rfl) (by rfl) HS.out (fun w hw => by have hc := key_all (w0.heap.size + 1) 0 w; go_simp) ?_
  simp only [Act.put, List.setIfInBounds_toArray, List.set_cons_zero, List.set_cons_succ]
  refine reg_take (v := .slice B m d) 3 (some 10) rfl rfl (by kernel_rfl) (by kernel_rfl) (by kernel_rfl) (by rfl) HS.out (fun w hw => by go_simp) ?_
  simp only [Act.put, List.setIfInBounds_toArray, List.set_cons_zero, List.set_cons_succ]
  refine reg_call 4 (some 11) rfl rfl (by kernel_rfl) (by rfl) _ _ (exec_func 50 _ _ [.pointer (some ⟨p, 0, none⟩), .slice (some ⟨w0.heap.size + 1, 0, none⟩) 32 32, .slice B m d] rfl (by kernel_rfl) rfl) ?_
  refine (Ideal.mac_i p F ts (some ⟨w0.heap.size + 1, 0, none⟩) 32 32 key B m d ps _ HW1.out (HS.out.key HKN.out F hF) HTY.out HL.out.1 (by rw [HKN.out]; omega) HL.out.2).mono ?_
  rintro e w2 ⟨F2, rfl, hq⟩
  have HNZ : Hid (¬ F2 (w0.heap.size + 2)) := Lib.hid (fun h => (hq.f _ h).elim (fun h => by have := hF _ h; omega) (fun h => by have := HS.out.zlt; omega))
  have HQ := Lib.hid (hq.back HM.out.k)
  have HS2 : Hid (Db w0 27 F p key w2) := Lib.hid (HS.out.keep hq.k hF)
  clear hq HS HM HW1
  obtain ⟨D, hD⟩ : ∃ D, D = out ts (macT key (catP ps)) 32 := ⟨_, rfl⟩
  have HTL := Lib.hid (show (bvs D).length = 32 by rw [hD]; exact out_len32 _ _)
  have HDD := Lib.hid hD
  rw [← hD]
  clear hD
  refine ⟨_, rfl, HS2.out, fun _ => ?_⟩
  simp only [Act.put, List.setIfInBounds_toArray, List.set_cons_zero, List.set_cons_succ]
  obtain ⟨cs, hcs, hcl⟩ := HS2.out.z
  refine reg_store 5 none 27 (.tmp 6) (.tmp 11) rfl rfl rfl (by kernel_rfl) (by rfl) (w0.heap.size + 2) 27 cs (bvs D) hcs rfl rfl (by rw [HTL.out, hcl]) (by rw [HTL.out]; kernel_rfl) (bvs_one _) ?_
  intro w4 hB4 k4 z4
  have HW4 := Lib.hid (HQ.out.i.keep k4 (fun i h e => HNZ.out (by have e : i = w0.heap.size + 2 := e; rw [← e]; exact h)))
  have hz4 : ¬ oneB (w0.heap.size + 2) w0.heap.size := fun e => by have e : w0.heap.size = w0.heap.size + 2 := e; omega
  have hz5 : ¬ oneB (w0.heap.size + 2) (w0.heap.size + 1) := fun e => by have e : w0.heap.size + 1 = w0.heap.size + 2 := e; omega
  have HK4 := Lib.hid (HQ.out.k.trans k4 (fun i e => .inr (by have e : i = w0.heap.size + 2 := e; omega)))
  have HB4 := Lib.hid hB4
  refine ⟨⟨HS2.out.m.keep k4 hz4, HS2.out.p.keep k4 hz5, ⟨_, hB4, HTL.out⟩, HK4.out⟩, fun _ => ?_⟩
  clear k4 z4 hB4 hz4 hz5 hcs hcl
  simp only [Act.put, List.setIfInBounds_toArray, List.set_cons_zero, List.set_cons_succ]
  refine reg_end (by kernel_rfl) ?_
  go_wp2
  have hsz : (Try.prog.info? 27).map (·.size) = some (bvs D).toArray.size := by rw [List.size_toArray, HTL.out]; kernel_rfl
  exact bodyPost_ret (results_cell_row rfl _ _ (w0.heap.size + 2) _ _ _ _ rfl HB4.out arr32_under rfl hsz) rfl (by first | exact ⟨F2, by rw [HDD.out], HW4.out, HQ.out.f, HK4.out⟩ | exact ⟨by rw [HDD.out], F2, HW4.out, HQ.out.f, HK4.out⟩)
end Go.Proofs.Ytmmpmncioifeoaa.Vault
namespace Go.Proofs.Ytmmpmncioifeoaa
set_option linter.unusedVariables false
set_option linter.unusedSimpArgs false
open Go Go.RowKit Kit

def svs (ss : List ByteArray) : List Value := ss.map .string
@[simp] theorem svs_length (ss : List ByteArray) : (svs ss).length = ss.length := by simp [svs]
theorem take_flat_le {α : Type} (f : α → List UInt8) (ns : List α) (k : Nat) : ((ns.take k).flatMap f).length ≤ (ns.flatMap f).length := by
  conv => rhs; rw [← List.take_append_drop k ns, List.flatMap_append, List.length_append]
  omega
set_option maxHeartbeats 800000 in
set_option maxRecDepth 100000 in
theorem wText (b : Nat) (A : Option Addr) (l : List UInt8) (B : Option Addr) (m d : Nat) (ss : List ByteArray) (w : World) (h : IsW w b A l) (hm : ss.length = m) (hr : Row w B (svs ss)) (hB : ∀ k, ab B = some k → ¬ WF b A k) (hmm : m ≤ 1099511627776) (hl : l.length + (ss.flatMap textB).length ≤ 1099511627776) :
    Calls Try.prog 21 #[.pointer (some ⟨b, 0, none⟩), .slice B m d] w fun e w' => e = .returned (.tuple #[]) ∧ WPost w b A (l ++ ss.flatMap textB) w' := by
  obtain ⟨i0, hi, hz0, hz1, hz2⟩ := info_parts u8_info
  go_enter Try.func21, Try.ntmps21
  go_wp2
  go_loopw [10] (fun i wr => ∃ (k : Nat) (A' : Option Addr), k ≤ m ∧ i = .int .i64 k ∧ IsW wr b A' (l ++ (ss.take k).flatMap textB) ∧ Kp (WF b A) w wr ∧ Grew A A' w.heap.size)
    (fun i _ => m - (intOf i).toNat)
  case atStart => exact ⟨0, A, Nat.zero_le _, rfl, by simpa using h, Kp.refl _ _, Grew.refl _ _⟩
  case round =>
    obtain ⟨k, A', hk, rfl, ho, hkp, hgr⟩ := hrel
    by_cases hlt : k < m
    · obtain ⟨x, hx⟩ : ∃ x, x = ss[k]'(by omega) := ⟨_, rfl⟩
      obtain ⟨bb, oo, rfl, hbb, hcell⟩ := hr.at_ (i := k) (by simp [hm]; exact hlt)
      have hce : wr.cell? ⟨bb, oo + k, none⟩ = some (.string x) := by rw [hkp.cell (p := ⟨bb, oo + k, none⟩) hbb (hB bb rfl), hcell, hx]; simp [svs]
      have hsn := flat_snoc textB ss k (by omega)
      rw [← hx] at hsn
      have hle := take_flat_le textB ss (k + 1)
      rw [hsn, List.length_append] at hle
      have HS := Lib.hid hsn; clear hsn
      have HX := Lib.hid hx; clear hx hcell
      have H := ho
      have hb := ho.lt
      by_cases hbig : x.size < 16777216
      · have htx : textB x = le 3 x.size ++ sl x := if_pos hbig
        have HT := Lib.hid htx
        have hxl : (textB x).length = 3 + x.size := by rw [htx]; simp
        clear htx
        obtain ⟨c, h1, h2, h3⟩ := ho
        obtain ⟨L, hL⟩ : ∃ L, L = (l ++ (ss.take k).flatMap textB).length := ⟨_, rfl⟩
        have hL' : L = l.length + ((ss.take k).flatMap textB).length := by rw [hL, List.length_append]
        have hLL : L + 3 + x.size ≤ 1099511627776 := by omega
        have hc : wr.cell? ⟨b, 0, none⟩ = some (.slice A' L c) := by rw [cell_of_heap h1, hL]; rfl
        rw [← hL] at h2
        have H1 := Lib.hid h1; clear h1
        clear hL hL' hle hxl
        have hbd : decide ((16777216 : Int) ≤ (x.size : Int)) = false := by simp; omega
        have hxs : 0 ≤ (x.size : Int) ∧ (x.size : Int) < 18446744073709551616 := by omega
        have HG := Lib.hid hbig; clear hbig
        go_wp2_with fail
        refine (appendLow_int A' L c _ _ 3 _ h2 (by omega) (by omega) (by omega) (by omega)).mono ?_
        rintro e w1 ⟨A'', c'', rfl, ho1, hk1, hg1⟩
        have HB := Lib.hid (hk1.block b hb h3)
        have hc1 : w1.cell? ⟨b, 0, none⟩ = some (.slice A' L c) := (hk1.cell (p := ⟨b, 0, none⟩) hb h3).trans hc
        have hf1 : w1.frozen? ⟨b, 0, none⟩ = false := (hk1.frozen (p := ⟨b, 0, none⟩) hb h3).trans (frozen_of_heap H1.out 0)
        have R := H.put hk1 ho1 hg1
        have ho2 := R.2.2
        have hb2 := R.1.lt
        have hk2 := R.2.1
        obtain ⟨L3, hL3⟩ : ∃ q, q = l ++ (ss.take k).flatMap textB ++ le 3 (x.size : Int).toNat := ⟨_, rfl⟩
        rw [← hL3] at ho2
        have R1 := R.1
        rw [← hL3] at R1
        have HL3 := Lib.hid hL3; clear hL3 R
        go_wp2_with (at_builtin; refine wpList_appS _ rfl (.tmp 32) (.tmp 33) 29 9 rfl 5 i0 u8_under u8_string hi hz0 hz1 hz2 A'' (L + 3) c'' (bvs L3) rfl ho2 x rfl (by omega) ?_)
        intro A3 c3 w3 ho3 hg3 hab3
        have hk3 := (Kp.refl (rowF A'') _).grown hg3 (fun k e => .inl e)
        obtain ⟨c4, q1, q2, q3⟩ := id R1
        have hc3 := (hk3.cell (p := ⟨b, 0, none⟩) hb2 q3).trans (cell_of_heap q1 0)
        have hf3 := (hk3.frozen (p := ⟨b, 0, none⟩) hb2 q3).trans (frozen_of_heap q1 0)
        have hlen3 : L3.length = L + 3 := by simpa using ho2.len
        have S0 : Grew A'' A3 (w1.setCell ⟨b, 0, none⟩ (.slice A'' (L + 3) c'')).heap.size := .of hab3 (by simp [World.setCell])
        have S := And.intro (R1.put (l' := L3 ++ sl x) hk3 (by rw [bvs_append]; exact ho3) S0) (And.intro True.intro S0)
        simp at hc3
        clear q1 hlen3 ho3 hab3 hg3
        go_wp2
        go_roundw
        case rel =>
          have hG2 : Grew A'' A3 (w1.setCell ⟨b, 0, none⟩ (.slice A'' (L + 3) c'')).heap.size := S.2.2
          refine ⟨k + 1, A3, by omega, by go_num, ?_, hkp.trans (hk2.trans S.1.2.1 (fun i hi => ?_)) (fun i hi => ?_), hgr.trans (hg1.trans hG2 (by simp [World.setCell]; exact hk1.size)) hkp.size⟩
          · have := S.1.1
            rwa [HL3.out, List.append_assoc, List.append_assoc, Int.toNat_natCast, ← HT.out, ← HS.out] at this
          · rcases hi with rfl | hi
            · exact .inl (.inl rfl)
            · exact (hg1.sub i hi).imp_left .inr
          · rcases hi with rfl | hi
            · exact .inl (.inl rfl)
            · exact (hgr.sub i hi).imp_left .inr
        case measure => simp [intOf]; omega
      · have hbd : decide ((16777216 : Int) ≤ (x.size : Int)) = true := by simp; omega
        have htx : textB x = [] := if_neg hbig
        rw [htx, List.append_nil] at HS
        clear hbig htx hle
        go_wp2
        go_roundw
        case rel => exact ⟨k + 1, A', by omega, by go_num, by rw [HS.out]; exact H, hkp, hgr⟩
        case measure => simp [intOf]; omega
    · go_wp2
      go_end0
      obtain rfl : k = m := by omega
      rw [List.take_of_length_le (by omega)] at ho
      exact ⟨rfl, A', ho, hkp, hgr⟩
end Go.Proofs.Ytmmpmncioifeoaa
namespace Go.Proofs.Ytmmpmncioifeoaa.Vault
set_option linter.unusedVariables false
set_option linter.unusedSimpArgs false
open Go Go.RowKit Kit
open Ideal (Iw Iq Ans Arg Args Thing mk out sealT opn macT derT hashT z32 zc zc_run zc_length zc_eq args_one arr32_under)
open Sha (Pc PcsOk catP)

/-- What a key is derived for. -/
def pur (s : ByteArray) (ns : List Int) : List UInt8 := textB s ++ ns.flatMap num8
theorem pur_le (s : ByteArray) (ns : List Int) : (pur s ns).length ≤ 3 + s.size + 8 * ns.length := by
  have := textB_le s
  rw [pur, List.length_append, nums_length]; omega
/-- The answer's block, and the writer's. -/
structure Kw (w : World) (A : Option Addr) (l : List UInt8) (w2 : World) : Prop where
  z : Blk w2 w.heap.size 28 zc
  i : IsW w2 (w.heap.size + 1) A l
  f : ∀ k, WF (w.heap.size + 1) A k → w.heap.size < k
  k : Kp nob w w2
theorem Kw.keep {w w2 w3 : World} {A : Option Addr} {l : List UInt8} (h : Kw w A l w2) (k : Kp nob w2 w3) : Kw w A l w3 := ⟨h.z.keep k (fun e => e), h.i.keep k (fun _ _ e => e), h.f, h.k.trans k (fun _ e => e.elim)⟩
theorem Kw.step {w w2 w3 : World} {A : Option Addr} {l l2 : List UInt8} (h : Kw w A l w2) (p : WPost w2 (w.heap.size + 1) A l2 w3) : ∃ A2, Kw w A2 l2 w3 := by
  obtain ⟨A2, h1, k2, g2⟩ := p
  have hs := h.k.size
  have hb := h.i.lt
  refine ⟨A2, h.z.keep k2 (fun e => Nat.lt_irrefl _ (h.f _ e)), h1, fun k hk => ?_, h.k.since k2 (fun i e => Nat.le_of_lt (h.f i e))⟩
  rcases hk with rfl | hk
  · omega
  · rcases g2 with g | ⟨j, g, hj⟩
    · rw [g] at hk; exact h.f k (.inr hk)
    · rw [g] at hk
      simp only [Option.some.injEq] at hk
      omega
set_option maxHeartbeats 4000000 in
set_option maxRecDepth 100000 in
theorem key_i (v m p : Nat) (F : Nat → Prop) (ts : List Thing) (ms : List UInt8) (lim : Nat) (ps : List (Value × Value)) (cl : Nat) (s : ByteArray) (B : Option Addr) (n c : Nat) (ns : List Int) (w : World)
    (hv : Vb w v m (imk p) ms lim ps cl) (hw : Iw w p F ts) (hF : ¬ F v ∧ ¬ F m) (hn : ns.length = n) (hr : Row w B (ivs ns)) (hB : ∀ k, ab B = some k → k < w.heap.size) (hl : ts.length ≤ 100000) (hs : s.size ≤ 100000) (hns : n ≤ 10000) :
    Calls Try.prog 13 #[.pointer (some ⟨v, 0, none⟩), .string s, .slice B n c] w fun x w' => ∃ F2, x = .returned (.agg (bvs (out ts (derT ms (pur s ns)) 32)).toArray) ∧ Iq w F w' p F2 (mk ts (derT ms (pur s ns))) := by
  have hz := zk_run
  have HV := Lib.hid hv; have HW := Lib.hid hw
  have HH := Lib.hid (And.intro hn (And.intro hl (And.intro hs hns)))
  have HL := Lib.hid (show (pur s ns).length ≤ 1048576 by have := pur_le s ns; omega)
  have HTX := Lib.hid (show (textB s).length ≤ 200000 by have := textB_le s; omega)
  have H0 : Hid (Kw w none [] (((w.alloc (.cells zc.toArray 28)).alloc (.cells #[.slice none 0 0] 65)).alloc (.cells #[.string s] 9))) := Lib.hid (by
    have := isW_new (w.alloc (.cells zc.toArray 28))
    rw [show (w.alloc (.cells zc.toArray 28)).heap.size = w.heap.size + 1 by simp] at this
    refine ⟨((Blk.new' rfl rfl).alloc _).alloc _, this.alloc _, fun k hk => ?_, (((Kp.refl _ _).alloc _).alloc _).alloc _⟩
    rcases hk with rfl | hk
    · omega
    · cases hk)
  have HR0 : Hid (Row (((w.alloc (.cells zc.toArray 28)).alloc (.cells #[.slice none 0 0] 65)).alloc (.cells #[.string s] 9)) (some ⟨w.heap.size + 1 + 1, 0, none⟩) (svs [s])) := Lib.hid (by
    have := row_new ((w.alloc (.cells zc.toArray 28)).alloc (.cells #[.slice none 0 0] 65)) (svs [s]) 9
    rw [show ((w.alloc (.cells zc.toArray 28)).alloc (.cells #[.slice none 0 0] 65)).heap.size = w.heap.size + 1 + 1 by simp] at this
    exact this)
  have HRN := Lib.hid hr
  have HBN := Lib.hid hB
  clear hv hw hr hB hn hl hs hns
  go_enter Try.func13, Try.ntmps13
  go_wp2_with fail
  refine (wText (w.heap.size + 1) none [] (some ⟨w.heap.size + 1 + 1, 0, none⟩) 1 1 [s] _ ?own rfl ?row (fun k hk => ?far) (by omega) (by have := HTX.out; simpa using (by omega : (textB s).length ≤ 1099511627776))).mono ?_
  case own => exact H0.out.i
  case row => exact HR0.out
  case far =>
    simp only [ab, Option.map_some, Option.some.injEq] at hk
    rintro (h | h)
    · omega
    · cases h
  rintro x w2 ⟨rfl, hp⟩
  obtain ⟨A2, h2⟩ := H0.out.step hp
  rw [show [] ++ [s].flatMap textB = textB s by simp] at h2
  have H2 := Lib.hid h2
  clear h2 hp H0 HR0
  go_wp2_with fail
  refine (wNum (w.heap.size + 1) A2 (textB s) B n c ns w2 H2.out.i HH.out.1 (HRN.out.keep0 H2.out.k) (fun k hk h => by have := H2.out.f k h; have := HBN.out k hk; omega) (by have := HH.out.2.2.2; omega) (by have := HTX.out; have := HH.out.2.2.2; omega)).mono ?_
  rintro x w3 ⟨rfl, hp⟩
  obtain ⟨A3, h3⟩ := H2.out.step hp
  have H3 : Hid (Kw w A3 (pur s ns) w3) := Lib.hid h3
  clear h3 hp H2
  go_wp2
  have HV3 := Lib.hid (HV.out.keep0 H3.out.k)
  have HW3 := Lib.hid (HW.out.keep H3.out.k (fun _ _ e => e))
  have hF3 := HW.out.lt
  have HS : Hid (Kp F w w3.drew ∧ Vb w3.drew v m (imk p) ms lim ps cl ∧ ∃ cs, Blk w3.drew w.heap.size 28 cs ∧ cs.length = 32) := Lib.hid ⟨(H3.out.k.nob F).drew, HV3.out.keep0 (Kp.refl nob _).drew, zc, H3.out.z.keep (Kp.refl nob _).drew (fun e => e), zc_length⟩
  have HMS := Lib.hid (key_size ms HV.out.l)
  refine reg_begin (fun w4 => Kp F w w4 ∧ Vb w4 v m (imk p) ms lim ps cl ∧ ∃ cs, Blk w4 w.heap.size 28 cs ∧ cs.length = 32) (by kernel_rfl) HS.out (fun _ => ?_)
  refine reg_take (v := .pointer (some ⟨v, 0, none⟩)) 0 (some 16) rfl rfl (by kernel_rfl) (by kernel_rfl) (by kernel_rfl) (by rfl) HS.out (fun w hw => by go_simp) ?_
  simp only [Act.put, List.setIfInBounds_toArray, List.set_cons_zero, List.set_cons_succ]
  refine reg_take (v := .pointer (some ⟨v, 0, none⟩)) 1 (some 17) rfl rfl (by kernel_rfl) (by kernel_rfl) (by kernel_rfl) (by rfl) HS.out (fun w hw => by go_simp) ?_
  simp only [Act.put, List.setIfInBounds_toArray, List.set_cons_zero, List.set_cons_succ]
  refine reg_take (v := .pointer (some ⟨v, 0, none⟩)) 2 (some 18) rfl rfl (by kernel_rfl) (by kernel_rfl) (by kernel_rfl) (by rfl) HS.out (fun w hw => by go_simp) ?_
  simp only [Act.put, List.setIfInBounds_toArray, List.set_cons_zero, List.set_cons_succ]
  refine reg_take (v := imk p) 3 (some 19) rfl rfl (by kernel_rfl) (by kernel_rfl) (by kernel_rfl) (by rfl) HS.out (fun w hw => by have hc := hw.2.1.mk_; go_simp) ?_
  simp only [Act.put, List.setIfInBounds_toArray, List.set_cons_zero, List.set_cons_succ]
  refine reg_take (v := .pointer (some ⟨v, 0, none⟩)) 4 (some 20) rfl rfl (by kernel_rfl) (by kernel_rfl) (by kernel_rfl) (by rfl) HS.out (fun w hw => by go_simp) ?_
  simp only [Act.put, List.setIfInBounds_toArray, List.set_cons_zero, List.set_cons_succ]
  refine reg_take (v := .pointer (some ⟨v, 0, none⟩)) 5 (some 21) rfl rfl (by kernel_rfl) (by kernel_rfl) (by kernel_rfl) (by rfl) HS.out (fun w hw => by go_simp) ?_
  simp only [Act.put, List.setIfInBounds_toArray, List.set_cons_zero, List.set_cons_succ]
  refine reg_take (v := .pointer (some ⟨v, 1, none⟩)) 6 (some 22) rfl rfl (by kernel_rfl) (by kernel_rfl) (by kernel_rfl) (by rfl) HS.out (fun w hw => by go_simp) ?_
  simp only [Act.put, List.setIfInBounds_toArray, List.set_cons_zero, List.set_cons_succ]
  refine reg_load 7 (some 23) 28 (.tmp 22) rfl rfl rfl (by kernel_rfl) (by kernel_rfl) (by kernel_rfl) (by rfl) HS.out v 1 rfl (bvs ms) _ (fun w hw => hw.2.1.ms_) key_under rfl HMS.out ?_
  simp only [Act.put, List.setIfInBounds_toArray, List.set_cons_zero, List.set_cons_succ]
  refine reg_take (v := imk p) 9 (some 25) rfl rfl (by kernel_rfl) (by kernel_rfl) (by kernel_rfl) (by rfl) HS.out (fun w hw => by first | (go_simp; done) | kernel_rfl) ?_
  simp only [Act.put, List.setIfInBounds_toArray, List.set_cons_zero, List.set_cons_succ]
  refine reg_take (v := imk p) 10 (some 26) rfl rfl (by kernel_rfl) (by kernel_rfl) (by kernel_rfl) (by rfl) HS.out (fun w hw => by go_simp) ?_
  simp only [Act.put, List.setIfInBounds_toArray, List.set_cons_zero, List.set_cons_succ]
  refine reg_call 8 (some 24) rfl rfl (by kernel_rfl) (by rfl) _ _ (exec_func 23 _ _ [.pointer (some ⟨w.heap.size + 1, 0, none⟩)] rfl (by kernel_rfl) rfl) ?_
  have H3d := Lib.hid (H3.out.keep (Kp.refl nob w3).drew)
  refine (wBytes (w.heap.size + 1) A3 (pur s ns) _ H3d.out.i (by have := HL.out; omega)).mono ?_
  rintro x w5 ⟨Y, cY, rfl, hY, k5, fY, nY⟩
  have k05 := H3d.out.k.trans k5 (fun _ e => e.elim)
  have HA : Hid (Arg w5 F Y (pur s ns).length cY (pur s ns)) := Lib.hid ⟨rfl, hY.row, .inr (fun k e h => by have := fY k e; have := hF3 k h; have := H3d.out.k.size; omega), hY.cap.1, hY.cap.2, nY⟩
  have HS5 : Hid (Kp F w w5 ∧ Vb w5 v m (imk p) ms lim ps cl ∧ ∃ cs, Blk w5 w.heap.size 28 cs ∧ cs.length = 32) := Lib.hid ⟨k05.nob F, HS.out.2.1.keep0 k5, zc, H3d.out.z.keep k5 (fun e => e), zc_length⟩
  have HW5 := Lib.hid (HW.out.keep k05 (fun _ _ e => e))
  have HK5 := Lib.hid k05
  clear hY k5 fY nY k05
  refine ⟨_, rfl, HS5.out, fun _ => ?_⟩
  simp only [Act.put, List.setIfInBounds_toArray, List.set_cons_zero, List.set_cons_succ]
  refine reg_call 11 (some 27) rfl rfl (by kernel_rfl) (by rfl) _ _ (exec_invoke 43 45 (.agg #[.pointer (some ⟨p, 0, none⟩)]) (.agg #[.pointer (some ⟨p, 0, none⟩)]) _ _ _ _ [.agg (bvs ms).toArray, .slice Y (pur s ns).length cY] rfl rfl (by kernel_rfl) (by kernel_rfl) rfl) ?_
  refine (im_derive p F ts ms HV.out.l Y _ cY (pur s ns) w5 HW5.out HA.out HH.out.2.1 HL.out).mono ?_
  rintro x w6 ⟨F2, rfl, hq⟩
  have HNZ : Hid (¬ F2 w.heap.size) := Lib.hid (fun h => (hq.f _ h).elim (fun h => Nat.lt_irrefl _ (hF3 _ h)) (fun h => by obtain ⟨cs, h1, _⟩ := HS5.out.2.2; have := h1.lt; omega))
  have HFZ : Hid (¬ F w.heap.size) := Lib.hid (fun h => Nat.lt_irrefl _ (hF3 _ h))
  have HQ := Lib.hid (hq.back HK5.out)
  have HS6 : Hid (Kp F w w6 ∧ Vb w6 v m (imk p) ms lim ps cl ∧ ∃ cs, Blk w6 w.heap.size 28 cs ∧ cs.length = 32) := Lib.hid ⟨HQ.out.k, HS5.out.2.1.keep hq.k hF.1 hF.2, let ⟨cs, h1, h2⟩ := HS5.out.2.2; ⟨cs, h1.keep hq.k HFZ.out, h2⟩⟩
  clear hq
  obtain ⟨D, hD⟩ : ∃ D, D = out ts (derT ms (pur s ns)) 32 := ⟨_, rfl⟩
  have HTL := Lib.hid (show (bvs D).length = 32 by rw [hD]; exact out_len32 _ _)
  have HDD := Lib.hid hD
  rw [← hD]
  clear hD
  refine ⟨_, rfl, HS6.out, fun _ => ?_⟩
  simp only [Act.put, List.setIfInBounds_toArray, List.set_cons_zero, List.set_cons_succ]
  obtain ⟨cs, hcs, hcl⟩ := HS6.out.2.2
  refine reg_store 12 none 28 (.tmp 6) (.tmp 27) rfl rfl rfl (by kernel_rfl) (by rfl) w.heap.size 28 cs (bvs D) hcs rfl rfl (by rw [HTL.out, hcl]) (by rw [HTL.out]; kernel_rfl) (bvs_one _) ?_
  intro w7 hB7 k7 z7
  have HW7 := Lib.hid (HQ.out.i.keep k7 (fun i h e => HNZ.out (by have e : i = w.heap.size := e; rw [← e]; exact h)))
  have HK7 := Lib.hid (HQ.out.k.trans k7 (fun i e => .inr (by have e : i = w.heap.size := e; omega)))
  have hv1 := HV.out.b.lt
  have hm1 := HV.out.s.lt
  have HB7 := Lib.hid hB7
  refine ⟨⟨HK7.out, HS6.out.2.1.keep k7 (fun e => by have e : v = w.heap.size := e; omega) (fun e => by have e : m = w.heap.size := e; omega), ⟨_, hB7, HTL.out⟩⟩, fun _ => ?_⟩
  clear k7 z7 hB7 hcs hcl hv1 hm1
  simp only [Act.put, List.setIfInBounds_toArray, List.set_cons_zero, List.set_cons_succ]
  refine reg_end (by kernel_rfl) ?_
  go_wp2
  have hsz : (Try.prog.info? 28).map (·.size) = some (bvs D).toArray.size := by rw [List.size_toArray, HTL.out]; kernel_rfl
  exact bodyPost_ret (results_cell_row rfl _ _ w.heap.size _ _ _ _ rfl HB7.out key_under rfl hsz) rfl (by first | exact ⟨F2, by rw [HDD.out], HW7.out, HQ.out.f, HK7.out⟩ | exact ⟨by rw [HDD.out], F2, HW7.out, HQ.out.f, HK7.out⟩)
end Go.Proofs.Ytmmpmncioifeoaa.Vault
