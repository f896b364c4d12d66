/- Lemmas: HmacSg HmacAg HmacBg HmacCg HmacDg HmacGg. -/
import Derived.Test.YtiimfhacnfdmhaaGreatZG22
set_option linter.unusedVariables false
set_option linter.unusedSimpArgs false
namespace Go.Proofs.YtiimfhacnfdmhaaGreat.Hmac
open Go Go.RowKit Kit
def pad (l : List UInt8) : List UInt8 := l ++ List.replicate (64 - l.length) 0
theorem pad_length {l : List UInt8} (h : l.length ≤ 64) : (pad l).length = 64 := by simp [pad]; omega
def full [Inhabited Sha.ShaTab] (k : List UInt8) : List UInt8 := pad (if 64 < k.length then Sha.of k else k)
theorem full_eq [Inhabited Sha.ShaTab] (k : List UInt8) : full k = pad (if 64 < k.length then Sha.of k else k) := rfl
theorem full_length [Inhabited Sha.ShaTab] (k : List UInt8) : (full k).length = 64 := by
  unfold full; split
  · exact pad_length (by rw [Sha.of_length]; omega)
  · exact pad_length (by omega)
def mask (c : UInt8) (l : List UInt8) : List UInt8 := l.map (· ^^^ c)
theorem mask_length (c : UInt8) (l : List UInt8) : (mask c l).length = l.length := by simp [mask]
def ik [Inhabited Sha.ShaTab] (k : List UInt8) : List UInt8 := mask 54 (full k)
def ok [Inhabited Sha.ShaTab] (k : List UInt8) : List UInt8 := mask 92 (full k)
theorem ik_eq [Inhabited Sha.ShaTab] (k : List UInt8) : ik k = mask 54 (full k) := rfl
theorem ok_eq [Inhabited Sha.ShaTab] (k : List UInt8) : ok k = mask 92 (full k) := rfl
theorem ik_length [Inhabited Sha.ShaTab] (k : List UInt8) : (ik k).length = 64 := by rw [ik, mask_length, full_length]
theorem ok_length [Inhabited Sha.ShaTab] (k : List UInt8) : (ok k).length = 64 := by rw [ok, mask_length, full_length]
def mac [Inhabited Sha.ShaTab] (k l : List UInt8) : List UInt8 := Sha.of (ok k ++ Sha.of (ik k ++ l))
theorem mac_length [Inhabited Sha.ShaTab] (k l : List UInt8) : (mac k l).length = 32 := Sha.of_length _
theorem mac_eq [Inhabited Sha.ShaTab] (k l : List UInt8) : mac k l = Sha.of (ok k ++ Sha.of (ik k ++ l)) := rfl
attribute [irreducible] mac ik ok full
open Sha (Tabs Far Has Pc PcsOk catP u8s_under arr32b)
theorem arr64 : Tryz.prog.underlying 215 = some (.array 64 5) := by kernel_rfl
theorem ofInt_u8 (a : UInt8) : (BitVec.ofInt 8 (a.toNat : Int)).toNat = a.toNat := by
  rw [BitVec.ofInt_natCast, BitVec.toNat_ofNat]; exact Nat.mod_eq_of_lt a.toNat_lt
theorem wrap_u8 (n : Nat) : IntKind.u8.wrap (n : Int) = ((UInt8.ofNat n).toNat : Int) := by
  rw [IntKind.wrap_u8]; simp
@[go_sem] theorem u8_xor (a b : UInt8) : bits .xor .u8 (a.toNat : Int) (b.toNat : Int) = ((a ^^^ b).toNat : Int) := by
  show IntKind.u8.wrap ((BitVec.ofInt 8 (a.toNat : Int) ^^^ BitVec.ofInt 8 (b.toNat : Int)).toNat : Int) = _
  rw [BitVec.toNat_xor, ofInt_u8, ofInt_u8, wrap_u8, ← UInt8.toNat_xor, UInt8.ofNat_toNat]
@[go_sem] theorem u8_or (a b : UInt8) : bits .or .u8 (a.toNat : Int) (b.toNat : Int) = ((a ||| b).toNat : Int) := by
  show IntKind.u8.wrap ((BitVec.ofInt 8 (a.toNat : Int) ||| BitVec.ofInt 8 (b.toNat : Int)).toNat : Int) = _
  rw [BitVec.toNat_or, ofInt_u8, ofInt_u8, wrap_u8, ← UInt8.toNat_or, UInt8.ofNat_toNat]
theorem mask_step (c : UInt8) (l : List UInt8) (k : Nat) (h : k < l.length) :
    ((mask c l).take k ++ l.drop k).set k (l[k] ^^^ c) = (mask c l).take (k + 1) ++ l.drop (k + 1) := by
  have hz : ((mask c l).take k).length = k := by simp [mask_length]; omega
  rw [List.set_append_right _ _ (by omega), hz, Nat.sub_self, List.drop_eq_getElem_cons h, List.set_cons_zero, List.take_succ_eq_append_getElem (by rw [mask_length]; exact h)]
  simp [mask]
theorem mask_at (c : UInt8) (l : List UInt8) (k : Nat) (h : k < l.length) : ((mask c l).take k ++ l.drop k)[k]? = some l[k] := by
  have hz : ((mask c l).take k).length = k := by simp [mask_length]; omega
  rw [List.getElem?_append_right (by omega), hz, Nat.sub_self, List.getElem?_drop, Nat.add_zero, List.getElem?_eq_getElem h]
set_option maxHeartbeats 1000000 in
set_option maxRecDepth 100000 in
theorem masked_any (l : List UInt8) (hl : l.length = 64) (c : UInt8) (w : World) :
    Calls Tryz.prog 163 #[.agg (bvs l).toArray, .int .u8 c.toNat] w fun e w' => e = .returned (.agg (bvs (mask c l)).toArray) ∧ Kp nob w w' := by
  have HL := Lib.hid hl; clear hl
  go_enter Tryz.func163, Tryz.ntmps163
  go_wp2
  go_loopw [6] (fun vi wr => ∃ k : Nat, k ≤ 64 ∧ vi = .int .i64 k ∧ Blk wr w.heap.size 215 (bvs ((mask c l).take k ++ l.drop k)) ∧ (∃ z, z.length = 64 ∧ Blk wr (w.heap.size + 1) 215 z) ∧ Kp nob w wr)
    (fun vi _ => 64 - (intOf vi).toNat)
  case atStart => exact ⟨0, by omega, rfl, by simpa using (Blk.new' rfl rfl).alloc _, ⟨_, rfl, Blk.new' (by simp) rfl⟩, ((Kp.refl _ _).alloc _).alloc _⟩
  case round =>
    obtain ⟨k, hk, rfl, h1, ⟨z, hz, h2⟩, hkp⟩ := hrel
    have H1 := Lib.hid h1; have H2 := Lib.hid h2; have HZ := Lib.hid hz
    clear h1 h2 hz
    by_cases hlt : k < 64
    · have hkl : k < l.length := by rw [HL.out]; exact hlt
      obtain ⟨x, hx⟩ : ∃ x, x = l[k] := ⟨_, rfl⟩
      have hc : wr.cell? ⟨w.heap.size, k, none⟩ = some (.int .u8 x.toNat) := by
        rw [H1.out.cell, bvs, List.getElem?_map, mask_at c l k hkl, hx]; rfl
      have hf : wr.frozen? ⟨w.heap.size, k, none⟩ = false := H1.out.frozen _
      have HX := Lib.hid hx
      clear hx
      go_wp2
      go_roundw
      case rel =>
        refine ⟨k + 1, by omega, by go_num, ?_, ⟨z, HZ.out, H2.out.far (by simp) _⟩, hkp.setCell (p := ⟨w.heap.size, k, none⟩) (.inr (by simp)) _⟩
        have := H1.out.set_ k (bv (x ^^^ c))
        rw [bvs, ← List.map_set, HX.out, mask_step c l k (by rw [HL.out]; exact hlt), ← HX.out] at this
        exact this
      case measure => simp [intOf]; omega
    · obtain rfl : k = 64 := by omega
      have HB : Hid (Blk wr w.heap.size 215 (bvs (mask c l))) := Lib.hid (by
        have := H1.out
        rwa [List.take_of_length_le (by rw [mask_length, HL.out]; omega), List.drop_eq_nil_of_le (by rw [HL.out]; omega), List.append_nil] at this)
      have HM : Hid ((bvs (mask c l)).length = 64) := Lib.hid (by rw [bvs_length, mask_length, HL.out])
      clear H1
      go_wp2_with (first
        | (refine wpList_load_blk rfl 215 (.tmp 2) rfl _ _ _ HB.out rfl _ arr64 rfl (by rw [HM.out]; kernel_rfl) ?_)
        | (refine wpList_store_blk rfl 215 (.tmp 4) (.tmp 16) rfl _ _ z (bvs (mask c l)) H2.out rfl rfl (by rw [HZ.out, HM.out]) (by rw [HM.out]; kernel_rfl) (bvs_one _) ?_; intro w2 hB2 k2 z2))
      have hsz : (Tryz.prog.info? 215).map (·.size) = some (bvs (mask c l)).toArray.size := by
        rw [List.size_toArray, HM.out]; kernel_rfl
      refine bodyPost_ret (results_cell_row rfl _ _ (w.heap.size + 1) _ _ _ _ rfl hB2 arr64 rfl hsz) rfl ⟨rfl, hkp.since k2 (fun i e => by cases e; omega)⟩
theorem splice_pad (cs : List UInt8) (_ : cs.length ≤ 64) : splice (bvs (List.replicate 64 0)) 0 (bvs cs) = bvs (pad cs) := by
  rw [pad, splice, bvs_append, bvs_length, Nat.zero_add, List.take_zero, List.nil_append]
  congr 1
  rw [bvs, ← List.map_drop, List.drop_replicate]; rfl
set_option maxHeartbeats 1000000 in
set_option maxRecDepth 100000 in
theorem filled_short (A : Option Addr) (n c : Nat) (k : List UInt8) (w : World) (hk : k.length = n) (hr : Row w A (bvs k)) (hn : n ≤ 64) :
    Calls Tryz.prog 162 #[.slice A n c] w fun e w' => e = .returned (.agg (bvs (pad k)).toArray) ∧ Kp nob w w' := by
  have d1 : decide ((64 : Int) < (n : Int)) = false := by simp; omega
  have hpl := pad_length (l := k) (by omega)
  have HP : Hid ((bvs (pad k)).length = 64) := Lib.hid (by rw [bvs_length, hpl])
  have HK := Lib.hid hk; clear hk hpl
  go_enter Tryz.func162, Tryz.ntmps162
  go_wp2_with (first
    | (refine wpList_copy_blk rfl (.tmp 14) (.tmp 15) 42 42 rfl 5 u8s_under (by kernel_rfl) (w.heap.size + 1) 0 _ _ _ _ _ _ rfl rfl (bvs (List.replicate 64 0)) 215 (Blk.new' (by simp) rfl) (bvs k) (by rw [bvs_length, HK.out]; exact (Nat.min_eq_left hn).symm) (fun _ => rfl) ((hr.alloc _).alloc _) (by simp [HK.out]; omega) (bvs_one _) ?_
       intro w2 hB2 k2 z2
       have HB2 : Hid (Blk w2 (w.heap.size + 1) 215 (bvs (pad k))) := Lib.hid (by rw [← splice_pad _ (by rw [HK.out]; exact hn)]; exact hB2)
       obtain ⟨z, hz1, hz2⟩ : ∃ z, Blk w2 w.heap.size 215 z ∧ z.length = 64 := ⟨_, ((Blk.new' (w := w) rfl rfl).alloc _).keep k2 (fun e => by unfold oneB at e; omega), rfl⟩
       have K2 : Kp nob w w2 := (((Kp.refl nob w).alloc _).alloc _).since k2 (fun i e => by unfold oneB at e; omega)
       have HZ1 := Lib.hid hz1; have HZ2 := Lib.hid hz2
       clear k2 hB2 z2 hz1 hz2)
    | (refine wpList_load_blk rfl 215 (.tmp 3) rfl _ _ _ HB2.out rfl _ arr64 rfl (by rw [HP.out]; kernel_rfl) ?_)
    | (refine wpList_store_blk rfl 215 (.tmp 2) (.tmp 17) rfl _ _ z (bvs (pad k)) HZ1.out rfl rfl (by rw [HZ2.out, HP.out]) (by rw [HP.out]; kernel_rfl) (bvs_one _) ?_; intro w3 hB3 k3 z3))
  have hsz : (Tryz.prog.info? 215).map (·.size) = some (bvs (pad k)).toArray.size := by
    rw [List.size_toArray, HP.out]; kernel_rfl
  refine bodyPost_ret (results_cell_row rfl _ _ w.heap.size _ _ _ _ rfl hB3 arr64 rfl hsz) rfl ⟨rfl, K2.since k3 (fun i e => by cases e; omega)⟩
set_option maxHeartbeats 1000000 in
set_option maxRecDepth 100000 in
theorem filled_long [Inhabited Sha.ShaTab] (A : Option Addr) (n c : Nat) (k : List UInt8) (w : World) (ht : Tabs w) (hk : k.length = n) (hr : Row w A (bvs k)) (hc : n ≤ c) (hm : c ≤ maxLen) (hn : 64 < n) (hn2 : n ≤ 1099511627776) :
    Calls Tryz.prog 162 #[.slice A n c] w fun e w' => e = .returned (.agg (bvs (pad (Sha.of k))).toArray) ∧ Kp nob w w' := by
  have d1 : decide ((64 : Int) < (n : Int)) = true := by simp; omega
  obtain ⟨D, hD⟩ : ∃ D, D = Sha.of k := ⟨_, rfl⟩
  have hdl : D.length = 32 := by rw [hD, Sha.of_length]
  rw [← hD]
  have hpl := pad_length (l := D) (by omega)
  have HP : Hid ((bvs (pad D)).length = 64) := Lib.hid (by rw [bvs_length, hpl])
  have HK := Lib.hid hk; have HD := Lib.hid hD; have HDL := Lib.hid hdl
  clear hk hpl hD hdl
  go_enter Tryz.func162, Tryz.ntmps162
  go_wp2_with fail
  have K1 := fun (o1 o2 : Obj) => ((Kp.refl nob w).alloc o1).alloc o2
  refine (Sha.of_one ⟨A, n, c, k⟩ _ _ _ (by simp) (ht.keep0 (K1 _ _)) (Sha.pcs_one HK.out ((hr.alloc _).alloc _) (.inr (fun _ _ e => e)) hc hm) (by show k.length ≤ _; rw [HK.out]; exact hn2)).mono ?_
  rintro e w2 ⟨rfl, k2⟩
  have K2 := (K1 _ _).trans k2 (fun _ e => e.elim)
  rw [show Sha.of (Pc.l ⟨A, n, c, k⟩) = D from HD.out.symm]
  have H3 : Hid (Blk w2 (w.heap.size + 1) 215 (bvs (List.replicate 64 0))) := Lib.hid ((Blk.new' (by simp) rfl).keep k2 (fun e => e))
  obtain ⟨z, hz1, hz2⟩ : ∃ z, Blk w2 w.heap.size 215 z ∧ z.length = 64 := ⟨_, ((Blk.new' (w := w) rfl rfl).alloc _).keep k2 (fun e => e), rfl⟩
  have HZ1 := Lib.hid hz1; have HZ2 := Lib.hid hz2
  clear k2 K1 hz1 hz2
  go_wp2_with (refine wpList_store_new rfl 32 (.tmp 4) (.tmp 10) rfl _ (bvs D) rfl rfl (by rw [bvs_length, HDL.out]; rfl) (by rw [bvs_length, HDL.out]; kernel_rfl) (bvs_one _) ?_
               intro w3 hB3 k3 z3
               have HB3 := Lib.hid (hB3.keep (Kp.refl nob w3).drew (fun e => e))
               have H33 := Lib.hid ((H3.out.keep k3 (fun e => e)).keep (Kp.refl nob w3).drew (fun e => e))
               have HZ3 := Lib.hid ((HZ1.out.keep k3 (fun e => e)).keep (Kp.refl nob w3).drew (fun e => e))
               have K3 := K2.trans (k3.drew) (fun _ e => e.elim)
               clear k3 hB3 z3 K2)
  go_region_law (first | (refine step_copy_blk rfl (.tmp 11) (.tmp 12) 42 42 rfl 5 u8s_under (by kernel_rfl) (w.heap.size + 1) 0 _ _ _ _ _ _ rfl rfl (bvs (List.replicate 64 0)) 215 H33.out (bvs D) (by rw [bvs_length, HDL.out]; rfl) (fun _ => rfl) (.inr ⟨w2.heap.size, 0, rfl, HB3.out.lt, fun i u hu => by rw [Nat.zero_add, HB3.out.cell]; exact hu⟩) (by simp [HDL.out]) (bvs_one _) ?_; intro w4 hB4 k4 z4))
  have HB4 : Hid (Blk w4 (w.heap.size + 1) 215 (bvs (pad D))) := Lib.hid (by rw [← splice_pad _ (by rw [HDL.out]; omega)]; exact hB4)
  have HZ4 := Lib.hid (HZ3.out.keep k4 (fun e => by unfold oneB at e; omega))
  have K4 : Kp nob w w4 := K3.since k4 (fun i e => by unfold oneB at e; omega)
  clear k4 hB4 z4
  go_wp2_with (first
    | (refine wpList_load_blk rfl 215 (.tmp 3) rfl _ _ _ HB4.out rfl _ arr64 rfl (by rw [HP.out]; kernel_rfl) ?_)
    | (refine wpList_store_blk rfl 215 (.tmp 2) (.tmp 17) rfl _ _ z (bvs (pad D)) HZ4.out rfl rfl (by rw [HZ2.out, HP.out]) (by rw [HP.out]; kernel_rfl) (bvs_one _) ?_; intro w5 hB5 k5 z5))
  have hsz : (Tryz.prog.info? 215).map (·.size) = some (bvs (pad D)).toArray.size := by
    rw [List.size_toArray, HP.out]; kernel_rfl
  refine bodyPost_ret (results_cell_row rfl _ _ w.heap.size _ _ _ _ rfl hB5 arr64 rfl hsz) rfl ⟨rfl, K4.since k5 (fun i e => by cases e; omega)⟩
theorem filled_any [Inhabited Sha.ShaTab] (A : Option Addr) (n c : Nat) (k : List UInt8) (w : World) (ht : Tabs w) (hk : k.length = n) (hr : Row w A (bvs k)) (hc : n ≤ c) (hm : c ≤ maxLen) (hn2 : n ≤ 1099511627776) :
    Calls Tryz.prog 162 #[.slice A n c] w fun e w' => e = .returned (.agg (bvs (full k)).toArray) ∧ Kp nob w w' := by
  rw [full_eq]
  by_cases h : n ≤ 64
  · rw [if_neg (by omega)]; exact filled_short A n c k w hk hr h
  · rw [if_pos (by omega)]; exact filled_long A n c k w ht hk hr hc hm (by omega) hn2
theorem of_row [Inhabited Sha.ShaTab] (ps : List Pc) (w : World) (t : TypeId) (g : Nat) (hg : g = w.heap.size) (ht : Tabs w) (hp : PcsOk w nob ps) (hm : ps.length ≤ 1099511627776) (hl : (catP ps).length ≤ 1099511627776) :
    Calls Tryz.prog 137 #[.slice (some ⟨g, 0, none⟩) ps.length ps.length] (w.alloc (.cells (ps.map Pc.v).toArray t)) fun e w' => e = .returned (.agg (bvs (Sha.of (catP ps))).toArray) ∧ Kp nob w w' := by
  subst hg
  have K := (Kp.refl nob w).alloc (.cells (ps.map Pc.v).toArray t)
  refine (Sha.of_any (some ⟨w.heap.size, 0, none⟩) ps.length ps.length ps _ (ht.keep0 K) rfl (row_new w _ t) (hp.keep0 K) hm hl).mono ?_
  rintro e' w' ⟨rfl, k⟩
  exact ⟨rfl, K.trans k (fun _ e => e.elim)⟩
theorem pcs_cons {w : World} {F : Nat → Prop} {p : Pc} {ps : List Pc} (h : PcsOk w F [p]) (hs : PcsOk w F ps) : PcsOk w F (p :: ps) := by
  intro q hq
  rcases List.mem_cons.1 hq with rfl | hq
  · exact h q (by simp)
  · exact hs q hq
theorem of_two [Inhabited Sha.ShaTab] (p q : Pc) (w : World) (t : TypeId) (g : Nat) (hg : g = w.heap.size) (ht : Tabs w) (hp : PcsOk w nob [p]) (hq : PcsOk w nob [q]) (hl : p.l.length + q.l.length ≤ 1099511627776) :
    Calls Tryz.prog 137 #[.slice (some ⟨g, 0, none⟩) 2 2] (w.alloc (.cells #[.slice p.A p.n p.c, .slice q.A q.n q.c] t)) fun e w' => e = .returned (.agg (bvs (Sha.of (p.l ++ q.l))).toArray) ∧ Kp nob w w' := by
  have e : catP [p, q] = p.l ++ q.l := by simp [catP]
  have := of_row [p, q] w t g hg ht (pcs_cons hp hq) (by simp) (by rw [e, List.length_append]; exact hl)
  rw [e] at this
  exact this
structure MacIs [Inhabited Sha.ShaTab] (w : World) (b h : Nat) (k : List UInt8) : Prop where
  blk : Blk w b 217 (.pointer (some ⟨h, 0, none⟩) :: bvs (ok k))
  ne : h ≠ b
  far : Far h
theorem MacIs.keep [Inhabited Sha.ShaTab] {F : Nat → Prop} {w w' : World} {b h : Nat} {k : List UInt8} (m : MacIs w b h k) (hk : Kp F w w') (hf : ¬ F b) : MacIs w' b h k := ⟨m.blk.keep hk hf, m.ne, m.far⟩
theorem MacIs.hash [Inhabited Sha.ShaTab] {w : World} {b h : Nat} {k : List UInt8} (m : MacIs w b h k) : w.cell? ⟨b, 0, none⟩ = some (.pointer (some ⟨h, 0, none⟩)) := by rw [m.blk.cell]; rfl
theorem MacIs.lt [Inhabited Sha.ShaTab] {w : World} {b h : Nat} {k : List UInt8} (m : MacIs w b h k) : b < w.heap.size := m.blk.lt
theorem MacIs.outer [Inhabited Sha.ShaTab] {w : World} {b h : Nat} {k : List UInt8} (m : MacIs w b h k) : Row w (some ⟨b, 1, none⟩) (bvs (ok k)) :=
  .inr ⟨b, 1, rfl, m.lt, fun i u hu => by rw [m.blk.cell, Nat.add_comm, List.getElem?_cons_succ]; exact hu⟩
set_option maxHeartbeats 1000000 in
set_option maxRecDepth 100000 in
theorem sum_any [Inhabited Sha.ShaTab] (b h : Nat) (k l : List UInt8) (w : World) (hm : MacIs w b h k) (hh : Has w h (ik k ++ l)) (ht : Tabs w) (hl : l.length ≤ 1099511000000) :
    Calls Tryz.prog 151 #[.pointer (some ⟨b, 0, none⟩)] w fun e w' => e = .returned (.agg (bvs (mac k l)).toArray) ∧ Kp nob w w' := by
  have hil : (ik k ++ l).length ≤ 1099511627776 := by rw [List.length_append, ik_length]; omega
  obtain ⟨D, hD⟩ : ∃ D, D = Sha.of (ik k ++ l) := ⟨_, rfl⟩
  have hdl : D.length = 32 := by rw [hD, Sha.of_length]
  have hml := mac_length k l
  have hma : Sha.of (ok k ++ D) = mac k l := by rw [hD, mac_eq]
  have hok := ok_length k
  have HD := Lib.hid hD; have HDL := Lib.hid hdl; have HML := Lib.hid hml; have HMA := Lib.hid hma; have HOK := Lib.hid hok; have HIL := Lib.hid hil
  clear hD hdl hml hma hok hil
  have hc := hm.hash
  have hbl := hm.lt
  go_enter Tryz.func151, Tryz.ntmps151
  go_wp2_with fail
  refine (Sha.sum_any h (ik k ++ l) _ (hh.keep ((Kp.refl nob w).alloc _) (fun e => e)) (ht.keep0 ((Kp.refl nob w).alloc _)) HIL.out).mono ?_
  rintro e w2 ⟨rfl, k2⟩
  rw [← HD.out]
  obtain ⟨z, hz1, hz2⟩ : ∃ z, Blk w2 w.heap.size 32 z ∧ z.length = 32 := ⟨_, (Blk.new' (w := w) rfl rfl).keep k2 (fun e => e), rfl⟩
  have K2 : Kp nob w w2 := ((Kp.refl nob w).alloc _).trans k2 (fun _ e => e.elim)
  have HZ1 := Lib.hid hz1; have HZ2 := Lib.hid hz2
  clear k2 hz1 hz2
  go_wp2_with (refine wpList_store_new rfl 32 (.tmp 3) (.tmp 11) rfl _ (bvs D) rfl rfl (by rw [bvs_length, HDL.out]; rfl) (by rw [bvs_length, HDL.out]; kernel_rfl) (bvs_one _) ?_
               intro w3 hB3 k3 z3
               have K3 : Kp nob w w3.drew := K2.trans k3.drew (fun _ e => e.elim)
               have HB3 := Lib.hid (hB3.keep (Kp.refl nob w3).drew (fun e => e))
               have HZ3 := Lib.hid (HZ1.out.keep k3.drew (fun e => e))
               have M3 := hm.keep K3 (fun e => e)
               have T3 := ht.keep0 K3
               clear k3 z3 hB3)
  refine wp_region_still_tail 5 (by kernel_rfl) (by kernel_rfl) ?_
  change wpStill _ _ w3.drew (fun a' => wpList _ _ _ _ a' w3.drew) _ _
  generalize w3.drew = wd at *
  simp only [List.take_succ_cons, List.take_zero, List.drop_succ_cons, List.drop_zero]
  still_step
  still_step
  still_step
  still_step
  still_step
  refine wpStill_nil ?_
  go_wp2_with fail
  refine (of_two ⟨some ⟨b, 1, none⟩, 64, 64, ok k⟩ ⟨some ⟨w2.heap.size, 0, none⟩, 32, 32, D⟩ wd _ _ (by simp) T3 (Sha.pcs_one HOK.out M3.outer (.inr (fun _ _ e => e)) (Nat.le_refl _) (by simp [maxLen])) (Sha.pcs_one HDL.out HB3.out.row (.inr (fun _ _ e => e)) (Nat.le_refl _) (by simp [maxLen])) (by show (ok k).length + D.length ≤ _; rw [HOK.out, HDL.out]; omega)).mono ?_
  rintro e w4 ⟨rfl, k4⟩
  rw [show Sha.of (Pc.l ⟨some ⟨b, 1, none⟩, 64, 64, ok k⟩ ++ Pc.l ⟨some ⟨w2.heap.size, 0, none⟩, 32, 32, D⟩) = mac k l from HMA.out]
  have HZ4 := Lib.hid (HZ3.out.keep k4 (fun e => e))
  go_wp2_with (refine wpList_store_blk rfl 32 (.tmp 2) (.tmp 18) rfl _ _ z (bvs (mac k l)) HZ4.out rfl rfl (by rw [HZ2.out, bvs_length, HML.out]) (by rw [bvs_length, HML.out]; kernel_rfl) (bvs_one _) ?_; intro w5 hB5 k5 z5)
  have hsz5 : (Tryz.prog.info? 32).map (·.size) = some (bvs (mac k l)).toArray.size := by
    rw [List.size_toArray, bvs_length, HML.out]; kernel_rfl
  refine bodyPost_ret (results_cell_row rfl _ _ w.heap.size _ _ _ _ rfl hB5 arr32b rfl hsz5) rfl ⟨rfl, (K3.trans k4 (fun _ e => e.elim)).since k5 (fun i e => by unfold oneB at e; omega)⟩
theorem off_block {g o h : Nat} (e : g ≠ h) : ∀ k, ab (some (⟨g, o, none⟩ : Addr)) = some k → ¬ oneB h k := by
  intro k hk hb
  have h1 : g = k := by simpa [ab] using hk
  exact e (h1.trans hb)
theorem cell_alloc {w : World} {p : Addr} {v : Value} (h : w.cell? p = some v) (o : Obj) : (w.alloc o).cell? p = some v :=
  (World.cell?_of_block (Below.heap_alloc w o p.block (World.block_lt_of_cell? w _ h))).trans h
theorem masked_in (l : List UInt8) (hl : l.length = 64) (w : World) :
    Calls Tryz.prog 163 #[.agg (bvs l).toArray, .int .u8 54] w fun e w' => e = .returned (.agg (bvs (mask 54 l)).toArray) ∧ Kp nob w w' := masked_any l hl 54 w
theorem masked_out (l : List UInt8) (hl : l.length = 64) (w : World) :
    Calls Tryz.prog 163 #[.agg (bvs l).toArray, .int .u8 92] w fun e w' => e = .returned (.agg (bvs (mask 92 l)).toArray) ∧ Kp nob w w' := masked_any l hl 92 w
def mzero : List Value := .pointer none :: bvs (List.replicate 64 0)
theorem mac_zero [Inhabited Sha.ShaTab] : ∀ w, (zeroValue 217).run Tryz.prog w = .ok (.agg mzero.toArray) w := fun _ => by kernel_rfl
theorem fold_from (i : Nat) : ∀ (cs ys : List Value) (zl : Array Value), zl.size = i + cs.length + ys.length → 0 < i →
    ((cs.zipIdx (i - 1)).foldl (fun c x => c.setIfInBounds (1 + x.2) x.1) zl).toList = zl.toList.take i ++ cs ++ zl.toList.drop (i + cs.length) := by
  intro cs
  induction cs generalizing i with
  | nil => intro ys zl h hi; simp
  | cons u cs ih =>
    intro ys zl h hi
    simp only [List.length_cons] at h
    rw [List.zipIdx_cons, List.foldl_cons]
    have := ih (i + 1) ys (zl.setIfInBounds (1 + (i - 1)) u) (by simp; omega) (by omega)
    rw [show i + 1 - 1 = i - 1 + 1 by omega] at this
    simp only at this ⊢
    rw [this, show 1 + (i - 1) = i by omega]
    simp only [Array.toList_setIfInBounds, List.length_cons]
    rw [List.take_succ_eq_append_getElem (by simp; omega), List.take_set_of_le (Nat.le_refl _), List.drop_set_of_lt (by omega)]
    simp [Nat.add_assoc, Nat.add_comm 1]
theorem fold_set (zl : Array Value) (u : Value) (cs : List Value) (h : zl.size = 1 + cs.length) :
    cs.zipIdx.foldl (fun c x => c.setIfInBounds (1 + x.2) x.1) (zl.setIfInBounds 0 u) = (u :: cs).toArray := by
  apply Array.toList_inj.1
  have := fold_from 1 cs [] (zl.setIfInBounds 0 u) (by simp; omega) (by omega)
  rw [Nat.sub_self] at this
  rw [this]
  obtain ⟨z, zs, hz⟩ : ∃ z zs, zl.toList = z :: zs := by
    cases hq : zl.toList with
    | nil => have : zl.size = 0 := by rw [← Array.length_toList, hq]; rfl
             omega
    | cons z zs => exact ⟨z, zs, rfl⟩
  have hl : zs.length = cs.length := by
    have : zl.size = zs.length + 1 := by rw [← Array.length_toList, hz]; rfl
    omega
  simp [Array.toList_setIfInBounds, hz, hl]
  omega
set_option maxHeartbeats 1000000 in
set_option maxRecDepth 100000 in
theorem new_any [Inhabited Sha.ShaTab] (A : Option Addr) (n c : Nat) (k : List UInt8) (w : World) (ht : Tabs w) (hk : k.length = n) (hr : Row w A (bvs k)) (hc : n ≤ c) (hm : c ≤ maxLen) (hn2 : n ≤ 1099511627776) :
    Calls Tryz.prog 150 #[.slice A n c] w fun e w' => ∃ b h, e = .returned (.pointer (some ⟨b, 0, none⟩)) ∧ MacIs w' b h k ∧ Has w' h (ik k) ∧ Kp nob w w' ∧ w.heap.size ≤ b ∧ w.heap.size ≤ h := by
  have hfl := full_length k
  have HFL := Lib.hid hfl
  have HI := Lib.hid (ik_eq k); have HO := Lib.hid (ok_eq k)
  have HIL := Lib.hid (ik_length k)
  have HOL := Lib.hid (ok_length k)
  clear hfl
  go_enter Tryz.func150, Tryz.ntmps150
  go_wp2_with fail
  refine (filled_any A n c k w ht hk hr hc hm hn2).mono ?_
  rintro e w1 ⟨rfl, k1⟩
  obtain ⟨F, hF⟩ : ∃ F, F = full k := ⟨_, rfl⟩
  rw [← hF]
  have HFF := Lib.hid hF; clear hF
  have HFL2 : Hid (F.length = 64) := Lib.hid (by rw [HFF.out, HFL.out])
  go_wp2_with (first
    | (refine wpList_store_new rfl 215 (.tmp 3) (.tmp 7) rfl _ (bvs F) rfl rfl (by rw [bvs_length, HFL2.out]; rfl) (by rw [bvs_length, HFL2.out]; kernel_rfl) (bvs_one _) ?_
       intro w2 hB2 k2 z2
       have K2 : Kp nob w w2 := k1.trans k2 (fun _ e => e.elim)
       have HB2 := Lib.hid hB2
       have s1 : w.heap.size ≤ w1.heap.size := k1.size
       clear k1 k2 z2 hB2)
    | (refine wpList_load_blk rfl 215 (.tmp 3) rfl _ _ _ HB2.out rfl _ arr64 rfl (by rw [bvs_length, HFL2.out]; kernel_rfl) ?_))
  refine (masked_in F HFL2.out _).mono ?_
  rintro e w3 ⟨rfl, k3⟩
  rw [show mask 54 F = ik k by rw [HI.out, HFF.out]]
  go_wp2_with (refine wpList_store_new rfl 215 (.tmp 4) (.tmp 9) rfl _ (bvs (ik k)) rfl rfl (by rw [bvs_length, HIL.out]; rfl) (by rw [bvs_length, HIL.out]; kernel_rfl) (bvs_one _) ?_
               intro w4 hB4 k4 z4)
  have K4 : Kp nob w w4 := (K2.trans k3 (fun _ e => e.elim)).trans k4 (fun _ e => e.elim)
  have hF4 : w4.rangeAt w1.heap.size 0 (bvs F) := ((HB2.out.keep k3 (fun e => e)).keep k4 (fun e => e)).range
  have hsz4 : (Tryz.prog.info? 215).map (·.size) = some (bvs F).length := by rw [bvs_length, HFL2.out]; kernel_rfl
  have h64 := arr64
  have T4 := ht.keep0 K4
  have HB4 := Lib.hid hB4
  clear k3 k4 hB4 z4 HB2
  have hmz := mac_zero
  have hm0 : ¬ mzero.toArray = #[] := by simp [mzero]
  have hm1 : mzero.toArray.size = 65 := by rfl
  have hok := HOL.out
  generalize mzero.toArray = mz at hmz hm0 hm1
  have kd : Kp nob w4 w4.drew := (Kp.refl nob w4).drew
  go_region_held3 (fun w' => w'.rangeAt w1.heap.size 0 (bvs F) ∧ Kp nob w4 w')
    ((refine ⟨?_, ?_⟩ <;> first | assumption | exact Kp.alloc (by assumption) _ | exact range_keep (by assumption) ((Kp.refl nob _).alloc _) (fun e => e)))
    (first
      | (go_at_call 142
         obtain ⟨ra, ka⟩ := ‹_ ∧ Kp nob w4 _›
         refine (Sha.new_any _ (T4.keep0 ka)).mono ?_
         rintro e w5 ⟨h, rfl, hh, k5, n5⟩
         have n5 : w4.heap.size ≤ h := Nat.le_trans ka.size n5
         have R5 := range_keep ra k5 (fun e => e)
         have KK : Kp nob w4 w5 := ka.trans k5 (fun _ e => e.elim))
      | (go_at_call 163
         obtain ⟨ra, ka⟩ := ‹_ ∧ Kp nob w4 _›
         refine (masked_out F HFL2.out _).mono ?_
         rintro e w6 ⟨rfl, k6⟩
         rw [show mask 92 F = ok k by rw [HO.out, HFF.out]]
         have R5 := range_keep ra k6 (fun e => e)
         have KK : Kp nob w4 w6 := ka.trans k6 (fun _ e => e.elim)
         (try (have hh := Has.keep hh k6 (fun e => e)))))
  have hfd := fold_set mz (.pointer (some ⟨h, 0, none⟩)) (bvs (ok k)) (by rw [hm1, bvs_length, hok])
  rw [hfd]
  have hM6 : MacIs (w6.alloc (.cells (.pointer (some ⟨h, 0, none⟩) :: bvs (ok k)).toArray 217)) w6.heap.size h k := ⟨Blk.new' rfl rfl, by have := Sha.Has.lt hh; omega, T4.far n5⟩
  have K46 := (KK.alloc (.cells (.pointer (some ⟨h, 0, none⟩) :: bvs (ok k)).toArray 217)).drew
  have R7 : Hid (Row (w6.alloc (.cells (.pointer (some ⟨h, 0, none⟩) :: bvs (ok k)).toArray 217)).drew (some ⟨w3.heap.size, 0, none⟩) (bvs (ik k))) := Lib.hid (HB4.out.keep K46 (fun e => e)).row
  have K7 := KK.alloc (.cells (.pointer (some ⟨h, 0, none⟩) :: bvs (ok k)).toArray 217)
  have H7 : Has (w6.alloc (.cells (.pointer (some ⟨h, 0, none⟩) :: bvs (ok k)).toArray 217)) h [] := hh.keep ((Kp.refl nob w6).alloc _) (fun e => e)
  have nb : w4.heap.size ≤ w6.heap.size := KK.size
  clear hfd hmz hm0 hm1 hok ra ka R5 hh KK k6 ‹_ ∧ Kp nob w4 _›
  generalize w6.alloc (.cells (.pointer (some ⟨h, 0, none⟩) :: bvs (ok k)).toArray 217) = w7 at *
  generalize w6.heap.size = b at *
  have kd7 := (Kp.refl nob w7).drew
  have M7 := hM6.keep kd7 (fun e => e)
  have H7 := H7.keep kd7 (fun e => e)
  have K7 := (K4.trans K7 (fun _ e => e.elim)).trans kd7 (fun _ e => e.elim)
  have B7 := HB4.out
  have s4 := K4.size
  have lt3 := B7.lt
  clear hM6 kd7 B7
  go_wp2
  have hc := M7.hash
  have kd7 : Kp (oneB h) w7 w7.drew := (Kp.refl _ w7).drew
  go_region_held3 (fun w' => w'.cell? ⟨b, 0, none⟩ = some (.pointer (some ⟨h, 0, none⟩)) ∧ Kp (oneB h) w7 w')
    ((refine ⟨?_, ?_⟩ <;> first | assumption | exact Kp.alloc (by assumption) _ | exact cell_alloc (by assumption) _))
    (first
      | (go_at_call 143
         refine (Sha.write_one h [] ⟨some ⟨w3.heap.size, 0, none⟩, 64, 64, ik k⟩ w7.drew _ _ (by simp) H7 (ht.keep0 K7) (T4.far n5) (Sha.pcs_one HIL.out R7.out (.inr (off_block (by omega))) (Nat.le_refl _) (by simp [maxLen])) (by show [].length + (ik k).length ≤ _; rw [HIL.out]; simp)).mono ?_
         rintro e w8 ⟨rfl, h8, k8⟩
         have M8 := M7.keep k8 (fun e => M7.ne e.symm)
         have c8 := M8.hash
         have K8 := kd7.trans k8 (fun _ e => .inl e)))
  go_wp2
  go_ret
  exact ⟨b, h, rfl, M8, h8, K7.since k8 (fun i e => by unfold oneB at e; omega), by omega, by omega⟩
end Go.Proofs.YtiimfhacnfdmhaaGreat.Hmac
namespace Go.Proofs.YtiimfhacnfdmhaaGreat.Hmac
open Go Go.RowKit Kit
open Sha (Tabs Far Has Pc PcsOk catP u8s_under arr32b u8s_info u8_string eq32)
end Go.Proofs.YtiimfhacnfdmhaaGreat.Hmac
