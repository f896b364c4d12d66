/- Contracts of package hmac: the calls on a Mac. -/
import Derived.Test.YtnpidcehioljaaaDoorHmacB
import Derived.Deep.RegionHeld3
namespace Go.Proofs.YtnpidcehioljaaaDoor.Hmac
open Go Go.RowKit Kit
open Sha (Tabs Far Has Pc PcsOk catP u8s_under arr32b)

/-- The row of pieces is a block that the call makes. -/
theorem of_row (ps : List Pc) (w : World) (t : TypeId) (g : Nat) (hg : g = w.heap.size) (ht : Tabs w) (hp : PcsOk w nob ps) (hm : ps.length ≤ 1099511627776) (hl : (catP ps).length ≤ 1099511627776) :
    Calls Tryd.prog 29 #[.slice (some ⟨g, 0, none⟩) ps.length ps.length] (w.alloc (.cells (ps.map Pc.v).toArray t)) fun e w' => e = .returned (.agg (bvs (Sha.of (catP ps))).toArray) ∧ Kp nob w w' := by
  subst hg
  have K := (Kp.refl nob w).alloc (.cells (ps.map Pc.v).toArray t)
  refine (Sha.of_any (some ⟨w.heap.size, 0, none⟩) ps.length ps.length ps _ (ht.keep0 K) rfl (row_new w _ t) (hp.keep0 K) hm hl).mono ?_
  rintro e' w' ⟨rfl, k⟩
  exact ⟨rfl, K.trans k (fun _ e => e.elim)⟩
theorem pcs_cons {w : World} {F : Nat → Prop} {p : Pc} {ps : List Pc} (h : PcsOk w F [p]) (hs : PcsOk w F ps) : PcsOk w F (p :: ps) := by
  intro q hq
  rcases List.mem_cons.1 hq with rfl | hq
  · exact h q (by simp)
  · exact hs q hq
theorem of_two (p q : Pc) (w : World) (t : TypeId) (g : Nat) (hg : g = w.heap.size) (ht : Tabs w) (hp : PcsOk w nob [p]) (hq : PcsOk w nob [q]) (hl : p.l.length + q.l.length ≤ 1099511627776) :
    Calls Tryd.prog 29 #[.slice (some ⟨g, 0, none⟩) 2 2] (w.alloc (.cells #[.slice p.A p.n p.c, .slice q.A q.n q.c] t)) fun e w' => e = .returned (.agg (bvs (Sha.of (p.l ++ q.l))).toArray) ∧ Kp nob w w' := by
  have e : catP [p, q] = p.l ++ q.l := by simp [catP]
  have := of_row [p, q] w t g hg ht (pcs_cons hp hq) (by simp) (by rw [e, List.length_append]; exact hl)
  rw [e] at this
  exact this

/-- The Mac at block b: its hash at block h, its outer key. -/
structure MacIs (w : World) (b h : Nat) (k : List UInt8) : Prop where
  blk : Blk w b 50 (.pointer (some ⟨h, 0, none⟩) :: bvs (ok k))
  ne : h ≠ b
  far : Far h
theorem MacIs.keep {F : Nat → Prop} {w w' : World} {b h : Nat} {k : List UInt8} (m : MacIs w b h k) (hk : Kp F w w') (hf : ¬ F b) : MacIs w' b h k := ⟨m.blk.keep hk hf, m.ne, m.far⟩
theorem MacIs.hash {w : World} {b h : Nat} {k : List UInt8} (m : MacIs w b h k) : w.cell? ⟨b, 0, none⟩ = some (.pointer (some ⟨h, 0, none⟩)) := by rw [m.blk.cell]; rfl
theorem MacIs.lt {w : World} {b h : Nat} {k : List UInt8} (m : MacIs w b h k) : b < w.heap.size := m.blk.lt
theorem MacIs.outer {w : World} {b h : Nat} {k : List UInt8} (m : MacIs w b h k) : Row w (some ⟨b, 1, none⟩) (bvs (ok k)) :=
  .inr ⟨b, 1, rfl, m.lt, fun i u hu => by rw [m.blk.cell, Nat.add_comm, List.getElem?_cons_succ]; exact hu⟩

set_option maxHeartbeats 1000000 in
set_option maxRecDepth 100000 in
theorem sum_any (b h : Nat) (k l : List UInt8) (w : World) (hm : MacIs w b h k) (hh : Has w h (ik k ++ l)) (ht : Tabs w) (hl : l.length ≤ 1099511000000) :
    Calls Tryd.prog 20 #[.pointer (some ⟨b, 0, none⟩)] w fun e w' => e = .returned (.agg (bvs (mac k l)).toArray) ∧ Kp nob w w' := by
  have hil : (ik k ++ l).length ≤ 1099511627776 := by rw [List.length_append, ik_length]; omega
  obtain ⟨D, hD⟩ : ∃ D, D = Sha.of (ik k ++ l) := ⟨_, rfl⟩
  have hdl : D.length = 32 := by rw [hD, Sha.of_length]
  have hml := mac_length k l
  have hma : Sha.of (ok k ++ D) = mac k l := by rw [hD, mac_eq]
  have hok := ok_length k
  have HD := Lib.hid hD; have HDL := Lib.hid hdl; have HML := Lib.hid hml; have HMA := Lib.hid hma; have HOK := Lib.hid hok; have HIL := Lib.hid hil
  clear hD hdl hml hma hok hil
  have hc := hm.hash
  have hbl := hm.lt
  go_enter Tryd.func20, Tryd.ntmps20
  go_wp2_with fail
  refine (Sha.sum_any h (ik k ++ l) _ (hh.keep ((Kp.refl nob w).alloc _) (fun e => e)) (ht.keep0 ((Kp.refl nob w).alloc _)) HIL.out).mono ?_
  rintro e w2 ⟨rfl, k2⟩
  rw [← HD.out]
  obtain ⟨z, hz1, hz2⟩ : ∃ z, Blk w2 w.heap.size 34 z ∧ z.length = 32 := ⟨_, (Blk.new' (w := w) rfl rfl).keep k2 (fun e => e), rfl⟩
  have K2 : Kp nob w w2 := ((Kp.refl nob w).alloc _).trans k2 (fun _ e => e.elim)
  have HZ1 := Lib.hid hz1; have HZ2 := Lib.hid hz2
  clear k2 hz1 hz2
  go_wp2_with (refine wpList_store_new rfl 34 (.tmp 3) (.tmp 11) rfl _ (bvs D) rfl rfl (by rw [bvs_length, HDL.out]; rfl) (by rw [bvs_length, HDL.out]; kernel_rfl) (bvs_one _) ?_
               intro w3 hB3 k3 z3
               have K3 : Kp nob w w3.drew := K2.trans k3.drew (fun _ e => e.elim)
               have HB3 := Lib.hid (hB3.keep (Kp.refl nob w3).drew (fun e => e))
               have HZ3 := Lib.hid (HZ1.out.keep k3.drew (fun e => e))
               have M3 := hm.keep K3 (fun e => e)
               have T3 := ht.keep0 K3
               clear k3 z3 hB3)
  refine wp_region_still_tail 5 (by kernel_rfl) (by kernel_rfl) ?_
  change wpStill _ _ w3.drew (fun a' => wpList _ _ _ _ a' w3.drew) _ _
  generalize w3.drew = wd at *
  simp only [List.take_succ_cons, List.take_zero, List.drop_succ_cons, List.drop_zero]
  still_step
  still_step
  still_step
  still_step
  still_step
  refine wpStill_nil ?_
  go_wp2_with fail
  refine (of_two ⟨some ⟨b, 1, none⟩, 64, 64, ok k⟩ ⟨some ⟨w2.heap.size, 0, none⟩, 32, 32, D⟩ wd _ _ (by simp) T3 (Sha.pcs_one HOK.out M3.outer (.inr (fun _ _ e => e)) (Nat.le_refl _) (by simp [maxLen])) (Sha.pcs_one HDL.out HB3.out.row (.inr (fun _ _ e => e)) (Nat.le_refl _) (by simp [maxLen])) (by show (ok k).length + D.length ≤ _; rw [HOK.out, HDL.out]; omega)).mono ?_
  rintro e w4 ⟨rfl, k4⟩
  rw [show Sha.of (Pc.l ⟨some ⟨b, 1, none⟩, 64, 64, ok k⟩ ++ Pc.l ⟨some ⟨w2.heap.size, 0, none⟩, 32, 32, D⟩) = mac k l from HMA.out]
  have HZ4 := Lib.hid (HZ3.out.keep k4 (fun e => e))
  go_wp2_with (refine wpList_store_blk rfl 34 (.tmp 2) (.tmp 18) rfl _ _ z (bvs (mac k l)) HZ4.out rfl rfl (by rw [HZ2.out, bvs_length, HML.out]) (by rw [bvs_length, HML.out]; kernel_rfl) (bvs_one _) ?_; intro w5 hB5 k5 z5)
  have hsz5 : (Tryd.prog.info? 34).map (·.size) = some (bvs (mac k l)).toArray.size := by
    rw [List.size_toArray, bvs_length, HML.out]; kernel_rfl
  refine bodyPost_ret (results_cell_row rfl _ _ w.heap.size _ _ _ _ rfl hB5 arr32b rfl hsz5) rfl ⟨rfl, (K3.trans k4 (fun _ e => e.elim)).since k5 (fun i e => by unfold oneB at e; omega)⟩
end Go.Proofs.YtnpidcehioljaaaDoor.Hmac
