/- FieldBoxes: the box is the document's, its way back leads back, and two bytes lead to two. -/
import Derived.Test.YthfnfheomelncaaDoorFieldL
namespace Go.Proofs.YthfnfheomelncaaDoor.Field
open Go Go.RowKit Kit

set_option maxHeartbeats 2000000 in
theorem boxes_yes (a b : UInt8) (w : World) (ht : Sq w) :
    Calls Tryd.prog 6 #[.int .u8 (cb a), .int .u8 (cb b)] w fun e w' => e = .returned (.bool true) ∧ Kp nob w w' := by
  obtain ⟨q, d1, d2⟩ : ∃ q, (cb (box b) == cb (box a)) = q ∧ (cb a == cb b) = q := by
    by_cases h : a = b
    · subst h; exact ⟨true, eq_cb _, eq_cb _⟩
    · exact ⟨false, beq_eq_false_iff_ne.2 (fun e => h (box_inj _ _ (cb_inj.1 e).symm)), beq_eq_false_iff_ne.2 (fun e => h (cb_inj.1 e))⟩
  go_enter Tryd.func6, Tryd.ntmps6
  go_wp2_with fail
  refine (alive_yes _ ht).mono ?_
  rintro e w1 ⟨rfl, k1⟩
  go_wp2_with fail
  refine (box_any a _ (ht.keep0 k1)).mono ?_
  rintro e w2 ⟨rfl, k2⟩
  have K2 := k1.trans k2 (fun _ e => e.elim)
  go_wp2_with fail
  refine (fBox a _).mono ?_
  rintro e w3 ⟨rfl, rfl⟩
  go_wp2_with fail
  refine (fInverse a _).mono ?_
  rintro e w3 ⟨rfl, rfl⟩
  go_wp2_with fail
  refine (fBend (inv a) _).mono ?_
  rintro e w3 ⟨rfl, rfl⟩
  rw [show bend (inv a) = box a from rfl]
  go_wp2_with fail
  refine (back_any (box a) _ (ht.keep0 K2)).mono ?_
  rintro e w3 ⟨rfl, k3⟩
  rw [back_box]
  have K3 := K2.trans k3 (fun _ e => e.elim)
  go_wp2_with fail
  refine (back_any b _ (ht.keep0 K3)).mono ?_
  rintro e w4 ⟨rfl, k4⟩
  have K4 := K3.trans k4 (fun _ e => e.elim)
  go_wp2_with fail
  refine (box_any (back b) _ (ht.keep0 K4)).mono ?_
  rintro e w5 ⟨rfl, k5⟩
  rw [box_back]
  have K5 := K4.trans k5 (fun _ e => e.elim)
  go_wp2_with fail
  refine (box_any b _ (ht.keep0 K5)).mono ?_
  rintro e w6 ⟨rfl, k6⟩
  go_wp2
  go_ret
  exact ⟨rfl, K5.trans k6 (fun _ e => e.elim)⟩
theorem boxes_walk (n m : Int) (w : World) (ht : Sq w) (h0 : (Lit.int .u8 n).wf = true) (h1 : (Lit.int .u8 m).wf = true) :
    Calls Tryd.prog 6 #[.int .u8 n, .int .u8 m] w fun e w' => e = .returned (.bool true) ∧ Kp nob w w' := by
  obtain ⟨a, rfl⟩ := of_wf h0
  obtain ⟨b, rfl⟩ := of_wf h1
  exact boxes_yes a b w ht
end Go.Proofs.YthfnfheomelncaaDoor.Field
