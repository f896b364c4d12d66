/- CodeWrites: what is written is what the document says; a nil writer. -/
import Derived.Test.YtenihiphcbheeaaCodeG
namespace Go.Proofs.Ytenihiphcbheeaa
open Go Go.RowKit Kit

set_option maxHeartbeats 2000000 in
theorem writes_law (A : Option Addr) (m d : Nat) (ps : List PartD) (w : World) (hm : ps.length = m) (hp : RowP w A ps) (hd : m ≤ maxLen) (hs : ∀ p ∈ ps, p.s.size ≤ reachBytes) :
    Calls Try.prog 3 #[.slice A m d] w fun e w' => e = .returned (.bool true) ∧ Kp nob w w' := by
  cases hg : greatB ps with
  | true =>
    have hgr := fun w1 (k : Kp nob w w1) => great_any A m d ps w1 hm (hp.keep0 k) hd hs
    rw [hg] at hgr
    have HG := Lib.hid hgr; clear hgr hg hs
    go_enter Try.func3, Try.ntmps3
    go_wp2_with fail
    refine (alive_yes _).mono ?_
    rintro e w1 ⟨rfl, s1⟩
    go_wp2_with fail
    refine (HG.out w1 s1).mono ?_
    rintro e w2 ⟨rfl, k2⟩
    go_wp2
    go_ret
    exact ⟨rfl, s1.trans k2 (fun _ e => e.elim)⟩
  | false =>
    have hgr := fun w1 (k : Kp nob w w1) => great_any A m d ps w1 hm (hp.keep0 k) hd hs
    rw [hg] at hgr
    have HG := Lib.hid hgr; have HF := Lib.hid hg; clear hgr hg hs
    go_enter Try.func3, Try.ntmps3
    go_wp2_with fail
    refine (alive_yes _).mono ?_
    rintro e w1 ⟨rfl, s1⟩
    go_wp2_with fail
    refine (HG.out w1 s1).mono ?_
    rintro e w2 ⟨rfl, k2⟩
    have s2 := s1.trans k2 (fun _ e => e.elim)
    go_wp2_with fail
    refine (written_any A m d ps w2 hm (hp.keep0 s2) (few_great ps HF.out)).mono ?_
    rintro e w3 ⟨B, c, rfl, ho, _, _, k3⟩
    have s3 := s2.trans k3 (fun _ e => e.elim)
    go_wp2_with fail
    refine (wNil_Num _ _).mono ?_
    rintro e w4 ⟨rfl, h4⟩
    go_wp2_with fail
    refine (wNil_Text _ _).mono ?_
    rintro e w5 ⟨rfl, h5⟩
    go_wp2_with fail
    refine (wNil_Byte _ _).mono ?_
    rintro e w6 ⟨rfl, h6⟩
    have k6 : Kp nob w3 w6 := by subst h4; subst h5; subst h6; exact (((Kp.refl _ _).alloc _).alloc _).alloc _
    clear h4 h5 h6
    have hcv := conv_row w6 B (writes ps).length c (writes ps) rfl (ho.row.keep0 k6)
    go_wp2_with fail
    refine (wNil_Bytes _).mono ?_
    rintro e w7 ⟨rfl, rfl⟩
    go_wp2
    go_ret
    exact ⟨rfl, s3.trans k6 (fun _ e => e.elim)⟩
end Go.Proofs.Ytenihiphcbheeaa
