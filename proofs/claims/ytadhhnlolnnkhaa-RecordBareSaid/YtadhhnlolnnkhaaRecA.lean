/- The document's Good. -/
import Derived.Test.YtadhhnlolnnkhaaRecV
import Derived.Deep.QuietTactic
import Derived.BigQuiet
namespace Go.Proofs.Ytadhhnlolnnkhaa.Rec
set_option linter.unusedVariables false
set_option linter.unusedSimpArgs false
open Go Go.RowKit Kit

set_option maxHeartbeats 400000 in
theorem in_any (n lo hi : Int) (w : World) : Calls Try.prog 22 #[.int .i64 n, .int .i64 lo, .int .i64 hi] w fun e w' => e = .returned (.bool (inB n lo hi)) ∧ w = w' := by
  by_cases h : lo ≤ n
  · go_enter Try.func22, Try.ntmps22
    go_wp2
    go_ret
    simp [inB, h]
  · go_enter Try.func22, Try.ntmps22
    go_wp2
    go_ret
    simp [inB]; omega

set_option maxHeartbeats 4000000 in
set_option maxRecDepth 100000 in
theorem dGood (r : Rec) (w : World) : Calls Try.prog 12 #[rv r] w fun e w' => e = .returned (.bool (good r)) ∧ Kp nob w w' := by
  obtain ⟨kind, queue, id, num, wait, body⟩ := r
  unfold rv
  go_enter Try.func12, Try.ntmps12
  go_wp2_with (go_at_call 22; refine (in_any _ _ _ _).mono ?_; rintro e w' ⟨rfl, rfl⟩)
  all_goals
    go_ret
    refine ⟨?_, (Kp.refl _ _).alloc _⟩
    unfold good
    simp_all [str_toList] <;> omega
end Go.Proofs.Ytadhhnlolnnkhaa.Rec
