/- What the statements of layer 13 ask first. -/
import Derived.Test.YtadhhnlolnnkhaaRecD
namespace Go.Proofs.Ytadhhnlolnnkhaa.Rec
set_option linter.unusedVariables false
set_option linter.unusedSimpArgs false
open Go Go.RowKit Kit

def tick : Rec := ⟨7, 0, 0, 5, 0, []⟩
theorem tick_good : good tick = true := by unfold good tick; decide +kernel
theorem tick_bytes : recB tick = [7, 0, 0, 0, 0, 0, 0, 0, 0, 0, 0, 0, 0, 0, 0, 0, 0, 5, 0, 0, 0, 0, 0, 0, 0, 0, 0, 0, 0, 0, 0, 0, 0, 0, 0, 0] := by unfold recB tick; decide +kernel

set_option maxHeartbeats 1000000 in
set_option maxRecDepth 100000 in
theorem alive_yes (w : World) : Calls Try.prog 9 #[] w fun e w' => e = .returned (.bool true) ∧ Kp nob w w' := by
  go_enter Try.func9, Try.ntmps9
  go_wp2_with fail
  refine (put_yes tick w tick_good).mono ?_
  rintro e w1 ⟨A, c, rfl, ho, hf, k1⟩
  rw [tick_bytes] at ho
  obtain ⟨b, rfl, hb, h0, _⟩ := ho.at_ (i := 0) (by decide)
  obtain ⟨b', hA, _, h17, _⟩ := ho.at_ (i := 17) (by decide)
  cases hA
  have hcap : 36 ≤ c := ho.cap.1
  have hc0 : w1.cell? ⟨b, 0, none⟩ = some (.int .u8 7) := h0
  have hc17 : w1.cell? ⟨b, 17, none⟩ = some (.int .u8 5) := h17
  have K1 := Lib.hid k1
  clear h0 h17 ho hf k1
  rw [show 36 + tick.body.length = 36 from rfl]
  go_wp2
  go_ret
  exact ⟨rfl, K1.out⟩
end Go.Proofs.Ytadhhnlolnnkhaa.Rec
