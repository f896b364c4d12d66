/- Regions driven by hand: what is known of the worlds may grow on the way. No program is named here. -/
import Derived.Test.YtfbdjjcnibgjnaaRegV
namespace Go.Proofs.Ytfbdjjcnibgjnaa.Kit
set_option linter.unusedVariables false
set_option linter.unusedSimpArgs false
open Go Go.RowKit
theorem reg_grow {P : Program} {md : Region.Mode} {ops : Array Oper} {Q : Exit → Act → World → Prop} {S S' : World → Prop} (hSS : ∀ w, S' w → S w) :
    ∀ (fuel : Nat) (listed : Array Bool) (a : Act) (w : World), wpAnyH P md ops Q S' fuel listed a w → wpAnyH P md ops Q S fuel listed a w
  | 0, _, _, _, h => h
  | fuel + 1, _, _, _, h => ⟨h.1, fun i hi => wpOp_mono (fun a' w' h' => ⟨hSS _ h'.1, reg_grow hSS fuel _ a' w' h'.2⟩) (h.2 i hi)⟩
/-- From here on S' is known of every world, too. -/
theorem reg_more {P : Program} {md : Region.Mode} {ops : Array Oper} {Q : Exit → Act → World → Prop} {S : World → Prop} (S' : World → Prop) (hSS : ∀ w, S' w → S w) {fuel : Nat} {listed : Array Bool} {a : Act} {w : World}
    (h : wpAnyH P md ops (NoPanic Q) S' fuel listed a w) : wpAnyH P md ops (NoPanic Q) S fuel listed a w := reg_grow hSS fuel listed a w h
end Go.Proofs.Ytfbdjjcnibgjnaa.Kit
