/- Regions driven by hand: the beginning, the world of which nothing but S is known. No program is named here. -/
import Derived.Test.YtadhhnlolnnkhaaRegU
namespace Go.Proofs.Ytadhhnlolnnkhaa.Kit
set_option linter.unusedVariables false
set_option linter.unusedSimpArgs false
open Go Go.RowKit
theorem reg_start {P : Program} {ops : Array Oper} {Q : Exit → Act → World → Prop} {id : Nat} {a : Act} {w : World} (S : World → Prop) (hm : P.follows .mixedOrders = true) (hS : S w.drew)
    (h : ∀ w', S w' → wpAnyH P .any ops (NoPanic Q) S ops.size (Array.replicate ops.size false) a w') : (Code.region id ops true).wp P Q a w :=
  reg_begin S hm hS (fun h1 => h _ h1)
end Go.Proofs.Ytadhhnlolnnkhaa.Kit
