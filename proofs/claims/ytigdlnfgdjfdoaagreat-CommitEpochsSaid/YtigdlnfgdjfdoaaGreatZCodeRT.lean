/- Contracts of the reader of package code: Take, End, Text. -/
import Derived.Test.YtigdlnfgdjfdoaaGreatZK10
set_option linter.unusedVariables false
set_option linter.unusedSimpArgs false
namespace Go.Proofs.YtigdlnfgdjfdoaaGreat
open Go Go.RowKit Kit
end Go.Proofs.YtigdlnfgdjfdoaaGreat
