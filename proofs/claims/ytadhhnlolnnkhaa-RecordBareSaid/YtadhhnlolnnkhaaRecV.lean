/- Records as values. -/
import Derived.Test.YtadhhnlolnnkhaaCodeN0
import Derived.Test.YtadhhnlolnnkhaaRecS
namespace Go.Proofs.Ytadhhnlolnnkhaa.Rec
set_option linter.unusedVariables false
set_option linter.unusedSimpArgs false
open Go Go.RowKit Kit

/-- A record as a value. -/
def rv (r : Rec) : Value := .agg #[.int .i64 r.kind, .int .i64 r.queue, .int .i64 r.id, .int .i64 r.num, .int .i64 r.wait, .string (str r.body)]
end Go.Proofs.Ytadhhnlolnnkhaa.Rec
