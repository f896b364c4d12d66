/-
  NARROWER THAN 'FOR EVERY INPUT', by the rows' own cells (each row's printed sentence says how): HmacIs: laid · HmacGoes: laid · HmacKeys: laid · HmacSame: laid · HmacKeeps: laid · HmacCuts: laid.
  DERIVED. THE GIVEN ROWS OF THIS SEAT. 6 by the template 'for every input the law returns true; each argument reads behind the call as it read before'; 0 by the template 'total and deterministic' (their statements: YtdfpfiipcieabaaDoorTotals.lean).
  GIVEN WITH THE SEED: the statements are not yours to turn. If you find one false, say at which input.
  Laid BY PROGRAM, IN A SANDBOX (cutbox-rows.mjs): the forced cells as the released guide's own fill.sh prints them over the translation a065daca248042cc… (all of the seat's roots in one cut). By AI agents, Wed Nov 11 2026. No macro, syntax, notation, axiom, sorry.
-/
import Derived.Test.YtdfpfiipcieabaaDoorChecked
import GoSem.Claim
import GoSem.ClaimJoined
import GoSem.ClaimMapViews
import Derived.JoinedTies
import Derived.KernelRfl
namespace Go.Proofs.YtdfpfiipcieabaaDoor
/- THE CELL 'sum', in the pinned program and in every row, IS THE sha256 OF THE DUMP (.gsa) THAT YtdfpfiipcieabaaDoorProg.lean LOADS. Nothing in Lean hashes anything: it is a label: what it is worth is what the hold of that sum in a sandbox is worth. -/
noncomputable def Tryd.pinned : Pinned := { name := "ytdfpfiipcieabaadoor", sum := "a065daca248042cc00b87840ea92d52364c6b5457ac8717e849c9acb118ecdee", checked := Tryd.checked }
namespace Rows
def none {H : Type} : Left H := { results := [], args := [] }

/- WHAT THE LISTED PACKAGE-LEVEL VARIABLES READ AS WHEN THE CALL BEGINS. Each datum BY PROGRAM (the guide's laid-datum.mjs) off the statement by which the dump's own 'gosem.cut.vars' lays the variable. In a bare row this is a premise. The card (YtdfpfiipcieabaaDoorCards.lean) ties it to the program's text. -/
def laid_coffret_sha_start {H : Type} : DataW H := .agg [.lit (.int .u32 1779033703), .lit (.int .u32 3144134277), .lit (.int .u32 1013904242), .lit (.int .u32 2773480762), .lit (.int .u32 1359893119), .lit (.int .u32 2600822924), .lit (.int .u32 528734635), .lit (.int .u32 1541459225)]
def laid_coffret_sha_rounds {H : Type} : DataW H := .agg [.lit (.int .u32 1116352408), .lit (.int .u32 1899447441), .lit (.int .u32 3049323471), .lit (.int .u32 3921009573), .lit (.int .u32 961987163), .lit (.int .u32 1508970993), .lit (.int .u32 2453635748), .lit (.int .u32 2870763221), .lit (.int .u32 3624381080), .lit (.int .u32 310598401), .lit (.int .u32 607225278), .lit (.int .u32 1426881987), .lit (.int .u32 1925078388), .lit (.int .u32 2162078206), .lit (.int .u32 2614888103), .lit (.int .u32 3248222580), .lit (.int .u32 3835390401), .lit (.int .u32 4022224774), .lit (.int .u32 264347078), .lit (.int .u32 604807628), .lit (.int .u32 770255983), .lit (.int .u32 1249150122), .lit (.int .u32 1555081692), .lit (.int .u32 1996064986), .lit (.int .u32 2554220882), .lit (.int .u32 2821834349), .lit (.int .u32 2952996808), .lit (.int .u32 3210313671), .lit (.int .u32 3336571891), .lit (.int .u32 3584528711), .lit (.int .u32 113926993), .lit (.int .u32 338241895), .lit (.int .u32 666307205), .lit (.int .u32 773529912), .lit (.int .u32 1294757372), .lit (.int .u32 1396182291), .lit (.int .u32 1695183700), .lit (.int .u32 1986661051), .lit (.int .u32 2177026350), .lit (.int .u32 2456956037), .lit (.int .u32 2730485921), .lit (.int .u32 2820302411), .lit (.int .u32 3259730800), .lit (.int .u32 3345764771), .lit (.int .u32 3516065817), .lit (.int .u32 3600352804), .lit (.int .u32 4094571909), .lit (.int .u32 275423344), .lit (.int .u32 430227734), .lit (.int .u32 506948616), .lit (.int .u32 659060556), .lit (.int .u32 883997877), .lit (.int .u32 958139571), .lit (.int .u32 1322822218), .lit (.int .u32 1537002063), .lit (.int .u32 1747873779), .lit (.int .u32 1955562222), .lit (.int .u32 2024104815), .lit (.int .u32 2227730452), .lit (.int .u32 2361852424), .lit (.int .u32 2428436474), .lit (.int .u32 2756734187), .lit (.int .u32 3204031479), .lit (.int .u32 3329325298)]

/-- 'coffretlaw03.HmacIs': WHATEVER THE INPUT: true; the input reads as it did. -/
def hmacIsSpec : ChangeSpec := { name := "hmacIs", fn := fun _ => fun
  | [d1, d2] => { results := [.lit (.bool true)], args := [d1, d2] }
  | _ => none }
def hmacIsRow : OpenClaim := { program := "ytdfpfiipcieabaadoor", sum := "a065daca248042cc00b87840ea92d52364c6b5457ac8717e849c9acb118ecdee", func := "coffret/coffretlaw03.HmacIs", spec := "hmacIs", named := ["coffret/sha.start", "coffret/sha.rounds"], apart := false, laid := [("coffret/sha.start", laid_coffret_sha_start), ("coffret/sha.rounds", laid_coffret_sha_rounds)] }
def HmacIsSaid : Prop := hmacIsRow.holds Tryd.pinned (OpenSpec.ofChange hmacIsSpec)

/-- ITS FALSE NEIGHBOUR: 'it returns false'. Refute it at one input. -/
def hmacIsWrong : ChangeSpec := { name := "hmacIs", fn := fun _ => fun
  | [d1, d2] => { results := [.lit (.bool false)], args := [d1, d2] }
  | _ => none }
def HmacIsWrongFalsely : Prop := hmacIsRow.holds Tryd.pinned (OpenSpec.ofChange hmacIsWrong)

/-- 'coffretlaw03.HmacGoes': WHATEVER THE INPUT: true; the input reads as it did. -/
def hmacGoesSpec : ChangeSpec := { name := "hmacGoes", fn := fun _ => fun
  | [d1, d2] => { results := [.lit (.bool true)], args := [d1, d2] }
  | _ => none }
def hmacGoesRow : OpenClaim := { program := "ytdfpfiipcieabaadoor", sum := "a065daca248042cc00b87840ea92d52364c6b5457ac8717e849c9acb118ecdee", func := "coffret/coffretlaw03.HmacGoes", spec := "hmacGoes", named := ["coffret/sha.start", "coffret/sha.rounds"], apart := false, laid := [("coffret/sha.start", laid_coffret_sha_start), ("coffret/sha.rounds", laid_coffret_sha_rounds)] }
def HmacGoesSaid : Prop := hmacGoesRow.holds Tryd.pinned (OpenSpec.ofChange hmacGoesSpec)

/-- ITS FALSE NEIGHBOUR: 'it returns false'. Refute it at one input. -/
def hmacGoesWrong : ChangeSpec := { name := "hmacGoes", fn := fun _ => fun
  | [d1, d2] => { results := [.lit (.bool false)], args := [d1, d2] }
  | _ => none }
def HmacGoesWrongFalsely : Prop := hmacGoesRow.holds Tryd.pinned (OpenSpec.ofChange hmacGoesWrong)

/-- 'coffretlaw03.HmacKeys': WHATEVER THE INPUT: true; the input reads as it did. -/
def hmacKeysSpec : ChangeSpec := { name := "hmacKeys", fn := fun _ => fun
  | [d1, d2, d3] => { results := [.lit (.bool true)], args := [d1, d2, d3] }
  | _ => none }
def hmacKeysRow : OpenClaim := { program := "ytdfpfiipcieabaadoor", sum := "a065daca248042cc00b87840ea92d52364c6b5457ac8717e849c9acb118ecdee", func := "coffret/coffretlaw03.HmacKeys", spec := "hmacKeys", named := ["coffret/sha.start", "coffret/sha.rounds"], apart := false, laid := [("coffret/sha.start", laid_coffret_sha_start), ("coffret/sha.rounds", laid_coffret_sha_rounds)] }
def HmacKeysSaid : Prop := hmacKeysRow.holds Tryd.pinned (OpenSpec.ofChange hmacKeysSpec)

/-- ITS FALSE NEIGHBOUR: 'it returns false'. Refute it at one input. -/
def hmacKeysWrong : ChangeSpec := { name := "hmacKeys", fn := fun _ => fun
  | [d1, d2, d3] => { results := [.lit (.bool false)], args := [d1, d2, d3] }
  | _ => none }
def HmacKeysWrongFalsely : Prop := hmacKeysRow.holds Tryd.pinned (OpenSpec.ofChange hmacKeysWrong)

/-- 'coffretlaw03.HmacSame': WHATEVER THE INPUT: true; the input reads as it did. -/
def hmacSameSpec : ChangeSpec := { name := "hmacSame", fn := fun _ => fun
  | [d1, d2, d3, d4] => { results := [.lit (.bool true)], args := [d1, d2, d3, d4] }
  | _ => none }
def hmacSameRow : OpenClaim := { program := "ytdfpfiipcieabaadoor", sum := "a065daca248042cc00b87840ea92d52364c6b5457ac8717e849c9acb118ecdee", func := "coffret/coffretlaw03.HmacSame", spec := "hmacSame", named := ["coffret/sha.start", "coffret/sha.rounds"], apart := false, laid := [("coffret/sha.start", laid_coffret_sha_start), ("coffret/sha.rounds", laid_coffret_sha_rounds)] }
def HmacSameSaid : Prop := hmacSameRow.holds Tryd.pinned (OpenSpec.ofChange hmacSameSpec)

/-- ITS FALSE NEIGHBOUR: 'it returns false'. Refute it at one input. -/
def hmacSameWrong : ChangeSpec := { name := "hmacSame", fn := fun _ => fun
  | [d1, d2, d3, d4] => { results := [.lit (.bool false)], args := [d1, d2, d3, d4] }
  | _ => none }
def HmacSameWrongFalsely : Prop := hmacSameRow.holds Tryd.pinned (OpenSpec.ofChange hmacSameWrong)

/-- 'coffretlaw03.HmacKeeps': WHATEVER THE INPUT: true; the input reads as it did. -/
def hmacKeepsSpec : ChangeSpec := { name := "hmacKeeps", fn := fun _ => fun
  | [d1, d2] => { results := [.lit (.bool true)], args := [d1, d2] }
  | _ => none }
def hmacKeepsRow : OpenClaim := { program := "ytdfpfiipcieabaadoor", sum := "a065daca248042cc00b87840ea92d52364c6b5457ac8717e849c9acb118ecdee", func := "coffret/coffretlaw03.HmacKeeps", spec := "hmacKeeps", named := ["coffret/sha.start", "coffret/sha.rounds"], apart := false, laid := [("coffret/sha.start", laid_coffret_sha_start), ("coffret/sha.rounds", laid_coffret_sha_rounds)] }
def HmacKeepsSaid : Prop := hmacKeepsRow.holds Tryd.pinned (OpenSpec.ofChange hmacKeepsSpec)

/-- ITS FALSE NEIGHBOUR: 'it returns false'. Refute it at one input. -/
def hmacKeepsWrong : ChangeSpec := { name := "hmacKeeps", fn := fun _ => fun
  | [d1, d2] => { results := [.lit (.bool false)], args := [d1, d2] }
  | _ => none }
def HmacKeepsWrongFalsely : Prop := hmacKeepsRow.holds Tryd.pinned (OpenSpec.ofChange hmacKeepsWrong)

/-- 'coffretlaw03.HmacCuts': WHATEVER THE INPUT: true; the input reads as it did. -/
def hmacCutsSpec : ChangeSpec := { name := "hmacCuts", fn := fun _ => fun
  | [d1, d2, d3, d4] => { results := [.lit (.bool true)], args := [d1, d2, d3, d4] }
  | _ => none }
def hmacCutsRow : OpenClaim := { program := "ytdfpfiipcieabaadoor", sum := "a065daca248042cc00b87840ea92d52364c6b5457ac8717e849c9acb118ecdee", func := "coffret/coffretlaw03.HmacCuts", spec := "hmacCuts", named := ["coffret/sha.start", "coffret/sha.rounds"], apart := false, laid := [("coffret/sha.start", laid_coffret_sha_start), ("coffret/sha.rounds", laid_coffret_sha_rounds)] }
def HmacCutsSaid : Prop := hmacCutsRow.holds Tryd.pinned (OpenSpec.ofChange hmacCutsSpec)

/-- ITS FALSE NEIGHBOUR: 'it returns false'. Refute it at one input. -/
def hmacCutsWrong : ChangeSpec := { name := "hmacCuts", fn := fun _ => fun
  | [d1, d2, d3, d4] => { results := [.lit (.bool false)], args := [d1, d2, d3, d4] }
  | _ => none }
def HmacCutsWrongFalsely : Prop := hmacCutsRow.holds Tryd.pinned (OpenSpec.ofChange hmacCutsWrong)

/- THE SECOND FORM. 'bulk': how many values and letters a reading holds, each counted each time it is reached (what is shared counts as often as it is met; a slice's spare places count too). A statement '..UptoSaid' is the law's where the arguments, and the package variables that the reading takes, are together of bulk at most 1048576: NARROWER than '..Said'. Prove '..Said' where nothing that the law and all that it calls make is longer than what came in: it says more and counts as full. Else prove '..UptoSaid'. A law counts once. -/
mutual
def uptoBulk {H : Type} : DataW H → Nat
  | .lit (.string bytes) => bytes.length + 1
  | .lit _ => 1
  | .nil => 1
  | .ptr d => uptoBulk d + 1
  | .slice elems spare => uptoBulkAll elems + uptoBulkAll spare + 1
  | .agg parts => uptoBulkAll parts + 1
  | .iface _ d => uptoBulk d + 1
  | .map entries => uptoBulkEntries entries + 1
  | .held _ => 1
def uptoBulkAll {H : Type} : List (DataW H) → Nat
  | [] => 0
  | d :: r => uptoBulk d + uptoBulkAll r
def uptoBulkEntries {H : Type} : List (Lit × DataW H) → Nat
  | [] => 0
  | x :: r => uptoBulkEntry x + uptoBulkEntries r
def uptoBulkEntry {H : Type} : Lit × DataW H → Nat
  | (.string bytes, d) => bytes.length + uptoBulk d + 1
  | (_, d) => uptoBulk d + 1
 end
def uptoSmall : (H : Type) → List (DataW H) → Bool := fun _ ds => decide (uptoBulkAll ds ≤ 1048576)
def OpenSpec.upto (s : _root_.Go.ChangeSpec) : _root_.Go.OpenSpec := { _root_.Go.OpenSpec.ofChange s with cond := some uptoSmall }

/-- 'coffretlaw03.HmacIs', WHERE WHAT IT READS IS OF BULK AT MOST 1048576: true; the input reads as it did. -/
def hmacIsUptoRow : OpenClaim := { program := "ytdfpfiipcieabaadoor", sum := "a065daca248042cc00b87840ea92d52364c6b5457ac8717e849c9acb118ecdee", func := "coffret/coffretlaw03.HmacIs", spec := "hmacIs", named := ["coffret/sha.start", "coffret/sha.rounds"], apart := false, laid := [("coffret/sha.start", laid_coffret_sha_start), ("coffret/sha.rounds", laid_coffret_sha_rounds)], narrowed := true }
def HmacIsUptoSaid : Prop := hmacIsUptoRow.holds Tryd.pinned (OpenSpec.upto hmacIsSpec)

/-- 'coffretlaw03.HmacGoes', WHERE WHAT IT READS IS OF BULK AT MOST 1048576: true; the input reads as it did. -/
def hmacGoesUptoRow : OpenClaim := { program := "ytdfpfiipcieabaadoor", sum := "a065daca248042cc00b87840ea92d52364c6b5457ac8717e849c9acb118ecdee", func := "coffret/coffretlaw03.HmacGoes", spec := "hmacGoes", named := ["coffret/sha.start", "coffret/sha.rounds"], apart := false, laid := [("coffret/sha.start", laid_coffret_sha_start), ("coffret/sha.rounds", laid_coffret_sha_rounds)], narrowed := true }
def HmacGoesUptoSaid : Prop := hmacGoesUptoRow.holds Tryd.pinned (OpenSpec.upto hmacGoesSpec)

/-- 'coffretlaw03.HmacKeys', WHERE WHAT IT READS IS OF BULK AT MOST 1048576: true; the input reads as it did. -/
def hmacKeysUptoRow : OpenClaim := { program := "ytdfpfiipcieabaadoor", sum := "a065daca248042cc00b87840ea92d52364c6b5457ac8717e849c9acb118ecdee", func := "coffret/coffretlaw03.HmacKeys", spec := "hmacKeys", named := ["coffret/sha.start", "coffret/sha.rounds"], apart := false, laid := [("coffret/sha.start", laid_coffret_sha_start), ("coffret/sha.rounds", laid_coffret_sha_rounds)], narrowed := true }
def HmacKeysUptoSaid : Prop := hmacKeysUptoRow.holds Tryd.pinned (OpenSpec.upto hmacKeysSpec)

/-- 'coffretlaw03.HmacSame', WHERE WHAT IT READS IS OF BULK AT MOST 1048576: true; the input reads as it did. -/
def hmacSameUptoRow : OpenClaim := { program := "ytdfpfiipcieabaadoor", sum := "a065daca248042cc00b87840ea92d52364c6b5457ac8717e849c9acb118ecdee", func := "coffret/coffretlaw03.HmacSame", spec := "hmacSame", named := ["coffret/sha.start", "coffret/sha.rounds"], apart := false, laid := [("coffret/sha.start", laid_coffret_sha_start), ("coffret/sha.rounds", laid_coffret_sha_rounds)], narrowed := true }
def HmacSameUptoSaid : Prop := hmacSameUptoRow.holds Tryd.pinned (OpenSpec.upto hmacSameSpec)

/-- 'coffretlaw03.HmacKeeps', WHERE WHAT IT READS IS OF BULK AT MOST 1048576: true; the input reads as it did. -/
def hmacKeepsUptoRow : OpenClaim := { program := "ytdfpfiipcieabaadoor", sum := "a065daca248042cc00b87840ea92d52364c6b5457ac8717e849c9acb118ecdee", func := "coffret/coffretlaw03.HmacKeeps", spec := "hmacKeeps", named := ["coffret/sha.start", "coffret/sha.rounds"], apart := false, laid := [("coffret/sha.start", laid_coffret_sha_start), ("coffret/sha.rounds", laid_coffret_sha_rounds)], narrowed := true }
def HmacKeepsUptoSaid : Prop := hmacKeepsUptoRow.holds Tryd.pinned (OpenSpec.upto hmacKeepsSpec)

/-- 'coffretlaw03.HmacCuts', WHERE WHAT IT READS IS OF BULK AT MOST 1048576: true; the input reads as it did. -/
def hmacCutsUptoRow : OpenClaim := { program := "ytdfpfiipcieabaadoor", sum := "a065daca248042cc00b87840ea92d52364c6b5457ac8717e849c9acb118ecdee", func := "coffret/coffretlaw03.HmacCuts", spec := "hmacCuts", named := ["coffret/sha.start", "coffret/sha.rounds"], apart := false, laid := [("coffret/sha.start", laid_coffret_sha_start), ("coffret/sha.rounds", laid_coffret_sha_rounds)], narrowed := true }
def HmacCutsUptoSaid : Prop := hmacCutsUptoRow.holds Tryd.pinned (OpenSpec.upto hmacCutsSpec)

end Rows
end Go.Proofs.YtdfpfiipcieabaaDoor
