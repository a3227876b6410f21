/-
  NARROWER THAN 'FOR EVERY INPUT', by the rows' own cells (each row's printed sentence says how): WalkPlays: laid · WalkOwn: laid · WalkPut: laid · WalkSteps: laid.
  DERIVED. THE GIVEN ROWS OF THIS SEAT. 4 by the template 'for every input the law returns true; each argument reads behind the call as it read before'; 0 by the template 'total and deterministic' (their statements: YtbakhipabeaojaaDoorTotals.lean).
  GIVEN WITH THE SEED: the statements are not yours to turn. If you find one false, say at which input.
  Laid BY PROGRAM, IN A SANDBOX (cutbox-rows.mjs): the forced cells as the released guide's own fill.sh prints them over the translation 88d133d1b3d571dd… (all of the seat's roots in one cut). By AI agents, Wed Nov 11 2026. No macro, syntax, notation, axiom, sorry.
-/
import Derived.Test.YtbakhipabeaojaaDoorChecked
import GoSem.Claim
import GoSem.ClaimJoined
import GoSem.ClaimMapViews
import Derived.JoinedTies
import Derived.KernelRfl
namespace Go.Proofs.YtbakhipabeaojaaDoor
/- THE CELL 'sum', in the pinned program and in every row, IS THE sha256 OF THE DUMP (.gsa) THAT YtbakhipabeaojaaDoorProg.lean LOADS. Nothing in Lean hashes anything: it is a label: what it is worth is what the hold of that sum in a sandbox is worth. -/
noncomputable def Tryd.pinned : Pinned := { name := "ytbakhipabeaojaadoor", sum := "88d133d1b3d571ddf8bea2acb64434c4429ee4152e0ff1c4a154b7a25cd0f782", checked := Tryd.checked }
namespace Rows
def none {H : Type} : Left H := { results := [], args := [] }

/- WHAT THE LISTED PACKAGE-LEVEL VARIABLES READ AS WHEN THE CALL BEGINS. Each datum BY PROGRAM (the guide's laid-datum.mjs) off the statement by which the dump's own 'gosem.cut.vars' lays the variable. In a bare row this is a premise. The card (YtbakhipabeaojaaDoorCards.lean) ties it to the program's text. -/
def laid_trunnion_entry_fields {H : Type} : DataW H := .agg [.agg [.lit (.int .i64 0), .lit (.int .i64 1)], .agg [.lit (.int .i64 1), .lit (.int .i64 1)], .agg [.lit (.int .i64 2), .lit (.int .i64 1)], .agg [.lit (.int .i64 8), .lit (.int .i64 8)], .agg [.lit (.int .i64 8), .lit (.int .i64 4)], .agg [.lit (.int .i64 4), .lit (.int .i64 4)], .agg [.lit (.int .i64 0), .lit (.int .i64 4)], .agg [.lit (.int .i64 4), .lit (.int .i64 12)], .agg [.lit (.int .i64 0), .lit (.int .i64 4)]]

/-- 'trunnionlaw07.WalkPlays': WHATEVER THE INPUT: true; the input reads as it did. -/
def walkPlaysSpec : ChangeSpec := { name := "walkPlays", fn := fun _ => fun
  | [d1, d2, d3] => { results := [.lit (.bool true)], args := [d1, d2, d3] }
  | _ => none }
def walkPlaysRow : OpenClaim := { program := "ytbakhipabeaojaadoor", sum := "88d133d1b3d571ddf8bea2acb64434c4429ee4152e0ff1c4a154b7a25cd0f782", func := "trunnion/trunnionlaw07.WalkPlays", spec := "walkPlays", named := ["trunnion/entry.fields"], apart := false, laid := [("trunnion/entry.fields", laid_trunnion_entry_fields)] }
def WalkPlaysSaid : Prop := walkPlaysRow.holds Tryd.pinned (OpenSpec.ofChange walkPlaysSpec)

/-- ITS FALSE NEIGHBOUR: 'it returns false'. Refute it at one input. -/
def walkPlaysWrong : ChangeSpec := { name := "walkPlays", fn := fun _ => fun
  | [d1, d2, d3] => { results := [.lit (.bool false)], args := [d1, d2, d3] }
  | _ => none }
def WalkPlaysWrongFalsely : Prop := walkPlaysRow.holds Tryd.pinned (OpenSpec.ofChange walkPlaysWrong)

/-- 'trunnionlaw07.WalkOwn': WHATEVER THE INPUT: true; the input reads as it did. -/
def walkOwnSpec : ChangeSpec := { name := "walkOwn", fn := fun _ => fun
  | [d1, d2] => { results := [.lit (.bool true)], args := [d1, d2] }
  | _ => none }
def walkOwnRow : OpenClaim := { program := "ytbakhipabeaojaadoor", sum := "88d133d1b3d571ddf8bea2acb64434c4429ee4152e0ff1c4a154b7a25cd0f782", func := "trunnion/trunnionlaw07.WalkOwn", spec := "walkOwn", named := ["trunnion/entry.fields"], apart := false, laid := [("trunnion/entry.fields", laid_trunnion_entry_fields)] }
def WalkOwnSaid : Prop := walkOwnRow.holds Tryd.pinned (OpenSpec.ofChange walkOwnSpec)

/-- ITS FALSE NEIGHBOUR: 'it returns false'. Refute it at one input. -/
def walkOwnWrong : ChangeSpec := { name := "walkOwn", fn := fun _ => fun
  | [d1, d2] => { results := [.lit (.bool false)], args := [d1, d2] }
  | _ => none }
def WalkOwnWrongFalsely : Prop := walkOwnRow.holds Tryd.pinned (OpenSpec.ofChange walkOwnWrong)

/-- 'trunnionlaw07.WalkPut': WHATEVER THE INPUT: true; the input reads as it did. -/
def walkPutSpec : ChangeSpec := { name := "walkPut", fn := fun _ => fun
  | [d1, d2, d3] => { results := [.lit (.bool true)], args := [d1, d2, d3] }
  | _ => none }
def walkPutRow : OpenClaim := { program := "ytbakhipabeaojaadoor", sum := "88d133d1b3d571ddf8bea2acb64434c4429ee4152e0ff1c4a154b7a25cd0f782", func := "trunnion/trunnionlaw07.WalkPut", spec := "walkPut", named := ["trunnion/entry.fields"], apart := false, laid := [("trunnion/entry.fields", laid_trunnion_entry_fields)] }
def WalkPutSaid : Prop := walkPutRow.holds Tryd.pinned (OpenSpec.ofChange walkPutSpec)

/-- ITS FALSE NEIGHBOUR: 'it returns false'. Refute it at one input. -/
def walkPutWrong : ChangeSpec := { name := "walkPut", fn := fun _ => fun
  | [d1, d2, d3] => { results := [.lit (.bool false)], args := [d1, d2, d3] }
  | _ => none }
def WalkPutWrongFalsely : Prop := walkPutRow.holds Tryd.pinned (OpenSpec.ofChange walkPutWrong)

/-- 'trunnionlaw07.WalkSteps': WHATEVER THE INPUT: true; the input reads as it did. -/
def walkStepsSpec : ChangeSpec := { name := "walkSteps", fn := fun _ => fun
  | [d1, d2] => { results := [.lit (.bool true)], args := [d1, d2] }
  | _ => none }
def walkStepsRow : OpenClaim := { program := "ytbakhipabeaojaadoor", sum := "88d133d1b3d571ddf8bea2acb64434c4429ee4152e0ff1c4a154b7a25cd0f782", func := "trunnion/trunnionlaw07.WalkSteps", spec := "walkSteps", named := ["trunnion/entry.fields"], apart := false, laid := [("trunnion/entry.fields", laid_trunnion_entry_fields)] }
def WalkStepsSaid : Prop := walkStepsRow.holds Tryd.pinned (OpenSpec.ofChange walkStepsSpec)

/-- ITS FALSE NEIGHBOUR: 'it returns false'. Refute it at one input. -/
def walkStepsWrong : ChangeSpec := { name := "walkSteps", fn := fun _ => fun
  | [d1, d2] => { results := [.lit (.bool false)], args := [d1, d2] }
  | _ => none }
def WalkStepsWrongFalsely : Prop := walkStepsRow.holds Tryd.pinned (OpenSpec.ofChange walkStepsWrong)

/- THE SECOND FORM. 'bulk': how many values and letters a reading holds, each counted each time it is reached (what is shared counts as often as it is met; a slice's spare places count too). A statement '..UptoSaid' is the law's where the arguments, and the package variables that the reading takes, are together of bulk at most 1048576: NARROWER than '..Said'. Prove '..Said' where nothing that the law and all that it calls make is longer than what came in: it says more and counts as full. Else prove '..UptoSaid'. A law counts once. -/
mutual
def uptoBulk {H : Type} : DataW H → Nat
  | .lit (.string bytes) => bytes.length + 1
  | .lit _ => 1
  | .nil => 1
  | .ptr d => uptoBulk d + 1
  | .slice elems spare => uptoBulkAll elems + uptoBulkAll spare + 1
  | .agg parts => uptoBulkAll parts + 1
  | .iface _ d => uptoBulk d + 1
  | .map entries => uptoBulkEntries entries + 1
  | .held _ => 1
def uptoBulkAll {H : Type} : List (DataW H) → Nat
  | [] => 0
  | d :: r => uptoBulk d + uptoBulkAll r
def uptoBulkEntries {H : Type} : List (Lit × DataW H) → Nat
  | [] => 0
  | x :: r => uptoBulkEntry x + uptoBulkEntries r
def uptoBulkEntry {H : Type} : Lit × DataW H → Nat
  | (.string bytes, d) => bytes.length + uptoBulk d + 1
  | (_, d) => uptoBulk d + 1
 end
def uptoSmall : (H : Type) → List (DataW H) → Bool := fun _ ds => decide (uptoBulkAll ds ≤ 1048576)
def OpenSpec.upto (s : _root_.Go.ChangeSpec) : _root_.Go.OpenSpec := { _root_.Go.OpenSpec.ofChange s with cond := some uptoSmall }

/-- 'trunnionlaw07.WalkPlays', WHERE WHAT IT READS IS OF BULK AT MOST 1048576: true; the input reads as it did. -/
def walkPlaysUptoRow : OpenClaim := { program := "ytbakhipabeaojaadoor", sum := "88d133d1b3d571ddf8bea2acb64434c4429ee4152e0ff1c4a154b7a25cd0f782", func := "trunnion/trunnionlaw07.WalkPlays", spec := "walkPlays", named := ["trunnion/entry.fields"], apart := false, laid := [("trunnion/entry.fields", laid_trunnion_entry_fields)], narrowed := true }
def WalkPlaysUptoSaid : Prop := walkPlaysUptoRow.holds Tryd.pinned (OpenSpec.upto walkPlaysSpec)

/-- 'trunnionlaw07.WalkOwn', WHERE WHAT IT READS IS OF BULK AT MOST 1048576: true; the input reads as it did. -/
def walkOwnUptoRow : OpenClaim := { program := "ytbakhipabeaojaadoor", sum := "88d133d1b3d571ddf8bea2acb64434c4429ee4152e0ff1c4a154b7a25cd0f782", func := "trunnion/trunnionlaw07.WalkOwn", spec := "walkOwn", named := ["trunnion/entry.fields"], apart := false, laid := [("trunnion/entry.fields", laid_trunnion_entry_fields)], narrowed := true }
def WalkOwnUptoSaid : Prop := walkOwnUptoRow.holds Tryd.pinned (OpenSpec.upto walkOwnSpec)

/-- 'trunnionlaw07.WalkPut', WHERE WHAT IT READS IS OF BULK AT MOST 1048576: true; the input reads as it did. -/
def walkPutUptoRow : OpenClaim := { program := "ytbakhipabeaojaadoor", sum := "88d133d1b3d571ddf8bea2acb64434c4429ee4152e0ff1c4a154b7a25cd0f782", func := "trunnion/trunnionlaw07.WalkPut", spec := "walkPut", named := ["trunnion/entry.fields"], apart := false, laid := [("trunnion/entry.fields", laid_trunnion_entry_fields)], narrowed := true }
def WalkPutUptoSaid : Prop := walkPutUptoRow.holds Tryd.pinned (OpenSpec.upto walkPutSpec)

/-- 'trunnionlaw07.WalkSteps', WHERE WHAT IT READS IS OF BULK AT MOST 1048576: true; the input reads as it did. -/
def walkStepsUptoRow : OpenClaim := { program := "ytbakhipabeaojaadoor", sum := "88d133d1b3d571ddf8bea2acb64434c4429ee4152e0ff1c4a154b7a25cd0f782", func := "trunnion/trunnionlaw07.WalkSteps", spec := "walkSteps", named := ["trunnion/entry.fields"], apart := false, laid := [("trunnion/entry.fields", laid_trunnion_entry_fields)], narrowed := true }
def WalkStepsUptoSaid : Prop := walkStepsUptoRow.holds Tryd.pinned (OpenSpec.upto walkStepsSpec)

end Rows
end Go.Proofs.YtbakhipabeaojaaDoor
