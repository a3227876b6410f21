/-
  NARROWER THAN 'FOR EVERY INPUT', by the rows' own cells (each row's printed sentence says how): TablesWalks: laid · TablesBack: laid · TablesLess: laid · TopSpaces: laid.
  DERIVED. THE GIVEN ROWS OF THIS SEAT. 4 by the template 'for every input the law returns true; each argument reads behind the call as it read before'; 0 by the template 'total and deterministic' (their statements: YtpfpcmadhbejiaaDoorTotals.lean).
  GIVEN WITH THE SEED: the statements are not yours to turn. If you find one false, say at which input.
  Laid BY PROGRAM, IN A SANDBOX (cutbox-rows.mjs): the forced cells as the released guide's own fill.sh prints them over the translation 0a10115b739d28cf… (all of the seat's roots in one cut). By AI agents, Wed Nov 11 2026. No macro, syntax, notation, axiom, sorry.
-/
import Derived.Test.YtpfpcmadhbejiaaDoorChecked
import GoSem.Claim
import GoSem.ClaimJoined
import GoSem.ClaimMapViews
import Derived.JoinedTies
import Derived.KernelRfl
namespace Go.Proofs.YtpfpcmadhbejiaaDoor
/- THE CELL 'sum', in the pinned program and in every row, IS THE sha256 OF THE DUMP (.gsa) THAT YtpfpcmadhbejiaaDoorProg.lean LOADS. Nothing in Lean hashes anything: it is a label: what it is worth is what the hold of that sum in a sandbox is worth. -/
noncomputable def Tryd.pinned : Pinned := { name := "ytpfpcmadhbejiaadoor", sum := "0a10115b739d28cfcf76d6dd0cb24b3a41bfb2f5a927831a84cff191754843ba", checked := Tryd.checked }
namespace Rows
def none {H : Type} : Left H := { results := [], args := [] }

/- WHAT THE LISTED PACKAGE-LEVEL VARIABLES READ AS WHEN THE CALL BEGINS. Each datum BY PROGRAM (the guide's laid-datum.mjs) off the statement by which the dump's own 'gosem.cut.vars' lays the variable. In a bare row this is a premise. The card (YtpfpcmadhbejiaaDoorCards.lean) ties it to the program's text. -/
def laid_trunnion_entry_fields {H : Type} : DataW H := .agg [.agg [.lit (.int .i64 0), .lit (.int .i64 1)], .agg [.lit (.int .i64 1), .lit (.int .i64 1)], .agg [.lit (.int .i64 2), .lit (.int .i64 1)], .agg [.lit (.int .i64 8), .lit (.int .i64 8)], .agg [.lit (.int .i64 8), .lit (.int .i64 4)], .agg [.lit (.int .i64 4), .lit (.int .i64 4)], .agg [.lit (.int .i64 0), .lit (.int .i64 4)], .agg [.lit (.int .i64 4), .lit (.int .i64 12)], .agg [.lit (.int .i64 0), .lit (.int .i64 4)]]

/-- 'trunnionlaw08.TablesWalks': WHATEVER THE INPUT: true; the input reads as it did. -/
def tablesWalksSpec : ChangeSpec := { name := "tablesWalks", fn := fun _ => fun
  | [d1, d2] => { results := [.lit (.bool true)], args := [d1, d2] }
  | _ => none }
def tablesWalksRow : OpenClaim := { program := "ytpfpcmadhbejiaadoor", sum := "0a10115b739d28cfcf76d6dd0cb24b3a41bfb2f5a927831a84cff191754843ba", func := "trunnion/trunnionlaw08.TablesWalks", spec := "tablesWalks", unfollowed := true, recurses := true, named := ["trunnion/entry.fields"], apart := false, laid := [("trunnion/entry.fields", laid_trunnion_entry_fields)] }
def TablesWalksSaid : Prop := tablesWalksRow.holds Tryd.pinned (OpenSpec.ofChange tablesWalksSpec)

/-- ITS FALSE NEIGHBOUR: 'it returns false'. Refute it at one input. -/
def tablesWalksWrong : ChangeSpec := { name := "tablesWalks", fn := fun _ => fun
  | [d1, d2] => { results := [.lit (.bool false)], args := [d1, d2] }
  | _ => none }
def TablesWalksWrongFalsely : Prop := tablesWalksRow.holds Tryd.pinned (OpenSpec.ofChange tablesWalksWrong)

/-- 'trunnionlaw08.TablesBack': WHATEVER THE INPUT: true; the input reads as it did. -/
def tablesBackSpec : ChangeSpec := { name := "tablesBack", fn := fun _ => fun
  | [d1, d2] => { results := [.lit (.bool true)], args := [d1, d2] }
  | _ => none }
def tablesBackRow : OpenClaim := { program := "ytpfpcmadhbejiaadoor", sum := "0a10115b739d28cfcf76d6dd0cb24b3a41bfb2f5a927831a84cff191754843ba", func := "trunnion/trunnionlaw08.TablesBack", spec := "tablesBack", unfollowed := true, recurses := true, named := ["trunnion/entry.fields"], apart := false, laid := [("trunnion/entry.fields", laid_trunnion_entry_fields)] }
def TablesBackSaid : Prop := tablesBackRow.holds Tryd.pinned (OpenSpec.ofChange tablesBackSpec)

/-- ITS FALSE NEIGHBOUR: 'it returns false'. Refute it at one input. -/
def tablesBackWrong : ChangeSpec := { name := "tablesBack", fn := fun _ => fun
  | [d1, d2] => { results := [.lit (.bool false)], args := [d1, d2] }
  | _ => none }
def TablesBackWrongFalsely : Prop := tablesBackRow.holds Tryd.pinned (OpenSpec.ofChange tablesBackWrong)

/-- 'trunnionlaw08.TablesLess': WHATEVER THE INPUT: true; the input reads as it did. -/
def tablesLessSpec : ChangeSpec := { name := "tablesLess", fn := fun _ => fun
  | [d] => { results := [.lit (.bool true)], args := [d] }
  | _ => none }
def tablesLessRow : OpenClaim := { program := "ytpfpcmadhbejiaadoor", sum := "0a10115b739d28cfcf76d6dd0cb24b3a41bfb2f5a927831a84cff191754843ba", func := "trunnion/trunnionlaw08.TablesLess", spec := "tablesLess", unfollowed := true, recurses := true, named := ["trunnion/entry.fields"], apart := false, laid := [("trunnion/entry.fields", laid_trunnion_entry_fields)] }
def TablesLessSaid : Prop := tablesLessRow.holds Tryd.pinned (OpenSpec.ofChange tablesLessSpec)

/-- ITS FALSE NEIGHBOUR: 'it returns false'. Refute it at one input. -/
def tablesLessWrong : ChangeSpec := { name := "tablesLess", fn := fun _ => fun
  | [d] => { results := [.lit (.bool false)], args := [d] }
  | _ => none }
def TablesLessWrongFalsely : Prop := tablesLessRow.holds Tryd.pinned (OpenSpec.ofChange tablesLessWrong)

/-- 'trunniontop.TopSpaces': WHATEVER THE INPUT: true; the input reads as it did. -/
def topSpacesSpec : ChangeSpec := { name := "topSpaces", fn := fun _ => fun
  | [d1, d2] => { results := [.lit (.bool true)], args := [d1, d2] }
  | _ => none }
def topSpacesRow : OpenClaim := { program := "ytpfpcmadhbejiaadoor", sum := "0a10115b739d28cfcf76d6dd0cb24b3a41bfb2f5a927831a84cff191754843ba", func := "trunnion/trunniontop.TopSpaces", spec := "topSpaces", unfollowed := true, recurses := true, named := ["trunnion/entry.fields"], apart := false, laid := [("trunnion/entry.fields", laid_trunnion_entry_fields)] }
def TopSpacesSaid : Prop := topSpacesRow.holds Tryd.pinned (OpenSpec.ofChange topSpacesSpec)

/-- ITS FALSE NEIGHBOUR: 'it returns false'. Refute it at one input. -/
def topSpacesWrong : ChangeSpec := { name := "topSpaces", fn := fun _ => fun
  | [d1, d2] => { results := [.lit (.bool false)], args := [d1, d2] }
  | _ => none }
def TopSpacesWrongFalsely : Prop := topSpacesRow.holds Tryd.pinned (OpenSpec.ofChange topSpacesWrong)

/- THE SECOND FORM. 'bulk': how many values and letters a reading holds, each counted each time it is reached (what is shared counts as often as it is met; a slice's spare places count too). A statement '..UptoSaid' is the law's where the arguments, and the package variables that the reading takes, are together of bulk at most 1048576: NARROWER than '..Said'. Prove '..Said' where nothing that the law and all that it calls make is longer than what came in: it says more and counts as full. Else prove '..UptoSaid'. A law counts once. -/
mutual
def uptoBulk {H : Type} : DataW H → Nat
  | .lit (.string bytes) => bytes.length + 1
  | .lit _ => 1
  | .nil => 1
  | .ptr d => uptoBulk d + 1
  | .slice elems spare => uptoBulkAll elems + uptoBulkAll spare + 1
  | .agg parts => uptoBulkAll parts + 1
  | .iface _ d => uptoBulk d + 1
  | .map entries => uptoBulkEntries entries + 1
  | .held _ => 1
def uptoBulkAll {H : Type} : List (DataW H) → Nat
  | [] => 0
  | d :: r => uptoBulk d + uptoBulkAll r
def uptoBulkEntries {H : Type} : List (Lit × DataW H) → Nat
  | [] => 0
  | x :: r => uptoBulkEntry x + uptoBulkEntries r
def uptoBulkEntry {H : Type} : Lit × DataW H → Nat
  | (.string bytes, d) => bytes.length + uptoBulk d + 1
  | (_, d) => uptoBulk d + 1
 end
def uptoSmall : (H : Type) → List (DataW H) → Bool := fun _ ds => decide (uptoBulkAll ds ≤ 1048576)
def OpenSpec.upto (s : _root_.Go.ChangeSpec) : _root_.Go.OpenSpec := { _root_.Go.OpenSpec.ofChange s with cond := some uptoSmall }

/-- 'trunnionlaw08.TablesWalks', WHERE WHAT IT READS IS OF BULK AT MOST 1048576: true; the input reads as it did. -/
def tablesWalksUptoRow : OpenClaim := { program := "ytpfpcmadhbejiaadoor", sum := "0a10115b739d28cfcf76d6dd0cb24b3a41bfb2f5a927831a84cff191754843ba", func := "trunnion/trunnionlaw08.TablesWalks", spec := "tablesWalks", unfollowed := true, recurses := true, named := ["trunnion/entry.fields"], apart := false, laid := [("trunnion/entry.fields", laid_trunnion_entry_fields)], narrowed := true }
def TablesWalksUptoSaid : Prop := tablesWalksUptoRow.holds Tryd.pinned (OpenSpec.upto tablesWalksSpec)

/-- 'trunnionlaw08.TablesBack', WHERE WHAT IT READS IS OF BULK AT MOST 1048576: true; the input reads as it did. -/
def tablesBackUptoRow : OpenClaim := { program := "ytpfpcmadhbejiaadoor", sum := "0a10115b739d28cfcf76d6dd0cb24b3a41bfb2f5a927831a84cff191754843ba", func := "trunnion/trunnionlaw08.TablesBack", spec := "tablesBack", unfollowed := true, recurses := true, named := ["trunnion/entry.fields"], apart := false, laid := [("trunnion/entry.fields", laid_trunnion_entry_fields)], narrowed := true }
def TablesBackUptoSaid : Prop := tablesBackUptoRow.holds Tryd.pinned (OpenSpec.upto tablesBackSpec)

/-- 'trunnionlaw08.TablesLess', WHERE WHAT IT READS IS OF BULK AT MOST 1048576: true; the input reads as it did. -/
def tablesLessUptoRow : OpenClaim := { program := "ytpfpcmadhbejiaadoor", sum := "0a10115b739d28cfcf76d6dd0cb24b3a41bfb2f5a927831a84cff191754843ba", func := "trunnion/trunnionlaw08.TablesLess", spec := "tablesLess", unfollowed := true, recurses := true, named := ["trunnion/entry.fields"], apart := false, laid := [("trunnion/entry.fields", laid_trunnion_entry_fields)], narrowed := true }
def TablesLessUptoSaid : Prop := tablesLessUptoRow.holds Tryd.pinned (OpenSpec.upto tablesLessSpec)

/-- 'trunniontop.TopSpaces', WHERE WHAT IT READS IS OF BULK AT MOST 1048576: true; the input reads as it did. -/
def topSpacesUptoRow : OpenClaim := { program := "ytpfpcmadhbejiaadoor", sum := "0a10115b739d28cfcf76d6dd0cb24b3a41bfb2f5a927831a84cff191754843ba", func := "trunnion/trunniontop.TopSpaces", spec := "topSpaces", unfollowed := true, recurses := true, named := ["trunnion/entry.fields"], apart := false, laid := [("trunnion/entry.fields", laid_trunnion_entry_fields)], narrowed := true }
def TopSpacesUptoSaid : Prop := topSpacesUptoRow.holds Tryd.pinned (OpenSpec.upto topSpacesSpec)

end Rows
end Go.Proofs.YtpfpcmadhbejiaaDoor
