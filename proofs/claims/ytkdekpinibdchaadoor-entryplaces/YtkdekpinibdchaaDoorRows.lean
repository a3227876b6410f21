/-
  NARROWER THAN 'FOR EVERY INPUT', by the rows' own cells (each row's printed sentence says how): EntryWords: laid · EntryPages: laid · EntryBack: laid · EntryPlaces: laid · EntrySplits: laid.
  DERIVED. THE GIVEN ROWS OF THIS SEAT. 5 by the template 'for every input the law returns true; each argument reads behind the call as it read before'; 0 by the template 'total and deterministic' (their statements: YtkdekpinibdchaaDoorTotals.lean).
  GIVEN WITH THE SEED: the statements are not yours to turn. If you find one false, say at which input.
  Laid BY PROGRAM, IN A SANDBOX (cutbox-rows.mjs): the forced cells as the released guide's own fill.sh prints them over the translation 19a2651240b099c2… (all of the seat's roots in one cut). By AI agents, Wed Nov 11 2026. No macro, syntax, notation, axiom, sorry.
-/
import Derived.Test.YtkdekpinibdchaaDoorChecked
import GoSem.Claim
import GoSem.ClaimJoined
import GoSem.ClaimMapViews
import Derived.JoinedTies
import Derived.KernelRfl
namespace Go.Proofs.YtkdekpinibdchaaDoor
/- THE CELL 'sum', in the pinned program and in every row, IS THE sha256 OF THE DUMP (.gsa) THAT YtkdekpinibdchaaDoorProg.lean LOADS. Nothing in Lean hashes anything: it is a label: what it is worth is what the hold of that sum in a sandbox is worth. -/
noncomputable def Tryd.pinned : Pinned := { name := "ytkdekpinibdchaadoor", sum := "19a2651240b099c2ffbf6ce066ebd967fa0e73863be753603901b1922965c6f9", checked := Tryd.checked }
namespace Rows
def none {H : Type} : Left H := { results := [], args := [] }

/- WHAT THE LISTED PACKAGE-LEVEL VARIABLES READ AS WHEN THE CALL BEGINS. Each datum BY PROGRAM (the guide's laid-datum.mjs) off the statement by which the dump's own 'gosem.cut.vars' lays the variable. In a bare row this is a premise. The card (YtkdekpinibdchaaDoorCards.lean) ties it to the program's text. -/
def laid_trunnion_entry_fields {H : Type} : DataW H := .agg [.agg [.lit (.int .i64 0), .lit (.int .i64 1)], .agg [.lit (.int .i64 1), .lit (.int .i64 1)], .agg [.lit (.int .i64 2), .lit (.int .i64 1)], .agg [.lit (.int .i64 8), .lit (.int .i64 8)], .agg [.lit (.int .i64 8), .lit (.int .i64 4)], .agg [.lit (.int .i64 4), .lit (.int .i64 4)], .agg [.lit (.int .i64 0), .lit (.int .i64 4)], .agg [.lit (.int .i64 4), .lit (.int .i64 12)], .agg [.lit (.int .i64 0), .lit (.int .i64 4)]]

/-- 'trunnionlaw06.EntryWords': WHATEVER THE INPUT: true; the input reads as it did. -/
def entryWordsSpec : ChangeSpec := { name := "entryWords", fn := fun _ => fun
  | [d1, d2] => { results := [.lit (.bool true)], args := [d1, d2] }
  | _ => none }
def entryWordsRow : OpenClaim := { program := "ytkdekpinibdchaadoor", sum := "19a2651240b099c2ffbf6ce066ebd967fa0e73863be753603901b1922965c6f9", func := "trunnion/trunnionlaw06.EntryWords", spec := "entryWords", named := ["trunnion/entry.fields"], apart := false, laid := [("trunnion/entry.fields", laid_trunnion_entry_fields)] }
def EntryWordsSaid : Prop := entryWordsRow.holds Tryd.pinned (OpenSpec.ofChange entryWordsSpec)

/-- ITS FALSE NEIGHBOUR: 'it returns false'. Refute it at one input. -/
def entryWordsWrong : ChangeSpec := { name := "entryWords", fn := fun _ => fun
  | [d1, d2] => { results := [.lit (.bool false)], args := [d1, d2] }
  | _ => none }
def EntryWordsWrongFalsely : Prop := entryWordsRow.holds Tryd.pinned (OpenSpec.ofChange entryWordsWrong)

/-- 'trunnionlaw06.EntryPages': WHATEVER THE INPUT: true; the input reads as it did. -/
def entryPagesSpec : ChangeSpec := { name := "entryPages", fn := fun _ => fun
  | [d1, d2, d3] => { results := [.lit (.bool true)], args := [d1, d2, d3] }
  | _ => none }
def entryPagesRow : OpenClaim := { program := "ytkdekpinibdchaadoor", sum := "19a2651240b099c2ffbf6ce066ebd967fa0e73863be753603901b1922965c6f9", func := "trunnion/trunnionlaw06.EntryPages", spec := "entryPages", named := ["trunnion/entry.fields"], apart := false, laid := [("trunnion/entry.fields", laid_trunnion_entry_fields)] }
def EntryPagesSaid : Prop := entryPagesRow.holds Tryd.pinned (OpenSpec.ofChange entryPagesSpec)

/-- ITS FALSE NEIGHBOUR: 'it returns false'. Refute it at one input. -/
def entryPagesWrong : ChangeSpec := { name := "entryPages", fn := fun _ => fun
  | [d1, d2, d3] => { results := [.lit (.bool false)], args := [d1, d2, d3] }
  | _ => none }
def EntryPagesWrongFalsely : Prop := entryPagesRow.holds Tryd.pinned (OpenSpec.ofChange entryPagesWrong)

/-- 'trunnionlaw06.EntryBack': WHATEVER THE INPUT: true; the input reads as it did. -/
def entryBackSpec : ChangeSpec := { name := "entryBack", fn := fun _ => fun
  | [d1, d2] => { results := [.lit (.bool true)], args := [d1, d2] }
  | _ => none }
def entryBackRow : OpenClaim := { program := "ytkdekpinibdchaadoor", sum := "19a2651240b099c2ffbf6ce066ebd967fa0e73863be753603901b1922965c6f9", func := "trunnion/trunnionlaw06.EntryBack", spec := "entryBack", named := ["trunnion/entry.fields"], apart := false, laid := [("trunnion/entry.fields", laid_trunnion_entry_fields)] }
def EntryBackSaid : Prop := entryBackRow.holds Tryd.pinned (OpenSpec.ofChange entryBackSpec)

/-- ITS FALSE NEIGHBOUR: 'it returns false'. Refute it at one input. -/
def entryBackWrong : ChangeSpec := { name := "entryBack", fn := fun _ => fun
  | [d1, d2] => { results := [.lit (.bool false)], args := [d1, d2] }
  | _ => none }
def EntryBackWrongFalsely : Prop := entryBackRow.holds Tryd.pinned (OpenSpec.ofChange entryBackWrong)

/-- 'trunnionlaw06.EntryPlaces': WHATEVER THE INPUT: true; the input reads as it did. -/
def entryPlacesSpec : ChangeSpec := { name := "entryPlaces", fn := fun _ => fun
  | [d1, d2] => { results := [.lit (.bool true)], args := [d1, d2] }
  | _ => none }
def entryPlacesRow : OpenClaim := { program := "ytkdekpinibdchaadoor", sum := "19a2651240b099c2ffbf6ce066ebd967fa0e73863be753603901b1922965c6f9", func := "trunnion/trunnionlaw06.EntryPlaces", spec := "entryPlaces", named := ["trunnion/entry.fields"], apart := false, laid := [("trunnion/entry.fields", laid_trunnion_entry_fields)] }
def EntryPlacesSaid : Prop := entryPlacesRow.holds Tryd.pinned (OpenSpec.ofChange entryPlacesSpec)

/-- ITS FALSE NEIGHBOUR: 'it returns false'. Refute it at one input. -/
def entryPlacesWrong : ChangeSpec := { name := "entryPlaces", fn := fun _ => fun
  | [d1, d2] => { results := [.lit (.bool false)], args := [d1, d2] }
  | _ => none }
def EntryPlacesWrongFalsely : Prop := entryPlacesRow.holds Tryd.pinned (OpenSpec.ofChange entryPlacesWrong)

/-- 'trunnionlaw06.EntrySplits': WHATEVER THE INPUT: true; the input reads as it did. -/
def entrySplitsSpec : ChangeSpec := { name := "entrySplits", fn := fun _ => fun
  | [d] => { results := [.lit (.bool true)], args := [d] }
  | _ => none }
def entrySplitsRow : OpenClaim := { program := "ytkdekpinibdchaadoor", sum := "19a2651240b099c2ffbf6ce066ebd967fa0e73863be753603901b1922965c6f9", func := "trunnion/trunnionlaw06.EntrySplits", spec := "entrySplits", named := ["trunnion/entry.fields"], apart := false, laid := [("trunnion/entry.fields", laid_trunnion_entry_fields)] }
def EntrySplitsSaid : Prop := entrySplitsRow.holds Tryd.pinned (OpenSpec.ofChange entrySplitsSpec)

/-- ITS FALSE NEIGHBOUR: 'it returns false'. Refute it at one input. -/
def entrySplitsWrong : ChangeSpec := { name := "entrySplits", fn := fun _ => fun
  | [d] => { results := [.lit (.bool false)], args := [d] }
  | _ => none }
def EntrySplitsWrongFalsely : Prop := entrySplitsRow.holds Tryd.pinned (OpenSpec.ofChange entrySplitsWrong)

/- THE SECOND FORM. 'bulk': how many values and letters a reading holds, each counted each time it is reached (what is shared counts as often as it is met; a slice's spare places count too). A statement '..UptoSaid' is the law's where the arguments, and the package variables that the reading takes, are together of bulk at most 1048576: NARROWER than '..Said'. Prove '..Said' where nothing that the law and all that it calls make is longer than what came in: it says more and counts as full. Else prove '..UptoSaid'. A law counts once. -/
mutual
def uptoBulk {H : Type} : DataW H → Nat
  | .lit (.string bytes) => bytes.length + 1
  | .lit _ => 1
  | .nil => 1
  | .ptr d => uptoBulk d + 1
  | .slice elems spare => uptoBulkAll elems + uptoBulkAll spare + 1
  | .agg parts => uptoBulkAll parts + 1
  | .iface _ d => uptoBulk d + 1
  | .map entries => uptoBulkEntries entries + 1
  | .held _ => 1
def uptoBulkAll {H : Type} : List (DataW H) → Nat
  | [] => 0
  | d :: r => uptoBulk d + uptoBulkAll r
def uptoBulkEntries {H : Type} : List (Lit × DataW H) → Nat
  | [] => 0
  | x :: r => uptoBulkEntry x + uptoBulkEntries r
def uptoBulkEntry {H : Type} : Lit × DataW H → Nat
  | (.string bytes, d) => bytes.length + uptoBulk d + 1
  | (_, d) => uptoBulk d + 1
 end
def uptoSmall : (H : Type) → List (DataW H) → Bool := fun _ ds => decide (uptoBulkAll ds ≤ 1048576)
def OpenSpec.upto (s : _root_.Go.ChangeSpec) : _root_.Go.OpenSpec := { _root_.Go.OpenSpec.ofChange s with cond := some uptoSmall }

/-- 'trunnionlaw06.EntryWords', WHERE WHAT IT READS IS OF BULK AT MOST 1048576: true; the input reads as it did. -/
def entryWordsUptoRow : OpenClaim := { program := "ytkdekpinibdchaadoor", sum := "19a2651240b099c2ffbf6ce066ebd967fa0e73863be753603901b1922965c6f9", func := "trunnion/trunnionlaw06.EntryWords", spec := "entryWords", named := ["trunnion/entry.fields"], apart := false, laid := [("trunnion/entry.fields", laid_trunnion_entry_fields)], narrowed := true }
def EntryWordsUptoSaid : Prop := entryWordsUptoRow.holds Tryd.pinned (OpenSpec.upto entryWordsSpec)

/-- 'trunnionlaw06.EntryPages', WHERE WHAT IT READS IS OF BULK AT MOST 1048576: true; the input reads as it did. -/
def entryPagesUptoRow : OpenClaim := { program := "ytkdekpinibdchaadoor", sum := "19a2651240b099c2ffbf6ce066ebd967fa0e73863be753603901b1922965c6f9", func := "trunnion/trunnionlaw06.EntryPages", spec := "entryPages", named := ["trunnion/entry.fields"], apart := false, laid := [("trunnion/entry.fields", laid_trunnion_entry_fields)], narrowed := true }
def EntryPagesUptoSaid : Prop := entryPagesUptoRow.holds Tryd.pinned (OpenSpec.upto entryPagesSpec)

/-- 'trunnionlaw06.EntryBack', WHERE WHAT IT READS IS OF BULK AT MOST 1048576: true; the input reads as it did. -/
def entryBackUptoRow : OpenClaim := { program := "ytkdekpinibdchaadoor", sum := "19a2651240b099c2ffbf6ce066ebd967fa0e73863be753603901b1922965c6f9", func := "trunnion/trunnionlaw06.EntryBack", spec := "entryBack", named := ["trunnion/entry.fields"], apart := false, laid := [("trunnion/entry.fields", laid_trunnion_entry_fields)], narrowed := true }
def EntryBackUptoSaid : Prop := entryBackUptoRow.holds Tryd.pinned (OpenSpec.upto entryBackSpec)

/-- 'trunnionlaw06.EntryPlaces', WHERE WHAT IT READS IS OF BULK AT MOST 1048576: true; the input reads as it did. -/
def entryPlacesUptoRow : OpenClaim := { program := "ytkdekpinibdchaadoor", sum := "19a2651240b099c2ffbf6ce066ebd967fa0e73863be753603901b1922965c6f9", func := "trunnion/trunnionlaw06.EntryPlaces", spec := "entryPlaces", named := ["trunnion/entry.fields"], apart := false, laid := [("trunnion/entry.fields", laid_trunnion_entry_fields)], narrowed := true }
def EntryPlacesUptoSaid : Prop := entryPlacesUptoRow.holds Tryd.pinned (OpenSpec.upto entryPlacesSpec)

/-- 'trunnionlaw06.EntrySplits', WHERE WHAT IT READS IS OF BULK AT MOST 1048576: true; the input reads as it did. -/
def entrySplitsUptoRow : OpenClaim := { program := "ytkdekpinibdchaadoor", sum := "19a2651240b099c2ffbf6ce066ebd967fa0e73863be753603901b1922965c6f9", func := "trunnion/trunnionlaw06.EntrySplits", spec := "entrySplits", named := ["trunnion/entry.fields"], apart := false, laid := [("trunnion/entry.fields", laid_trunnion_entry_fields)], narrowed := true }
def EntrySplitsUptoSaid : Prop := entrySplitsUptoRow.holds Tryd.pinned (OpenSpec.upto entrySplitsSpec)

end Rows
end Go.Proofs.YtkdekpinibdchaaDoor
