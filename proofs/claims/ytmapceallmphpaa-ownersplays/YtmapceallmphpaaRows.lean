/-
  No cell of these rows narrows 'for every input' (looked for: loops, veiled, ifaces, maps, wideKeys, modest, calm, conditions, laid).
  DERIVED. THE GIVEN ROWS OF THIS SEAT. 4 by the template 'for every input the law returns true; each argument reads behind the call as it read before'; 0 by the template 'total and deterministic' (their statements: YtmapceallmphpaaTotals.lean).
  GIVEN WITH THE SEED: the statements are not yours to turn. If you find one false, say at which input.
  Laid BY PROGRAM, IN A SANDBOX (cutbox-rows.mjs): the forced cells as the released guide's own fill.sh prints them over the translation 41c8af70d651141b… (all of the seat's roots in one cut). By AI agents, Wed Nov 11 2026. No macro, syntax, notation, axiom, sorry.
-/
import Derived.Test.YtmapceallmphpaaChecked
import GoSem.Claim
import GoSem.ClaimJoined
import GoSem.ClaimMapViews
import Derived.JoinedTies
import Derived.KernelRfl
namespace Go.Proofs.Ytmapceallmphpaa
/- THE CELL 'sum', in the pinned program and in every row, IS THE sha256 OF THE DUMP (.gsa) THAT YtmapceallmphpaaProg.lean LOADS. Nothing in Lean hashes anything: it is a label: what it is worth is what the hold of that sum in a sandbox is worth. -/
noncomputable def Try.pinned : Pinned := { name := "ytmapceallmphpaa", sum := "41c8af70d651141b5519c566a29d692c03e89ea7a86d4686049066496afd5b96", checked := Try.checked }
namespace Rows
def none {H : Type} : Left H := { results := [], args := [] }

/-- 'trunnionlaw05.OwnersPlays': WHATEVER THE INPUT: true; the input reads as it did. -/
def ownersPlaysSpec : ChangeSpec := { name := "ownersPlays", fn := fun _ => fun
  | [d1, d2] => { results := [.lit (.bool true)], args := [d1, d2] }
  | _ => none }
def ownersPlaysRow : OpenClaim := { program := "ytmapceallmphpaa", sum := "41c8af70d651141b5519c566a29d692c03e89ea7a86d4686049066496afd5b96", func := "trunnion/trunnionlaw05.OwnersPlays", spec := "ownersPlays", apart := false }
def OwnersPlaysSaid : Prop := ownersPlaysRow.holds Try.pinned (OpenSpec.ofChange ownersPlaysSpec)

/-- ITS FALSE NEIGHBOUR: 'it returns false'. Refute it at one input. -/
def ownersPlaysWrong : ChangeSpec := { name := "ownersPlays", fn := fun _ => fun
  | [d1, d2] => { results := [.lit (.bool false)], args := [d1, d2] }
  | _ => none }
def OwnersPlaysWrongFalsely : Prop := ownersPlaysRow.holds Try.pinned (OpenSpec.ofChange ownersPlaysWrong)

/-- 'trunnionlaw05.OwnersSum': WHATEVER THE INPUT: true; the input reads as it did. -/
def ownersSumSpec : ChangeSpec := { name := "ownersSum", fn := fun _ => fun
  | [d] => { results := [.lit (.bool true)], args := [d] }
  | _ => none }
def ownersSumRow : OpenClaim := { program := "ytmapceallmphpaa", sum := "41c8af70d651141b5519c566a29d692c03e89ea7a86d4686049066496afd5b96", func := "trunnion/trunnionlaw05.OwnersSum", spec := "ownersSum", apart := false }
def OwnersSumSaid : Prop := ownersSumRow.holds Try.pinned (OpenSpec.ofChange ownersSumSpec)

/-- ITS FALSE NEIGHBOUR: 'it returns false'. Refute it at one input. -/
def ownersSumWrong : ChangeSpec := { name := "ownersSum", fn := fun _ => fun
  | [d] => { results := [.lit (.bool false)], args := [d] }
  | _ => none }
def OwnersSumWrongFalsely : Prop := ownersSumRow.holds Try.pinned (OpenSpec.ofChange ownersSumWrong)

/-- 'trunnionlaw05.OwnersBack': WHATEVER THE INPUT: true; the input reads as it did. -/
def ownersBackSpec : ChangeSpec := { name := "ownersBack", fn := fun _ => fun
  | [d1, d2, d3] => { results := [.lit (.bool true)], args := [d1, d2, d3] }
  | _ => none }
def ownersBackRow : OpenClaim := { program := "ytmapceallmphpaa", sum := "41c8af70d651141b5519c566a29d692c03e89ea7a86d4686049066496afd5b96", func := "trunnion/trunnionlaw05.OwnersBack", spec := "ownersBack", apart := false }
def OwnersBackSaid : Prop := ownersBackRow.holds Try.pinned (OpenSpec.ofChange ownersBackSpec)

/-- ITS FALSE NEIGHBOUR: 'it returns false'. Refute it at one input. -/
def ownersBackWrong : ChangeSpec := { name := "ownersBack", fn := fun _ => fun
  | [d1, d2, d3] => { results := [.lit (.bool false)], args := [d1, d2, d3] }
  | _ => none }
def OwnersBackWrongFalsely : Prop := ownersBackRow.holds Try.pinned (OpenSpec.ofChange ownersBackWrong)

/-- 'trunnionlaw05.OwnersEach': WHATEVER THE INPUT: true; the input reads as it did. -/
def ownersEachSpec : ChangeSpec := { name := "ownersEach", fn := fun _ => fun
  | [d1, d2, d3] => { results := [.lit (.bool true)], args := [d1, d2, d3] }
  | _ => none }
def ownersEachRow : OpenClaim := { program := "ytmapceallmphpaa", sum := "41c8af70d651141b5519c566a29d692c03e89ea7a86d4686049066496afd5b96", func := "trunnion/trunnionlaw05.OwnersEach", spec := "ownersEach", apart := false }
def OwnersEachSaid : Prop := ownersEachRow.holds Try.pinned (OpenSpec.ofChange ownersEachSpec)

/-- ITS FALSE NEIGHBOUR: 'it returns false'. Refute it at one input. -/
def ownersEachWrong : ChangeSpec := { name := "ownersEach", fn := fun _ => fun
  | [d1, d2, d3] => { results := [.lit (.bool false)], args := [d1, d2, d3] }
  | _ => none }
def OwnersEachWrongFalsely : Prop := ownersEachRow.holds Try.pinned (OpenSpec.ofChange ownersEachWrong)

/- THE SECOND FORM. 'bulk': how many values and letters a reading holds, each counted each time it is reached (what is shared counts as often as it is met; a slice's spare places count too). A statement '..UptoSaid' is the law's where the arguments, and the package variables that the reading takes, are together of bulk at most 1048576: NARROWER than '..Said'. Prove '..Said' where nothing that the law and all that it calls make is longer than what came in: it says more and counts as full. Else prove '..UptoSaid'. A law counts once. -/
mutual
def uptoBulk {H : Type} : DataW H → Nat
  | .lit (.string bytes) => bytes.length + 1
  | .lit _ => 1
  | .nil => 1
  | .ptr d => uptoBulk d + 1
  | .slice elems spare => uptoBulkAll elems + uptoBulkAll spare + 1
  | .agg parts => uptoBulkAll parts + 1
  | .iface _ d => uptoBulk d + 1
  | .map entries => uptoBulkEntries entries + 1
  | .held _ => 1
def uptoBulkAll {H : Type} : List (DataW H) → Nat
  | [] => 0
  | d :: r => uptoBulk d + uptoBulkAll r
def uptoBulkEntries {H : Type} : List (Lit × DataW H) → Nat
  | [] => 0
  | x :: r => uptoBulkEntry x + uptoBulkEntries r
def uptoBulkEntry {H : Type} : Lit × DataW H → Nat
  | (.string bytes, d) => bytes.length + uptoBulk d + 1
  | (_, d) => uptoBulk d + 1
 end
def uptoSmall : (H : Type) → List (DataW H) → Bool := fun _ ds => decide (uptoBulkAll ds ≤ 1048576)
def OpenSpec.upto (s : _root_.Go.ChangeSpec) : _root_.Go.OpenSpec := { _root_.Go.OpenSpec.ofChange s with cond := some uptoSmall }

/-- 'trunnionlaw05.OwnersPlays', WHERE WHAT IT READS IS OF BULK AT MOST 1048576: true; the input reads as it did. -/
def ownersPlaysUptoRow : OpenClaim := { program := "ytmapceallmphpaa", sum := "41c8af70d651141b5519c566a29d692c03e89ea7a86d4686049066496afd5b96", func := "trunnion/trunnionlaw05.OwnersPlays", spec := "ownersPlays", apart := false, narrowed := true }
def OwnersPlaysUptoSaid : Prop := ownersPlaysUptoRow.holds Try.pinned (OpenSpec.upto ownersPlaysSpec)

/-- 'trunnionlaw05.OwnersSum', WHERE WHAT IT READS IS OF BULK AT MOST 1048576: true; the input reads as it did. -/
def ownersSumUptoRow : OpenClaim := { program := "ytmapceallmphpaa", sum := "41c8af70d651141b5519c566a29d692c03e89ea7a86d4686049066496afd5b96", func := "trunnion/trunnionlaw05.OwnersSum", spec := "ownersSum", apart := false, narrowed := true }
def OwnersSumUptoSaid : Prop := ownersSumUptoRow.holds Try.pinned (OpenSpec.upto ownersSumSpec)

/-- 'trunnionlaw05.OwnersBack', WHERE WHAT IT READS IS OF BULK AT MOST 1048576: true; the input reads as it did. -/
def ownersBackUptoRow : OpenClaim := { program := "ytmapceallmphpaa", sum := "41c8af70d651141b5519c566a29d692c03e89ea7a86d4686049066496afd5b96", func := "trunnion/trunnionlaw05.OwnersBack", spec := "ownersBack", apart := false, narrowed := true }
def OwnersBackUptoSaid : Prop := ownersBackUptoRow.holds Try.pinned (OpenSpec.upto ownersBackSpec)

/-- 'trunnionlaw05.OwnersEach', WHERE WHAT IT READS IS OF BULK AT MOST 1048576: true; the input reads as it did. -/
def ownersEachUptoRow : OpenClaim := { program := "ytmapceallmphpaa", sum := "41c8af70d651141b5519c566a29d692c03e89ea7a86d4686049066496afd5b96", func := "trunnion/trunnionlaw05.OwnersEach", spec := "ownersEach", apart := false, narrowed := true }
def OwnersEachUptoSaid : Prop := ownersEachUptoRow.holds Try.pinned (OpenSpec.upto ownersEachSpec)

end Rows
end Go.Proofs.Ytmapceallmphpaa
