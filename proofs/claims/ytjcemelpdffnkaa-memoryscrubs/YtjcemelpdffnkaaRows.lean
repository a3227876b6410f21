/-
  No cell of these rows narrows 'for every input' (looked for: loops, veiled, ifaces, maps, wideKeys, modest, calm, conditions, laid).
  DERIVED. THE GIVEN ROWS OF THIS SEAT. 4 by the template 'for every input the law returns true; each argument reads behind the call as it read before'; 0 by the template 'total and deterministic' (their statements: YtjcemelpdffnkaaTotals.lean).
  GIVEN WITH THE SEED: the statements are not yours to turn. If you find one false, say at which input.
  Laid BY PROGRAM, IN A SANDBOX (cutbox-rows.mjs): the forced cells as the released guide's own fill.sh prints them over the translation 66eccc9e7b50c426… (all of the seat's roots in one cut). By AI agents, Wed Nov 11 2026. No macro, syntax, notation, axiom, sorry.
-/
import Derived.Test.YtjcemelpdffnkaaChecked
import GoSem.Claim
import GoSem.ClaimJoined
import GoSem.ClaimMapViews
import Derived.JoinedTies
import Derived.KernelRfl
namespace Go.Proofs.Ytjcemelpdffnkaa
/- THE CELL 'sum', in the pinned program and in every row, IS THE sha256 OF THE DUMP (.gsa) THAT YtjcemelpdffnkaaProg.lean LOADS. Nothing in Lean hashes anything: it is a label: what it is worth is what the hold of that sum in a sandbox is worth. -/
noncomputable def Try.pinned : Pinned := { name := "ytjcemelpdffnkaa", sum := "66eccc9e7b50c4264d683a910cf2bef7272d66d1fe0084786a0c683fea29bf42", checked := Try.checked }
namespace Rows
def none {H : Type} : Left H := { results := [], args := [] }

/-- 'trunnionlaw02.MemoryPlays': WHATEVER THE INPUT: true; the input reads as it did. -/
def memoryPlaysSpec : ChangeSpec := { name := "memoryPlays", fn := fun _ => fun
  | [d1, d2] => { results := [.lit (.bool true)], args := [d1, d2] }
  | _ => none }
def memoryPlaysRow : OpenClaim := { program := "ytjcemelpdffnkaa", sum := "66eccc9e7b50c4264d683a910cf2bef7272d66d1fe0084786a0c683fea29bf42", func := "trunnion/trunnionlaw02.MemoryPlays", spec := "memoryPlays", apart := false }
def MemoryPlaysSaid : Prop := memoryPlaysRow.holds Try.pinned (OpenSpec.ofChange memoryPlaysSpec)

/-- ITS FALSE NEIGHBOUR: 'it returns false'. Refute it at one input. -/
def memoryPlaysWrong : ChangeSpec := { name := "memoryPlays", fn := fun _ => fun
  | [d1, d2] => { results := [.lit (.bool false)], args := [d1, d2] }
  | _ => none }
def MemoryPlaysWrongFalsely : Prop := memoryPlaysRow.holds Try.pinned (OpenSpec.ofChange memoryPlaysWrong)

/-- 'trunnionlaw02.MemoryOne': WHATEVER THE INPUT: true; the input reads as it did. -/
def memoryOneSpec : ChangeSpec := { name := "memoryOne", fn := fun _ => fun
  | [d1, d2, d3] => { results := [.lit (.bool true)], args := [d1, d2, d3] }
  | _ => none }
def memoryOneRow : OpenClaim := { program := "ytjcemelpdffnkaa", sum := "66eccc9e7b50c4264d683a910cf2bef7272d66d1fe0084786a0c683fea29bf42", func := "trunnion/trunnionlaw02.MemoryOne", spec := "memoryOne", apart := false }
def MemoryOneSaid : Prop := memoryOneRow.holds Try.pinned (OpenSpec.ofChange memoryOneSpec)

/-- ITS FALSE NEIGHBOUR: 'it returns false'. Refute it at one input. -/
def memoryOneWrong : ChangeSpec := { name := "memoryOne", fn := fun _ => fun
  | [d1, d2, d3] => { results := [.lit (.bool false)], args := [d1, d2, d3] }
  | _ => none }
def MemoryOneWrongFalsely : Prop := memoryOneRow.holds Try.pinned (OpenSpec.ofChange memoryOneWrong)

/-- 'trunnionlaw02.MemoryOwn': WHATEVER THE INPUT: true; the input reads as it did. -/
def memoryOwnSpec : ChangeSpec := { name := "memoryOwn", fn := fun _ => fun
  | [d1, d2, d3] => { results := [.lit (.bool true)], args := [d1, d2, d3] }
  | _ => none }
def memoryOwnRow : OpenClaim := { program := "ytjcemelpdffnkaa", sum := "66eccc9e7b50c4264d683a910cf2bef7272d66d1fe0084786a0c683fea29bf42", func := "trunnion/trunnionlaw02.MemoryOwn", spec := "memoryOwn", apart := false }
def MemoryOwnSaid : Prop := memoryOwnRow.holds Try.pinned (OpenSpec.ofChange memoryOwnSpec)

/-- ITS FALSE NEIGHBOUR: 'it returns false'. Refute it at one input. -/
def memoryOwnWrong : ChangeSpec := { name := "memoryOwn", fn := fun _ => fun
  | [d1, d2, d3] => { results := [.lit (.bool false)], args := [d1, d2, d3] }
  | _ => none }
def MemoryOwnWrongFalsely : Prop := memoryOwnRow.holds Try.pinned (OpenSpec.ofChange memoryOwnWrong)

/-- 'trunnionlaw02.MemoryScrubs': WHATEVER THE INPUT: true; the input reads as it did. -/
def memoryScrubsSpec : ChangeSpec := { name := "memoryScrubs", fn := fun _ => fun
  | [d1, d2] => { results := [.lit (.bool true)], args := [d1, d2] }
  | _ => none }
def memoryScrubsRow : OpenClaim := { program := "ytjcemelpdffnkaa", sum := "66eccc9e7b50c4264d683a910cf2bef7272d66d1fe0084786a0c683fea29bf42", func := "trunnion/trunnionlaw02.MemoryScrubs", spec := "memoryScrubs", apart := false }
def MemoryScrubsSaid : Prop := memoryScrubsRow.holds Try.pinned (OpenSpec.ofChange memoryScrubsSpec)

/-- ITS FALSE NEIGHBOUR: 'it returns false'. Refute it at one input. -/
def memoryScrubsWrong : ChangeSpec := { name := "memoryScrubs", fn := fun _ => fun
  | [d1, d2] => { results := [.lit (.bool false)], args := [d1, d2] }
  | _ => none }
def MemoryScrubsWrongFalsely : Prop := memoryScrubsRow.holds Try.pinned (OpenSpec.ofChange memoryScrubsWrong)

/- THE SECOND FORM. 'bulk': how many values and letters a reading holds, each counted each time it is reached (what is shared counts as often as it is met; a slice's spare places count too). A statement '..UptoSaid' is the law's where the arguments, and the package variables that the reading takes, are together of bulk at most 1048576: NARROWER than '..Said'. Prove '..Said' where nothing that the law and all that it calls make is longer than what came in: it says more and counts as full. Else prove '..UptoSaid'. A law counts once. -/
mutual
def uptoBulk {H : Type} : DataW H → Nat
  | .lit (.string bytes) => bytes.length + 1
  | .lit _ => 1
  | .nil => 1
  | .ptr d => uptoBulk d + 1
  | .slice elems spare => uptoBulkAll elems + uptoBulkAll spare + 1
  | .agg parts => uptoBulkAll parts + 1
  | .iface _ d => uptoBulk d + 1
  | .map entries => uptoBulkEntries entries + 1
  | .held _ => 1
def uptoBulkAll {H : Type} : List (DataW H) → Nat
  | [] => 0
  | d :: r => uptoBulk d + uptoBulkAll r
def uptoBulkEntries {H : Type} : List (Lit × DataW H) → Nat
  | [] => 0
  | x :: r => uptoBulkEntry x + uptoBulkEntries r
def uptoBulkEntry {H : Type} : Lit × DataW H → Nat
  | (.string bytes, d) => bytes.length + uptoBulk d + 1
  | (_, d) => uptoBulk d + 1
 end
def uptoSmall : (H : Type) → List (DataW H) → Bool := fun _ ds => decide (uptoBulkAll ds ≤ 1048576)
def OpenSpec.upto (s : _root_.Go.ChangeSpec) : _root_.Go.OpenSpec := { _root_.Go.OpenSpec.ofChange s with cond := some uptoSmall }

/-- 'trunnionlaw02.MemoryPlays', WHERE WHAT IT READS IS OF BULK AT MOST 1048576: true; the input reads as it did. -/
def memoryPlaysUptoRow : OpenClaim := { program := "ytjcemelpdffnkaa", sum := "66eccc9e7b50c4264d683a910cf2bef7272d66d1fe0084786a0c683fea29bf42", func := "trunnion/trunnionlaw02.MemoryPlays", spec := "memoryPlays", apart := false, narrowed := true }
def MemoryPlaysUptoSaid : Prop := memoryPlaysUptoRow.holds Try.pinned (OpenSpec.upto memoryPlaysSpec)

/-- 'trunnionlaw02.MemoryOne', WHERE WHAT IT READS IS OF BULK AT MOST 1048576: true; the input reads as it did. -/
def memoryOneUptoRow : OpenClaim := { program := "ytjcemelpdffnkaa", sum := "66eccc9e7b50c4264d683a910cf2bef7272d66d1fe0084786a0c683fea29bf42", func := "trunnion/trunnionlaw02.MemoryOne", spec := "memoryOne", apart := false, narrowed := true }
def MemoryOneUptoSaid : Prop := memoryOneUptoRow.holds Try.pinned (OpenSpec.upto memoryOneSpec)

/-- 'trunnionlaw02.MemoryOwn', WHERE WHAT IT READS IS OF BULK AT MOST 1048576: true; the input reads as it did. -/
def memoryOwnUptoRow : OpenClaim := { program := "ytjcemelpdffnkaa", sum := "66eccc9e7b50c4264d683a910cf2bef7272d66d1fe0084786a0c683fea29bf42", func := "trunnion/trunnionlaw02.MemoryOwn", spec := "memoryOwn", apart := false, narrowed := true }
def MemoryOwnUptoSaid : Prop := memoryOwnUptoRow.holds Try.pinned (OpenSpec.upto memoryOwnSpec)

/-- 'trunnionlaw02.MemoryScrubs', WHERE WHAT IT READS IS OF BULK AT MOST 1048576: true; the input reads as it did. -/
def memoryScrubsUptoRow : OpenClaim := { program := "ytjcemelpdffnkaa", sum := "66eccc9e7b50c4264d683a910cf2bef7272d66d1fe0084786a0c683fea29bf42", func := "trunnion/trunnionlaw02.MemoryScrubs", spec := "memoryScrubs", apart := false, narrowed := true }
def MemoryScrubsUptoSaid : Prop := memoryScrubsUptoRow.holds Try.pinned (OpenSpec.upto memoryScrubsSpec)

end Rows
end Go.Proofs.Ytjcemelpdffnkaa
