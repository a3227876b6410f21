/-
  No cell of these rows narrows 'for every input' (looked for: loops, veiled, ifaces, maps, wideKeys, modest, calm, conditions, laid).
  DERIVED. THE GIVEN ROWS OF THIS SEAT. 3 by the template 'for every input the law returns true; each argument reads behind the call as it read before'; 0 by the template 'total and deterministic' (their statements: YtmalfdbjbgifeaaTotals.lean).
  GIVEN WITH THE SEED: the statements are not yours to turn. If you find one false, say at which input.
  Laid BY PROGRAM, IN A SANDBOX (cutbox-rows.mjs): the forced cells as the released guide's own fill.sh prints them over the translation 6f3be66397193690… (all of the seat's roots in one cut). By AI agents, Wed Nov 11 2026. No macro, syntax, notation, axiom, sorry.
-/
import Derived.Test.YtmalfdbjbgifeaaChecked
import GoSem.Claim
import GoSem.ClaimJoined
import GoSem.ClaimMapViews
import Derived.JoinedTies
import Derived.KernelRfl
namespace Go.Proofs.Ytmalfdbjbgifeaa
/- THE CELL 'sum', in the pinned program and in every row, IS THE sha256 OF THE DUMP (.gsa) THAT YtmalfdbjbgifeaaProg.lean LOADS. Nothing in Lean hashes anything: it is a label: what it is worth is what the hold of that sum in a sandbox is worth. -/
noncomputable def Try.pinned : Pinned := { name := "ytmalfdbjbgifeaa", sum := "6f3be66397193690f245a65e0afa3759aa228276bd13d8d0f5622d4b00da05e7", checked := Try.checked }
namespace Rows
def none {H : Type} : Left H := { results := [], args := [] }

/-- 'trunnionlaw10.AsidPlays': WHATEVER THE INPUT: true; the input reads as it did. -/
def asidPlaysSpec : ChangeSpec := { name := "asidPlays", fn := fun _ => fun
  | [d1, d2] => { results := [.lit (.bool true)], args := [d1, d2] }
  | _ => none }
def asidPlaysRow : OpenClaim := { program := "ytmalfdbjbgifeaa", sum := "6f3be66397193690f245a65e0afa3759aa228276bd13d8d0f5622d4b00da05e7", func := "trunnion/trunnionlaw10.AsidPlays", spec := "asidPlays", unfollowed := true, recurses := true, apart := false }
def AsidPlaysSaid : Prop := asidPlaysRow.holds Try.pinned (OpenSpec.ofChange asidPlaysSpec)

/-- ITS FALSE NEIGHBOUR: 'it returns false'. Refute it at one input. -/
def asidPlaysWrong : ChangeSpec := { name := "asidPlays", fn := fun _ => fun
  | [d1, d2] => { results := [.lit (.bool false)], args := [d1, d2] }
  | _ => none }
def AsidPlaysWrongFalsely : Prop := asidPlaysRow.holds Try.pinned (OpenSpec.ofChange asidPlaysWrong)

/-- 'trunnionlaw10.AsidOnce': WHATEVER THE INPUT: true; the input reads as it did. -/
def asidOnceSpec : ChangeSpec := { name := "asidOnce", fn := fun _ => fun
  | [d1, d2] => { results := [.lit (.bool true)], args := [d1, d2] }
  | _ => none }
def asidOnceRow : OpenClaim := { program := "ytmalfdbjbgifeaa", sum := "6f3be66397193690f245a65e0afa3759aa228276bd13d8d0f5622d4b00da05e7", func := "trunnion/trunnionlaw10.AsidOnce", spec := "asidOnce", unfollowed := true, recurses := true, apart := false }
def AsidOnceSaid : Prop := asidOnceRow.holds Try.pinned (OpenSpec.ofChange asidOnceSpec)

/-- ITS FALSE NEIGHBOUR: 'it returns false'. Refute it at one input. -/
def asidOnceWrong : ChangeSpec := { name := "asidOnce", fn := fun _ => fun
  | [d1, d2] => { results := [.lit (.bool false)], args := [d1, d2] }
  | _ => none }
def AsidOnceWrongFalsely : Prop := asidOnceRow.holds Try.pinned (OpenSpec.ofChange asidOnceWrong)

/-- 'trunnionlaw10.AsidFair': WHATEVER THE INPUT: true; the input reads as it did. -/
def asidFairSpec : ChangeSpec := { name := "asidFair", fn := fun _ => fun
  | [d1, d2] => { results := [.lit (.bool true)], args := [d1, d2] }
  | _ => none }
def asidFairRow : OpenClaim := { program := "ytmalfdbjbgifeaa", sum := "6f3be66397193690f245a65e0afa3759aa228276bd13d8d0f5622d4b00da05e7", func := "trunnion/trunnionlaw10.AsidFair", spec := "asidFair", unfollowed := true, recurses := true, apart := false }
def AsidFairSaid : Prop := asidFairRow.holds Try.pinned (OpenSpec.ofChange asidFairSpec)

/-- ITS FALSE NEIGHBOUR: 'it returns false'. Refute it at one input. -/
def asidFairWrong : ChangeSpec := { name := "asidFair", fn := fun _ => fun
  | [d1, d2] => { results := [.lit (.bool false)], args := [d1, d2] }
  | _ => none }
def AsidFairWrongFalsely : Prop := asidFairRow.holds Try.pinned (OpenSpec.ofChange asidFairWrong)

/- THE SECOND FORM. 'bulk': how many values and letters a reading holds, each counted each time it is reached (what is shared counts as often as it is met; a slice's spare places count too). A statement '..UptoSaid' is the law's where the arguments, and the package variables that the reading takes, are together of bulk at most 1048576: NARROWER than '..Said'. Prove '..Said' where nothing that the law and all that it calls make is longer than what came in: it says more and counts as full. Else prove '..UptoSaid'. A law counts once. -/
mutual
def uptoBulk {H : Type} : DataW H → Nat
  | .lit (.string bytes) => bytes.length + 1
  | .lit _ => 1
  | .nil => 1
  | .ptr d => uptoBulk d + 1
  | .slice elems spare => uptoBulkAll elems + uptoBulkAll spare + 1
  | .agg parts => uptoBulkAll parts + 1
  | .iface _ d => uptoBulk d + 1
  | .map entries => uptoBulkEntries entries + 1
  | .held _ => 1
def uptoBulkAll {H : Type} : List (DataW H) → Nat
  | [] => 0
  | d :: r => uptoBulk d + uptoBulkAll r
def uptoBulkEntries {H : Type} : List (Lit × DataW H) → Nat
  | [] => 0
  | x :: r => uptoBulkEntry x + uptoBulkEntries r
def uptoBulkEntry {H : Type} : Lit × DataW H → Nat
  | (.string bytes, d) => bytes.length + uptoBulk d + 1
  | (_, d) => uptoBulk d + 1
 end
def uptoSmall : (H : Type) → List (DataW H) → Bool := fun _ ds => decide (uptoBulkAll ds ≤ 1048576)
def OpenSpec.upto (s : _root_.Go.ChangeSpec) : _root_.Go.OpenSpec := { _root_.Go.OpenSpec.ofChange s with cond := some uptoSmall }

/-- 'trunnionlaw10.AsidPlays', WHERE WHAT IT READS IS OF BULK AT MOST 1048576: true; the input reads as it did. -/
def asidPlaysUptoRow : OpenClaim := { program := "ytmalfdbjbgifeaa", sum := "6f3be66397193690f245a65e0afa3759aa228276bd13d8d0f5622d4b00da05e7", func := "trunnion/trunnionlaw10.AsidPlays", spec := "asidPlays", unfollowed := true, recurses := true, apart := false, narrowed := true }
def AsidPlaysUptoSaid : Prop := asidPlaysUptoRow.holds Try.pinned (OpenSpec.upto asidPlaysSpec)

/-- 'trunnionlaw10.AsidOnce', WHERE WHAT IT READS IS OF BULK AT MOST 1048576: true; the input reads as it did. -/
def asidOnceUptoRow : OpenClaim := { program := "ytmalfdbjbgifeaa", sum := "6f3be66397193690f245a65e0afa3759aa228276bd13d8d0f5622d4b00da05e7", func := "trunnion/trunnionlaw10.AsidOnce", spec := "asidOnce", unfollowed := true, recurses := true, apart := false, narrowed := true }
def AsidOnceUptoSaid : Prop := asidOnceUptoRow.holds Try.pinned (OpenSpec.upto asidOnceSpec)

/-- 'trunnionlaw10.AsidFair', WHERE WHAT IT READS IS OF BULK AT MOST 1048576: true; the input reads as it did. -/
def asidFairUptoRow : OpenClaim := { program := "ytmalfdbjbgifeaa", sum := "6f3be66397193690f245a65e0afa3759aa228276bd13d8d0f5622d4b00da05e7", func := "trunnion/trunnionlaw10.AsidFair", spec := "asidFair", unfollowed := true, recurses := true, apart := false, narrowed := true }
def AsidFairUptoSaid : Prop := asidFairUptoRow.holds Try.pinned (OpenSpec.upto asidFairSpec)

end Rows
end Go.Proofs.Ytmalfdbjbgifeaa
