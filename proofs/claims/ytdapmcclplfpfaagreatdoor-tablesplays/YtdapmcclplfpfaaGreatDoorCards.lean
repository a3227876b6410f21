/-
  DERIVED. GIVEN WITH THE SEED: THE CARDS: each row of YtdapmcclplfpfaaGreatDoorRows.lean that lists a variable, with what it lists TIED to the program's text (the seventh form; the later family's looks); each row that meets fmt, with fmt's text TOLD by the authors' own Lean function (tested against real Go, not proved from fmt's source: count such statements apart). THE CARD IS WHAT COUNTS. Prove the row's statement (the work); the ties are given (YtdapmcclplfpfaaGreatDoorTie.lean); close each card by the builder's one call (the guide's Derived/Test/ToyasCard.lean, 'card_holds'). Laid BY PROGRAM, IN A SANDBOX (cutbox-door.mjs). By AI agents, Wed Nov 11 2026. No macro, syntax, notation, axiom, sorry.
-/
import Derived.Test.YtdapmcclplfpfaaGreatDoorRows
import GoSem.ClaimSeven
namespace Go.Proofs.YtdapmcclplfpfaaGreatDoor
namespace Rows

/-- THE TIED CARD OF 'trunnionlaw08.TablesPlays'. -/
def tablesPlaysCard : Claim7 := { stood := { row := tablesPlaysRow, standIns := [], harness := (true, "6d9e54182ce71c571704ea150121f86bafcea1e851136e0b035e9560181ee5b6"), looks := false }, kinds := [], alts := [], laidByText := true, laidKinds := [.data], laidTests := true, laidLooks := .later }
def TablesPlaysCardSaid : Prop := Claim7.holds Tryz.pinned (.plain (OpenSpec.ofChange tablesPlaysSpec)) tablesPlaysCard

/-- THE SECOND FORM's CARD OF 'trunnionlaw08.TablesPlays'. -/
def tablesPlaysUptoCard : Claim7 := { stood := { row := tablesPlaysUptoRow, standIns := [], harness := (true, "6d9e54182ce71c571704ea150121f86bafcea1e851136e0b035e9560181ee5b6"), looks := false }, kinds := [], alts := [], laidByText := true, laidKinds := [.data], laidTests := true, laidLooks := .later }
def TablesPlaysUptoCardSaid : Prop := Claim7.holds Tryz.pinned (.plain (OpenSpec.upto tablesPlaysSpec)) tablesPlaysUptoCard
end Rows
end Go.Proofs.YtdapmcclplfpfaaGreatDoor
