/-
  DERIVED. GIVEN WITH THE SEED: THE CARDS: each row of YtbakhipabeaojaaDoorRows.lean that lists a variable, with what it lists TIED to the program's text (the seventh form; the later family's looks); each row that meets fmt, with fmt's text TOLD by the authors' own Lean function (tested against real Go, not proved from fmt's source: count such statements apart). THE CARD IS WHAT COUNTS. Prove the row's statement (the work); the ties are given (YtbakhipabeaojaaDoorTie.lean); close each card by the builder's one call (the guide's Derived/Test/ToyasCard.lean, 'card_holds'). Laid BY PROGRAM, IN A SANDBOX (cutbox-door.mjs). By AI agents, Wed Nov 11 2026. No macro, syntax, notation, axiom, sorry.
-/
import Derived.Test.YtbakhipabeaojaaDoorRows
import GoSem.ClaimSeven
namespace Go.Proofs.YtbakhipabeaojaaDoor
namespace Rows

/-- THE TIED CARD OF 'trunnionlaw07.WalkPlays'. -/
def walkPlaysCard : Claim7 := { stood := { row := walkPlaysRow, standIns := [], harness := (true, "348ae7ec7ba4e62cabf024fe6591a7bb6090c65894f5278e701ebaa1b8c50ca2"), looks := false }, kinds := [], alts := [], laidByText := true, laidKinds := [.data], laidTests := true, laidLooks := .later }
def WalkPlaysCardSaid : Prop := Claim7.holds Tryd.pinned (.plain (OpenSpec.ofChange walkPlaysSpec)) walkPlaysCard

/-- THE TIED CARD OF 'trunnionlaw07.WalkOwn'. -/
def walkOwnCard : Claim7 := { stood := { row := walkOwnRow, standIns := [], harness := (true, "348ae7ec7ba4e62cabf024fe6591a7bb6090c65894f5278e701ebaa1b8c50ca2"), looks := false }, kinds := [], alts := [], laidByText := true, laidKinds := [.data], laidTests := true, laidLooks := .later }
def WalkOwnCardSaid : Prop := Claim7.holds Tryd.pinned (.plain (OpenSpec.ofChange walkOwnSpec)) walkOwnCard

/-- THE TIED CARD OF 'trunnionlaw07.WalkPut'. -/
def walkPutCard : Claim7 := { stood := { row := walkPutRow, standIns := [], harness := (true, "348ae7ec7ba4e62cabf024fe6591a7bb6090c65894f5278e701ebaa1b8c50ca2"), looks := false }, kinds := [], alts := [], laidByText := true, laidKinds := [.data], laidTests := true, laidLooks := .later }
def WalkPutCardSaid : Prop := Claim7.holds Tryd.pinned (.plain (OpenSpec.ofChange walkPutSpec)) walkPutCard

/-- THE TIED CARD OF 'trunnionlaw07.WalkSteps'. -/
def walkStepsCard : Claim7 := { stood := { row := walkStepsRow, standIns := [], harness := (true, "348ae7ec7ba4e62cabf024fe6591a7bb6090c65894f5278e701ebaa1b8c50ca2"), looks := false }, kinds := [], alts := [], laidByText := true, laidKinds := [.data], laidTests := true, laidLooks := .later }
def WalkStepsCardSaid : Prop := Claim7.holds Tryd.pinned (.plain (OpenSpec.ofChange walkStepsSpec)) walkStepsCard

/-- THE SECOND FORM's CARD OF 'trunnionlaw07.WalkPlays'. -/
def walkPlaysUptoCard : Claim7 := { stood := { row := walkPlaysUptoRow, standIns := [], harness := (true, "348ae7ec7ba4e62cabf024fe6591a7bb6090c65894f5278e701ebaa1b8c50ca2"), looks := false }, kinds := [], alts := [], laidByText := true, laidKinds := [.data], laidTests := true, laidLooks := .later }
def WalkPlaysUptoCardSaid : Prop := Claim7.holds Tryd.pinned (.plain (OpenSpec.upto walkPlaysSpec)) walkPlaysUptoCard

/-- THE SECOND FORM's CARD OF 'trunnionlaw07.WalkOwn'. -/
def walkOwnUptoCard : Claim7 := { stood := { row := walkOwnUptoRow, standIns := [], harness := (true, "348ae7ec7ba4e62cabf024fe6591a7bb6090c65894f5278e701ebaa1b8c50ca2"), looks := false }, kinds := [], alts := [], laidByText := true, laidKinds := [.data], laidTests := true, laidLooks := .later }
def WalkOwnUptoCardSaid : Prop := Claim7.holds Tryd.pinned (.plain (OpenSpec.upto walkOwnSpec)) walkOwnUptoCard

/-- THE SECOND FORM's CARD OF 'trunnionlaw07.WalkPut'. -/
def walkPutUptoCard : Claim7 := { stood := { row := walkPutUptoRow, standIns := [], harness := (true, "348ae7ec7ba4e62cabf024fe6591a7bb6090c65894f5278e701ebaa1b8c50ca2"), looks := false }, kinds := [], alts := [], laidByText := true, laidKinds := [.data], laidTests := true, laidLooks := .later }
def WalkPutUptoCardSaid : Prop := Claim7.holds Tryd.pinned (.plain (OpenSpec.upto walkPutSpec)) walkPutUptoCard

/-- THE SECOND FORM's CARD OF 'trunnionlaw07.WalkSteps'. -/
def walkStepsUptoCard : Claim7 := { stood := { row := walkStepsUptoRow, standIns := [], harness := (true, "348ae7ec7ba4e62cabf024fe6591a7bb6090c65894f5278e701ebaa1b8c50ca2"), looks := false }, kinds := [], alts := [], laidByText := true, laidKinds := [.data], laidTests := true, laidLooks := .later }
def WalkStepsUptoCardSaid : Prop := Claim7.holds Tryd.pinned (.plain (OpenSpec.upto walkStepsSpec)) walkStepsUptoCard
end Rows
end Go.Proofs.YtbakhipabeaojaaDoor
