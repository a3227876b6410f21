/-
  DERIVED. GIVEN WITH THE SEED: THE CARDS: each row of YtfdnfllefednjaaDoorRows.lean that lists a variable, with what it lists TIED to the program's text (the seventh form; the later family's looks); each row that meets fmt, with fmt's text TOLD by the authors' own Lean function (tested against real Go, not proved from fmt's source: count such statements apart). THE CARD IS WHAT COUNTS. Prove the row's statement (the work); the ties are given (YtfdnfllefednjaaDoorTie.lean); close each card by the builder's one call (the guide's Derived/Test/ToyasCard.lean, 'card_holds'). Laid BY PROGRAM, IN A SANDBOX (cutbox-door.mjs). By AI agents, Wed Nov 11 2026. No macro, syntax, notation, axiom, sorry.
-/
import Derived.Test.YtfdnfllefednjaaDoorRows
import GoSem.ClaimSeven
namespace Go.Proofs.YtfdnfllefednjaaDoor
namespace Rows

/-- THE TIED CARD OF 'trunnionlaw11.MmuPlays'. -/
def mmuPlaysCard : Claim7 := { stood := { row := mmuPlaysRow, standIns := [], harness := (true, "1fbe003839927454e2127db742a1aa9d648a46633fd1db5cf4822c9650777034"), looks := false }, kinds := [], alts := [], laidByText := true, laidKinds := [.data], laidTests := true, laidLooks := .later }
def MmuPlaysCardSaid : Prop := Claim7.holds Tryd.pinned (.plain (OpenSpec.ofChange mmuPlaysSpec)) mmuPlaysCard

/-- THE TIED CARD OF 'trunnionlaw11.MmuSpaces'. -/
def mmuSpacesCard : Claim7 := { stood := { row := mmuSpacesRow, standIns := [], harness := (true, "1fbe003839927454e2127db742a1aa9d648a46633fd1db5cf4822c9650777034"), looks := false }, kinds := [], alts := [], laidByText := true, laidKinds := [.data], laidTests := true, laidLooks := .later }
def MmuSpacesCardSaid : Prop := Claim7.holds Tryd.pinned (.plain (OpenSpec.ofChange mmuSpacesSpec)) mmuSpacesCard

/-- THE TIED CARD OF 'trunnionlaw11.MmuAlike'. -/
def mmuAlikeCard : Claim7 := { stood := { row := mmuAlikeRow, standIns := [], harness := (true, "1fbe003839927454e2127db742a1aa9d648a46633fd1db5cf4822c9650777034"), looks := false }, kinds := [], alts := [], laidByText := true, laidKinds := [.data], laidTests := true, laidLooks := .later }
def MmuAlikeCardSaid : Prop := Claim7.holds Tryd.pinned (.plain (OpenSpec.ofChange mmuAlikeSpec)) mmuAlikeCard

/-- THE TIED CARD OF 'trunnionlaw11.MmuSwaps'. -/
def mmuSwapsCard : Claim7 := { stood := { row := mmuSwapsRow, standIns := [], harness := (true, "1fbe003839927454e2127db742a1aa9d648a46633fd1db5cf4822c9650777034"), looks := false }, kinds := [], alts := [], laidByText := true, laidKinds := [.data], laidTests := true, laidLooks := .later }
def MmuSwapsCardSaid : Prop := Claim7.holds Tryd.pinned (.plain (OpenSpec.ofChange mmuSwapsSpec)) mmuSwapsCard

/-- THE SECOND FORM's CARD OF 'trunnionlaw11.MmuPlays'. -/
def mmuPlaysUptoCard : Claim7 := { stood := { row := mmuPlaysUptoRow, standIns := [], harness := (true, "1fbe003839927454e2127db742a1aa9d648a46633fd1db5cf4822c9650777034"), looks := false }, kinds := [], alts := [], laidByText := true, laidKinds := [.data], laidTests := true, laidLooks := .later }
def MmuPlaysUptoCardSaid : Prop := Claim7.holds Tryd.pinned (.plain (OpenSpec.upto mmuPlaysSpec)) mmuPlaysUptoCard

/-- THE SECOND FORM's CARD OF 'trunnionlaw11.MmuSpaces'. -/
def mmuSpacesUptoCard : Claim7 := { stood := { row := mmuSpacesUptoRow, standIns := [], harness := (true, "1fbe003839927454e2127db742a1aa9d648a46633fd1db5cf4822c9650777034"), looks := false }, kinds := [], alts := [], laidByText := true, laidKinds := [.data], laidTests := true, laidLooks := .later }
def MmuSpacesUptoCardSaid : Prop := Claim7.holds Tryd.pinned (.plain (OpenSpec.upto mmuSpacesSpec)) mmuSpacesUptoCard

/-- THE SECOND FORM's CARD OF 'trunnionlaw11.MmuAlike'. -/
def mmuAlikeUptoCard : Claim7 := { stood := { row := mmuAlikeUptoRow, standIns := [], harness := (true, "1fbe003839927454e2127db742a1aa9d648a46633fd1db5cf4822c9650777034"), looks := false }, kinds := [], alts := [], laidByText := true, laidKinds := [.data], laidTests := true, laidLooks := .later }
def MmuAlikeUptoCardSaid : Prop := Claim7.holds Tryd.pinned (.plain (OpenSpec.upto mmuAlikeSpec)) mmuAlikeUptoCard

/-- THE SECOND FORM's CARD OF 'trunnionlaw11.MmuSwaps'. -/
def mmuSwapsUptoCard : Claim7 := { stood := { row := mmuSwapsUptoRow, standIns := [], harness := (true, "1fbe003839927454e2127db742a1aa9d648a46633fd1db5cf4822c9650777034"), looks := false }, kinds := [], alts := [], laidByText := true, laidKinds := [.data], laidTests := true, laidLooks := .later }
def MmuSwapsUptoCardSaid : Prop := Claim7.holds Tryd.pinned (.plain (OpenSpec.upto mmuSwapsSpec)) mmuSwapsUptoCard
end Rows
end Go.Proofs.YtfdnfllefednjaaDoor
