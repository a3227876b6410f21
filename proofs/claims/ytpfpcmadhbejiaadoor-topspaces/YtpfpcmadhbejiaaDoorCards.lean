/-
  DERIVED. GIVEN WITH THE SEED: THE CARDS: each row of YtpfpcmadhbejiaaDoorRows.lean that lists a variable, with what it lists TIED to the program's text (the seventh form; the later family's looks); each row that meets fmt, with fmt's text TOLD by the authors' own Lean function (tested against real Go, not proved from fmt's source: count such statements apart). THE CARD IS WHAT COUNTS. Prove the row's statement (the work); the ties are given (YtpfpcmadhbejiaaDoorTie.lean); close each card by the builder's one call (the guide's Derived/Test/ToyasCard.lean, 'card_holds'). Laid BY PROGRAM, IN A SANDBOX (cutbox-door.mjs). By AI agents, Wed Nov 11 2026. No macro, syntax, notation, axiom, sorry.
-/
import Derived.Test.YtpfpcmadhbejiaaDoorRows
import GoSem.ClaimSeven
namespace Go.Proofs.YtpfpcmadhbejiaaDoor
namespace Rows

/-- THE TIED CARD OF 'trunnionlaw08.TablesWalks'. -/
def tablesWalksCard : Claim7 := { stood := { row := tablesWalksRow, standIns := [], harness := (true, "8fbe12d87b591f72c90e963653a25df0b00f8d07ecf637b8a87be6f3bde5a51c"), looks := false }, kinds := [], alts := [], laidByText := true, laidKinds := [.data], laidTests := true, laidLooks := .later }
def TablesWalksCardSaid : Prop := Claim7.holds Tryd.pinned (.plain (OpenSpec.ofChange tablesWalksSpec)) tablesWalksCard

/-- THE TIED CARD OF 'trunnionlaw08.TablesBack'. -/
def tablesBackCard : Claim7 := { stood := { row := tablesBackRow, standIns := [], harness := (true, "8fbe12d87b591f72c90e963653a25df0b00f8d07ecf637b8a87be6f3bde5a51c"), looks := false }, kinds := [], alts := [], laidByText := true, laidKinds := [.data], laidTests := true, laidLooks := .later }
def TablesBackCardSaid : Prop := Claim7.holds Tryd.pinned (.plain (OpenSpec.ofChange tablesBackSpec)) tablesBackCard

/-- THE TIED CARD OF 'trunnionlaw08.TablesLess'. -/
def tablesLessCard : Claim7 := { stood := { row := tablesLessRow, standIns := [], harness := (true, "8fbe12d87b591f72c90e963653a25df0b00f8d07ecf637b8a87be6f3bde5a51c"), looks := false }, kinds := [], alts := [], laidByText := true, laidKinds := [.data], laidTests := true, laidLooks := .later }
def TablesLessCardSaid : Prop := Claim7.holds Tryd.pinned (.plain (OpenSpec.ofChange tablesLessSpec)) tablesLessCard

/-- THE TIED CARD OF 'trunniontop.TopSpaces'. -/
def topSpacesCard : Claim7 := { stood := { row := topSpacesRow, standIns := [], harness := (true, "8fbe12d87b591f72c90e963653a25df0b00f8d07ecf637b8a87be6f3bde5a51c"), looks := false }, kinds := [], alts := [], laidByText := true, laidKinds := [.data], laidTests := true, laidLooks := .later }
def TopSpacesCardSaid : Prop := Claim7.holds Tryd.pinned (.plain (OpenSpec.ofChange topSpacesSpec)) topSpacesCard

/-- THE SECOND FORM's CARD OF 'trunnionlaw08.TablesWalks'. -/
def tablesWalksUptoCard : Claim7 := { stood := { row := tablesWalksUptoRow, standIns := [], harness := (true, "8fbe12d87b591f72c90e963653a25df0b00f8d07ecf637b8a87be6f3bde5a51c"), looks := false }, kinds := [], alts := [], laidByText := true, laidKinds := [.data], laidTests := true, laidLooks := .later }
def TablesWalksUptoCardSaid : Prop := Claim7.holds Tryd.pinned (.plain (OpenSpec.upto tablesWalksSpec)) tablesWalksUptoCard

/-- THE SECOND FORM's CARD OF 'trunnionlaw08.TablesBack'. -/
def tablesBackUptoCard : Claim7 := { stood := { row := tablesBackUptoRow, standIns := [], harness := (true, "8fbe12d87b591f72c90e963653a25df0b00f8d07ecf637b8a87be6f3bde5a51c"), looks := false }, kinds := [], alts := [], laidByText := true, laidKinds := [.data], laidTests := true, laidLooks := .later }
def TablesBackUptoCardSaid : Prop := Claim7.holds Tryd.pinned (.plain (OpenSpec.upto tablesBackSpec)) tablesBackUptoCard

/-- THE SECOND FORM's CARD OF 'trunnionlaw08.TablesLess'. -/
def tablesLessUptoCard : Claim7 := { stood := { row := tablesLessUptoRow, standIns := [], harness := (true, "8fbe12d87b591f72c90e963653a25df0b00f8d07ecf637b8a87be6f3bde5a51c"), looks := false }, kinds := [], alts := [], laidByText := true, laidKinds := [.data], laidTests := true, laidLooks := .later }
def TablesLessUptoCardSaid : Prop := Claim7.holds Tryd.pinned (.plain (OpenSpec.upto tablesLessSpec)) tablesLessUptoCard

/-- THE SECOND FORM's CARD OF 'trunniontop.TopSpaces'. -/
def topSpacesUptoCard : Claim7 := { stood := { row := topSpacesUptoRow, standIns := [], harness := (true, "8fbe12d87b591f72c90e963653a25df0b00f8d07ecf637b8a87be6f3bde5a51c"), looks := false }, kinds := [], alts := [], laidByText := true, laidKinds := [.data], laidTests := true, laidLooks := .later }
def TopSpacesUptoCardSaid : Prop := Claim7.holds Tryd.pinned (.plain (OpenSpec.upto topSpacesSpec)) topSpacesUptoCard
end Rows
end Go.Proofs.YtpfpcmadhbejiaaDoor
