/-
  DERIVED. GIVEN WITH THE SEED: THE CARDS: each row of YtkdekpinibdchaaDoorRows.lean that lists a variable, with what it lists TIED to the program's text (the seventh form; the later family's looks); each row that meets fmt, with fmt's text TOLD by the authors' own Lean function (tested against real Go, not proved from fmt's source: count such statements apart). THE CARD IS WHAT COUNTS. Prove the row's statement (the work); the ties are given (YtkdekpinibdchaaDoorTie.lean); close each card by the builder's one call (the guide's Derived/Test/ToyasCard.lean, 'card_holds'). Laid BY PROGRAM, IN A SANDBOX (cutbox-door.mjs). By AI agents, Wed Nov 11 2026. No macro, syntax, notation, axiom, sorry.
-/
import Derived.Test.YtkdekpinibdchaaDoorRows
import GoSem.ClaimSeven
namespace Go.Proofs.YtkdekpinibdchaaDoor
namespace Rows

/-- THE TIED CARD OF 'trunnionlaw06.EntryWords'. -/
def entryWordsCard : Claim7 := { stood := { row := entryWordsRow, standIns := [], harness := (true, "5a5b16462b36004e53af97d1813fe82f08f6979989b9e70f3e183766d9c78ac0"), looks := false }, kinds := [], alts := [], laidByText := true, laidKinds := [.data], laidTests := true, laidLooks := .later }
def EntryWordsCardSaid : Prop := Claim7.holds Tryd.pinned (.plain (OpenSpec.ofChange entryWordsSpec)) entryWordsCard

/-- THE TIED CARD OF 'trunnionlaw06.EntryPages'. -/
def entryPagesCard : Claim7 := { stood := { row := entryPagesRow, standIns := [], harness := (true, "5a5b16462b36004e53af97d1813fe82f08f6979989b9e70f3e183766d9c78ac0"), looks := false }, kinds := [], alts := [], laidByText := true, laidKinds := [.data], laidTests := true, laidLooks := .later }
def EntryPagesCardSaid : Prop := Claim7.holds Tryd.pinned (.plain (OpenSpec.ofChange entryPagesSpec)) entryPagesCard

/-- THE TIED CARD OF 'trunnionlaw06.EntryBack'. -/
def entryBackCard : Claim7 := { stood := { row := entryBackRow, standIns := [], harness := (true, "5a5b16462b36004e53af97d1813fe82f08f6979989b9e70f3e183766d9c78ac0"), looks := false }, kinds := [], alts := [], laidByText := true, laidKinds := [.data], laidTests := true, laidLooks := .later }
def EntryBackCardSaid : Prop := Claim7.holds Tryd.pinned (.plain (OpenSpec.ofChange entryBackSpec)) entryBackCard

/-- THE TIED CARD OF 'trunnionlaw06.EntryPlaces'. -/
def entryPlacesCard : Claim7 := { stood := { row := entryPlacesRow, standIns := [], harness := (true, "5a5b16462b36004e53af97d1813fe82f08f6979989b9e70f3e183766d9c78ac0"), looks := false }, kinds := [], alts := [], laidByText := true, laidKinds := [.data], laidTests := true, laidLooks := .later }
def EntryPlacesCardSaid : Prop := Claim7.holds Tryd.pinned (.plain (OpenSpec.ofChange entryPlacesSpec)) entryPlacesCard

/-- THE TIED CARD OF 'trunnionlaw06.EntrySplits'. -/
def entrySplitsCard : Claim7 := { stood := { row := entrySplitsRow, standIns := [], harness := (true, "5a5b16462b36004e53af97d1813fe82f08f6979989b9e70f3e183766d9c78ac0"), looks := false }, kinds := [], alts := [], laidByText := true, laidKinds := [.data], laidTests := true, laidLooks := .later }
def EntrySplitsCardSaid : Prop := Claim7.holds Tryd.pinned (.plain (OpenSpec.ofChange entrySplitsSpec)) entrySplitsCard

/-- THE SECOND FORM's CARD OF 'trunnionlaw06.EntryWords'. -/
def entryWordsUptoCard : Claim7 := { stood := { row := entryWordsUptoRow, standIns := [], harness := (true, "5a5b16462b36004e53af97d1813fe82f08f6979989b9e70f3e183766d9c78ac0"), looks := false }, kinds := [], alts := [], laidByText := true, laidKinds := [.data], laidTests := true, laidLooks := .later }
def EntryWordsUptoCardSaid : Prop := Claim7.holds Tryd.pinned (.plain (OpenSpec.upto entryWordsSpec)) entryWordsUptoCard

/-- THE SECOND FORM's CARD OF 'trunnionlaw06.EntryPages'. -/
def entryPagesUptoCard : Claim7 := { stood := { row := entryPagesUptoRow, standIns := [], harness := (true, "5a5b16462b36004e53af97d1813fe82f08f6979989b9e70f3e183766d9c78ac0"), looks := false }, kinds := [], alts := [], laidByText := true, laidKinds := [.data], laidTests := true, laidLooks := .later }
def EntryPagesUptoCardSaid : Prop := Claim7.holds Tryd.pinned (.plain (OpenSpec.upto entryPagesSpec)) entryPagesUptoCard

/-- THE SECOND FORM's CARD OF 'trunnionlaw06.EntryBack'. -/
def entryBackUptoCard : Claim7 := { stood := { row := entryBackUptoRow, standIns := [], harness := (true, "5a5b16462b36004e53af97d1813fe82f08f6979989b9e70f3e183766d9c78ac0"), looks := false }, kinds := [], alts := [], laidByText := true, laidKinds := [.data], laidTests := true, laidLooks := .later }
def EntryBackUptoCardSaid : Prop := Claim7.holds Tryd.pinned (.plain (OpenSpec.upto entryBackSpec)) entryBackUptoCard

/-- THE SECOND FORM's CARD OF 'trunnionlaw06.EntryPlaces'. -/
def entryPlacesUptoCard : Claim7 := { stood := { row := entryPlacesUptoRow, standIns := [], harness := (true, "5a5b16462b36004e53af97d1813fe82f08f6979989b9e70f3e183766d9c78ac0"), looks := false }, kinds := [], alts := [], laidByText := true, laidKinds := [.data], laidTests := true, laidLooks := .later }
def EntryPlacesUptoCardSaid : Prop := Claim7.holds Tryd.pinned (.plain (OpenSpec.upto entryPlacesSpec)) entryPlacesUptoCard

/-- THE SECOND FORM's CARD OF 'trunnionlaw06.EntrySplits'. -/
def entrySplitsUptoCard : Claim7 := { stood := { row := entrySplitsUptoRow, standIns := [], harness := (true, "5a5b16462b36004e53af97d1813fe82f08f6979989b9e70f3e183766d9c78ac0"), looks := false }, kinds := [], alts := [], laidByText := true, laidKinds := [.data], laidTests := true, laidLooks := .later }
def EntrySplitsUptoCardSaid : Prop := Claim7.holds Tryd.pinned (.plain (OpenSpec.upto entrySplitsSpec)) entrySplitsUptoCard
end Rows
end Go.Proofs.YtkdekpinibdchaaDoor
