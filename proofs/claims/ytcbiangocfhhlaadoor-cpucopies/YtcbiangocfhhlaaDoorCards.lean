/-
  DERIVED. GIVEN WITH THE SEED: THE CARDS: each row of YtcbiangocfhhlaaDoorRows.lean that lists a variable, with what it lists TIED to the program's text (the seventh form; the later family's looks); each row that meets fmt, with fmt's text TOLD by the authors' own Lean function (tested against real Go, not proved from fmt's source: count such statements apart). THE CARD IS WHAT COUNTS. Prove the row's statement (the work); the ties are given (YtcbiangocfhhlaaDoorTie.lean); close each card by the builder's one call (the guide's Derived/Test/ToyasCard.lean, 'card_holds'). Laid BY PROGRAM, IN A SANDBOX (cutbox-door.mjs). By AI agents, Wed Nov 11 2026. No macro, syntax, notation, axiom, sorry.
-/
import Derived.Test.YtcbiangocfhhlaaDoorRows
import GoSem.ClaimSeven
namespace Go.Proofs.YtcbiangocfhhlaaDoor
namespace Rows

/-- THE TIED CARD OF 'trunnionlaw13.CpuSteps'. -/
def cpuStepsCard : Claim7 := { stood := { row := cpuStepsRow, standIns := [], harness := (true, "394bf0bc18f00ffb7b3f8018997897373b610039718cac7660c8dca377995b4e"), looks := false }, kinds := [], alts := [], laidByText := true, laidKinds := [.data, .data], laidTests := true, laidLooks := .later }
def CpuStepsCardSaid : Prop := Claim7.holds Tryd.pinned (.plain (OpenSpec.ofChange cpuStepsSpec)) cpuStepsCard

/-- THE TIED CARD OF 'trunnionlaw13.CpuRuns'. -/
def cpuRunsCard : Claim7 := { stood := { row := cpuRunsRow, standIns := [], harness := (true, "394bf0bc18f00ffb7b3f8018997897373b610039718cac7660c8dca377995b4e"), looks := false }, kinds := [], alts := [], laidByText := true, laidKinds := [.data, .data], laidTests := true, laidLooks := .later }
def CpuRunsCardSaid : Prop := Claim7.holds Tryd.pinned (.plain (OpenSpec.ofChange cpuRunsSpec)) cpuRunsCard

/-- THE TIED CARD OF 'trunnionlaw13.CpuParts'. -/
def cpuPartsCard : Claim7 := { stood := { row := cpuPartsRow, standIns := [], harness := (true, "394bf0bc18f00ffb7b3f8018997897373b610039718cac7660c8dca377995b4e"), looks := false }, kinds := [], alts := [], laidByText := true, laidKinds := [.data, .data], laidTests := true, laidLooks := .later }
def CpuPartsCardSaid : Prop := Claim7.holds Tryd.pinned (.plain (OpenSpec.ofChange cpuPartsSpec)) cpuPartsCard

/-- THE TIED CARD OF 'trunnionlaw13.CpuHangs'. -/
def cpuHangsCard : Claim7 := { stood := { row := cpuHangsRow, standIns := [], harness := (true, "394bf0bc18f00ffb7b3f8018997897373b610039718cac7660c8dca377995b4e"), looks := false }, kinds := [], alts := [], laidByText := true, laidKinds := [.data, .data], laidTests := true, laidLooks := .later }
def CpuHangsCardSaid : Prop := Claim7.holds Tryd.pinned (.plain (OpenSpec.ofChange cpuHangsSpec)) cpuHangsCard

/-- THE TIED CARD OF 'trunnionlaw13.CpuSums'. -/
def cpuSumsCard : Claim7 := { stood := { row := cpuSumsRow, standIns := [], harness := (true, "394bf0bc18f00ffb7b3f8018997897373b610039718cac7660c8dca377995b4e"), looks := false }, kinds := [], alts := [], laidByText := true, laidKinds := [.data, .data], laidTests := true, laidLooks := .later }
def CpuSumsCardSaid : Prop := Claim7.holds Tryd.pinned (.plain (OpenSpec.ofChange cpuSumsSpec)) cpuSumsCard

/-- THE TIED CARD OF 'trunnionlaw13.CpuFails'. -/
def cpuFailsCard : Claim7 := { stood := { row := cpuFailsRow, standIns := [], harness := (true, "394bf0bc18f00ffb7b3f8018997897373b610039718cac7660c8dca377995b4e"), looks := false }, kinds := [], alts := [], laidByText := true, laidKinds := [.data, .data], laidTests := true, laidLooks := .later }
def CpuFailsCardSaid : Prop := Claim7.holds Tryd.pinned (.plain (OpenSpec.ofChange cpuFailsSpec)) cpuFailsCard

/-- THE TIED CARD OF 'trunnionlaw13.CpuCopies'. -/
def cpuCopiesCard : Claim7 := { stood := { row := cpuCopiesRow, standIns := [], harness := (true, "394bf0bc18f00ffb7b3f8018997897373b610039718cac7660c8dca377995b4e"), looks := false }, kinds := [], alts := [], laidByText := true, laidKinds := [.data, .data], laidTests := true, laidLooks := .later }
def CpuCopiesCardSaid : Prop := Claim7.holds Tryd.pinned (.plain (OpenSpec.ofChange cpuCopiesSpec)) cpuCopiesCard

/-- THE SECOND FORM's CARD OF 'trunnionlaw13.CpuSteps'. -/
def cpuStepsUptoCard : Claim7 := { stood := { row := cpuStepsUptoRow, standIns := [], harness := (true, "394bf0bc18f00ffb7b3f8018997897373b610039718cac7660c8dca377995b4e"), looks := false }, kinds := [], alts := [], laidByText := true, laidKinds := [.data, .data], laidTests := true, laidLooks := .later }
def CpuStepsUptoCardSaid : Prop := Claim7.holds Tryd.pinned (.plain (OpenSpec.upto cpuStepsSpec)) cpuStepsUptoCard

/-- THE SECOND FORM's CARD OF 'trunnionlaw13.CpuRuns'. -/
def cpuRunsUptoCard : Claim7 := { stood := { row := cpuRunsUptoRow, standIns := [], harness := (true, "394bf0bc18f00ffb7b3f8018997897373b610039718cac7660c8dca377995b4e"), looks := false }, kinds := [], alts := [], laidByText := true, laidKinds := [.data, .data], laidTests := true, laidLooks := .later }
def CpuRunsUptoCardSaid : Prop := Claim7.holds Tryd.pinned (.plain (OpenSpec.upto cpuRunsSpec)) cpuRunsUptoCard

/-- THE SECOND FORM's CARD OF 'trunnionlaw13.CpuParts'. -/
def cpuPartsUptoCard : Claim7 := { stood := { row := cpuPartsUptoRow, standIns := [], harness := (true, "394bf0bc18f00ffb7b3f8018997897373b610039718cac7660c8dca377995b4e"), looks := false }, kinds := [], alts := [], laidByText := true, laidKinds := [.data, .data], laidTests := true, laidLooks := .later }
def CpuPartsUptoCardSaid : Prop := Claim7.holds Tryd.pinned (.plain (OpenSpec.upto cpuPartsSpec)) cpuPartsUptoCard

/-- THE SECOND FORM's CARD OF 'trunnionlaw13.CpuHangs'. -/
def cpuHangsUptoCard : Claim7 := { stood := { row := cpuHangsUptoRow, standIns := [], harness := (true, "394bf0bc18f00ffb7b3f8018997897373b610039718cac7660c8dca377995b4e"), looks := false }, kinds := [], alts := [], laidByText := true, laidKinds := [.data, .data], laidTests := true, laidLooks := .later }
def CpuHangsUptoCardSaid : Prop := Claim7.holds Tryd.pinned (.plain (OpenSpec.upto cpuHangsSpec)) cpuHangsUptoCard

/-- THE SECOND FORM's CARD OF 'trunnionlaw13.CpuSums'. -/
def cpuSumsUptoCard : Claim7 := { stood := { row := cpuSumsUptoRow, standIns := [], harness := (true, "394bf0bc18f00ffb7b3f8018997897373b610039718cac7660c8dca377995b4e"), looks := false }, kinds := [], alts := [], laidByText := true, laidKinds := [.data, .data], laidTests := true, laidLooks := .later }
def CpuSumsUptoCardSaid : Prop := Claim7.holds Tryd.pinned (.plain (OpenSpec.upto cpuSumsSpec)) cpuSumsUptoCard

/-- THE SECOND FORM's CARD OF 'trunnionlaw13.CpuFails'. -/
def cpuFailsUptoCard : Claim7 := { stood := { row := cpuFailsUptoRow, standIns := [], harness := (true, "394bf0bc18f00ffb7b3f8018997897373b610039718cac7660c8dca377995b4e"), looks := false }, kinds := [], alts := [], laidByText := true, laidKinds := [.data, .data], laidTests := true, laidLooks := .later }
def CpuFailsUptoCardSaid : Prop := Claim7.holds Tryd.pinned (.plain (OpenSpec.upto cpuFailsSpec)) cpuFailsUptoCard

/-- THE SECOND FORM's CARD OF 'trunnionlaw13.CpuCopies'. -/
def cpuCopiesUptoCard : Claim7 := { stood := { row := cpuCopiesUptoRow, standIns := [], harness := (true, "394bf0bc18f00ffb7b3f8018997897373b610039718cac7660c8dca377995b4e"), looks := false }, kinds := [], alts := [], laidByText := true, laidKinds := [.data, .data], laidTests := true, laidLooks := .later }
def CpuCopiesUptoCardSaid : Prop := Claim7.holds Tryd.pinned (.plain (OpenSpec.upto cpuCopiesSpec)) cpuCopiesUptoCard
end Rows
end Go.Proofs.YtcbiangocfhhlaaDoor
