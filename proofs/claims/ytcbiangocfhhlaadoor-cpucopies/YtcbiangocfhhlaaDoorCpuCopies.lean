/-
  Proved: trunnionlaw13.CpuCopies answers true for every input: a program that copies words copies just these, in their order, and no more.
  Conditions: package isa's tables start as the program's text lays them (the card ties them).
-/
import Derived.Test.YtcbiangocfhhlaaDoorCards
import Derived.Test.YtcbiangocfhhlaaDoorTie
import Derived.SevenTiedAt
import Derived.LaidMore
import Derived.Stop.Joined
import Derived.Test.YtcbiangocfhhlaaDoorPart5
namespace Go.Proofs.YtcbiangocfhhlaaDoor.cpuCopies
open Go.ChangeShapes Go.WideShapes Go.ChangeAt Go.RowKit

theorem walk (ao : Option Addr) (n cap b off : Nat) (E : Nat → Nat → Value) (w : World) (R : Fr.RowArg w ao n b off [some .u64] E)
    (T0 : Fr.VarAt w 0 (Fr.datS (Rows.laid_trunnion_isa_places (H := Unit)))) (T1 : Fr.VarAt w 1 (Fr.datS (Rows.laid_trunnion_isa_operations (H := Unit)))) :
    Calls Tryd.prog 9 #[.slice ao n cap] w fun e w' => e = .returned (.bool true) ∧ Below w.heap.size w w' := by
  have hn := R.most
  obtain ⟨W, rfl, hW, hr, hlt⟩ := words_of R cap
  refine (cpucopies_any grun_any W ao cap w ⟨T1, T0⟩ hW hr hlt hn).mono ?_
  rintro e w' ⟨he, u⟩
  exact ⟨he, u.below (Nat.le_refl _) fun _ _ => id⟩
/-! ### the row's frame, and its tied card -/
theorem own : ownKnob Tryd.prog.godebug = none := by kernel_rfl
theorem laidOut : laidOutB Tryd.prog = true := by kernel_rfl
/-- the door's own heap meets the condition -/
theorem door_met (os : Os) (args : Array Value) : laidMetH Tryd.prog Rows.cpuCopiesRow.laid ((World.doorLaid Tryd.prog 400 os).forCall (fun _ _ => 0) ⟨#[], args, []⟩).memory :=
  laidMetH_of_parts3 (fuel := 8) (laidMet_of_run' 8 (by kernel_rfl) (by kernel_rfl)) (by kernel_rfl) (by kernel_rfl)
set_option linter.unusedVariables false in
set_option maxRecDepth 100000 in
theorem lifted (os : Os) (started : os.Started) (H : Type) (enc : TypeId × Value → H) :
    ReturnsInHanded {} Tryd.checked os 9 .any (fun w args => (Rows.cpuCopiesSpec.pre enc Tryd.prog Tryd.f9 [] false w args ∧ laidMetH Tryd.prog Rows.cpuCopiesRow.laid w) ∧ sizedMet enc Tryd.prog Tryd.f9 (OpenSpec.ofChange Rows.cpuCopiesSpec) false w args)
      (Rows.cpuCopiesSpec.post enc Tryd.prog Tryd.f9 false true false false) := by
  refine returnsInHanded_of_change_and (C := Tryd.checked) (X := fun w _ => laidMetH Tryd.prog Rows.cpuCopiesRow.laid w) (fun _ _ _ hh h => h.of_heap hh) own started (by kernel_rfl) Tryd.func9
    (ChangeSpec.witness_shaped (enc := enc) (C := Tryd.checked) (os := os) (X := fun w _ => laidMetH Tryd.prog Rows.cpuCopiesRow.laid w) false (World.doorLaid Tryd.prog 400 os) #[.slice none 0 0] 8 rfl (World.shaped_of_RefB (by kernel_rfl) (by kernel_rfl)) (by kernel_rfl) (by kernel_rfl) (by kernel_rfl) (door_met os _)) ?_
  intro W base args ds gs before hval0 hW _ _ hL _
  have hLd := hL
  rw [MakeChecks.laidMetH_plain _ _ _ (by kernel_rfl)] at hLd
  have T0 : Fr.VarAt W 0 (Fr.datS (Rows.laid_trunnion_isa_places (H := Unit))) := Fr.varAt_of_laid (t := 72) (k := 12) 12 (hLd : laidMet Tryd.prog Rows.cpuCopiesRow.laid W) "trunnion/isa.places" (Rows.laid_trunnion_isa_places (H := Unit)) (by simp [Rows.cpuCopiesRow]) (by kernel_rfl) (by kernel_rfl) (by kernel_rfl)
  have T1 : Fr.VarAt W 1 (Fr.datS (Rows.laid_trunnion_isa_operations (H := Unit))) := Fr.varAt_of_laid (t := 81) (k := 60) 12 (hLd : laidMet Tryd.prog Rows.cpuCopiesRow.laid W) "trunnion/isa.operations" (Rows.laid_trunnion_isa_operations (H := Unit)) (by simp [Rows.cpuCopiesRow]) (by kernel_rfl) (by kernel_rfl) (by kernel_rfl)
  clear hL hLd
  have hval : ∀ (j : Nat) t v, Tryd.f9.params[j]? = some t → args[j]? = some v → Value.okWide Tryd.prog W .any base t v := hval0
  have hW' := hW
  obtain ⟨p, q, hA0, hV, rfl, hfz, hnd⟩ := hW
  have hA : DataW.TrodAll enc Tryd.prog W 0 (fun _ => true) true Tryd.f9.params.toList args.toList ds p := hA0
  rw [Tryd.params9] at hA hval
  obtain ⟨v0, vs0, d0, ds0, p0, q0, hargs, rfl, rfl, h0, r0⟩ := trodAll_cons hA
  obtain ⟨rfl, rfl, rfl⟩ := trodAll_nil r0
  obtain rfl : args = #[v0] := by cases args; simp_all
  obtain ⟨rfl, rfl⟩ := trodVars_none hV
  have k0 := h0
  have lt0 : ∀ x ∈ p0, x.block < W.heap.size := by obtain ⟨m, hm⟩ := k0; exact DataW.trod_lt m _ _ _ hm
  obtain ⟨ao0, n0, cap0, b0, of0, E0, rfl, w0⟩ := Fr.open_rows 12 [some .u64] Tryd.underlying26 (by kernel_rfl) (by kernel_rfl) (by decide) (hval 0 26 v0 rfl rfl) h0
  clear hA0 hval0
  refine (walk ao0 n0 cap0 b0 of0 E0  W w0 T0 T1).mono fun e W' ⟨he, bel⟩ => ?_
  subst he
  exact ⟨_, rfl, _, _, _, [], _, [], hW', trodAll_mk1 (shut_bool Tryd.underlying4 _), (trodAll_cons_mk (Below.trod laidOut (by kernel_rfl) (of_decide_eq_true (by kernel_rfl)) k0 bel lt0) trodAll_mk0), rfl, bel.frame _, fun h => by cases h⟩

theorem over : Rows.cpuCopiesRow.holds Tryd.pinned (OpenSpec.ofChange Rows.cpuCopiesSpec) :=
  OpenClaim.holds_of_wide 9 Tryd.f9 rfl rfl rfl rfl rfl rfl rfl ⟨rfl, rfl, rfl, rfl, rfl⟩ rfl rfl rfl rfl rfl (by kernel_rfl) Tryd.func9 (by kernel_rfl)
    (of_decide_eq_true (by kernel_rfl)) (by unfold Func.isWrapper; first | (rw [if_pos (by decide +kernel)]; kernel_rfl) | (rw [if_neg (by decide +kernel)]; exact ⟨rfl, rfl⟩))
    (fun os started H enc _ => lifted os started H enc)

theorem proved : Rows.CpuCopiesCardSaid :=
  Claim7.holds_tied_plain_at .later [] [.data, .data] true (true, "394bf0bc18f00ffb7b3f8018997897373b610039718cac7660c8dca377995b4e") false
    over (fun _ h => by cases h) (by kernel_rfl) (fun _ h => by cases h) cpuCopies_row_tie rfl ⟨rfl, rfl⟩ (by kernel_rfl) rfl
    (fun f fn hf hfn => by
      obtain rfl : f = 9 := Option.some.inj ((show Tryd.prog.funcNamed "trunnion/trunnionlaw13.CpuCopies" = some 9 by kernel_rfl).symm.trans hf) |>.symm
      obtain rfl : fn = Tryd.f9 := (Option.some.inj (Tryd.func9.symm.trans hfn)).symm
      exact ⟨by kernel_rfl, fun j t ht => by
        rw [Tryd.params9] at ht
        have hm : t ∈ [26] := by simpa using Array.mem_of_getElem? ht
        have hall : ([26].all fun u => !Tryd.prog.wantsStandIn u) = true := by kernel_rfl
        exact (show Tryd.prog.wantsStandIn t = false by simpa using List.all_eq_true.1 hall t hm)⟩)
    (by kernel_rfl)
end Go.Proofs.YtcbiangocfhhlaaDoor.cpuCopies
