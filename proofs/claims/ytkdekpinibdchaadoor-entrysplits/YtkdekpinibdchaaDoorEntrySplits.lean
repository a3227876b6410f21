/-
  Proved: trunnionlaw06.EntrySplits answers true for every input: an address is its page's, and its place there; of each page there are sixteen.
  Conditions: package entry's table of fields starts as the program's text lays it (the card ties it).
-/
import Derived.Test.YtkdekpinibdchaaDoorCards
import Derived.Test.YtkdekpinibdchaaDoorTie
import Derived.Test.YtkdekpinibdchaaDoorLaid
import Derived.SevenTiedAt
import Derived.LaidMore
import Derived.Stop.Joined
import Derived.Test.YtkdekpinibdchaaDoorEnL
import Derived.Test.YtkdekpinibdchaaDoorFrame
namespace Go.Proofs.YtkdekpinibdchaaDoor.entrySplits
open Go.ChangeShapes Go.WideShapes Go.ChangeAt Go.RowKit

set_option maxHeartbeats 1000000 in
theorem walk (a : Int) (w0 : (Lit.int .i64 a).wf = true) (w : World) (T0 : Fr.VarIs w 0 (Fr.datCells (Rows.laid_trunnion_entry_fields (H := Unit)))) :
    Calls Tryd.prog 7 #[.int .i64 a] w fun e w' => e = .returned (.bool true) ∧ Below w.heap.size w w' := by
  have T := tab_of T0
  clear T0
  have hb := bounds_i64 w0
  cases h : spB a
  · obtain ⟨e1, e2, e3⟩ := split_no h
    have hS := Lib.hid (fun W (T : Tab W) => esplit_any a W T)
    rw [e1, e2, e3] at hS
    have h' := of_decide_eq_false h
    clear e1 e2 e3 h w0
    by_cases h1 : a < 0
    · go_enter Tryd.func7, Tryd.ntmps7
      go_wp2_with fail
      refine (eawake_any _ T).mono ?_
      rintro e w1 ⟨rfl, u1⟩
      go_wp2_with fail
      refine (hS.out _ (T.kept u1)).mono ?_
      rintro e w2 ⟨rfl, n2, rfl⟩
      go_wp2
      go_ret
      exact ⟨rfl, (u1.drewN _).below (Nat.le_refl _) fun _ _ => id⟩
    · have h2 : 65535 < a := by omega
      go_enter Tryd.func7, Tryd.ntmps7
      go_wp2_with fail
      refine (eawake_any _ T).mono ?_
      rintro e w1 ⟨rfl, u1⟩
      go_wp2_with fail
      refine (hS.out _ (T.kept u1)).mono ?_
      rintro e w2 ⟨rfl, n2, rfl⟩
      go_wp2
      go_ret
      exact ⟨rfl, (u1.drewN _).below (Nat.le_refl _) fun _ _ => id⟩
  · obtain ⟨e1, e2, e3⟩ := split_yes h
    have hS := Lib.hid (fun W (T : Tab W) => esplit_any a W T)
    rw [e1, e2, e3] at hS
    obtain ⟨h1, h2⟩ := of_decide_eq_true h
    obtain ⟨q, hq⟩ : ∃ q, q = a / 16 := ⟨_, rfl⟩
    obtain ⟨o, ho⟩ : ∃ o, o = a % 16 := ⟨_, rfl⟩
    have i0 : idxB q 0 = true := by simp [idxB]; omega
    have i1 : idxB q 1 = true := by simp [idxB]; omega
    have i2 : idxB q 2 = true := by simp [idxB]; omega
    have c0 := Lib.hid (fun W (T : Tab W) => eindex_any q 0 W T)
    have c1 := Lib.hid (fun W (T : Tab W) => eindex_any q 1 W T)
    have c2 := Lib.hid (fun W (T : Tab W) => eindex_any q 2 W T)
    rw [(idx_yes i0).1, (idx_yes i0).2, if_pos rfl] at c0
    rw [(idx_yes i1).1, (idx_yes i1).2, if_neg (by decide), if_pos rfl] at c1
    rw [(idx_yes i2).1, (idx_yes i2).2, if_neg (by decide), if_neg (by decide)] at c2
    rw [← hq, ← ho] at hS
    obtain ⟨x0, hx0⟩ : ∃ x, x = q / 256 := ⟨_, rfl⟩
    obtain ⟨x1, hx1⟩ : ∃ x, x = q / 16 % 16 := ⟨_, rfl⟩
    obtain ⟨x2, hx2⟩ : ∃ x, x = q % 16 := ⟨_, rfl⟩
    rw [← hx0] at c0
    rw [← hx1] at c1
    rw [← hx2] at c2
    have b0 : 0 ≤ x0 ∧ x0 ≤ 15 := by omega
    have b1 : 0 ≤ x1 ∧ x1 ≤ 15 := by omega
    have b2 : 0 ≤ x2 ∧ x2 ≤ 15 := by omega
    have b3 : 0 ≤ o ∧ o < 16 := by omega
    have hsum : 4096 * x0 + 256 * x1 + 16 * x2 + o = a := by omega
    obtain ⟨b00, b01⟩ := b0
    obtain ⟨b10, b11⟩ := b1
    obtain ⟨b20, b21⟩ := b2
    obtain ⟨b30, b31⟩ := b3
    clear e1 e2 e3 h w0 hb h1 h2 hq ho i0 i1 i2 hx0 hx1 hx2
    go_enter Tryd.func7, Tryd.ntmps7
    go_wp2_with fail
    refine (eawake_any _ T).mono ?_
    rintro e w1 ⟨rfl, u1⟩
    go_wp2_with fail
    refine (hS.out _ (T.kept u1)).mono ?_
    rintro e w2 ⟨rfl, n2, rfl⟩
    go_wp2_with fail
    refine (c0.out _ (T.kept (u1.drewN _))).mono ?_
    rintro e w2 ⟨rfl, n3, rfl⟩
    go_wp2_with fail
    refine (c1.out _ (T.kept (u1.drewN _))).mono ?_
    rintro e w2 ⟨rfl, n4, rfl⟩
    go_wp2_with fail
    refine (c2.out _ (T.kept (u1.drewN _))).mono ?_
    rintro e w2 ⟨rfl, n5, rfl⟩
    go_wp2
    go_ret
    exact ⟨rfl, (u1.drewN _).below (Nat.le_refl _) fun _ _ => id⟩
/-! ### the row's frame, and its tied card -/
theorem own : ownKnob Tryd.prog.godebug = none := by kernel_rfl
theorem laidOut : laidOutB Tryd.prog = true := by kernel_rfl
/-- the door's own heap meets the condition -/
theorem door_met (os : Os) (args : Array Value) : laidMetH Tryd.prog Rows.entrySplitsRow.laid ((World.doorLaid Tryd.prog 400 os).forCall (fun _ _ => 0) ⟨#[], args, []⟩).memory :=
  laidMetH_of_parts3 (fuel := 8) (laidMet_of_run' 8 (by kernel_rfl) (by kernel_rfl)) (by kernel_rfl) (by kernel_rfl)
set_option linter.unusedVariables false in
set_option maxRecDepth 100000 in
theorem lifted (os : Os) (started : os.Started) (H : Type) (enc : TypeId × Value → H) :
    ReturnsInHanded {} Tryd.checked os 7 .any (fun w args => (Rows.entrySplitsSpec.pre enc Tryd.prog Tryd.f7 [] false w args ∧ laidMetH Tryd.prog Rows.entrySplitsRow.laid w) ∧ sizedMet enc Tryd.prog Tryd.f7 (OpenSpec.ofChange Rows.entrySplitsSpec) false w args)
      (Rows.entrySplitsSpec.post enc Tryd.prog Tryd.f7 false true false false) := by
  refine returnsInHanded_of_change_and (C := Tryd.checked) (X := fun w _ => laidMetH Tryd.prog Rows.entrySplitsRow.laid w) (fun _ _ _ hh h => h.of_heap hh) own started (by kernel_rfl) Tryd.func7
    (ChangeSpec.witness_shaped (enc := enc) (C := Tryd.checked) (os := os) (X := fun w _ => laidMetH Tryd.prog Rows.entrySplitsRow.laid w) false (World.doorLaid Tryd.prog 400 os) #[.int .i64 0] 8 rfl (World.shaped_of_RefB (by kernel_rfl) (by kernel_rfl)) (by kernel_rfl) (by kernel_rfl) (by kernel_rfl) (door_met os _)) ?_
  intro W base args ds gs before hval0 hW _ _ hL _
  have hLd := hL
  rw [MakeChecks.laidMetH_plain _ _ _ (by kernel_rfl)] at hLd
  have T0 : Fr.VarIs W 0 (Fr.datCells (Rows.laid_trunnion_entry_fields (H := Unit))) := Fr.varIs_of_laid (t := 49) (ks := [some .i64, some .i64, some .i64, some .i64, some .i64, some .i64, some .i64, some .i64, some .i64, some .i64, some .i64, some .i64, some .i64, some .i64, some .i64, some .i64, some .i64, some .i64]) 12 (hLd : laidMet Tryd.prog Rows.entrySplitsRow.laid W) "trunnion/entry.fields" (Rows.laid_trunnion_entry_fields (H := Unit)) (by simp [Rows.entrySplitsRow]) (by kernel_rfl) (by kernel_rfl) (by kernel_rfl)
  clear hL hLd
  have hval : ∀ (j : Nat) t v, Tryd.f7.params[j]? = some t → args[j]? = some v → Value.okWide Tryd.prog W .any base t v := hval0
  have hW' := hW
  obtain ⟨p, q, hA0, hV, rfl, hfz, hnd⟩ := hW
  have hA : DataW.TrodAll enc Tryd.prog W 0 (fun _ => true) true Tryd.f7.params.toList args.toList ds p := hA0
  rw [Tryd.params7] at hA hval
  obtain ⟨v0, vs0, d0, ds0, p0, q0, hargs, rfl, rfl, h0, r0⟩ := trodAll_cons hA
  obtain ⟨rfl, rfl, rfl⟩ := trodAll_nil r0
  obtain rfl : args = #[v0] := by cases args; simp_all
  obtain ⟨rfl, rfl⟩ := trodVars_none hV
  have k0 := h0
  have lt0 : ∀ x ∈ p0, x.block < W.heap.size := by obtain ⟨m, hm⟩ := k0; exact DataW.trod_lt m _ _ _ hm
  obtain ⟨a0, rfl, rfl, rfl, w0⟩ := open_int Tryd.underlying3 (hval 0 3 v0 rfl rfl) h0
  clear hA0 hval0
  refine (walk a0 w0 W  T0).mono fun e W' ⟨he, bel⟩ => ?_
  subst he
  exact ⟨_, rfl, _, _, _, [], _, [], hW', trodAll_mk1 (shut_bool Tryd.underlying4 _), (trodAll_cons_mk (Below.trod laidOut (by kernel_rfl) (of_decide_eq_true (by kernel_rfl)) k0 bel lt0) trodAll_mk0), rfl, bel.frame _, fun h => by cases h⟩

theorem over : Rows.entrySplitsRow.holds Tryd.pinned (OpenSpec.ofChange Rows.entrySplitsSpec) :=
  OpenClaim.holds_of_wide 7 Tryd.f7 rfl rfl rfl rfl rfl rfl rfl ⟨rfl, rfl, rfl, rfl, rfl⟩ rfl rfl rfl rfl rfl (by kernel_rfl) Tryd.func7 (by kernel_rfl)
    (of_decide_eq_true (by kernel_rfl)) (by unfold Func.isWrapper; first | (rw [if_pos (by decide +kernel)]; kernel_rfl) | (rw [if_neg (by decide +kernel)]; exact ⟨rfl, rfl⟩))
    (fun os started H enc _ => lifted os started H enc)

theorem proved : Rows.EntrySplitsCardSaid :=
  Claim7.holds_tied_plain_at .later [] [.data] true (true, "5a5b16462b36004e53af97d1813fe82f08f6979989b9e70f3e183766d9c78ac0") false
    over (fun _ h => by cases h) (by kernel_rfl) (fun _ h => by cases h) entrySplits_row_tie rfl ⟨rfl, rfl⟩ (by kernel_rfl) rfl
    (fun f fn hf hfn => by
      obtain rfl : f = 7 := Option.some.inj ((show Tryd.prog.funcNamed "trunnion/trunnionlaw06.EntrySplits" = some 7 by kernel_rfl).symm.trans hf) |>.symm
      obtain rfl : fn = Tryd.f7 := (Option.some.inj (Tryd.func7.symm.trans hfn)).symm
      exact ⟨by kernel_rfl, fun j t ht => by
        rw [Tryd.params7] at ht
        have hm : t ∈ [3] := by simpa using Array.mem_of_getElem? ht
        have hall : ([3].all fun u => !Tryd.prog.wantsStandIn u) = true := by kernel_rfl
        exact (show Tryd.prog.wantsStandIn t = false by simpa using List.all_eq_true.1 hall t hm)⟩)
    (by kernel_rfl)
end Go.Proofs.YtkdekpinibdchaaDoor.entrySplits
