/-
  Proved: trunnionlaw06.EntryWords answers true for every input: any entry's word, and the entry of any word, are the document's.
  Conditions: package entry's table of fields starts as the program's text lays it (the card ties it).
-/
import Derived.Test.YtkdekpinibdchaaDoorCards
import Derived.Test.YtkdekpinibdchaaDoorTie
import Derived.Test.YtkdekpinibdchaaDoorLaid
import Derived.SevenTiedAt
import Derived.LaidMore
import Derived.Stop.Joined
import Derived.Test.YtkdekpinibdchaaDoorEnL
import Derived.Test.YtkdekpinibdchaaDoorFrame
namespace Go.Proofs.YtkdekpinibdchaaDoor.entryWords
open Go.ChangeShapes Go.WideShapes Go.ChangeAt Go.RowKit

set_option maxHeartbeats 2000000 in
theorem walk (v r t : Bool) (f x : Int) (w0 : (Lit.int .i64 f).wf = true) (w1 : (Lit.int .u64 x).wf = true) (w : World) (T0 : Fr.VarIs w 0 (Fr.datCells (Rows.laid_trunnion_entry_fields (H := Unit)))) :
    Calls Tryd.prog 3 #[.agg #[.bool v, .bool r, .bool t, .int .i64 f], .int .u64 x] w fun e w' => e = .returned (.bool true) ∧ Below w.heap.size w w' := by
  have T := tab_of T0
  clear T0
  have hb := bounds_u64 w1
  have c1 := Lib.hid (fun W (T : Tab W) => eword_any v r t f W T w0)
  have c2 := Lib.hid (fun W => rword_any v r t f W)
  have c3 := Lib.hid (fun W (T : Tab W) => eof_any x W T (by omega) (by omega))
  have c4 := Lib.hid (fun W => rof_any x W (by omega) (by omega))
  obtain ⟨z, hz⟩ : ∃ z, z = wordI v r t f := ⟨_, rfl⟩
  obtain ⟨y, hy⟩ : ∃ y, y = wordE v r t f := ⟨_, rfl⟩
  obtain ⟨ov, hov⟩ : ∃ z, z = ofV x := ⟨_, rfl⟩
  obtain ⟨orr, hor⟩ : ∃ z, z = ofR x := ⟨_, rfl⟩
  obtain ⟨ot, hot⟩ : ∃ z, z = ofT x := ⟨_, rfl⟩
  obtain ⟨fo, hof⟩ : ∃ z, z = ofF x := ⟨_, rfl⟩
  obtain ⟨oe, hoe⟩ : ∃ z, z = errB (ofB x) := ⟨_, rfl⟩
  rw [← hz, ← hy] at c1 c2
  rw [← hov, ← hor, ← hot, ← hof, ← hoe] at c3 c4
  have he := run_eqE ov orr ot fo ov orr ot fo true (by simp)
  clear w0 w1 hb hz hy hov hor hot hof hoe
  go_enter Tryd.func3, Tryd.ntmps3
  go_wp2_with fail
  refine (eawake_any _ (T.kept ((Upd.refl _ _).alloc _))).mono ?_
  rintro e wa ⟨rfl, u⟩
  have k0 : Hid (EntAt wa w.heap.size v r t f) := Lib.hid (u.at (heap_alloc_last w _) id)
  have U : Upd (fun _ => False) w wa := ((Upd.refl _ _).alloc _).trans u
  clear u
  obtain ⟨B, hB⟩ : ∃ B, B = w.heap.size := ⟨_, rfl⟩
  rw [← hB] at k0 ⊢
  have hB' := Lib.hid hB
  clear hB
  go_wp2_with (with_reducible refine wpList_load_sz rfl 23 (.tmp 2) rfl B 0 rfl [.bool v, .bool r, .bool t, .int .i64 f] _ k0.out.range Tryd.underlying23 rfl 4 (ent_len _ _ _ _) size_ent ?_)
  refine (c1.out _ (T.kept U)).mono ?_
  rintro e wb ⟨rfl, u⟩
  have k1 : Hid (EntAt wb B v r t f) := Lib.hid (k0.out.kept u id)
  have U1 := U.trans u
  clear u k0 U
  go_wp2_with (with_reducible refine wpList_load_sz rfl 23 (.tmp 2) rfl B 0 rfl [.bool v, .bool r, .bool t, .int .i64 f] _ k1.out.range Tryd.underlying23 rfl 4 (ent_len _ _ _ _) size_ent ?_)
  refine (c2.out _).mono ?_
  rintro e wc ⟨rfl, u⟩
  have U2 := U1.trans u
  clear u k1 U1
  go_wp2_with fail
  refine (c3.out _ (T.kept U2)).mono ?_
  rintro e wd ⟨rfl, u⟩
  have U3 := U2.trans u
  clear u U2
  go_wp2_with fail
  refine (c4.out _).mono ?_
  rintro e we ⟨rfl, u⟩
  have k2 : Hid (EntAt we wd.heap.size ov orr ot fo) := Lib.hid (u.at (heap_alloc_last wd _) id)
  have U4 := (U3.alloc _).trans u
  clear u U3
  obtain ⟨D, hD⟩ : ∃ D, D = wd.heap.size := ⟨_, rfl⟩
  rw [← hD] at k2 ⊢
  clear hD
  obtain ⟨E, hE⟩ : ∃ E, E = we.heap.size := ⟨_, rfl⟩
  have k3 : Hid (EntAt (we.alloc (.cells #[.bool ov, .bool orr, .bool ot, .int .i64 fo] 23)) D ov orr ot fo) := Lib.hid (k2.out.kept ((Upd.refl (fun _ => False) _).alloc _) id)
  have k4 : Hid (EntAt (we.alloc (.cells #[.bool ov, .bool orr, .bool ot, .int .i64 fo] 23)) we.heap.size ov orr ot fo) := Lib.hid (heap_alloc_last we _)
  go_wp2_with (first
    | (with_reducible refine wpList_load_sz rfl 23 (.tmp 10) rfl D 0 rfl [.bool ov, .bool orr, .bool ot, .int .i64 fo] _ k3.out.range Tryd.underlying23 rfl 4 (ent_len _ _ _ _) size_ent ?_)
    | (with_reducible refine wpList_load_sz rfl 23 (.tmp 12) rfl we.heap.size 0 rfl [.bool ov, .bool orr, .bool ot, .int .i64 fo] _ k4.out.range Tryd.underlying23 rfl 4 (ent_len _ _ _ _) size_ent ?_))
  go_ret
  exact ⟨rfl, (U4.alloc _).below (Nat.le_refl _) fun _ _ => id⟩
/-! ### the row's frame, and its tied card -/
theorem own : ownKnob Tryd.prog.godebug = none := by kernel_rfl
theorem laidOut : laidOutB Tryd.prog = true := by kernel_rfl
/-- the door's own heap meets the condition -/
theorem door_met (os : Os) (args : Array Value) : laidMetH Tryd.prog Rows.entryWordsRow.laid ((World.doorLaid Tryd.prog 400 os).forCall (fun _ _ => 0) ⟨#[], args, []⟩).memory :=
  laidMetH_of_parts3 (fuel := 8) (laidMet_of_run' 8 (by kernel_rfl) (by kernel_rfl)) (by kernel_rfl) (by kernel_rfl)
set_option linter.unusedVariables false in
set_option maxRecDepth 100000 in
theorem lifted (os : Os) (started : os.Started) (H : Type) (enc : TypeId × Value → H) :
    ReturnsInHanded {} Tryd.checked os 3 .any (fun w args => (Rows.entryWordsSpec.pre enc Tryd.prog Tryd.f3 [] false w args ∧ laidMetH Tryd.prog Rows.entryWordsRow.laid w) ∧ sizedMet enc Tryd.prog Tryd.f3 (OpenSpec.ofChange Rows.entryWordsSpec) false w args)
      (Rows.entryWordsSpec.post enc Tryd.prog Tryd.f3 false true false false) := by
  refine returnsInHanded_of_change_and (C := Tryd.checked) (X := fun w _ => laidMetH Tryd.prog Rows.entryWordsRow.laid w) (fun _ _ _ hh h => h.of_heap hh) own started (by kernel_rfl) Tryd.func3
    (ChangeSpec.witness_shaped (enc := enc) (C := Tryd.checked) (os := os) (X := fun w _ => laidMetH Tryd.prog Rows.entryWordsRow.laid w) false (World.doorLaid Tryd.prog 400 os) #[.agg #[.bool false, .bool false, .bool false, .int .i64 0], .int .u64 0] 8 rfl (World.shaped_of_RefB (by kernel_rfl) (by kernel_rfl)) (by kernel_rfl) (by kernel_rfl) (by kernel_rfl) (door_met os _)) ?_
  intro W base args ds gs before hval0 hW _ _ hL _
  have hLd := hL
  rw [MakeChecks.laidMetH_plain _ _ _ (by kernel_rfl)] at hLd
  have T0 : Fr.VarIs W 0 (Fr.datCells (Rows.laid_trunnion_entry_fields (H := Unit))) := Fr.varIs_of_laid (t := 49) (ks := [some .i64, some .i64, some .i64, some .i64, some .i64, some .i64, some .i64, some .i64, some .i64, some .i64, some .i64, some .i64, some .i64, some .i64, some .i64, some .i64, some .i64, some .i64]) 12 (hLd : laidMet Tryd.prog Rows.entryWordsRow.laid W) "trunnion/entry.fields" (Rows.laid_trunnion_entry_fields (H := Unit)) (by simp [Rows.entryWordsRow]) (by kernel_rfl) (by kernel_rfl) (by kernel_rfl)
  clear hL hLd
  have hval : ∀ (j : Nat) t v, Tryd.f3.params[j]? = some t → args[j]? = some v → Value.okWide Tryd.prog W .any base t v := hval0
  have hW' := hW
  obtain ⟨p, q, hA0, hV, rfl, hfz, hnd⟩ := hW
  have hA : DataW.TrodAll enc Tryd.prog W 0 (fun _ => true) true Tryd.f3.params.toList args.toList ds p := hA0
  rw [Tryd.params3] at hA hval
  obtain ⟨v0, vs0, d0, ds0, p0, q0, hargs, rfl, rfl, h0, r0⟩ := trodAll_cons hA
  obtain ⟨v1, vs1, d1, ds1, p1, q1, rfl, rfl, rfl, h1, r1⟩ := trodAll_cons r0
  obtain ⟨rfl, rfl, rfl⟩ := trodAll_nil r1
  obtain rfl : args = #[v0, v1] := by cases args; simp_all
  obtain ⟨rfl, rfl⟩ := trodVars_none hV
  have k0 := h0
  have lt0 : ∀ x ∈ p0, x.block < W.heap.size := by obtain ⟨m, hm⟩ := k0; exact DataW.trod_lt m _ _ _ hm
  obtain ⟨cs0, rfl, o0⟩ := Fr.open_flat 12 [none, none, none, some .i64] Tryd.underlying23 (by kernel_rfl) (hval 0 23 v0 rfl rfl) h0
  obtain ⟨c0_0, c0_1, c0_2, c0_3, rfl⟩ := Fr.cells4 o0.1
  obtain ⟨a0_0, rfl⟩ := o0.2 0 _ _ rfl rfl
  obtain ⟨a0_1, rfl⟩ := o0.2 1 _ _ rfl rfl
  obtain ⟨a0_2, rfl⟩ := o0.2 2 _ _ rfl rfl
  obtain ⟨a0_3, rfl, w0_3⟩ := o0.2 3 _ _ rfl rfl
  have k1 := h1
  have lt1 : ∀ x ∈ p1, x.block < W.heap.size := by obtain ⟨m, hm⟩ := k1; exact DataW.trod_lt m _ _ _ hm
  obtain ⟨a1, rfl, rfl, rfl, w1⟩ := open_int Tryd.underlying24 (hval 1 24 v1 rfl rfl) h1
  clear hA0 hval0
  refine (walk a0_0 a0_1 a0_2 a0_3 a1 w0_3 w1 W  T0).mono fun e W' ⟨he, bel⟩ => ?_
  subst he
  exact ⟨_, rfl, _, _, _, [], _, [], hW', trodAll_mk1 (shut_bool Tryd.underlying4 _), (trodAll_cons_mk (Below.trod laidOut (by kernel_rfl) (of_decide_eq_true (by kernel_rfl)) k0 bel lt0) (trodAll_cons_mk (Below.trod laidOut (by kernel_rfl) (of_decide_eq_true (by kernel_rfl)) k1 bel lt1) trodAll_mk0)), rfl, bel.frame _, fun h => by cases h⟩

theorem over : Rows.entryWordsRow.holds Tryd.pinned (OpenSpec.ofChange Rows.entryWordsSpec) :=
  OpenClaim.holds_of_wide 3 Tryd.f3 rfl rfl rfl rfl rfl rfl rfl ⟨rfl, rfl, rfl, rfl, rfl⟩ rfl rfl rfl rfl rfl (by kernel_rfl) Tryd.func3 (by kernel_rfl)
    (of_decide_eq_true (by kernel_rfl)) (by unfold Func.isWrapper; first | (rw [if_pos (by decide +kernel)]; kernel_rfl) | (rw [if_neg (by decide +kernel)]; exact ⟨rfl, rfl⟩))
    (fun os started H enc _ => lifted os started H enc)

theorem proved : Rows.EntryWordsCardSaid :=
  Claim7.holds_tied_plain_at .later [] [.data] true (true, "5a5b16462b36004e53af97d1813fe82f08f6979989b9e70f3e183766d9c78ac0") false
    over (fun _ h => by cases h) (by kernel_rfl) (fun _ h => by cases h) entryWords_row_tie rfl ⟨rfl, rfl⟩ (by kernel_rfl) rfl
    (fun f fn hf hfn => by
      obtain rfl : f = 3 := Option.some.inj ((show Tryd.prog.funcNamed "trunnion/trunnionlaw06.EntryWords" = some 3 by kernel_rfl).symm.trans hf) |>.symm
      obtain rfl : fn = Tryd.f3 := (Option.some.inj (Tryd.func3.symm.trans hfn)).symm
      exact ⟨by kernel_rfl, fun j t ht => by
        rw [Tryd.params3] at ht
        have hm : t ∈ [23, 24] := by simpa using Array.mem_of_getElem? ht
        have hall : ([23, 24].all fun u => !Tryd.prog.wantsStandIn u) = true := by kernel_rfl
        exact (show Tryd.prog.wantsStandIn t = false by simpa using List.all_eq_true.1 hall t hm)⟩)
    (by kernel_rfl)
end Go.Proofs.YtkdekpinibdchaaDoor.entryWords
