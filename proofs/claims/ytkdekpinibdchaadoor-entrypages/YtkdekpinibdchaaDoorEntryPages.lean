/-
  Proved: trunnionlaw06.EntryPages answers true for every input: any page's places, the page of any places, and any address, split, are the document's.
  Conditions: package entry's table of fields starts as the program's text lays it (the card ties it).
-/
import Derived.Test.YtkdekpinibdchaaDoorCards
import Derived.Test.YtkdekpinibdchaaDoorTie
import Derived.Test.YtkdekpinibdchaaDoorLaid
import Derived.SevenTiedAt
import Derived.LaidMore
import Derived.Stop.Joined
import Derived.Test.YtkdekpinibdchaaDoorEnL
import Derived.Test.YtkdekpinibdchaaDoorFrame
namespace Go.Proofs.YtkdekpinibdchaaDoor.entryPages
open Go.ChangeShapes Go.WideShapes Go.ChangeAt Go.RowKit

set_option maxHeartbeats 4000000 in
theorem walk (q l a b c : Int) (w0 : (Lit.int .i64 q).wf = true) (_w1 : (Lit.int .i64 l).wf = true) (w2 : ∀ z ∈ [a, b, c], (Lit.int .i64 z).wf = true) (w : World) (T0 : Fr.VarIs w 0 (Fr.datCells (Rows.laid_trunnion_entry_fields (H := Unit)))) :
    Calls Tryd.prog 4 #[.int .i64 q, .int .i64 l, .agg #[.int .i64 a, .int .i64 b, .int .i64 c]] w fun e w' => e = .returned (.bool true) ∧ Below w.heap.size w w' := by
  have T := tab_of T0
  clear T0
  have hb := bounds_i64 w0
  have c1 := Lib.hid (fun W (T : Tab W) => eindex_any q l W T)
  have c2 := Lib.hid (fun W => rindex_any q l W)
  have c3 := Lib.hid (fun W (T : Tab W) => epage_any a b c W T (w2 a (by simp)) (w2 b (by simp)) (w2 c (by simp)))
  have c4 := Lib.hid (fun W => rpage_any a b c W)
  have c5 := Lib.hid (fun W (T : Tab W) => esplit_any q W T)
  obtain ⟨x1, h1⟩ : ∃ z, z = idxI q l := ⟨_, rfl⟩
  obtain ⟨x2, h2⟩ : ∃ z, z = errB (idxB q l) := ⟨_, rfl⟩
  obtain ⟨x3, h3⟩ : ∃ z, z = pgI a b c := ⟨_, rfl⟩
  obtain ⟨x4, h4⟩ : ∃ z, z = errB (pgB a b c) := ⟨_, rfl⟩
  rw [← h1, ← h2] at c1 c2
  rw [← h3, ← h4] at c3 c4
  clear w0 w2 h1 h2 h3 h4
  cases h : spB q
  · obtain ⟨e1, e2, e3⟩ := split_no h
    rw [e1, e2, e3] at c5
    have h' := of_decide_eq_false h
    clear h e1 e2 e3
    by_cases g1 : q < 0
    · clear h'
      go_enter Tryd.func4, Tryd.ntmps4
      go_wp2_with fail
      refine (eawake_any _ (T.kept ((Upd.refl _ _).alloc _))).mono ?_
      rintro e wa ⟨rfl, u⟩
      have k0 : Hid (ArrAt wa w.heap.size a b c) := Lib.hid (u.at (heap_alloc_last w _) id)
      have U : Upd (fun _ => False) w wa := ((Upd.refl _ _).alloc _).trans u
      clear u
      obtain ⟨B, hB⟩ : ∃ B, B = w.heap.size := ⟨_, rfl⟩
      rw [← hB] at k0 ⊢
      have hB' := Lib.hid hB
      clear hB
      go_wp2_with fail
      refine (c1.out _ (T.kept U)).mono ?_
      rintro e wb ⟨rfl, n1, rfl⟩
      go_wp2_with fail
      refine (c2.out _).mono ?_
      rintro e wb ⟨rfl, rfl⟩
      have k0' : Hid (ArrAt (wa.drewN n1) B a b c) := Lib.hid (show ArrAt (wa.drewN n1) B a b c from k0.out)
      go_wp2_with (with_reducible refine wpList_load_sz rfl 32 (.tmp 5) rfl B 0 rfl [.int .i64 a, .int .i64 b, .int .i64 c] _ k0'.out.range Tryd.underlying32 rfl 3 (arr_len _ _ _) size_arr3 ?_)
      refine (c3.out _ (T.kept (U.drewN _))).mono ?_
      rintro e wb ⟨rfl, u⟩
      have k1 : Hid (ArrAt wb B a b c) := Lib.hid (k0'.out.kept u id)
      have U1 := (U.drewN n1).trans u
      clear u U k0 k0'
      go_wp2_with (with_reducible refine wpList_load_sz rfl 32 (.tmp 5) rfl B 0 rfl [.int .i64 a, .int .i64 b, .int .i64 c] _ k1.out.range Tryd.underlying32 rfl 3 (arr_len _ _ _) size_arr3 ?_)
      refine (c4.out _).mono ?_
      rintro e wc ⟨rfl, u⟩
      have U2 := U1.trans u
      clear u U1 k1
      go_wp2_with fail
      refine (c5.out _ (T.kept U2)).mono ?_
      rintro e wd ⟨rfl, n2, rfl⟩
      go_wp2
      go_ret
      exact ⟨rfl, (U2.drewN _).below (Nat.le_refl _) fun _ _ => id⟩
    · have g2 : 65535 < q := by omega
      clear h'
      go_enter Tryd.func4, Tryd.ntmps4
      go_wp2_with fail
      refine (eawake_any _ (T.kept ((Upd.refl _ _).alloc _))).mono ?_
      rintro e wa ⟨rfl, u⟩
      have k0 : Hid (ArrAt wa w.heap.size a b c) := Lib.hid (u.at (heap_alloc_last w _) id)
      have U : Upd (fun _ => False) w wa := ((Upd.refl _ _).alloc _).trans u
      clear u
      obtain ⟨B, hB⟩ : ∃ B, B = w.heap.size := ⟨_, rfl⟩
      rw [← hB] at k0 ⊢
      have hB' := Lib.hid hB
      clear hB
      go_wp2_with fail
      refine (c1.out _ (T.kept U)).mono ?_
      rintro e wb ⟨rfl, n1, rfl⟩
      go_wp2_with fail
      refine (c2.out _).mono ?_
      rintro e wb ⟨rfl, rfl⟩
      have k0' : Hid (ArrAt (wa.drewN n1) B a b c) := Lib.hid (show ArrAt (wa.drewN n1) B a b c from k0.out)
      go_wp2_with (with_reducible refine wpList_load_sz rfl 32 (.tmp 5) rfl B 0 rfl [.int .i64 a, .int .i64 b, .int .i64 c] _ k0'.out.range Tryd.underlying32 rfl 3 (arr_len _ _ _) size_arr3 ?_)
      refine (c3.out _ (T.kept (U.drewN _))).mono ?_
      rintro e wb ⟨rfl, u⟩
      have k1 : Hid (ArrAt wb B a b c) := Lib.hid (k0'.out.kept u id)
      have U1 := (U.drewN n1).trans u
      clear u U k0 k0'
      go_wp2_with (with_reducible refine wpList_load_sz rfl 32 (.tmp 5) rfl B 0 rfl [.int .i64 a, .int .i64 b, .int .i64 c] _ k1.out.range Tryd.underlying32 rfl 3 (arr_len _ _ _) size_arr3 ?_)
      refine (c4.out _).mono ?_
      rintro e wc ⟨rfl, u⟩
      have U2 := U1.trans u
      clear u U1 k1
      go_wp2_with fail
      refine (c5.out _ (T.kept U2)).mono ?_
      rintro e wd ⟨rfl, n2, rfl⟩
      go_wp2
      go_ret
      exact ⟨rfl, (U2.drewN _).below (Nat.le_refl _) fun _ _ => id⟩
  · obtain ⟨e1, e2, e3⟩ := split_yes h
    rw [e1, e2, e3] at c5
    obtain ⟨g1, g2⟩ := of_decide_eq_true h
    clear h e1 e2 e3
    go_enter Tryd.func4, Tryd.ntmps4
    go_wp2_with fail
    refine (eawake_any _ (T.kept ((Upd.refl _ _).alloc _))).mono ?_
    rintro e wa ⟨rfl, u⟩
    have k0 : Hid (ArrAt wa w.heap.size a b c) := Lib.hid (u.at (heap_alloc_last w _) id)
    have U : Upd (fun _ => False) w wa := ((Upd.refl _ _).alloc _).trans u
    clear u
    obtain ⟨B, hB⟩ : ∃ B, B = w.heap.size := ⟨_, rfl⟩
    rw [← hB] at k0 ⊢
    have hB' := Lib.hid hB
    clear hB
    go_wp2_with fail
    refine (c1.out _ (T.kept U)).mono ?_
    rintro e wb ⟨rfl, n1, rfl⟩
    go_wp2_with fail
    refine (c2.out _).mono ?_
    rintro e wb ⟨rfl, rfl⟩
    have k0' : Hid (ArrAt (wa.drewN n1) B a b c) := Lib.hid (show ArrAt (wa.drewN n1) B a b c from k0.out)
    go_wp2_with (with_reducible refine wpList_load_sz rfl 32 (.tmp 5) rfl B 0 rfl [.int .i64 a, .int .i64 b, .int .i64 c] _ k0'.out.range Tryd.underlying32 rfl 3 (arr_len _ _ _) size_arr3 ?_)
    refine (c3.out _ (T.kept (U.drewN _))).mono ?_
    rintro e wb ⟨rfl, u⟩
    have k1 : Hid (ArrAt wb B a b c) := Lib.hid (k0'.out.kept u id)
    have U1 := (U.drewN n1).trans u
    clear u U k0 k0'
    go_wp2_with (with_reducible refine wpList_load_sz rfl 32 (.tmp 5) rfl B 0 rfl [.int .i64 a, .int .i64 b, .int .i64 c] _ k1.out.range Tryd.underlying32 rfl 3 (arr_len _ _ _) size_arr3 ?_)
    refine (c4.out _).mono ?_
    rintro e wc ⟨rfl, u⟩
    have U2 := U1.trans u
    clear u U1 k1
    go_wp2_with fail
    refine (c5.out _ (T.kept U2)).mono ?_
    rintro e wd ⟨rfl, n2, rfl⟩
    go_wp2
    go_ret
    exact ⟨rfl, (U2.drewN _).below (Nat.le_refl _) fun _ _ => id⟩
/-! ### the row's frame, and its tied card -/
theorem own : ownKnob Tryd.prog.godebug = none := by kernel_rfl
theorem laidOut : laidOutB Tryd.prog = true := by kernel_rfl
/-- the door's own heap meets the condition -/
theorem door_met (os : Os) (args : Array Value) : laidMetH Tryd.prog Rows.entryPagesRow.laid ((World.doorLaid Tryd.prog 400 os).forCall (fun _ _ => 0) ⟨#[], args, []⟩).memory :=
  laidMetH_of_parts3 (fuel := 8) (laidMet_of_run' 8 (by kernel_rfl) (by kernel_rfl)) (by kernel_rfl) (by kernel_rfl)
set_option linter.unusedVariables false in
set_option maxRecDepth 100000 in
theorem lifted (os : Os) (started : os.Started) (H : Type) (enc : TypeId × Value → H) :
    ReturnsInHanded {} Tryd.checked os 4 .any (fun w args => (Rows.entryPagesSpec.pre enc Tryd.prog Tryd.f4 [] false w args ∧ laidMetH Tryd.prog Rows.entryPagesRow.laid w) ∧ sizedMet enc Tryd.prog Tryd.f4 (OpenSpec.ofChange Rows.entryPagesSpec) false w args)
      (Rows.entryPagesSpec.post enc Tryd.prog Tryd.f4 false true false false) := by
  refine returnsInHanded_of_change_and (C := Tryd.checked) (X := fun w _ => laidMetH Tryd.prog Rows.entryPagesRow.laid w) (fun _ _ _ hh h => h.of_heap hh) own started (by kernel_rfl) Tryd.func4
    (ChangeSpec.witness_shaped (enc := enc) (C := Tryd.checked) (os := os) (X := fun w _ => laidMetH Tryd.prog Rows.entryPagesRow.laid w) false (World.doorLaid Tryd.prog 400 os) #[.int .i64 0, .int .i64 0, .agg #[.int .i64 0, .int .i64 0, .int .i64 0]] 8 rfl (World.shaped_of_RefB (by kernel_rfl) (by kernel_rfl)) (by kernel_rfl) (by kernel_rfl) (by kernel_rfl) (door_met os _)) ?_
  intro W base args ds gs before hval0 hW _ _ hL _
  have hLd := hL
  rw [MakeChecks.laidMetH_plain _ _ _ (by kernel_rfl)] at hLd
  have T0 : Fr.VarIs W 0 (Fr.datCells (Rows.laid_trunnion_entry_fields (H := Unit))) := Fr.varIs_of_laid (t := 49) (ks := [some .i64, some .i64, some .i64, some .i64, some .i64, some .i64, some .i64, some .i64, some .i64, some .i64, some .i64, some .i64, some .i64, some .i64, some .i64, some .i64, some .i64, some .i64]) 12 (hLd : laidMet Tryd.prog Rows.entryPagesRow.laid W) "trunnion/entry.fields" (Rows.laid_trunnion_entry_fields (H := Unit)) (by simp [Rows.entryPagesRow]) (by kernel_rfl) (by kernel_rfl) (by kernel_rfl)
  clear hL hLd
  have hval : ∀ (j : Nat) t v, Tryd.f4.params[j]? = some t → args[j]? = some v → Value.okWide Tryd.prog W .any base t v := hval0
  have hW' := hW
  obtain ⟨p, q, hA0, hV, rfl, hfz, hnd⟩ := hW
  have hA : DataW.TrodAll enc Tryd.prog W 0 (fun _ => true) true Tryd.f4.params.toList args.toList ds p := hA0
  rw [Tryd.params4] at hA hval
  obtain ⟨v0, vs0, d0, ds0, p0, q0, hargs, rfl, rfl, h0, r0⟩ := trodAll_cons hA
  obtain ⟨v1, vs1, d1, ds1, p1, q1, rfl, rfl, rfl, h1, r1⟩ := trodAll_cons r0
  obtain ⟨v2, vs2, d2, ds2, p2, q2, rfl, rfl, rfl, h2, r2⟩ := trodAll_cons r1
  obtain ⟨rfl, rfl, rfl⟩ := trodAll_nil r2
  obtain rfl : args = #[v0, v1, v2] := by cases args; simp_all
  obtain ⟨rfl, rfl⟩ := trodVars_none hV
  have k0 := h0
  have lt0 : ∀ x ∈ p0, x.block < W.heap.size := by obtain ⟨m, hm⟩ := k0; exact DataW.trod_lt m _ _ _ hm
  obtain ⟨a0, rfl, rfl, rfl, w0⟩ := open_int Tryd.underlying3 (hval 0 3 v0 rfl rfl) h0
  have k1 := h1
  have lt1 : ∀ x ∈ p1, x.block < W.heap.size := by obtain ⟨m, hm⟩ := k1; exact DataW.trod_lt m _ _ _ hm
  obtain ⟨a1, rfl, rfl, rfl, w1⟩ := open_int Tryd.underlying3 (hval 1 3 v1 rfl rfl) h1
  have k2 := h2
  have lt2 : ∀ x ∈ p2, x.block < W.heap.size := by obtain ⟨m, hm⟩ := k2; exact DataW.trod_lt m _ _ _ hm
  obtain ⟨z2, l2, rfl, w2⟩ := Fr.open_intArr Tryd.underlying32 Tryd.underlying3 (by kernel_rfl) (by kernel_rfl) (hval 2 32 v2 rfl rfl) h2
  obtain ⟨a2_0, a2_1, a2_2, rfl⟩ := Fr.len3 l2
  clear hA0 hval0
  refine (walk a0 a1 a2_0 a2_1 a2_2 w0 w1 w2 W  T0).mono fun e W' ⟨he, bel⟩ => ?_
  subst he
  exact ⟨_, rfl, _, _, _, [], _, [], hW', trodAll_mk1 (shut_bool Tryd.underlying4 _), (trodAll_cons_mk (Below.trod laidOut (by kernel_rfl) (of_decide_eq_true (by kernel_rfl)) k0 bel lt0) (trodAll_cons_mk (Below.trod laidOut (by kernel_rfl) (of_decide_eq_true (by kernel_rfl)) k1 bel lt1) (trodAll_cons_mk (Below.trod laidOut (by kernel_rfl) (of_decide_eq_true (by kernel_rfl)) k2 bel lt2) trodAll_mk0))), rfl, bel.frame _, fun h => by cases h⟩

theorem over : Rows.entryPagesRow.holds Tryd.pinned (OpenSpec.ofChange Rows.entryPagesSpec) :=
  OpenClaim.holds_of_wide 4 Tryd.f4 rfl rfl rfl rfl rfl rfl rfl ⟨rfl, rfl, rfl, rfl, rfl⟩ rfl rfl rfl rfl rfl (by kernel_rfl) Tryd.func4 (by kernel_rfl)
    (of_decide_eq_true (by kernel_rfl)) (by unfold Func.isWrapper; first | (rw [if_pos (by decide +kernel)]; kernel_rfl) | (rw [if_neg (by decide +kernel)]; exact ⟨rfl, rfl⟩))
    (fun os started H enc _ => lifted os started H enc)

theorem proved : Rows.EntryPagesCardSaid :=
  Claim7.holds_tied_plain_at .later [] [.data] true (true, "5a5b16462b36004e53af97d1813fe82f08f6979989b9e70f3e183766d9c78ac0") false
    over (fun _ h => by cases h) (by kernel_rfl) (fun _ h => by cases h) entryPages_row_tie rfl ⟨rfl, rfl⟩ (by kernel_rfl) rfl
    (fun f fn hf hfn => by
      obtain rfl : f = 4 := Option.some.inj ((show Tryd.prog.funcNamed "trunnion/trunnionlaw06.EntryPages" = some 4 by kernel_rfl).symm.trans hf) |>.symm
      obtain rfl : fn = Tryd.f4 := (Option.some.inj (Tryd.func4.symm.trans hfn)).symm
      exact ⟨by kernel_rfl, fun j t ht => by
        rw [Tryd.params4] at ht
        have hm : t ∈ [3, 3, 32] := by simpa using Array.mem_of_getElem? ht
        have hall : ([3, 3, 32].all fun u => !Tryd.prog.wantsStandIn u) = true := by kernel_rfl
        exact (show Tryd.prog.wantsStandIn t = false by simpa using List.all_eq_true.1 hall t hm)⟩)
    (by kernel_rfl)
end Go.Proofs.YtkdekpinibdchaaDoor.entryPages
