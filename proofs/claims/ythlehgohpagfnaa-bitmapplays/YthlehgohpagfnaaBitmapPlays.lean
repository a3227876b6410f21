/-
  Proved: trunnionlaw03.BitmapPlays answers true for every input: any numbers put in and out, one by one; gaps behind each; all as the document's own set answers.
  Conditions: none.
-/
import Derived.Test.YthlehgohpagfnaaBmF
import Derived.Deep.DeepCutAuto
import Derived.Deep.CutBlock
import Derived.Deep.RegionHeld3
namespace Go.Proofs.Ythlehgohpagfnaa.bitmapPlays
open Go.ChangeShapes Go.WideShapes Go.ChangeAt Go.RowKit
set_option linter.unusedVariables false
set_option linter.unusedSimpArgs false

/-- the set and the document's own, side by side -/
structure Two (w wr : World) (A C : Nat) (m : Nat → Bool) : Prop where
  S : SetAt wr A m
  R : RefAt wr C m
  B : Below w.heap.size w wr
  a : w.heap.size ≤ A
  c : A < C
theorem Two.new {w wr : World} {A C : Nat} {m : Nat → Bool} (T : Two w wr A C m) (o : Obj) : Two w (wr.alloc o) A C m :=
  ⟨T.S.kept ((Upd.refl (fun _ => False) wr).alloc o) (fun h => h), T.R.kept ((Upd.refl (fun _ => False) wr).alloc o) (fun h => h), T.B.trans (((Below.refl _ wr).alloc (Nat.le_refl _) _).mono T.B.size), T.a, T.c⟩
theorem zero_ref (w : World) : (zeroValue 32).run Try.prog w = .ok (.agg (bools none0).toArray) w := by kernel_rfl
set_option maxRecDepth 100000 in
set_option maxHeartbeats 1000000 in
theorem walk (ao : Option Addr) (n cap b off : Nat) (E : Nat → Nat → Value) (many e : Int) (w1 : (Lit.int .i64 many).wf = true) (w2 : (Lit.int .i64 e).wf = true) (w : World) (R : Fr.RowArg w ao n b off [some .i64, none] E) :
    Calls Try.prog 3 #[.slice ao n cap, .int .i64 many, .int .i64 e] w fun e w' => e = .returned (.bool true) ∧ Below w.heap.size w w' := by
  clear w1 w2
  have hmost := R.most
  go_enter Try.func3, Try.ntmps3
  go_wp2_with fail
  refine (awake_any _).mono ?_
  rintro x w1 ⟨rfl, B1⟩
  have h0 := new_set w1
  have hB0 := B1.trans (((Below.refl _ w1).alloc (Nat.le_refl _) (.cells #[.int .u64 0, .int .u64 0, .int .u64 0, .int .u64 0] 28)).mono B1.size)
  have hA := B1.size
  go_upto_region 3 with fail
  generalize w1.alloc (.cells #[.int .u64 0, .int .u64 0, .int .u64 0, .int .u64 0] 28) = W0 at h0 hB0 ⊢
  generalize w1.heap.size = A at h0 hA ⊢
  clear B1
  obtain ⟨Z, hZ⟩ : ∃ Z, (bools none0).toArray = Z := ⟨_, rfl⟩
  have hz := zero_ref
  rw [hZ] at hz
  go_upto_region 4 with fail
  have T0 : Two w (W0.alloc (.cells Z 32)) A W0.heap.size none0 := by
    subst hZ
    exact ⟨h0.kept ((Upd.refl (fun _ => False) W0).alloc _) (fun h => h), heap_alloc_last W0 _, hB0.trans (((Below.refl _ W0).alloc (Nat.le_refl _) _).mono hB0.size), hA, h0.lt⟩
  generalize W0.alloc (.cells Z 32) = W1 at T0 ⊢
  generalize W0.heap.size = C at T0 ⊢
  clear h0 hB0 hA hz hZ
  go_upto_block 0 with fail
  go_cut [10] (fun s10 wx => ∃ (k : Nat) (m : Nat → Bool), s10 = .int .i64 k ∧ Two w wx A C m)
  case first =>
    go_wp2_with fail
    go_loopw [10] (fun t wr => ∃ (k : Nat) (m : Nat → Bool), k ≤ n ∧ k ≤ 200 ∧ t = .int .i64 k ∧ Two w wr A C m) (fun t _ => 200 - (intOf t).toNat)
    case atStart => exact ⟨0, _, by omega, by omega, rfl, T0⟩
    case round =>
      obtain ⟨k, m, hk, hk3, rfl, T⟩ := hrel
      clear T0
      by_cases hlt : k < n
      · by_cases hl3 : k < 200
        · obtain rfl := R.place (by omega)
          have R' := R.kept T.B
          obtain ⟨x, y, c0, c1⟩ := op2 R' k hlt
          have hkn : (k : Int) < (n : Int) := by omega
          clear R'
          go_upto_region 7 with fail
          go_upto_region 8 with fail
          have Tw := T.new (.cells #[.int .i64 x, .bool y] 34)
          have X := heap_alloc_last wr (.cells #[.int .i64 x, .bool y] 34)
          have hg := T.R.lt
          generalize wr.alloc (.cells #[.int .i64 x, .bool y] 34) = W at Tw X ⊢
          generalize wr.heap.size = g at X hg ⊢
          clear T c0 c1
          have o0 : W.cell? ⟨g, 0, none⟩ = some (.int .i64 x) := by rw [cell_of_row W g 0 _ _ _ X]; rfl
          have o1 : W.cell? ⟨g, 1, none⟩ = some (.bool y) := by rw [cell_of_row W g 1 _ _ _ X]; rfl
          clear X
          have hac := Tw.c
          have d0 : W.drew.cell? ⟨g, 0, none⟩ = some (.int .i64 x) := by simpa using o0
          have d1 : W.drew.cell? ⟨g, 1, none⟩ = some (.bool y) := by simpa using o1
          have Sd := Tw.S.drew
          have Rd : RefAt W.drew C m := Tw.R
          have Bd := below_drew Tw.B
          go_wp2_with fail
          go_region_held3 (fun w' => w'.cell? ⟨g, 0, none⟩ = some (.int .i64 x) ∧ w'.cell? ⟨g, 1, none⟩ = some (.bool y))
            (first
              | exact ⟨d0, d1⟩
              | exact ⟨p0, p1⟩
              | exact ⟨q0, q1⟩
              | exact ⟨s0, s1⟩)
            (first
              | (go_at_call 8; refine (bput_any A m x y _ Sd).mono ?_; rintro z w3 ⟨rfl, S3, U3⟩; have R3 := Rd.kept U3 (by omega); have B3 := below_one Bd U3 Tw.a (Nat.le_refl _); have p0 := U3.cell d0 (show g ≠ A from by omega); have p1 := U3.cell d1 (show g ≠ A from by omega))
              | (go_at_call 9; refine (refPut_any C m x y _ R3).mono ?_; rintro z w4 ⟨rfl, R4, U4⟩; have S4 := S3.kept U4 (by omega); have B4 := below_one B3 U4 (Nat.le_trans Tw.a (Nat.le_of_lt Tw.c)) (Nat.le_refl _); have q0 := U4.cell p0 (show g ≠ C from by omega); have q1 := U4.cell p1 (show g ≠ C from by omega))
              | (go_at_call 10; refine (has_any A _ x _ S4).mono ?_; rintro z w5 ⟨rfl, nq, rfl⟩)
              | (go_at_call 11; refine (refHas_any C _ x _ (show RefAt (w4.drewN nq) C _ from R4)).mono ?_; rintro z w6 ⟨rfl, rfl⟩)
              | (go_at_call 12; refine (gap_any A _ many e _ (show SetAt (w4.drewN nq) A _ from S4)).mono ?_; rintro z w7 ⟨rfl, b7⟩; have S7 := SetAt.below (w := w4.drewN nq) S4 b7 S4.lt; have R7 := RefAt.below (w := w4.drewN nq) R4 b7 R4.lt; have B7 := (below_drewN B4 nq).trans (b7.mono B4.size); have s0 := (b7.cell (p := ⟨g, 0, none⟩) (World.block_lt_of_cell? w4 _ q0)).trans q0; have s1 := (b7.cell (p := ⟨g, 1, none⟩) (World.block_lt_of_cell? w4 _ q1)).trans q1)
              | (go_at_call 13; refine (refGap_any C _ many e _ R7).mono ?_; rintro z w8 ⟨rfl, rfl⟩))
          go_wp2
          go_roundw
          case rel => exact ⟨k + 1, _, by omega, by omega, by go_num, ⟨S7, R7, B7, Tw.a, Tw.c⟩⟩
          case measure => simp [intOf]; omega
        · go_wp2
          go_meet
          exact ⟨k, m, rfl, T⟩
      · go_wp2
        go_meet
        exact ⟨k, m, rfl, T⟩
  case rest =>
    obtain ⟨k, m, rfl, T⟩ := hcut
    clear R hmost T0
    go_wp2_with fail
    refine (told_any A m _ T.S).mono ?_
    rintro z w2 ⟨v2, rfl, row2, b2⟩
    have S2 := T.S.below b2 T.S.lt
    have R2 := T.R.below b2 T.R.lt
    have B2 := T.B.trans (b2.mono T.B.size)
    have r2 := row_of row2
    clear row2 b2 T
    go_wp2_with fail
    refine (refAll_any C m _ R2).mono ?_
    rintro z w3 ⟨v3, rfl, row3, b3⟩
    have S3 := S2.below b3 S2.lt
    have R3 := R2.below b3 R2.lt
    have B3 := B2.trans (b3.mono B2.size)
    have r2 := r2.kept b3 (Nat.le_refl _)
    have r3 := row_of row3
    have hl : (els m).length ≤ 256 := upto_len m 256
    clear row3 b3 S2 R2 B2
    go_wp2_with fail
    refine (same_any _ _ _ _ _ r2 r3 hl hl).mono ?_
    rintro z w4 ⟨rfl, q, rfl⟩
    rw [decide_eq_true rfl]
    have S4 := S3.drewN q
    have R4 : RefAt (w3.drewN q) C m := R3
    have B4 := below_drewN B3 q
    generalize w3.drewN q = w4 at S4 R4 B4 ⊢
    clear r2 r3 S3 R3 B3
    go_wp2_with fail
    refine (len_any A m _ S4).mono ?_
    rintro z w5 ⟨rfl, rfl⟩
    go_wp2_with fail
    refine (refAll_any C m _ R4).mono ?_
    rintro z w6 ⟨v6, rfl, row6, b6⟩
    have B6 := B4.trans (b6.mono B4.size)
    obtain ⟨o6, cap6, rfl⟩ := row_slice row6
    clear row6 b6
    go_wp2
    go_ret
    exact ⟨rfl, B6⟩
/-! ### the row's frame -/
theorem own : ownKnob Try.prog.godebug = none := by kernel_rfl
theorem laidOut : laidOutB Try.prog = true := by kernel_rfl
set_option linter.unusedVariables false in
set_option maxRecDepth 100000 in
theorem lifted (os : Os) (started : os.Started) (H : Type) (enc : TypeId × Value → H) :
    ReturnsInHanded {} Try.checked os 3 .any (Rows.bitmapPlaysSpec.pre6 enc Try.prog Try.f3 Rows.bitmapPlaysRow.domain false) (Rows.bitmapPlaysSpec.post enc Try.prog Try.f3 false true false false) := by
  refine returnsInHanded_of_change (C := Try.checked) own started (by kernel_rfl) Try.func3
    (ChangeSpec.witness6 (enc := enc) (C := Try.checked) false ⟨#[], #[.slice none 0 0, .int .i64 0, .int .i64 0], []⟩ 8 (by kernel_rfl) (by kernel_rfl) (by kernel_rfl) (by kernel_rfl)) ?_
  intro W base args ds gs before hval0 hW hcnd _
  have hval : ∀ (j : Nat) t v, Try.f3.params[j]? = some t → args[j]? = some v → Value.okWide Try.prog W .any base t v := hval0
  have hW' := hW
  obtain ⟨p, q, hA0, hV, rfl, hfz, hnd⟩ := hW
  have hA : DataW.TrodAll enc Try.prog W 0 (fun _ => true) true Try.f3.params.toList args.toList ds p := hA0
  rw [Try.params3] at hA hval
  obtain ⟨v0, vs0, d0, ds0, p0, q0, hargs, rfl, rfl, h0, r0⟩ := trodAll_cons hA
  obtain ⟨v1, vs1, d1, ds1, p1, q1, rfl, rfl, rfl, h1, r1⟩ := trodAll_cons r0
  obtain ⟨v2, vs2, d2, ds2, p2, q2, rfl, rfl, rfl, h2, r2⟩ := trodAll_cons r1
  obtain ⟨rfl, rfl, rfl⟩ := trodAll_nil r2
  obtain rfl : args = #[v0, v1, v2] := by cases args; simp_all
  obtain ⟨rfl, rfl⟩ := trodVars_none hV
  have k0 := h0
  have lt0 : ∀ x ∈ p0, x.block < W.heap.size := by obtain ⟨m, hm⟩ := k0; exact DataW.trod_lt m _ _ _ hm
  obtain ⟨ao0, n0, cap0, b0, of0, E0, rfl, w0⟩ := Fr.open_rows 12 [some .i64, none] Try.underlying22 (by kernel_rfl) (by kernel_rfl) (by decide) (hval 0 22 v0 rfl rfl) h0
  have k1 := h1
  have lt1 : ∀ x ∈ p1, x.block < W.heap.size := by obtain ⟨m, hm⟩ := k1; exact DataW.trod_lt m _ _ _ hm
  obtain ⟨a1, rfl, rfl, rfl, w1⟩ := open_int Try.underlying3 (hval 1 3 v1 rfl rfl) h1
  have k2 := h2
  have lt2 : ∀ x ∈ p2, x.block < W.heap.size := by obtain ⟨m, hm⟩ := k2; exact DataW.trod_lt m _ _ _ hm
  obtain ⟨a2, rfl, rfl, rfl, w2⟩ := open_int Try.underlying3 (hval 2 3 v2 rfl rfl) h2
  clear hA0 hval0
  refine (walk ao0 n0 cap0 b0 of0 E0 a1 a2 w1 w2 W w0).mono fun e W' ⟨he, bel⟩ => ?_
  subst he
  exact ⟨_, rfl, _, _, _, [], _, [], hW', trodAll_mk1 (shut_bool Try.underlying4 _), (trodAll_cons_mk (Below.trod laidOut (by kernel_rfl) (of_decide_eq_true (by kernel_rfl)) k0 bel lt0) (trodAll_cons_mk (Below.trod laidOut (by kernel_rfl) (of_decide_eq_true (by kernel_rfl)) k1 bel lt1) (trodAll_cons_mk (Below.trod laidOut (by kernel_rfl) (of_decide_eq_true (by kernel_rfl)) k2 bel lt2) trodAll_mk0))), rfl, bel.frame _, fun h => by cases h⟩

theorem over : Rows.bitmapPlaysRow.holds Try.pinned (OpenSpec.ofChange Rows.bitmapPlaysSpec) :=
  OpenClaim.holds_of_wide 3 Try.f3 rfl rfl rfl rfl rfl rfl rfl ⟨rfl, rfl, rfl, rfl, rfl⟩ rfl rfl rfl rfl rfl (by kernel_rfl) Try.func3 (by kernel_rfl)
    (of_decide_eq_true (by kernel_rfl)) (by unfold Func.isWrapper; first | (rw [if_pos (by decide +kernel)]; kernel_rfl) | (rw [if_neg (by decide +kernel)]; exact ⟨rfl, rfl⟩))
    (fun os started H enc _ => lifted os started H enc)

theorem proved : Rows.BitmapPlaysSaid :=
  over
end Go.Proofs.Ythlehgohpagfnaa.bitmapPlays
