/-
  Proved: trunnionlaw03.BitmapGaps answers true for every input: a gap is long enough, has none in, and none as long begins below it.
  Conditions: none.
-/
import Derived.Test.YthlehgohpagfnaaBmF
import Derived.Deep.DeepCutAuto
import Derived.Deep.CutBlock
import Derived.Deep.RegionHeld3
namespace Go.Proofs.Ythlehgohpagfnaa.bitmapGaps
open Go.ChangeShapes Go.WideShapes Go.ChangeAt Go.RowKit
set_option linter.unusedVariables false
set_option linter.unusedSimpArgs false

set_option maxRecDepth 100000 in
set_option maxHeartbeats 1000000 in
theorem walk (ao : Option Addr) (n cap b off : Nat) (E : Nat → Nat → Value) (many e : Int) (w1 : (Lit.int .i64 many).wf = true) (w2 : (Lit.int .i64 e).wf = true) (w : World) (R : Fr.RowArg w ao n b off [some .i64, none] E) :
    Calls Try.prog 4 #[.slice ao n cap, .int .i64 many, .int .i64 e] w fun e w' => e = .returned (.bool true) ∧ Below w.heap.size w w' := by
  clear w1 w2
  have hmost := R.most
  go_enter Try.func4, Try.ntmps4
  go_wp2_with fail
  refine (awake_any _).mono ?_
  rintro x w1 ⟨rfl, B1⟩
  have h0 := new_set w1
  have hB0 := B1.trans (((Below.refl _ w1).alloc (Nat.le_refl _) (.cells #[.int .u64 0, .int .u64 0, .int .u64 0, .int .u64 0] 28)).mono B1.size)
  have hA := B1.size
  go_upto_block 0 with fail
  generalize w1.alloc (.cells #[.int .u64 0, .int .u64 0, .int .u64 0, .int .u64 0] 28) = W0 at h0 hB0 ⊢
  generalize w1.heap.size = A at h0 hA ⊢
  clear B1
  go_cut [9] (fun s9 wx => ∃ (k : Nat) (m : Nat → Bool), s9 = .int .i64 k ∧ SetAt wx A m ∧ Below w.heap.size w wx)
  case first =>
    go_wp2_with fail
    go_loopw [9] (fun t wr => ∃ (k : Nat) (m : Nat → Bool), k ≤ n ∧ k ≤ 300 ∧ t = .int .i64 k ∧ SetAt wr A m ∧ Below w.heap.size w wr) (fun t _ => 300 - (intOf t).toNat)
    case atStart => exact ⟨0, _, by omega, by omega, rfl, h0, hB0⟩
    case round =>
      obtain ⟨k, m, hk, hk3, rfl, hS, hB⟩ := hrel
      clear h0 hB0
      by_cases hlt : k < n
      · by_cases hl3 : k < 300
        · obtain rfl := R.place (by omega)
          have R' := R.kept hB
          obtain ⟨x, y, c0, c1⟩ := op2 R' k hlt
          have hkn : (k : Int) < (n : Int) := by omega
          go_wp2_with fail
          refine wp_region_tail 11 (by kernel_rfl) (by kernel_rfl) ?_
          simp only [List.take_succ_cons, List.take_zero, List.drop_succ_cons, List.drop_zero]
          intro w3 hw3
          have hS3 : SetAt w3 A m := by rw [hw3]; exact hS.drew
          have hB3 : Below w.heap.size w w3 := by rw [hw3]; exact below_drew hB
          have c0' : w3.cell? ⟨b, off + k * 2, none⟩ = some (.int .i64 x) := by rw [hw3]; simpa using c0
          have c1' : w3.cell? ⟨b, off + k * 2 + 1, none⟩ = some (.bool y) := by rw [hw3]; simpa using c1
          clear hw3 c0 c1 hS hB R'
          repeat still_step
          refine wpStill_nil ?_
          go_wp2_with fail
          refine (bput_any A m x y _ hS3).mono ?_
          rintro z w4 ⟨rfl, M4, U4⟩
          have B4 := below_one hB3 U4 hA (Nat.le_refl _)
          go_wp2
          go_roundw
          case rel => exact ⟨k + 1, _, by omega, by omega, by go_num, M4, B4⟩
          case measure => simp [intOf]; omega
        · go_wp2
          go_meet
          exact ⟨k, m, rfl, hS, hB⟩
      · go_wp2
        go_meet
        exact ⟨k, m, rfl, hS, hB⟩
  case rest =>
    obtain ⟨k, m, rfl, hS, hB⟩ := hcut
    clear R hmost h0 hB0
    go_wp2_with fail
    refine (gap_any A m many e _ hS).mono ?_
    rintro z w2 ⟨rfl, b2⟩
    have hS2 := hS.below b2 hS.lt
    have hB2 := hB.trans (b2.mono hB.size)
    clear hS hB b2
    rcases gapI_cases m many e with ⟨hg, hnot⟩ | ⟨g, hg, g1, g2, g3, gf, gl⟩
    · rw [hg]
      have hln := fun wx h => len_any A m wx h
      by_cases c1 : 1 ≤ many
      · by_cases c2 : many ≤ e
        · by_cases c3 : e ≤ 256
          · have hne : (((els m).length : Int) == 0) = false := by
              simp
              intro h
              exact hnot ⟨c1, c2, c3, h⟩
            clear hnot
            go_wp2_with fail
            refine (hln _ hS2).mono ?_
            rintro z w3 ⟨rfl, rfl⟩
            go_wp2
            go_ret
            exact ⟨rfl, hB2⟩
          · clear hnot
            go_wp2
            go_ret
            exact ⟨rfl, hB2⟩
        · clear hnot
          go_wp2
          go_ret
          exact ⟨rfl, hB2⟩
      · clear hnot
        go_wp2
        go_ret
        exact ⟨rfl, hB2⟩
    · rw [hg]
      have Hgf := Lib.hid gf
      have Hgl := Lib.hid gl
      clear gf gl
      have hw1 : IntKind.i64.wrap ((g : Int) + many) = g + many := IntWalk.i64_in _ (by omega)
      have hhas := fun (j : Nat) (hj : j < 256) wx h => hasB_nat m j hj ▸ has_any A m j wx h
      go_wp2_with fail
      go_loopw [11] (fun t wr => ∃ j q : Nat, g ≤ j ∧ (j : Int) ≤ g + many ∧ t = .int .i64 j ∧ wr = w2.drewN q) (fun t _ => 256 - (intOf t).toNat)
      case atStart => exact ⟨g, 0, Nat.le_refl _, by omega, rfl, rfl⟩
      case round =>
        obtain ⟨j, q, j1, j2, rfl, rfl⟩ := hrel
        by_cases hlt : (j : Int) < g + many
        · have hh := fun wx h => hhas j (by omega) wx h
          rw [Hgf.out j j1 hlt] at hh
          go_wp2_with fail
          refine (hh _ (hS2.drewN q)).mono ?_
          rintro z w3 ⟨rfl, q', rfl⟩
          rw [World.drewN_drewN]
          go_wp2
          go_roundw
          case rel => exact ⟨j + 1, _, by omega, by omega, by go_num, rfl⟩
          case measure => simp [intOf]; omega
        · go_wp2_with fail
          go_loopw [12] (fun t wr => ∃ i q : Nat, i ≤ g ∧ t = .int .i64 i ∧ wr = w2.drewN q) (fun t _ => 256 - (intOf t).toNat)
          case atStart => exact ⟨0, q, by omega, rfl, rfl⟩
          case round =>
            obtain ⟨i, q1, i1, rfl, rfl⟩ := hrel
            by_cases hig : i < g
            · have hw2 : IntKind.i64.wrap ((i : Int) + many) = i + many := IntWalk.i64_in _ (by omega)
              obtain ⟨p, p1, p2, p3⟩ := Hgl.out i hig
              have hp := Lib.hid p3
              clear p3
              go_wp2_with fail
              go_loopw [13, 14] (fun f t wr => ∃ (y q : Nat) (bm : Bool), i ≤ y ∧ (y : Int) ≤ i + many ∧ f = .bool bm ∧ t = .int .i64 y ∧ wr = w2.drewN q ∧ Hid (bm = false → ∀ r : Nat, i ≤ r → r < y → m r = false)) (fun _ t _ => 256 - (intOf t).toNat)
              case atStart => exact ⟨i, q1, false, Nat.le_refl _, by omega, rfl, rfl, rfl, Lib.hid fun _ r _ _ => by omega⟩
              case round =>
                obtain ⟨y, q2, bm, y1, y2, rfl, rfl, rfl, hbm⟩ := hrel
                by_cases hy : (y : Int) < i + many
                · have hh := fun wx h => hhas y (by omega) wx h
                  have hst : Hid ((bm || m y) = false → ∀ r : Nat, i ≤ r → r < y + 1 → m r = false) := Lib.hid fun hb r r1 r2 => by
                    rw [Bool.or_eq_false_iff] at hb
                    rcases Nat.lt_or_ge r y with hr | hr
                    · exact hbm.out hb.1 r r1 hr
                    · rw [show r = y from by omega]; exact hb.2
                  generalize m y = my at hh hst
                  clear hbm
                  cases bm
                  all_goals
                    go_wp2_with fail
                    refine (hh _ (hS2.drewN q2)).mono ?_
                    rintro z w3 ⟨rfl, q', rfl⟩
                    rw [World.drewN_drewN]
                    go_wp2
                    go_roundw
                    case rel => exact ⟨y + 1, _, _, by omega, by omega, rfl, by go_num, rfl, hst⟩
                    case measure => simp [intOf]; omega
                · cases bm
                  · exfalso
                    have := hbm.out rfl p p1 (by omega)
                    rw [hp.out] at this
                    cases this
                  · go_wp2
                    go_roundw
                    case rel => exact ⟨i + 1, _, by omega, by go_num, rfl⟩
                    case measure => simp [intOf]; omega
            · go_wp2
              go_ret
              exact ⟨rfl, below_drewN hB2 _⟩
/-! ### the row's frame -/
theorem own : ownKnob Try.prog.godebug = none := by kernel_rfl
theorem laidOut : laidOutB Try.prog = true := by kernel_rfl
set_option linter.unusedVariables false in
set_option maxRecDepth 100000 in
theorem lifted (os : Os) (started : os.Started) (H : Type) (enc : TypeId × Value → H) :
    ReturnsInHanded {} Try.checked os 4 .any (Rows.bitmapGapsSpec.pre6 enc Try.prog Try.f4 Rows.bitmapGapsRow.domain false) (Rows.bitmapGapsSpec.post enc Try.prog Try.f4 false true false false) := by
  refine returnsInHanded_of_change (C := Try.checked) own started (by kernel_rfl) Try.func4
    (ChangeSpec.witness6 (enc := enc) (C := Try.checked) false ⟨#[], #[.slice none 0 0, .int .i64 0, .int .i64 0], []⟩ 8 (by kernel_rfl) (by kernel_rfl) (by kernel_rfl) (by kernel_rfl)) ?_
  intro W base args ds gs before hval0 hW hcnd _
  have hval : ∀ (j : Nat) t v, Try.f4.params[j]? = some t → args[j]? = some v → Value.okWide Try.prog W .any base t v := hval0
  have hW' := hW
  obtain ⟨p, q, hA0, hV, rfl, hfz, hnd⟩ := hW
  have hA : DataW.TrodAll enc Try.prog W 0 (fun _ => true) true Try.f4.params.toList args.toList ds p := hA0
  rw [Try.params4] at hA hval
  obtain ⟨v0, vs0, d0, ds0, p0, q0, hargs, rfl, rfl, h0, r0⟩ := trodAll_cons hA
  obtain ⟨v1, vs1, d1, ds1, p1, q1, rfl, rfl, rfl, h1, r1⟩ := trodAll_cons r0
  obtain ⟨v2, vs2, d2, ds2, p2, q2, rfl, rfl, rfl, h2, r2⟩ := trodAll_cons r1
  obtain ⟨rfl, rfl, rfl⟩ := trodAll_nil r2
  obtain rfl : args = #[v0, v1, v2] := by cases args; simp_all
  obtain ⟨rfl, rfl⟩ := trodVars_none hV
  have k0 := h0
  have lt0 : ∀ x ∈ p0, x.block < W.heap.size := by obtain ⟨m, hm⟩ := k0; exact DataW.trod_lt m _ _ _ hm
  obtain ⟨ao0, n0, cap0, b0, of0, E0, rfl, w0⟩ := Fr.open_rows 12 [some .i64, none] Try.underlying22 (by kernel_rfl) (by kernel_rfl) (by decide) (hval 0 22 v0 rfl rfl) h0
  have k1 := h1
  have lt1 : ∀ x ∈ p1, x.block < W.heap.size := by obtain ⟨m, hm⟩ := k1; exact DataW.trod_lt m _ _ _ hm
  obtain ⟨a1, rfl, rfl, rfl, w1⟩ := open_int Try.underlying3 (hval 1 3 v1 rfl rfl) h1
  have k2 := h2
  have lt2 : ∀ x ∈ p2, x.block < W.heap.size := by obtain ⟨m, hm⟩ := k2; exact DataW.trod_lt m _ _ _ hm
  obtain ⟨a2, rfl, rfl, rfl, w2⟩ := open_int Try.underlying3 (hval 2 3 v2 rfl rfl) h2
  clear hA0 hval0
  refine (walk ao0 n0 cap0 b0 of0 E0 a1 a2 w1 w2 W w0).mono fun e W' ⟨he, bel⟩ => ?_
  subst he
  exact ⟨_, rfl, _, _, _, [], _, [], hW', trodAll_mk1 (shut_bool Try.underlying4 _), (trodAll_cons_mk (Below.trod laidOut (by kernel_rfl) (of_decide_eq_true (by kernel_rfl)) k0 bel lt0) (trodAll_cons_mk (Below.trod laidOut (by kernel_rfl) (of_decide_eq_true (by kernel_rfl)) k1 bel lt1) (trodAll_cons_mk (Below.trod laidOut (by kernel_rfl) (of_decide_eq_true (by kernel_rfl)) k2 bel lt2) trodAll_mk0))), rfl, bel.frame _, fun h => by cases h⟩

theorem over : Rows.bitmapGapsRow.holds Try.pinned (OpenSpec.ofChange Rows.bitmapGapsSpec) :=
  OpenClaim.holds_of_wide 4 Try.f4 rfl rfl rfl rfl rfl rfl rfl ⟨rfl, rfl, rfl, rfl, rfl⟩ rfl rfl rfl rfl rfl (by kernel_rfl) Try.func4 (by kernel_rfl)
    (of_decide_eq_true (by kernel_rfl)) (by unfold Func.isWrapper; first | (rw [if_pos (by decide +kernel)]; kernel_rfl) | (rw [if_neg (by decide +kernel)]; exact ⟨rfl, rfl⟩))
    (fun os started H enc _ => lifted os started H enc)

theorem proved : Rows.BitmapGapsSaid :=
  over
end Go.Proofs.Ythlehgohpagfnaa.bitmapGaps
