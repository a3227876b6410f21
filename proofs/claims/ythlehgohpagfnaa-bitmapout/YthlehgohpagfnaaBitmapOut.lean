/-
  Proved: trunnionlaw03.BitmapOut answers true for every input: numbers that are put in and out again leave the set as it was.
  Conditions: none.
-/
import Derived.Test.YthlehgohpagfnaaBmF
import Derived.Deep.DeepCutAuto
import Derived.Deep.CutBlock
import Derived.Deep.RegionHeld3
namespace Go.Proofs.Ythlehgohpagfnaa.bitmapOut
open Go.ChangeShapes Go.WideShapes Go.ChangeAt Go.RowKit
set_option linter.unusedVariables false
set_option linter.unusedSimpArgs false

theorem one_cell {w : World} {ao : Option Addr} {n b off : Nat} {E : Nat → Nat → Value} (R : Fr.RowArg w ao n b off [some .i64] E) (i : Nat) (hi : i < n) :
    ∃ x : Int, w.cell? ⟨b, off + i, none⟩ = some (.int .i64 x) := by
  obtain ⟨x, hx, _⟩ := R.ok i hi 0 _ rfl
  exact ⟨x, by rw [← hx]; have := R.cell i hi 0 (by decide); simpa using this⟩
theorem row_upd {w w' : World} {base A k : Nat} {e : TypeId} {v : Value} {xs : List Value} (h : w.ownsRow base e 1 v k xs) (u : Upd (· = A) w w') (hA : A < base) : w'.ownsRow base e 1 v k xs := by
  refine ⟨h.1, ?_⟩
  rcases h.2 with hn | ⟨g, cap, cur, rfl, hb, hgg, rest⟩
  · exact .inl hn
  · exact .inr ⟨g, cap, cur, rfl, hb, u.at hgg (by omega), rest⟩
theorem row_drewN {w : World} {base k : Nat} {e : TypeId} {v : Value} {xs : List Value} (h : w.ownsRow base e 1 v k xs) (n : Nat) : (w.drewN n).ownsRow base e 1 v k xs := h
/-- in and out again -/
theorem back (m : Nat → Bool) (x : Int) : updI (updI m x true) x (hasB m x) = m := by
  unfold updI hasB
  cases inB x
  · rfl
  · funext k
    simp only [if_true, Bool.true_and, upd]
    by_cases h : k = x.toNat
    · rw [if_pos h, h]
    · rw [if_neg h, if_neg h]
theorem has_put (m : Nat → Bool) (x : Int) : hasB (updI m x true) x = inB x := by
  unfold hasB updI
  cases h : inB x
  · rfl
  · simp [upd]

set_option maxRecDepth 100000 in
set_option maxHeartbeats 1000000 in
theorem walk (ao : Option Addr) (n cap b off : Nat) (E : Nat → Nat → Value) (ao2 : Option Addr) (n2 cap2 b2 off2 : Nat) (E2 : Nat → Nat → Value) (w : World) (R : Fr.RowArg w ao n b off [some .i64, none] E) (R2 : Fr.RowArg w ao2 n2 b2 off2 [some .i64] E2) :
    Calls Try.prog 6 #[.slice ao n cap, .slice ao2 n2 cap2] w fun e w' => e = .returned (.bool true) ∧ Below w.heap.size w w' := by
  have hmost := R.most
  have hmost2 := R2.most
  go_enter Try.func6, Try.ntmps6
  go_wp2_with fail
  refine (awake_any _).mono ?_
  rintro x w1 ⟨rfl, B1⟩
  have h0 := new_set w1
  have hB0 := B1.trans (((Below.refl _ w1).alloc (Nat.le_refl _) (.cells #[.int .u64 0, .int .u64 0, .int .u64 0, .int .u64 0] 28)).mono B1.size)
  have hA := B1.size
  go_upto_block 0 with fail
  generalize w1.alloc (.cells #[.int .u64 0, .int .u64 0, .int .u64 0, .int .u64 0] 28) = W0 at h0 hB0 ⊢
  generalize w1.heap.size = A at h0 hA ⊢
  clear B1
  go_cut [7] (fun s7 wx => ∃ (k : Nat) (m : Nat → Bool), s7 = .int .i64 k ∧ SetAt wx A m ∧ Below w.heap.size w wx)
  case first =>
    go_wp2_with fail
    go_loopw [7] (fun t wr => ∃ (k : Nat) (m : Nat → Bool), k ≤ n ∧ k ≤ 200 ∧ t = .int .i64 k ∧ SetAt wr A m ∧ Below w.heap.size w wr) (fun t _ => 200 - (intOf t).toNat)
    case atStart => exact ⟨0, _, by omega, by omega, rfl, h0, hB0⟩
    case round =>
      obtain ⟨k, m, hk, hk3, rfl, hS, hB⟩ := hrel
      clear h0 hB0 R2 hmost2
      by_cases hlt : k < n
      · by_cases hl3 : k < 200
        · obtain rfl := R.place (by omega)
          have R' := R.kept hB
          obtain ⟨x, y, c0, c1⟩ := op2 R' k hlt
          have hkn : (k : Int) < (n : Int) := by omega
          go_wp2_with fail
          refine wp_region_tail 11 (by kernel_rfl) (by kernel_rfl) ?_
          simp only [List.take_succ_cons, List.take_zero, List.drop_succ_cons, List.drop_zero]
          intro w3 hw3
          have hS3 : SetAt w3 A m := by rw [hw3]; exact hS.drew
          have hB3 : Below w.heap.size w w3 := by rw [hw3]; exact below_drew hB
          have c0' : w3.cell? ⟨b, off + k * 2, none⟩ = some (.int .i64 x) := by rw [hw3]; simpa using c0
          have c1' : w3.cell? ⟨b, off + k * 2 + 1, none⟩ = some (.bool y) := by rw [hw3]; simpa using c1
          clear hw3 c0 c1 hS hB R'
          repeat still_step
          refine wpStill_nil ?_
          go_wp2_with fail
          refine (bput_any A m x y _ hS3).mono ?_
          rintro z w4 ⟨rfl, M4, U4⟩
          have B4 := below_one hB3 U4 hA (Nat.le_refl _)
          go_wp2
          go_roundw
          case rel => exact ⟨k + 1, _, by omega, by omega, by go_num, M4, B4⟩
          case measure => simp [intOf]; omega
        · go_wp2
          go_meet
          exact ⟨k, m, rfl, hS, hB⟩
      · go_wp2
        go_meet
        exact ⟨k, m, rfl, hS, hB⟩
  case rest =>
    obtain ⟨k, m, rfl, hS, hB⟩ := hcut
    clear R hmost h0 hB0
    go_wp2_with fail
    refine (told_any A m _ hS).mono ?_
    rintro z w2 ⟨v, rfl, hrow, b2'⟩
    have hS2 := hS.below b2' hS.lt
    have hB2 := hB.trans (b2'.mono hB.size)
    have hAlt := hS.lt
    obtain ⟨base, hbase⟩ : ∃ base, wc.heap.size = base := ⟨_, rfl⟩
    rw [hbase] at hrow hAlt
    clear hS hB b2' hbase
    go_upto_block 2 with fail
    go_cut [9] (fun s9 wx => SetAt wx A m ∧ Below w.heap.size w wx ∧ wx.ownsRow base 3 1 v (els m).length (nums (els m)))
    case first =>
      go_wp2_with fail
      go_loopw [9] (fun t wr => ∃ k : Nat, k ≤ n2 ∧ k ≤ 100 ∧ t = .int .i64 k ∧ SetAt wr A m ∧ Below w.heap.size w wr ∧ wr.ownsRow base 3 1 v (els m).length (nums (els m))) (fun t _ => 100 - (intOf t).toNat)
      case atStart => exact ⟨0, by omega, by omega, rfl, hS2, hB2, hrow⟩
      case round =>
        obtain ⟨j, hj, hj3, rfl, hS, hB, hr⟩ := hrel
        clear hS2 hB2 hrow
        by_cases hlt : j < n2
        · by_cases hl3 : j < 100
          · obtain rfl := R2.place (by omega)
            have R' := R2.kept hB
            obtain ⟨x, c0⟩ := one_cell R' j hlt
            have hjn : (j : Int) < (n2 : Int) := by omega
            clear R'
            have hback := back m x
            have hput := has_put m x
            go_wp2_with fail
            refine (has_any A m x _ hS).mono ?_
            rintro z w3 ⟨rfl, q, rfl⟩
            have hS := hS.drewN q
            have hB := below_drewN hB q
            have hr := row_drewN hr q
            have c0 : (wr.drewN q).cell? ⟨b2, off2 + j, none⟩ = some (.int .i64 x) := c0
            generalize wr.drewN q = w3 at hS hB hr c0 ⊢
            generalize hasB m x = had at hback ⊢
            have hb2 := R2.lt (by omega)
            go_wp2_with fail
            refine (bput_any A m x true _ hS).mono ?_
            rintro z w4 ⟨rfl, S4, U4⟩
            have B4 := below_one hB U4 hA (Nat.le_refl _)
            have r4 := row_upd hr U4 hAlt
            have c4 : w4.cell? ⟨b2, off2 + j, none⟩ = some (.int .i64 x) := U4.cell c0 (by simp; omega)
            clear hS hB hr U4 c0
            go_wp2_with fail
            refine (has_any A _ x _ S4).mono ?_
            rintro z w5 ⟨rfl, q5, rfl⟩
            rw [hput]
            have S5 := S4.drewN q5
            have B5 := below_drewN B4 q5
            have r5 := row_drewN r4 q5
            have c5 : (w4.drewN q5).cell? ⟨b2, off2 + j, none⟩ = some (.int .i64 x) := c4
            generalize w4.drewN q5 = w5 at S5 B5 r5 c5 ⊢
            clear S4 B4 r4 c4 hput
            go_wp2_with fail
            refine (bput_any A _ x had _ S5).mono ?_
            rintro z w6 ⟨rfl, S6, U6⟩
            have B6 := below_one B5 U6 hA (Nat.le_refl _)
            have r6 := row_upd r5 U6 hAlt
            have c6 : w6.cell? ⟨b2, off2 + j, none⟩ = some (.int .i64 x) := U6.cell c5 (by simp; omega)
            rw [hback] at S6
            clear S5 B5 r5 c5 U6 hback
            by_cases x0 : 0 ≤ x
            · by_cases x1 : x < 256
              · rw [show inB x = true from by unfold inB; simp; omega]
                go_wp2
                go_roundw
                case rel => exact ⟨j + 1, by omega, by omega, by go_num, S6, B6, r6⟩
                case measure => simp [intOf]; omega
              · rw [show inB x = false from by unfold inB; simp; omega]
                go_wp2
                go_roundw
                case rel => exact ⟨j + 1, by omega, by omega, by go_num, S6, B6, r6⟩
                case measure => simp [intOf]; omega
            · rw [show inB x = false from by unfold inB; simp; omega]
              go_wp2
              go_roundw
              case rel => exact ⟨j + 1, by omega, by omega, by go_num, S6, B6, r6⟩
              case measure => simp [intOf]; omega
          · go_wp2
            go_meet
            exact ⟨hS, hB, hr⟩
        · go_wp2
          go_meet
          exact ⟨hS, hB, hr⟩
    case rest =>
      obtain ⟨hS, hB, hr⟩ := hcut
      clear hS2 hB2 hrow R2 hmost2
      go_wp2_with fail
      refine (told_any A m _ hS).mono ?_
      rintro z w3 ⟨v3, rfl, hrow3, b3⟩
      have hB3 := hB.trans (b3.mono hB.size)
      have ra := (row_of hr).kept b3 (Nat.le_refl _)
      have rb := row_of hrow3
      have hl : (els m).length ≤ 256 := upto_len m 256
      clear hr hrow3 b3 hB hS
      generalize els m = L at ra rb hl
      go_wp2_with fail
      refine (same_any L L v v3 _ ra rb hl hl).mono ?_
      rintro z w4 ⟨rfl, q, rfl⟩
      rw [decide_eq_true rfl]
      go_wp2
      go_ret
      exact ⟨rfl, below_drewN hB3 q⟩
/-! ### the row's frame -/
theorem own : ownKnob Try.prog.godebug = none := by kernel_rfl
theorem laidOut : laidOutB Try.prog = true := by kernel_rfl
set_option linter.unusedVariables false in
set_option maxRecDepth 100000 in
theorem lifted (os : Os) (started : os.Started) (H : Type) (enc : TypeId × Value → H) :
    ReturnsInHanded {} Try.checked os 6 .any (Rows.bitmapOutSpec.pre6 enc Try.prog Try.f6 Rows.bitmapOutRow.domain false) (Rows.bitmapOutSpec.post enc Try.prog Try.f6 false true false false) := by
  refine returnsInHanded_of_change (C := Try.checked) own started (by kernel_rfl) Try.func6
    (ChangeSpec.witness6 (enc := enc) (C := Try.checked) false ⟨#[], #[.slice none 0 0, .slice none 0 0], []⟩ 8 (by kernel_rfl) (by kernel_rfl) (by kernel_rfl) (by kernel_rfl)) ?_
  intro W base args ds gs before hval0 hW hcnd _
  have hval : ∀ (j : Nat) t v, Try.f6.params[j]? = some t → args[j]? = some v → Value.okWide Try.prog W .any base t v := hval0
  have hW' := hW
  obtain ⟨p, q, hA0, hV, rfl, hfz, hnd⟩ := hW
  have hA : DataW.TrodAll enc Try.prog W 0 (fun _ => true) true Try.f6.params.toList args.toList ds p := hA0
  rw [Try.params6] at hA hval
  obtain ⟨v0, vs0, d0, ds0, p0, q0, hargs, rfl, rfl, h0, r0⟩ := trodAll_cons hA
  obtain ⟨v1, vs1, d1, ds1, p1, q1, rfl, rfl, rfl, h1, r1⟩ := trodAll_cons r0
  obtain ⟨rfl, rfl, rfl⟩ := trodAll_nil r1
  obtain rfl : args = #[v0, v1] := by cases args; simp_all
  obtain ⟨rfl, rfl⟩ := trodVars_none hV
  have k0 := h0
  have lt0 : ∀ x ∈ p0, x.block < W.heap.size := by obtain ⟨m, hm⟩ := k0; exact DataW.trod_lt m _ _ _ hm
  obtain ⟨ao0, n0, cap0, b0, of0, E0, rfl, w0⟩ := Fr.open_rows 12 [some .i64, none] Try.underlying22 (by kernel_rfl) (by kernel_rfl) (by decide) (hval 0 22 v0 rfl rfl) h0
  have k1 := h1
  have lt1 : ∀ x ∈ p1, x.block < W.heap.size := by obtain ⟨m, hm⟩ := k1; exact DataW.trod_lt m _ _ _ hm
  obtain ⟨ao1, n1, cap1, b1, of1, E1, rfl, w1⟩ := Fr.open_rows 12 [some .i64] Try.underlying39 (by kernel_rfl) (by kernel_rfl) (by decide) (hval 1 39 v1 rfl rfl) h1
  clear hA0 hval0
  refine (walk ao0 n0 cap0 b0 of0 E0 ao1 n1 cap1 b1 of1 E1  W w0 w1).mono fun e W' ⟨he, bel⟩ => ?_
  subst he
  exact ⟨_, rfl, _, _, _, [], _, [], hW', trodAll_mk1 (shut_bool Try.underlying4 _), (trodAll_cons_mk (Below.trod laidOut (by kernel_rfl) (of_decide_eq_true (by kernel_rfl)) k0 bel lt0) (trodAll_cons_mk (Below.trod laidOut (by kernel_rfl) (of_decide_eq_true (by kernel_rfl)) k1 bel lt1) trodAll_mk0)), rfl, bel.frame _, fun h => by cases h⟩

theorem over : Rows.bitmapOutRow.holds Try.pinned (OpenSpec.ofChange Rows.bitmapOutSpec) :=
  OpenClaim.holds_of_wide 6 Try.f6 rfl rfl rfl rfl rfl rfl rfl ⟨rfl, rfl, rfl, rfl, rfl⟩ rfl rfl rfl rfl rfl (by kernel_rfl) Try.func6 (by kernel_rfl)
    (of_decide_eq_true (by kernel_rfl)) (by unfold Func.isWrapper; first | (rw [if_pos (by decide +kernel)]; kernel_rfl) | (rw [if_neg (by decide +kernel)]; exact ⟨rfl, rfl⟩))
    (fun os started H enc _ => lifted os started H enc)

theorem proved : Rows.BitmapOutSaid :=
  over
end Go.Proofs.Ythlehgohpagfnaa.bitmapOut
