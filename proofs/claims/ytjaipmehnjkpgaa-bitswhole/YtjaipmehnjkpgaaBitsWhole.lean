/-
  Proved: trunnionlaw01.BitsWhole answers true for every input: a word is put together of its two parts, wherever it is cut, and has as many bits as both.
  Conditions: none.
-/
import Derived.Test.YtjaipmehnjkpgaaBitsE
import Derived.Test.YtjaipmehnjkpgaaFrame
namespace Go.Proofs.Ytjaipmehnjkpgaa.bitsWhole
open Go.ChangeShapes Go.WideShapes Go.ChangeAt Go.RowKit
set_option linter.unusedVariables false

theorem whole_facts (x c : Int) (hx0 : 0 ≤ x) (hx : x < 18446744073709551616) (h1 : 1 ≤ c) (h2 : c ≤ 63) :
    putB (getV x 0 c) 0 c = true ∧ putB (getV x c (64 - c)) c (64 - c) = true ∧ putV (putV 0 (getV x 0 c) 0 c) (getV x c (64 - c)) c (64 - c) = x ∧
    countI (getV x 0 c) + countI (getV x c (64 - c)) = countI x := by
  have f1 : fieldB 0 c = true := by simp [fieldB]; omega
  have f2 : fieldB c (64 - c) = true := by simp [fieldB]; omega
  have fit : ∀ f m : Int, withinB (getI x f m) 0 (onesI m) = true := by
    intro f m
    have := M.getN_lt x.toNat f.toNat m.toNat
    have p := Nat.two_pow_pos m.toNat
    simp only [withinB, onesI_nat, getI, decide_eq_true_eq]
    omega
  have b1 : putB (getV x 0 c) 0 c = true := by rw [putB, f1, getV_yes f1, fit]; rfl
  have b2 : putB (getV x c (64 - c)) c (64 - c) = true := by rw [putB, f2, getV_yes f2, fit]; rfl
  obtain ⟨n, rfl⟩ := Int.eq_ofNat_of_zero_le hx0
  obtain ⟨k, rfl⟩ := Int.eq_ofNat_of_zero_le (by omega : 0 ≤ c)
  have e64 : ((64 : Int) - (k : Int)).toNat = 64 - k := by omega
  refine ⟨b1, b2, ?_, ?_⟩
  · rw [putV_yes b2, putV_yes b1, getV_yes f1, getV_yes f2]
    unfold putI getI
    simp only [Int.toNat_natCast, e64, Int.toNat_zero]
    rw [M.whole n k (by omega) (by omega)]
  · rw [getV_yes f1, getV_yes f2]
    unfold countI getI
    simp only [Int.toNat_natCast, e64, Int.toNat_zero]
    have := M.cnt_whole n k (by omega)
    omega
set_option maxRecDepth 100000 in
set_option maxHeartbeats 1000000 in
theorem walk (x c : Int) (w0 : (Lit.int .u64 x).wf = true) (w1 : (Lit.int .i64 c).wf = true) (w : World) :
    Calls Try.prog 8 #[.int .u64 x, .int .i64 c] w fun e w' => e = .returned (.bool true) ∧ Below w.heap.size w w' := by
  have hx := Lib.hid (wf_u64 w0)
  clear w0 w1
  by_cases h1 : c < 1
  · go_enter Try.func8, Try.ntmps8
    go_wp2_with fail
    refine (awake_any _).mono ?_
    rintro e w1 ⟨rfl, n1, rfl⟩
    go_wp2
    go_ret
    exact ⟨rfl, below_drewN (Below.refl _ _) _⟩
  by_cases h2 : 63 < c
  · go_enter Try.func8, Try.ntmps8
    go_wp2_with fail
    refine (awake_any _).mono ?_
    rintro e w1 ⟨rfl, n1, rfl⟩
    go_wp2
    go_ret
    exact ⟨rfl, below_drewN (Below.refl _ _) _⟩
  obtain ⟨b1, b2, b3, b4⟩ := whole_facts x c hx.out.1 hx.out.2 (by omega) (by omega)
  have F1 := Lib.hid (show fieldB 0 c = true from by simp [fieldB]; omega)
  have F2 := Lib.hid (show fieldB c (64 - c) = true from by simp [fieldB]; omega)
  have B1 := Lib.hid b1
  have B2 := Lib.hid b2
  have bl := Lib.hid (getV_bd x 0 c)
  have bh := Lib.hid (getV_bd x c (64 - c))
  have by0 := Lib.hid (putV_bd 0 (getV x 0 c) 0 c (by decide) (by decide))
  have e3 : (putV (putV 0 (getV x 0 c) 0 c) (getV x c (64 - c)) c (64 - c) == x) = true := by rw [b3]; simp
  have cl : ∀ z, 0 ≤ countI z ∧ countI z ≤ 64 := by intro z; have := M.cntTo_le z.toNat 64; unfold countI; omega
  have cl1 := cl (getV x 0 c)
  have cl2 := cl (getV x c (64 - c))
  have e4 : (countI (getV x 0 c) + countI (getV x c (64 - c)) == countI x) = true := by rw [b4]; simp
  clear b1 b2 b3 b4 cl
  go_enter Try.func8, Try.ntmps8
  go_wp2_with fail
  refine (awake_any _).mono ?_
  rintro e w1 ⟨rfl, n1, rfl⟩
  go_wp2_with fail
  refine (get_any _ _ _ _ hx.out.1 hx.out.2).mono ?_
  rintro e w1 ⟨rfl, n2, rfl⟩
  rw [F1.out]
  go_wp2_with fail
  refine (get_any _ _ _ _ hx.out.1 hx.out.2).mono ?_
  rintro e w1 ⟨rfl, n3, rfl⟩
  rw [F2.out]
  go_wp2_with fail
  refine (put_any _ _ _ _ _ (by decide) (by decide)).mono ?_
  rintro e w1 ⟨rfl, n4, rfl⟩
  rw [B1.out]
  go_wp2_with fail
  refine (put_any _ _ _ _ _ by0.out.1 by0.out.2).mono ?_
  rintro e w1 ⟨rfl, n5, rfl⟩
  rw [B2.out]
  go_wp2_with fail
  refine (count_any _ _ bl.out.1 bl.out.2).mono ?_
  rintro e w1 ⟨rfl, rfl⟩
  go_wp2_with fail
  refine (count_any _ _ bh.out.1 bh.out.2).mono ?_
  rintro e w1 ⟨rfl, rfl⟩
  go_wp2_with fail
  refine (count_any _ _ hx.out.1 hx.out.2).mono ?_
  rintro e w1 ⟨rfl, rfl⟩
  go_wp2
  go_ret
  exact ⟨rfl, below_drewN (Below.refl _ _) _⟩
/-! ### the row's frame -/
theorem own : ownKnob Try.prog.godebug = none := by kernel_rfl
theorem laidOut : laidOutB Try.prog = true := by kernel_rfl
set_option linter.unusedVariables false in
set_option maxRecDepth 100000 in
theorem lifted (os : Os) (started : os.Started) (H : Type) (enc : TypeId × Value → H) :
    ReturnsInHanded {} Try.checked os 8 .any (Rows.bitsWholeSpec.pre6 enc Try.prog Try.f8 Rows.bitsWholeRow.domain false) (Rows.bitsWholeSpec.post enc Try.prog Try.f8 false true false false) := by
  refine returnsInHanded_of_change (C := Try.checked) own started (by kernel_rfl) Try.func8
    (ChangeSpec.witness6 (enc := enc) (C := Try.checked) false ⟨#[], #[.int .u64 0, .int .i64 0], []⟩ 8 (by kernel_rfl) (by kernel_rfl) (by kernel_rfl) (by kernel_rfl)) ?_
  intro W base args ds gs before hval0 hW hcnd _
  have hval : ∀ (j : Nat) t v, Try.f8.params[j]? = some t → args[j]? = some v → Value.okWide Try.prog W .any base t v := hval0
  have hW' := hW
  obtain ⟨p, q, hA0, hV, rfl, hfz, hnd⟩ := hW
  have hA : DataW.TrodAll enc Try.prog W 0 (fun _ => true) true Try.f8.params.toList args.toList ds p := hA0
  rw [Try.params8] at hA hval
  obtain ⟨v0, vs0, d0, ds0, p0, q0, hargs, rfl, rfl, h0, r0⟩ := trodAll_cons hA
  obtain ⟨v1, vs1, d1, ds1, p1, q1, rfl, rfl, rfl, h1, r1⟩ := trodAll_cons r0
  obtain ⟨rfl, rfl, rfl⟩ := trodAll_nil r1
  obtain rfl : args = #[v0, v1] := by cases args; simp_all
  obtain ⟨rfl, rfl⟩ := trodVars_none hV
  have k0 := h0
  have lt0 : ∀ x ∈ p0, x.block < W.heap.size := by obtain ⟨m, hm⟩ := k0; exact DataW.trod_lt m _ _ _ hm
  obtain ⟨a0, rfl, rfl, rfl, w0⟩ := open_int Try.underlying22 (hval 0 22 v0 rfl rfl) h0
  have k1 := h1
  have lt1 : ∀ x ∈ p1, x.block < W.heap.size := by obtain ⟨m, hm⟩ := k1; exact DataW.trod_lt m _ _ _ hm
  obtain ⟨a1, rfl, rfl, rfl, w1⟩ := open_int Try.underlying3 (hval 1 3 v1 rfl rfl) h1
  clear hA0 hval0
  refine (walk a0 a1 w0 w1 W).mono fun e W' ⟨he, bel⟩ => ?_
  subst he
  exact ⟨_, rfl, _, _, _, [], _, [], hW', trodAll_mk1 (shut_bool Try.underlying4 _), (trodAll_cons_mk (Below.trod laidOut (by kernel_rfl) (of_decide_eq_true (by kernel_rfl)) k0 bel lt0) (trodAll_cons_mk (Below.trod laidOut (by kernel_rfl) (of_decide_eq_true (by kernel_rfl)) k1 bel lt1) trodAll_mk0)), rfl, bel.frame _, fun h => by cases h⟩

theorem over : Rows.bitsWholeRow.holds Try.pinned (OpenSpec.ofChange Rows.bitsWholeSpec) :=
  OpenClaim.holds_of_wide 8 Try.f8 rfl rfl rfl rfl rfl rfl rfl ⟨rfl, rfl, rfl, rfl, rfl⟩ rfl rfl rfl rfl rfl (by kernel_rfl) Try.func8 (by kernel_rfl)
    (of_decide_eq_true (by kernel_rfl)) (by unfold Func.isWrapper; first | (rw [if_pos (by decide +kernel)]; kernel_rfl) | (rw [if_neg (by decide +kernel)]; exact ⟨rfl, rfl⟩))
    (fun os started H enc _ => lifted os started H enc)

theorem proved : Rows.BitsWholeSaid :=
  over
end Go.Proofs.Ytjaipmehnjkpgaa.bitsWhole
