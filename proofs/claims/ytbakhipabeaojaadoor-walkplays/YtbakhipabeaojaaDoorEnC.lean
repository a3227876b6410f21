/-
  Contracts of package entry: Word, Of, Page.
-/
import Derived.Test.YtbakhipabeaojaaDoorEnB
namespace Go.Proofs.YtbakhipabeaojaaDoor
open Go.ChangeShapes Go.WideShapes Go.ChangeAt Go.RowKit

set_option maxHeartbeats 400000 in
theorem eword_zero (w : World) :
    Calls Tryd.prog 26 #[entV false false false 0] w fun e w' => e = .returned (.tuple #[.int .u64 0, .int .i64 0]) ∧ Upd (fun _ => False) w w' := by
  have he := run_eqE false false false 0 false false false 0 true (by decide)
  go_enter Tryd.func26, Tryd.ntmps26
  go_wp2
  go_ret2
  exact ⟨rfl, (Upd.refl _ _).alloc _⟩
set_option maxHeartbeats 400000 in
theorem eword_bad0 (r t : Bool) (f : Int) (w : World) (h : rightB false r t f = false) :
    Calls Tryd.prog 26 #[entV false r t f] w fun e w' => e = .returned (.tuple #[.int .u64 0, .int .i64 1]) ∧ Upd (fun _ => False) w w' := by
  have he := run_eqE false r t f false false false 0 false (by simp [rightB] at h; simp; exact h)
  clear h
  go_enter Tryd.func26, Tryd.ntmps26
  go_wp2
  go_ret2
  exact ⟨rfl, (Upd.refl _ _).alloc _⟩
set_option maxHeartbeats 400000 in
theorem eword_bad1 (f : Int) (w : World) :
    Calls Tryd.prog 26 #[entV true true true f] w fun e w' => e = .returned (.tuple #[.int .u64 0, .int .i64 1]) ∧ Upd (fun _ => False) w w' := by
  have he := run_eqE true true true f false false false 0 false (by simp)
  go_enter Tryd.func26, Tryd.ntmps26
  go_wp2
  go_ret2
  exact ⟨rfl, (Upd.refl _ _).alloc _⟩
set_option maxHeartbeats 400000 in
theorem eword_bad2 (r t : Bool) (f y : Int) (w : World) (T : Tab w) (hrt : (r && t) = false) (hy : IntKind.u64.wrap f = y) (hf : fitP y 3 = false) :
    Calls Tryd.prog 26 #[entV true r t f] w fun e w' => e = .returned (.tuple #[.int .u64 0, .int .i64 1]) ∧ Upd (fun _ => False) w w' := by
  have he := run_eqE true r t f false false false 0 false (by simp)
  have hc := Lib.hid (fun W (T : Tab W) => eput_any 0 y 3 W T (by omega) (by omega) (by omega))
  rw [hf] at hc
  have hu := Lib.hid hy
  clear hy
  cases r
  · go_enter Tryd.func26, Tryd.ntmps26
    go_wp2_with fail
    rw [hu.out]
    refine (hc.out _ (T.kept ((Upd.refl _ _).alloc _))).mono ?_
    rintro e w1 ⟨rfl, n1, rfl⟩
    go_wp2
    go_ret2
    exact ⟨rfl, ((Upd.refl _ _).alloc _).drewN _⟩
  · obtain rfl : t = false := by simpa using hrt
    go_enter Tryd.func26, Tryd.ntmps26
    go_wp2_with fail
    rw [hu.out]
    refine (hc.out _ (T.kept ((Upd.refl _ _).alloc _))).mono ?_
    rintro e w1 ⟨rfl, n1, rfl⟩
    go_wp2
    go_ret2
    exact ⟨rfl, ((Upd.refl _ _).alloc _).drewN _⟩
theorem put3 (f : Int) (h0 : 0 ≤ f) : putP 0 f 3 = 256 * f := by rw [putP_val 0 f 3 8 8 rfl rfl (by omega) h0]; simp
theorem flag0 (f : Int) (h0 : 0 ≤ f) : flagP (256 * f) true 0 = 256 * f + 1 := by
  unfold flagP; rw [if_pos rfl, putP_val _ 1 0 0 1 rfl rfl (by omega) (by omega)]; simp; omega
theorem flag1 (f : Int) (r : Bool) (h0 : 0 ≤ f) : flagP (256 * f + 1) r 1 = 256 * f + 1 + bI r 2 := by
  unfold flagP bI
  cases r
  · simp
  · rw [if_pos rfl, if_pos rfl, putP_val _ 1 1 1 1 rfl rfl (by omega) (by omega)]; simp; omega
theorem flag2 (f : Int) (r t : Bool) (h0 : 0 ≤ f) : flagP (256 * f + 1 + bI r 2) t 2 = 256 * f + 1 + bI r 2 + bI t 4 := by
  unfold flagP
  have hb : 0 ≤ bI r 2 ∧ bI r 2 ≤ 2 := by unfold bI; split <;> omega
  cases t
  · simp [bI]
  · rw [if_pos rfl, putP_val _ 1 2 2 1 rfl rfl (by omega) (by omega), show bI true 4 = 4 from rfl]; simp; omega
theorem bI_bd (b : Bool) (k : Int) (h : 0 ≤ k) : 0 ≤ bI b k ∧ bI b k ≤ k := by unfold bI; split <;> omega
set_option maxHeartbeats 1000000 in
theorem eword_yes (r t : Bool) (f : Int) (w : World) (T : Tab w) (hrt : (r && t) = false) (h0 : 0 ≤ f) (h1 : f ≤ 255) :
    Calls Tryd.prog 26 #[entV true r t f] w fun e w' => e = .returned (.tuple #[.int .u64 (256 * f + 1 + bI r 2 + bI t 4), .int .i64 0]) ∧ Upd (fun _ => False) w w' := by
  have he := run_eqE true r t f false false false 0 false (by simp)
  have b1 := bI_bd r 2 (by omega)
  have b2 := bI_bd t 4 (by omega)
  have hc := Lib.hid (fun W (T : Tab W) => eput_any 0 f 3 W T (by omega) (by omega) (by omega))
  have hfit : fitP f 3 = true := by rw [fit3]; simp; omega
  rw [hfit, if_pos rfl, put3 f h0] at hc
  have f0 := Lib.hid (fun W (T : Tab W) => eflag_any (256 * f) true 0 W T (by omega) (by omega) (by omega))
  have f1 := Lib.hid (fun W (T : Tab W) => eflag_any (256 * f + 1) r 1 W T (by omega) (by omega) (by omega))
  have f2 := Lib.hid (fun W (T : Tab W) => eflag_any (256 * f + 1 + bI r 2) t 2 W T (by omega) (by omega) (by omega))
  rw [flag0 f h0] at f0
  rw [flag1 f r h0] at f1
  rw [flag2 f r t h0] at f2
  have hu := Lib.hid (wrap_same f h0 (by omega))
  obtain ⟨x0, e0⟩ : ∃ x, x = 256 * f := ⟨_, rfl⟩
  obtain ⟨x1, e1⟩ : ∃ x, x = 256 * f + 1 := ⟨_, rfl⟩
  obtain ⟨x2, e2⟩ : ∃ x, x = 256 * f + 1 + bI r 2 := ⟨_, rfl⟩
  obtain ⟨x3, e3⟩ : ∃ x, x = 256 * f + 1 + bI r 2 + bI t 4 := ⟨_, rfl⟩
  rw [← e3] at f2 ⊢
  rw [← e2] at f1 f2
  rw [← e1] at f0 f1
  rw [← e0] at hc f0
  clear e0 e1 e2 e3 b1 b2 hfit h0 h1
  cases r
  · go_enter Tryd.func26, Tryd.ntmps26
    go_wp2_with fail
    rw [hu.out]
    refine (hc.out _ (T.kept ((Upd.refl _ _).alloc _))).mono ?_
    rintro e w1 ⟨rfl, n1, rfl⟩
    go_wp2_with fail
    refine (f0.out _ (T.kept (((Upd.refl _ _).alloc _).drewN _))).mono ?_
    rintro e w1 ⟨rfl, n2, rfl⟩
    go_wp2_with fail
    refine (f1.out _ (T.kept (((Upd.refl _ _).alloc _).drewN _))).mono ?_
    rintro e w1 ⟨rfl, n3, rfl⟩
    go_wp2_with fail
    refine (f2.out _ (T.kept (((Upd.refl _ _).alloc _).drewN _))).mono ?_
    rintro e w1 ⟨rfl, n4, rfl⟩
    go_wp2
    go_ret2
    exact ⟨rfl, ((Upd.refl _ _).alloc _).drewN _⟩
  · obtain rfl : t = false := by simpa using hrt
    go_enter Tryd.func26, Tryd.ntmps26
    go_wp2_with fail
    rw [hu.out]
    refine (hc.out _ (T.kept ((Upd.refl _ _).alloc _))).mono ?_
    rintro e w1 ⟨rfl, n1, rfl⟩
    go_wp2_with fail
    refine (f0.out _ (T.kept (((Upd.refl _ _).alloc _).drewN _))).mono ?_
    rintro e w1 ⟨rfl, n2, rfl⟩
    go_wp2_with fail
    refine (f1.out _ (T.kept (((Upd.refl _ _).alloc _).drewN _))).mono ?_
    rintro e w1 ⟨rfl, n3, rfl⟩
    go_wp2_with fail
    refine (f2.out _ (T.kept (((Upd.refl _ _).alloc _).drewN _))).mono ?_
    rintro e w1 ⟨rfl, n4, rfl⟩
    go_wp2
    go_ret2
    exact ⟨rfl, ((Upd.refl _ _).alloc _).drewN _⟩
theorem wordI_no {v r t : Bool} {f : Int} (h : rightB v r t f = false) : wordI v r t f = 0 := by unfold wordI; rw [if_neg (by rw [h]; decide)]
theorem wordI_yes {r t : Bool} {f : Int} (h : rightB true r t f = true) : wordI true r t f = 256 * f + 1 + bI r 2 + bI t 4 := by unfold wordI; rw [if_pos h, if_pos rfl]; omega
theorem eword_any (v r t : Bool) (f : Int) (w : World) (T : Tab w) (hw : (Lit.int .i64 f).wf = true) :
    Calls Tryd.prog 26 #[entV v r t f] w fun e w' => e = .returned (.tuple #[.int .u64 (wordI v r t f), .int .i64 (wordE v r t f)]) ∧ Upd (fun _ => False) w w' := by
  have hb := bounds_i64 hw
  cases h : rightB v r t f
  · rw [wordI_no h, show wordE v r t f = 1 from by unfold wordE; rw [h]; rfl]
    cases v
    · exact eword_bad0 r t f w h
    · cases hrt : r && t
      · refine eword_bad2 r t f _ w T hrt rfl ?_
        rw [fit3]
        have := wrap_fits f 255 (by omega) (by omega) hb.1 hb.2
        simp only [this, decide_eq_false_iff_not]
        simpa [rightB, hrt] using h
      · obtain ⟨rfl, rfl⟩ : r = true ∧ t = true := by simpa using hrt
        exact eword_bad1 f w
  · rw [show wordE v r t f = 0 from by unfold wordE; rw [h]; rfl]
    cases v
    · obtain ⟨⟨rfl, rfl⟩, rfl⟩ : (r = false ∧ t = false) ∧ f = 0 := by simpa [rightB] using h
      exact eword_zero w
    · rw [wordI_yes h]
      have h' : (0 ≤ f ∧ f ≤ 255) ∧ (r && t) = false := by revert h; cases r <;> cases t <;> simp [rightB]
      exact eword_yes r t f w T h'.2 h'.1.1 h'.1.2
end Go.Proofs.YtbakhipabeaojaaDoor
