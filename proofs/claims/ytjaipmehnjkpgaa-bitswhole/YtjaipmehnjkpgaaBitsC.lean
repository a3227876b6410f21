/-
  Contracts of the document's own answers for bits: power, field, Get, Put, Log, Align, Count.
-/
import Derived.Test.YtjaipmehnjkpgaaBitsB
import Derived.IntWalk
namespace Go.Proofs.Ytjaipmehnjkpgaa
open Go.ChangeShapes Go.WideShapes Go.ChangeAt Go.RowKit

theorem wrap_dbl (k : Nat) (h : k < 63) : IntKind.u64.wrap (2 ^ k * 2) = 2 ^ (k + 1) := by
  revert k; decide +kernel

/-- 2 to the power of n -/
def powI (n : Int) : Int := 2 ^ n.toNat
theorem powI_pos (n : Int) : 1 ≤ powI n := by
  have := Nat.two_pow_pos n.toNat
  unfold powI
  exact_mod_cast this
set_option maxHeartbeats 400000 in
theorem power_any (n : Int) (w : World) (h0 : 0 ≤ n) (h1 : n ≤ 63) :
    Calls Try.prog 23 #[.int .i64 n] w fun e w' => e = .returned (.int .u64 (powI n)) ∧ w = w' := by
  obtain ⟨m, rfl⟩ := Int.eq_ofNat_of_zero_le h0
  go_enter Try.func23, Try.ntmps23
  go_wp2
  go_loop [3, 4] (fun p t => ∃ k : Nat, k ≤ m ∧ t = .int .i64 k ∧ p = .int .u64 (2 ^ k)) (fun _ t => m - (intOf t).toNat)
  case atStart => exact ⟨0, by omega, rfl, rfl⟩
  case round =>
    obtain ⟨k, hk, rfl, rfl⟩ := hrel
    by_cases hlt : k < m
    · have hd := Lib.hid (wrap_dbl k (by omega))
      generalize hp : (2 : Int) ^ k = p at *
      have hp' := Lib.hid hp
      clear hp
      go_wp2
      exact ⟨⟨k + 1, by omega, by go_num, by rw [hd.out]⟩, by simp [intOf]; omega⟩
    · have e : k = m := by omega
      subst e
      go_wp2
      go_ret
      exact ⟨rfl, rfl⟩

set_option maxHeartbeats 400000 in
theorem field_any (f m : Int) (w : World) :
    Calls Try.prog 22 #[.int .i64 f, .int .i64 m] w fun e w' => e = .returned (.bool (fieldB f m)) ∧ w = w' := by
  by_cases h1 : 0 ≤ f
  · by_cases h2 : f ≤ 63
    · by_cases h3 : 1 ≤ m
      · by_cases h4 : m ≤ 64
        · have hv := Lib.hid (show fieldB f m = decide (f + m ≤ 64) from by unfold fieldB; rw [Bool.eq_iff_iff]; simp; omega)
          go_enter Try.func22, Try.ntmps22
          go_wp2
          go_ret
          exact ⟨by rw [hv.out]; rfl, rfl⟩
        · have hv := Lib.hid (show fieldB f m = false from by simp [fieldB]; omega)
          go_enter Try.func22, Try.ntmps22
          go_wp2
          go_ret
          exact ⟨by rw [hv.out]; rfl, rfl⟩
      · have hv := Lib.hid (show fieldB f m = false from by simp [fieldB]; omega)
        go_enter Try.func22, Try.ntmps22
        go_wp2
        go_ret
        exact ⟨by rw [hv.out]; rfl, rfl⟩
    · have hv := Lib.hid (show fieldB f m = false from by simp [fieldB]; omega)
      go_enter Try.func22, Try.ntmps22
      go_wp2
      go_ret
      exact ⟨by rw [hv.out]; rfl, rfl⟩
  · have hv := Lib.hid (show fieldB f m = false from by simp [fieldB]; omega)
    go_enter Try.func22, Try.ntmps22
    go_wp2
    go_ret
    exact ⟨by rw [hv.out]; rfl, rfl⟩

theorem refGet_no (x f m : Int) (w : World) (h : fieldB f m = false) :
    Calls Try.prog 11 #[.int .u64 x, .int .i64 f, .int .i64 m] w fun e w' => e = .returned (.tuple #[.int .u64 0, .bool false]) ∧ w = w' := by
  go_enter Try.func11, Try.ntmps11
  go_wp2_with (go_at_call 22; refine (field_any _ _ _).mono ?_; rintro e w' ⟨rfl, rfl⟩)
  go_ret2
  exact ⟨rfl, rfl⟩
theorem powI_nat (k : Nat) : powI (k : Int) = ((2 ^ k : Nat) : Int) := by unfold powI; rw [Int.toNat_natCast]; simp
theorem powI_nat2 (a b : Nat) : powI ((a : Int) + (b : Int)) = ((2 ^ (a + b) : Nat) : Int) := powI_nat (a + b)
theorem u64_id (n : Nat) (h : n < 18446744073709551616) : IntKind.u64.wrap (n : Int) = (n : Int) := by rw [IntKind.wrap_u64]; omega
theorem bit_term (X j : Nat) (hX : X < 18446744073709551616) : (IntKind.u64.wrap ((X : Int) / powI (j : Int))).tmod 2 = ((X / 2 ^ j % 2 : Nat) : Int) := by
  have : X / 2 ^ j ≤ X := Nat.div_le_self _ _
  rw [powI_nat, ← Int.natCast_ediv, u64_id _ (Nat.lt_of_le_of_lt this hX)]
  exact IntWalk.rem_in _ _ (Int.natCast_nonneg _)
theorem sum_term (c z k n : Nat) (hn : n < 18446744073709551616) (e : n = c + z * 2 ^ k) :
    IntKind.u64.wrap ((c : Int) + IntKind.u64.wrap ((z : Int) * powI (k : Int))) = (n : Int) := by
  rw [powI_nat, ← Int.natCast_mul]
  generalize z * 2 ^ k = t at *
  rw [u64_id _ (by omega), ← Int.natCast_add, ← e, u64_id _ hn]
theorem get_step (X F k : Nat) (hX : X < 18446744073709551616) (_h : F + k < 64) :
    IntKind.u64.wrap ((M.getN X F k : Int) + IntKind.u64.wrap ((IntKind.u64.wrap ((X : Int) / powI ((F : Int) + (k : Int)))).tmod 2 * powI (k : Int))) = (M.getN X F (k + 1) : Int) := by
  rw [show (F : Int) + (k : Int) = ((F + k : Nat) : Int) from rfl, bit_term X (F + k) hX]
  apply sum_term
  · have h1 : M.getN X F (k + 1) ≤ X / 2 ^ F := Nat.mod_le _ _
    have h2 : X / 2 ^ F ≤ X := Nat.div_le_self _ _
    omega
  · unfold M.getN
    rw [Nat.mod_pow_succ, Nat.div_div_eq_div_mul, ← Nat.pow_add, Nat.mul_comm]
set_option maxHeartbeats 400000 in
theorem refGet_yes (x f m : Int) (w : World) (h : fieldB f m = true) (hx0 : 0 ≤ x) (hx : x < 18446744073709551616) :
    Calls Try.prog 11 #[.int .u64 x, .int .i64 f, .int .i64 m] w fun e w' => e = .returned (.tuple #[.int .u64 (getI x f m), .bool true]) ∧ ∃ n, w' = w.drewN n := by
  obtain ⟨h1, h2, h3, h4⟩ := of_decide_eq_true h
  obtain ⟨F, rfl⟩ := Int.eq_ofNat_of_zero_le h3
  obtain ⟨L, rfl⟩ := Int.eq_ofNat_of_zero_le (by omega : 0 ≤ m)
  obtain ⟨X, rfl⟩ := Int.eq_ofNat_of_zero_le hx0
  have HX := Lib.hid hx
  clear hx hx0
  go_enter Try.func11, Try.ntmps11
  go_wp2_with (go_at_call 22; refine (field_any _ _ _).mono ?_; rintro e w' ⟨rfl, rfl⟩)
  go_loopw [8, 9] (fun n t w' => ∃ k : Nat, k ≤ L ∧ t = .int .i64 k ∧ n = .int .u64 (M.getN X F k : Int) ∧ ∃ q, w' = w.drewN q) (fun _ t _ => L - (intOf t).toNat)
  case atStart => exact ⟨0, by omega, rfl, by unfold M.getN; rw [Nat.pow_zero, Nat.mod_one]; rfl, 0, rfl⟩
  case round =>
    obtain ⟨k, hk, rfl, rfl, q, rfl⟩ := hrel
    by_cases hlt : k < L
    · have p1 := powI_pos ((F : Int) + (k : Int))
      have p2 := powI_pos (k : Int)
      have hs : IntKind.i64.wrap ((F : Int) + (k : Int)) = (F : Int) + (k : Int) := IntWalk.i64_in _ (by omega)
      have HS := Lib.hid (get_step X F k (by have := HX.out; omega) (by omega))
      generalize M.getN X F k = c at *
      go_wp2_with fail
      go_quiet ((go_at_call 23; exact still1 (power_any _ _ (by omega) (by omega))))
      go_wp2
      exact ⟨⟨k + 1, by omega, by go_num, by rw [HS.out], _, rfl⟩, by simp [intOf]; omega⟩
    · have e : k = L := by omega
      subst e
      go_wp2
      go_ret2
      exact ⟨rfl, _, rfl⟩

theorem refPut_no1 (x y f m : Int) (w : World) (h : fieldB f m = false) :
    Calls Try.prog 13 #[.int .u64 x, .int .u64 y, .int .i64 f, .int .i64 m] w fun e w' => e = .returned (.tuple #[.int .u64 0, .bool false]) ∧ w = w' := by
  go_enter Try.func13, Try.ntmps13
  go_wp2_with (go_at_call 22; refine (field_any _ _ _).mono ?_; rintro e w' ⟨rfl, rfl⟩)
  go_ret2
  exact ⟨rfl, rfl⟩
theorem ones_pow (m : Int) : onesI m = powI m - 1 := rfl
theorem refPut_no2 (x y f m : Int) (w : World) (h : fieldB f m = true) (hy : withinB y 0 (onesI m) = false) (hy0 : 0 ≤ y) (hy1 : y < 18446744073709551616) :
    Calls Try.prog 13 #[.int .u64 x, .int .u64 y, .int .i64 f, .int .i64 m] w fun e w' => e = .returned (.tuple #[.int .u64 0, .bool false]) ∧ w = w' := by
  obtain ⟨h1, h2, h3, h4⟩ := of_decide_eq_true h
  have hm : m < 64 := by
    have := of_decide_eq_false hy
    have e : onesI 64 = 18446744073709551615 := by decide
    by_cases hh : m < 64
    · exact hh
    · have hh2 : m = 64 := by omega
      rw [hh2, e] at this; omega
  have hp : powI m ≤ y := by
    have := of_decide_eq_false hy
    rw [ones_pow] at this; omega
  clear hy1
  go_enter Try.func13, Try.ntmps13
  go_wp2_with (first
    | (go_at_call 22; refine (field_any _ _ _).mono ?_; rintro e w' ⟨rfl, rfl⟩)
    | (go_at_call 23; refine (power_any _ _ (by omega) (by omega)).mono ?_; rintro e w' ⟨rfl, rfl⟩))
  go_ret2
  exact ⟨rfl, rfl⟩
/-- the bit that the document's Put adds in round k -/
theorem put_term (X Y F L k : Nat) (hY : Y < 2 ^ L) : M.putN X Y F L / 2 ^ k % 2 = if F ≤ k ∧ k < F + L then Y / 2 ^ (k - F) % 2 else X / 2 ^ k % 2 := by
  rw [M.bit_div, M.putN_bit _ _ _ _ _ hY, M.bit_div, M.bit_div]
  by_cases h1 : k < F
  · rw [if_pos h1, if_neg (by omega)]
  · by_cases h2 : k < F + L
    · rw [if_neg h1, if_pos h2, if_pos ⟨by omega, h2⟩]
    · rw [if_neg h1, if_neg h2, if_neg (by omega)]
theorem put_step (P k z : Nat) (hP : P < 18446744073709551616) (hz : P / 2 ^ k % 2 = z) :
    IntKind.u64.wrap (((P % 2 ^ k : Nat) : Int) + IntKind.u64.wrap ((z : Int) * powI (k : Int))) = ((P % 2 ^ (k + 1) : Nat) : Int) := by
  apply sum_term
  · have := Nat.mod_le P (2 ^ (k + 1)); omega
  · rw [Nat.mod_pow_succ, hz, Nat.mul_comm]
set_option maxRecDepth 100000 in
set_option maxHeartbeats 1000000 in
theorem refPut_nat (X Y F L P : Nat) (w : World) (h : fieldB F L = true) (hp : (Y : Int) < powI L) (h1 : 1 ≤ L) (h2 : L ≤ 64) (h4 : F + L ≤ 64)
    (HX : Hid (X < 18446744073709551616)) (HY : Hid (Y < 18446744073709551616)) (HP : Hid (P < 18446744073709551616)) (HT : Hid (∀ k, P / 2 ^ k % 2 = if F ≤ k ∧ k < F + L then Y / 2 ^ (k - F) % 2 else X / 2 ^ k % 2)) :
    Calls Try.prog 13 #[.int .u64 X, .int .u64 Y, .int .i64 F, .int .i64 L] w fun e w' => e = .returned (.tuple #[.int .u64 P, .bool true]) ∧ w = w' := by
  by_cases hL : L < 64
  all_goals
    go_enter Try.func13, Try.ntmps13
    go_wp2_with (first
      | (go_at_call 22; refine (field_any _ _ _).mono ?_; rintro e w' ⟨rfl, rfl⟩)
      | (go_at_call 23; refine (power_any _ _ (by omega) (by omega)).mono ?_; rintro e w' ⟨rfl, rfl⟩))
    go_loop [10, 11] (fun n t => ∃ k : Nat, k ≤ 64 ∧ t = .int .i64 k ∧ n = .int .u64 ((P % 2 ^ k : Nat) : Int)) (fun _ t => 64 - (intOf t).toNat)
    case atStart => exact ⟨0, by omega, rfl, by rw [Nat.pow_zero, Nat.mod_one]; rfl⟩
    case round =>
      obtain ⟨k, hk, rfl, rfl⟩ := hrel
      by_cases hlt : k < 64
      · have p2 := powI_pos (k : Int)
        have p3 := powI_pos ((k : Int) - (F : Int))
        generalize hc : P % 2 ^ k = c
        have HC := Lib.hid hc
        clear hc
        by_cases hin : F ≤ k ∧ k < F + L
        · obtain ⟨hi1, hi2⟩ := hin
          go_wp2_with ((go_at_call 23; refine (power_any _ _ (by omega) (by omega)).mono ?_; rintro e w' ⟨rfl, rfl⟩))
          refine ⟨⟨k + 1, by omega, by go_num, ?_⟩, by simp [intOf]; omega⟩
          have hz := HT.out k
          rw [if_pos ⟨hi1, hi2⟩] at hz
          rw [show (k : Int) - (F : Int) = ((k - F : Nat) : Int) from by omega, bit_term Y (k - F) HY.out, ← HC.out, put_step P k _ HP.out hz]
        · have hz := HT.out k
          rw [if_neg hin] at hz
          have HZ := Lib.hid hz
          clear hz
          by_cases hi1 : k < F
          · clear hin
            go_wp2_with ((go_at_call 23; refine (power_any _ _ (by omega) (by omega)).mono ?_; rintro e w' ⟨rfl, rfl⟩))
            all_goals
              refine ⟨⟨k + 1, by omega, by go_num, ?_⟩, by simp [intOf]; omega⟩
              rw [bit_term X k HX.out, ← HC.out, put_step P k _ HP.out HZ.out]
          · have hi2 : F ≤ k := by omega
            have hi3 : F + L ≤ k := by omega
            clear hin hi1
            go_wp2_with ((go_at_call 23; refine (power_any _ _ (by omega) (by omega)).mono ?_; rintro e w' ⟨rfl, rfl⟩))
            all_goals
              refine ⟨⟨k + 1, by omega, by go_num, ?_⟩, by simp [intOf]; omega⟩
              rw [bit_term X k HX.out, ← HC.out, put_step P k _ HP.out HZ.out]
      · have e : k = 64 := by omega
        subst e
        have hc : P % 2 ^ 64 = P := Nat.mod_eq_of_lt (by rw [M.pow64]; exact HP.out)
        rw [hc]
        clear hc
        go_wp2
        go_ret2
        exact ⟨rfl, rfl⟩
theorem refPut_yes (x y f m : Int) (w : World) (h : fieldB f m = true) (hy : withinB y 0 (onesI m) = true) (hx0 : 0 ≤ x) (hx : x < 18446744073709551616) (hy1 : y < 18446744073709551616) :
    Calls Try.prog 13 #[.int .u64 x, .int .u64 y, .int .i64 f, .int .i64 m] w fun e w' => e = .returned (.tuple #[.int .u64 (putI x y f m), .bool true]) ∧ w = w' := by
  obtain ⟨h1, h2, h3, h4⟩ := of_decide_eq_true h
  obtain ⟨y0, y1⟩ := fits_lt y m hy
  have hp : y < powI m := by have := (of_decide_eq_true hy).2; rw [ones_pow] at this; omega
  obtain ⟨F, rfl⟩ := Int.eq_ofNat_of_zero_le h3
  obtain ⟨L, rfl⟩ := Int.eq_ofNat_of_zero_le (by omega : 0 ≤ m)
  obtain ⟨X, rfl⟩ := Int.eq_ofNat_of_zero_le hx0
  obtain ⟨Y, rfl⟩ := Int.eq_ofNat_of_zero_le y0
  rw [Int.toNat_natCast, Int.toNat_natCast] at y1
  exact refPut_nat X Y F L (M.putN X Y F L) w h hp (by omega) (by omega) (by omega) (Lib.hid (by omega)) (Lib.hid (by omega)) (Lib.hid (M.putN_lt64 X Y F L y1 (by omega) (by omega))) (Lib.hid (fun k => put_term X Y F L k y1))
end Go.Proofs.Ytjaipmehnjkpgaa
