/-
  Contracts of package bits' small functions: within, isField, ones, Get, Put.
-/
import Derived.Test.YtbakhipabeaojaaDoorKit
import Derived.Test.YtbakhipabeaojaaDoorBitsM
namespace Go.Proofs.YtbakhipabeaojaaDoor
open Go.ChangeShapes Go.WideShapes Go.ChangeAt Go.RowKit

theorem ones_val (m : Int) (h1 : 1 ≤ m) (h2 : m ≤ 64) : (18446744073709551615 : Int) / 2 ^ (64 - m).toNat = 2 ^ m.toNat - 1 := by
  obtain ⟨k, rfl⟩ := Int.eq_ofNat_of_zero_le (by omega : 0 ≤ m)
  have hk : k ≤ 64 := by omega
  clear h1 h2
  revert k
  decide +kernel

def onesI (m : Int) : Int := 2 ^ m.toNat - 1

set_option maxHeartbeats 400000 in
theorem ones_any (m : Int) (w : World) (h1 : 1 ≤ m) (h2 : m ≤ 64) :
    Calls Tryd.prog 44 #[.int .i64 m] w fun e w' => e = .returned (.int .u64 (onesI m)) ∧ w = w' := by
  have hv := Lib.hid (ones_val m h1 h2)
  go_enter Tryd.func44, Tryd.ntmps44
  go_wp2
  go_ret
  exact ⟨by rw [hv.out]; rfl, rfl⟩

def withinB (x a b : Int) : Bool := decide (a ≤ x ∧ x ≤ b)

set_option maxHeartbeats 400000 in
theorem within_int (x a b : Int) (w : World) :
    Calls Tryd.prog 46 #[.int .i64 x, .int .i64 a, .int .i64 b] w fun e w' => e = .returned (.bool (withinB x a b)) ∧ w = w' := by
  by_cases h : a ≤ x
  · have hv := Lib.hid (show decide (x ≤ b) = withinB x a b from by simp [withinB, h])
    go_enter Tryd.func46, Tryd.ntmps46
    go_wp2
    go_ret
    exact ⟨by rw [← hv.out]; rfl, rfl⟩
  · have hv := Lib.hid (show false = withinB x a b from by simp [withinB, h])
    go_enter Tryd.func46, Tryd.ntmps46
    go_wp2
    go_ret
    exact ⟨by rw [← hv.out]; rfl, rfl⟩
theorem within_u64 (x a b : Int) (w : World) :
    Calls Tryd.prog 45 #[.int .u64 x, .int .u64 a, .int .u64 b] w fun e w' => e = .returned (.bool (withinB x a b)) ∧ w = w' := by
  by_cases h : a ≤ x
  · have hv := Lib.hid (show decide (x ≤ b) = withinB x a b from by simp [withinB, h])
    go_enter Tryd.func45, Tryd.ntmps45
    go_wp2
    go_ret
    exact ⟨by rw [← hv.out]; rfl, rfl⟩
  · have hv := Lib.hid (show false = withinB x a b from by simp [withinB, h])
    go_enter Tryd.func45, Tryd.ntmps45
    go_wp2
    go_ret
    exact ⟨by rw [← hv.out]; rfl, rfl⟩

def fieldB (f m : Int) : Bool := decide (1 ≤ m ∧ m ≤ 64 ∧ 0 ≤ f ∧ f + m ≤ 64)

set_option maxHeartbeats 400000 in
theorem isField_any (f m : Int) (w : World) :
    Calls Tryd.prog 43 #[.int .i64 f, .int .i64 m] w fun e w' => e = .returned (.bool (fieldB f m)) ∧ w = w' := by
  by_cases h : 1 ≤ m ∧ m ≤ 64
  · have hb : withinB m 1 64 = true := by simp [withinB]; omega
    obtain ⟨h1, h2⟩ := h
    have hc := Lib.hid (show withinB f 0 (64 - m) = fieldB f m from by rw [Bool.eq_iff_iff]; simp [withinB, fieldB]; omega)
    go_enter Tryd.func43, Tryd.ntmps43
    go_wp2_with (go_at_call 46; refine (within_int _ _ _ _).mono ?_; rintro e w' ⟨rfl, rfl⟩)
    go_ret
    exact ⟨by rw [← hc.out]; rfl, rfl⟩
  · have hb : withinB m 1 64 = false := by simp [withinB]; omega
    have hc := Lib.hid (show false = fieldB f m from by simp [fieldB]; omega)
    go_enter Tryd.func43, Tryd.ntmps43
    go_wp2_with (go_at_call 46; refine (within_int _ _ _ _).mono ?_; rintro e w' ⟨rfl, rfl⟩)
    go_ret
    exact ⟨by rw [← hc.out]; rfl, rfl⟩

/-- Get's number, over the walk's integers -/
def getI (x f m : Int) : Int := (M.getN x.toNat f.toNat m.toNat : Int)
/-- Put's number -/
def putI (x y f m : Int) : Int := (M.putN x.toNat y.toNat f.toNat m.toNat : Int)

theorem onesI_nat (m : Int) : onesI m = ((2 ^ m.toNat - 1 : Nat) : Int) := by
  unfold onesI
  have := Nat.two_pow_pos m.toNat
  rw [Int.natCast_sub (by omega)]; simp
theorem ones_lt (m : Nat) (h : m ≤ 64) : 2 ^ m - 1 < 18446744073709551616 := by
  have := Nat.pow_le_pow_right (n := 2) (by decide) h
  rw [M.pow64] at this; omega
theorem div_nat (x f : Int) (hx0 : 0 ≤ x) : x / 2 ^ f.toNat = ((x.toNat / 2 ^ f.toNat : Nat) : Int) := by
  rw [Int.natCast_ediv, Int.toNat_of_nonneg hx0]; simp
theorem get_bits (x f m : Int) (h2 : m ≤ 64) (hx0 : 0 ≤ x) (hx : x < 18446744073709551616) :
    bits BinOp.and IntKind.u64 (x / 2 ^ f.toNat) (onesI m) = getI x f m := by
  rw [onesI_nat, div_nat x f hx0, u64_and_nat _ _ (Nat.lt_of_le_of_lt (Nat.div_le_self _ _) (by omega)) (ones_lt _ (by omega)), M.and_get]; rfl

set_option maxHeartbeats 400000 in
theorem get_yes (x f m : Int) (w : World) (h : fieldB f m = true) (hx0 : 0 ≤ x) (hx : x < 18446744073709551616) :
    Calls Tryd.prog 41 #[.int .u64 x, .int .i64 f, .int .i64 m] w fun e w' => e = .returned (.tuple #[.int .u64 (getI x f m), .bool true]) ∧ ∃ n, w' = w.drewN n := by
  obtain ⟨h1, h2, h3, h4⟩ := of_decide_eq_true h
  have hv := Lib.hid (get_bits x f m h2 hx0 hx)
  go_enter Tryd.func41, Tryd.ntmps41
  go_wp2_with (go_at_call 43; refine (isField_any _ _ _).mono ?_; rintro e w' ⟨rfl, rfl⟩)
  go_quiet ((go_at_call 44; exact still0 (ones_any _ _ h1 h2)))
  go_wp2
  go_ret2
  exact ⟨by rw [← hv.out]; rfl, _, rfl⟩
set_option maxHeartbeats 400000 in
theorem get_no (x f m : Int) (w : World) (h : fieldB f m = false) :
    Calls Tryd.prog 41 #[.int .u64 x, .int .i64 f, .int .i64 m] w fun e w' => e = .returned (.tuple #[.int .u64 0, .bool false]) ∧ w = w' := by
  go_enter Tryd.func41, Tryd.ntmps41
  go_wp2_with (go_at_call 43; refine (isField_any _ _ _).mono ?_; rintro e w' ⟨rfl, rfl⟩)
  go_ret2
  exact ⟨rfl, rfl⟩

/-- does it fit? -/
def fitsB (y m : Int) : Bool := withinB y 0 (onesI m)
set_option maxHeartbeats 400000 in
theorem put_no1 (x y f m : Int) (w : World) (h : fieldB f m = false) :
    Calls Tryd.prog 42 #[.int .u64 x, .int .u64 y, .int .i64 f, .int .i64 m] w fun e w' => e = .returned (.tuple #[.int .u64 0, .bool false]) ∧ w = w' := by
  go_enter Tryd.func42, Tryd.ntmps42
  go_wp2_with (go_at_call 43; refine (isField_any _ _ _).mono ?_; rintro e w' ⟨rfl, rfl⟩)
  go_ret2
  exact ⟨rfl, rfl⟩
set_option maxHeartbeats 400000 in
theorem put_no2 (x y f m : Int) (w : World) (h : fieldB f m = true) (hy : withinB y 0 (onesI m) = false) :
    Calls Tryd.prog 42 #[.int .u64 x, .int .u64 y, .int .i64 f, .int .i64 m] w fun e w' => e = .returned (.tuple #[.int .u64 0, .bool false]) ∧ w = w' := by
  obtain ⟨h1, h2, h3, h4⟩ := of_decide_eq_true h
  go_enter Tryd.func42, Tryd.ntmps42
  go_wp2_with (first
    | (go_at_call 43; refine (isField_any _ _ _).mono ?_; rintro e w' ⟨rfl, rfl⟩)
    | (go_at_call 44; refine (ones_any _ _ h1 h2).mono ?_; rintro e w' ⟨rfl, rfl⟩)
    | (go_at_call 45; refine (within_u64 _ _ _ _).mono ?_; rintro e w' ⟨rfl, rfl⟩))
  go_ret2
  exact ⟨rfl, rfl⟩
theorem shl_lt (a f m : Nat) (ha : a < 2 ^ m) (h : f + m ≤ 64) : a * 2 ^ f < 18446744073709551616 := by
  have h1 : a * 2 ^ f < 2 ^ m * 2 ^ f := Nat.mul_lt_mul_of_pos_right ha (Nat.two_pow_pos f)
  rw [← Nat.pow_add] at h1
  have h2 := Nat.pow_le_pow_right (n := 2) (by decide) (show m + f ≤ 64 by omega)
  rw [M.pow64] at h2; omega
theorem shl_nat (y f : Int) (m : Nat) (hy0 : 0 ≤ y) (hy : y.toNat < 2 ^ m) (h : f.toNat + m ≤ 64) : IntKind.u64.wrap (y * 2 ^ f.toNat) = ((y.toNat * 2 ^ f.toNat : Nat) : Int) := by
  have e : y * 2 ^ f.toNat = ((y.toNat * 2 ^ f.toNat : Nat) : Int) := by rw [Int.natCast_mul, Int.toNat_of_nonneg hy0]; simp
  have := shl_lt y.toNat f.toNat m hy h
  rw [e, IntKind.wrap_u64]; omega
theorem fits_lt (y m : Int) (hy : withinB y 0 (onesI m) = true) : 0 ≤ y ∧ y.toNat < 2 ^ m.toNat := by
  obtain ⟨h1, h2⟩ := of_decide_eq_true hy
  rw [onesI_nat] at h2
  have := Nat.two_pow_pos m.toNat
  omega
theorem put_bits (x y f m : Int) (h : fieldB f m = true) (hy : withinB y 0 (onesI m) = true) (hx0 : 0 ≤ x) (hx : x < 18446744073709551616) :
    bits BinOp.or IntKind.u64 (bits BinOp.andNot IntKind.u64 x (IntKind.u64.wrap (onesI m * 2 ^ f.toNat))) (IntKind.u64.wrap (y * 2 ^ f.toNat)) = putI x y f m := by
  obtain ⟨h1, h2, h3, h4⟩ := of_decide_eq_true h
  obtain ⟨y0, y1⟩ := fits_lt y m hy
  have p := Nat.two_pow_pos m.toNat
  have ho := onesI_nat m
  have e1 := shl_nat (onesI m) f m.toNat (by omega) (by rw [ho]; omega) (by omega)
  have e2 := shl_nat y f m.toNat y0 y1 (by omega)
  have l1 := shl_lt (onesI m).toNat f.toNat m.toNat (by rw [ho]; omega) (by omega)
  have l2 := shl_lt y.toNat f.toNat m.toNat y1 (by omega)
  have et : (onesI m).toNat = 2 ^ m.toNat - 1 := by rw [ho]; omega
  obtain ⟨n, rfl⟩ := Int.eq_ofNat_of_zero_le hx0
  rw [e1, e2, u64_andNot_nat n _ (by omega) l1, u64_or_nat _ _ (Nat.lt_of_le_of_lt Nat.and_le_left (by omega)) l2, et, M.andNot_or n y.toNat f.toNat m.toNat (by omega) y1 (by omega)]
  rfl
set_option maxHeartbeats 400000 in
theorem put_yes (x y f m : Int) (w : World) (h : fieldB f m = true) (hy : withinB y 0 (onesI m) = true) (hx0 : 0 ≤ x) (hx : x < 18446744073709551616) :
    Calls Tryd.prog 42 #[.int .u64 x, .int .u64 y, .int .i64 f, .int .i64 m] w fun e w' => e = .returned (.tuple #[.int .u64 (putI x y f m), .bool true]) ∧ ∃ n, w' = w.drewN n := by
  obtain ⟨h1, h2, h3, h4⟩ := of_decide_eq_true h
  have hv := Lib.hid (put_bits x y f m h hy hx0 hx)
  go_enter Tryd.func42, Tryd.ntmps42
  go_wp2_with (first
    | (go_at_call 43; refine (isField_any _ _ _).mono ?_; rintro e w' ⟨rfl, rfl⟩)
    | (go_at_call 44; refine (ones_any _ _ h1 h2).mono ?_; rintro e w' ⟨rfl, rfl⟩)
    | (go_at_call 45; refine (within_u64 _ _ _ _).mono ?_; rintro e w' ⟨rfl, rfl⟩))
  go_quiet ((go_at_call 44; exact still0 (ones_any _ _ h1 h2)))
  go_wp2
  go_ret2
  exact ⟨by rw [← hv.out]; rfl, _, rfl⟩

/-! bounds that callers want -/
theorem getI_bd (x f m : Int) (h : fieldB f m = true) : 0 ≤ getI x f m ∧ getI x f m < 18446744073709551616 := by
  obtain ⟨h1, h2, h3, h4⟩ := of_decide_eq_true h
  have := M.getN_lt64 x.toNat f.toNat m.toNat (by omega)
  unfold getI; omega
theorem putI_bd (x y f m : Int) (h : fieldB f m = true) (hy : withinB y 0 (onesI m) = true) (hx0 : 0 ≤ x) (hx : x < 18446744073709551616) : 0 ≤ putI x y f m ∧ putI x y f m < 18446744073709551616 := by
  obtain ⟨h1, h2, h3, h4⟩ := of_decide_eq_true h
  obtain ⟨y0, y1⟩ := fits_lt y m hy
  have := M.putN_lt64 x.toNat y.toNat f.toNat m.toNat y1 (by omega) (by omega)
  unfold putI; omega

end Go.Proofs.YtbakhipabeaojaaDoor
