/-
  Contracts of package bits' Log, Align, Count.
-/
import Derived.Test.YtjaipmehnjkpgaaBitsA
namespace Go.Proofs.Ytjaipmehnjkpgaa
open Go.ChangeShapes Go.WideShapes Go.ChangeAt Go.RowKit

def logI (n : Int) : Int := (M.logN n.toNat : Int)

theorem wrap_pow (k : Nat) (h : k ≤ 63) : IntKind.u64.wrap (2 ^ k) = 2 ^ k := by
  revert k; decide +kernel

set_option maxHeartbeats 400000 in
theorem log_any (n : Int) (w : World) (hn : n ≤ 9223372036854775807) :
    Calls Try.prog 14 #[.int .i64 n] w fun e w' => e = .returned (.int .i64 (logI n)) ∧ w = w' := by
  by_cases h1 : n < 1
  · have hv := Lib.hid (show logI n = 0 from by unfold logI; rw [M.logN_one (by omega)]; rfl)
    go_enter Try.func14, Try.ntmps14
    go_wp2
    go_ret
    exact ⟨by rw [hv.out]; rfl, rfl⟩
  · obtain ⟨m, rfl⟩ := Int.eq_ofNat_of_zero_le (by omega : 0 ≤ n)
    go_enter Try.func14, Try.ntmps14
    go_wp2
    go_loop [3] (fun t => ∃ k : Nat, k ≤ 63 ∧ (k = 0 ∨ 2 ^ (k - 1) < m) ∧ t = .int .i64 k) (fun t => 64 - (intOf t).toNat)
    case atStart => exact ⟨0, by omega, .inl rfl, rfl⟩
    case round =>
      obtain ⟨k, hk, hlow, rfl⟩ := hrel
      have hwr := wrap_pow k hk
      by_cases hlt : 2 ^ k < m
      · have hlt' : (IntKind.u64.wrap (2 ^ k) : Int) < (m : Int) := by rw [hwr]; exact_mod_cast hlt
        have hk2 : k < 63 := by
          by_cases h : k < 63
          · exact h
          · have e : k = 63 := by omega
            rw [e] at hlt; omega
        clear hwr
        go_wp2
        exact ⟨⟨k + 1, by omega, .inr hlt, by go_num⟩, by simp [intOf]; omega⟩
      · have hlt' : (m : Int) ≤ (IntKind.u64.wrap (2 ^ k) : Int) := by rw [hwr]; exact_mod_cast (by omega : m ≤ 2 ^ k)
        have hv := Lib.hid (show logI m = k from by unfold logI; rw [Int.toNat_natCast, M.logN_of (by omega) hlow])
        clear hwr
        go_wp2
        go_ret
        exact ⟨by rw [hv.out]; rfl, rfl⟩

def alignI (n o : Int) : Int := if 0 ≤ n ∧ 0 ≤ o ∧ o ≤ 30 then n - n % 2 ^ o.toNat else n
theorem wrapi_pow (k : Nat) (h : k ≤ 30) : IntKind.i64.wrap (2 ^ k) = 2 ^ k := by
  revert k; decide +kernel
theorem pow_bd (k : Nat) (h : k ≤ 30) : (1 : Int) ≤ 2 ^ k ∧ (2 : Int) ^ k ≤ 1073741824 := by
  revert k; decide +kernel
set_option maxHeartbeats 400000 in
theorem align_any (n o : Int) (w : World) (hn : n ≤ 9223372036854775807) :
    Calls Try.prog 16 #[.int .i64 n, .int .i64 o] w fun e w' => e = .returned (.int .i64 (alignI n o)) ∧ w = w' := by
  by_cases h1 : n < 0
  · have hv := Lib.hid (show alignI n o = n from by unfold alignI; rw [if_neg (by omega)])
    go_enter Try.func16, Try.ntmps16
    go_wp2
    go_ret
    exact ⟨by rw [hv.out]; rfl, rfl⟩
  · by_cases h2 : 0 ≤ o ∧ o ≤ 30
    · obtain ⟨h3, h4⟩ := h2
      have hb : withinB o 0 30 = true := by simp [withinB]; omega
      have hv := Lib.hid (show alignI n o = n - n % 2 ^ o.toNat from by unfold alignI; rw [if_pos (by omega)])
      obtain ⟨k, rfl⟩ := Int.eq_ofNat_of_zero_le h3
      have hwr := wrapi_pow k (by omega)
      have hpb := pow_bd k (by omega)
      go_enter Try.func16, Try.ntmps16
      go_wp2_with (go_at_call 25; refine (within_int _ _ _ _).mono ?_; rintro e w' ⟨rfl, rfl⟩)
      go_ret
      exact ⟨by rw [hv.out]; rfl, rfl⟩
    · have hb : withinB o 0 30 = false := by simp [withinB]; omega
      have hv := Lib.hid (show alignI n o = n from by unfold alignI; rw [if_neg (by omega)])
      go_enter Try.func16, Try.ntmps16
      go_wp2_with (go_at_call 25; refine (within_int _ _ _ _).mono ?_; rintro e w' ⟨rfl, rfl⟩)
      go_ret
      exact ⟨by rw [hv.out]; rfl, rfl⟩

theorem bit_and (m k : Nat) (hm : m < 18446744073709551616) : bits BinOp.and IntKind.u64 ((m : Int) / 2 ^ k) 1 = ((m / 2 ^ k % 2 : Nat) : Int) := by
  have e := div_nat m k (by omega)
  rw [Int.toNat_natCast, Int.toNat_natCast] at e
  rw [e, show (1 : Int) = ((1 : Nat) : Int) from rfl, u64_and_nat _ _ (Nat.lt_of_le_of_lt (Nat.div_le_self _ _) hm) (by decide), nat_mask1]
def countI (x : Int) : Int := (M.cntTo x.toNat 64 : Int)
set_option maxHeartbeats 400000 in
theorem count_any (x : Int) (w : World) (hx0 : 0 ≤ x) (hx : x < 18446744073709551616) :
    Calls Try.prog 18 #[.int .u64 x] w fun e w' => e = .returned (.int .i64 (countI x)) ∧ w = w' := by
  obtain ⟨m, rfl⟩ := Int.eq_ofNat_of_zero_le hx0
  go_enter Try.func18, Try.ntmps18
  go_wp2
  go_loop [3, 5] (fun n t => ∃ k : Nat, k ≤ 64 ∧ t = .int .i64 k ∧ n = .int .i64 (M.cntTo m k : Int)) (fun _ t => 64 - (intOf t).toNat)
  case atStart => exact ⟨0, by omega, rfl, rfl⟩
  case round =>
    obtain ⟨k, hk, rfl, rfl⟩ := hrel
    have hc := M.cntTo_le m k
    by_cases hlt : k < 64
    · have hs := Lib.hid (M.cntTo_succ m k)
      have hb := Lib.hid (bit_and m k (by omega))
      generalize M.cntTo m k = c at *
      clear hx hx0
      go_wp2
      refine ⟨⟨k + 1, by omega, by go_num, ?_⟩, by simp [intOf]; omega⟩
      have h2 : m / 2 ^ k % 2 < 2 := Nat.mod_lt _ (by decide)
      rw [hb.out, hs.out]
      generalize m / 2 ^ k % 2 = z at *
      congr 1
      unfold wrap64
      omega
    · have e : k = 64 := by omega
      subst e
      have hv := Lib.hid (show countI m = (M.cntTo m 64 : Int) from rfl)
      generalize M.cntTo m 64 = c at *
      go_wp2
      go_ret
      exact ⟨by rw [hv.out]; rfl, rfl⟩
end Go.Proofs.Ytjaipmehnjkpgaa
