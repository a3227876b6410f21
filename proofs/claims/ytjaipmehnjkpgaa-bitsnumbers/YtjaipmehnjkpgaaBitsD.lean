/-
  Contracts of the document's own Log, Align, Count; and the laws' awake.
-/
import Derived.Test.YtjaipmehnjkpgaaBitsC
namespace Go.Proofs.Ytjaipmehnjkpgaa
open Go.ChangeShapes Go.WideShapes Go.ChangeAt Go.RowKit

set_option maxHeartbeats 400000 in
theorem refLog_neg (n : Int) (w : World) (hn : n < 0) :
    Calls Try.prog 15 #[.int .i64 n] w fun e w' => e = .returned (.int .i64 0) ∧ w = w' := by
  have p0 := powI_pos 0
  go_enter Try.func15, Try.ntmps15
  go_wp2
  go_loop [3] (fun t => t = .int .i64 0) (fun _ => 0)
  case atStart => exact rfl
  case round =>
    subst hrel
    go_wp2_with ((go_at_call 23; refine (power_any _ _ (by omega) (by omega)).mono ?_; rintro e w' ⟨rfl, rfl⟩))
    go_ret
    exact ⟨rfl, rfl⟩
set_option maxHeartbeats 400000 in
theorem refLog_nat (m : Nat) (w : World) (hn : m ≤ 9223372036854775807) :
    Calls Try.prog 15 #[.int .i64 m] w fun e w' => e = .returned (.int .i64 (logI m)) ∧ w = w' := by
  have HN := Lib.hid (show m ≤ 2 ^ 63 from by omega)
  have hn2 : (m : Int) ≤ 9223372036854775807 := by omega
  clear hn
  go_enter Try.func15, Try.ntmps15
  go_wp2
  go_loop [3] (fun t => ∃ k : Nat, k ≤ 63 ∧ (k = 0 ∨ 2 ^ (k - 1) < m) ∧ t = .int .i64 k) (fun t => 63 - (intOf t).toNat)
  case atStart => exact ⟨0, by omega, .inl rfl, rfl⟩
  case round =>
    obtain ⟨k, hk, hlow, rfl⟩ := hrel
    by_cases hlt : k < 63
    · have hpn := powI_nat k
      by_cases hlt2 : 2 ^ k < m
      · have HP := Lib.hid hlt2
        have hc : ¬ (m : Int) ≤ powI (k : Int) := by rw [hpn]; omega
        clear hlt2 hpn
        go_wp2_with ((go_at_call 23; refine (power_any _ _ (by omega) (by omega)).mono ?_; rintro e w' ⟨rfl, rfl⟩))
        exact ⟨⟨k + 1, by omega, .inr HP.out, by go_num⟩, by simp [intOf]; omega⟩
      · have hc : (m : Int) ≤ powI (k : Int) := by rw [hpn]; omega
        have hv := Lib.hid (show logI m = k from by unfold logI; rw [Int.toNat_natCast, M.logN_of (by omega) hlow])
        clear hlt2 hpn
        go_wp2_with ((go_at_call 23; refine (power_any _ _ (by omega) (by omega)).mono ?_; rintro e w' ⟨rfl, rfl⟩))
        go_ret
        exact ⟨by rw [hv.out]; rfl, rfl⟩
    · have e : k = 63 := by omega
      subst e
      have hv := Lib.hid (show logI m = 63 from by unfold logI; rw [Int.toNat_natCast, M.logN_of HN.out hlow]; rfl)
      clear hlow
      go_wp2
      go_ret
      exact ⟨by rw [hv.out]; rfl, rfl⟩
theorem refLog_any (n : Int) (w : World) (hn : n ≤ 9223372036854775807) :
    Calls Try.prog 15 #[.int .i64 n] w fun e w' => e = .returned (.int .i64 (logI n)) ∧ w = w' := by
  by_cases h : n < 0
  · have e : logI n = 0 := by unfold logI; rw [M.logN_one (by omega)]; rfl
    rw [e]
    exact refLog_neg n w h
  · obtain ⟨m, rfl⟩ := Int.eq_ofNat_of_zero_le (by omega : 0 ≤ n)
    exact refLog_nat m w (by omega)

theorem align_eq (n p : Int) (hp : 1 ≤ p) (hn0 : 0 ≤ n) (hn : n ≤ 9223372036854775807) : wrap64 (n / p * p) = n - n % p := by
  have h2 := Int.mul_ediv_add_emod n p
  have h3 := Int.emod_nonneg n (show p ≠ 0 by omega)
  have h4 : 0 ≤ n / p := Int.ediv_nonneg hn0 (by omega)
  have h5 : 0 ≤ p * (n / p) := Int.mul_nonneg (by omega) h4
  rw [Int.mul_comm, IntWalk.wrap64_in _ (by omega)]
  omega
set_option maxHeartbeats 400000 in
theorem refAlign_any (n o : Int) (w : World) (hn : n ≤ 9223372036854775807) :
    Calls Try.prog 17 #[.int .i64 n, .int .i64 o] w fun e w' => e = .returned (.int .i64 (alignI n o)) ∧ ∃ q, w' = w.drewN q := by
  by_cases h1 : n < 0
  · have hv := Lib.hid (show alignI n o = n from by unfold alignI; rw [if_neg (by omega)])
    go_enter Try.func17, Try.ntmps17
    go_wp2
    go_ret
    exact ⟨by rw [hv.out]; rfl, 0, rfl⟩
  · by_cases h2 : o < 0
    · have hv := Lib.hid (show alignI n o = n from by unfold alignI; rw [if_neg (by omega)])
      go_enter Try.func17, Try.ntmps17
      go_wp2
      go_ret
      exact ⟨by rw [hv.out]; rfl, 0, rfl⟩
    · by_cases h3 : 30 < o
      · have hv := Lib.hid (show alignI n o = n from by unfold alignI; rw [if_neg (by omega)])
        go_enter Try.func17, Try.ntmps17
        go_wp2
        go_ret
        exact ⟨by rw [hv.out]; rfl, 0, rfl⟩
      · have p1 := powI_pos o
        have p2 : powI o ≤ 1073741824 := (pow_bd o.toNat (by omega)).2
        have hw : IntKind.i64.wrap (powI o) = powI o := IntWalk.i64_in _ (by omega)
        have hv := Lib.hid (show alignI n o = n - n % powI o from by unfold alignI; rw [if_pos (by omega)]; rfl)
        have ha := Lib.hid (align_eq n (powI o) p1 (by omega) hn)
        go_enter Try.func17, Try.ntmps17
        go_wp2_with fail
        go_quiet ((go_at_call 23; exact still0 (power_any _ _ (by omega) (by omega))))
        go_wp2
        go_ret
        exact ⟨by rw [hv.out, ← ha.out]; rfl, _, rfl⟩

set_option maxHeartbeats 400000 in
theorem refCount_any (x : Int) (w : World) (hx0 : 0 ≤ x) (hx : x < 18446744073709551616) :
    Calls Try.prog 19 #[.int .u64 x] w fun e w' => e = .returned (.int .i64 (countI x)) ∧ w = w' := by
  obtain ⟨m, rfl⟩ := Int.eq_ofNat_of_zero_le hx0
  have HX := Lib.hid hx
  clear hx hx0
  go_enter Try.func19, Try.ntmps19
  go_wp2
  go_loop [3, 4] (fun n t => ∃ k : Nat, k ≤ 64 ∧ t = .int .i64 k ∧ n = .int .i64 (M.cntTo m k : Int)) (fun _ t => 64 - (intOf t).toNat)
  case atStart => exact ⟨0, by omega, rfl, rfl⟩
  case round =>
    obtain ⟨k, hk, rfl, rfl⟩ := hrel
    have hc := M.cntTo_le m k
    by_cases hlt : k < 64
    · have hs := Lib.hid (M.cntTo_succ m k)
      have p2 := powI_pos (k : Int)
      have hb := Lib.hid (bit_term m k (by have := HX.out; omega))
      clear HX
      obtain ⟨c, hcc⟩ : ∃ c, c = M.cntTo m k := ⟨_, rfl⟩
      rw [← hcc] at hs hc ⊢
      clear hcc
      go_wp2_with ((go_at_call 23; refine (power_any _ _ (by omega) (by omega)).mono ?_; rintro e w' ⟨rfl, rfl⟩))
      refine ⟨⟨k + 1, by omega, by go_num, ?_⟩, by simp [intOf]; omega⟩
      have h2 : m / 2 ^ k % 2 < 2 := Nat.mod_lt _ (by decide)
      rw [hb.out, hs.out]
      generalize m / 2 ^ k % 2 = z at *
      congr 1
      unfold wrap64
      omega
    · have e : k = 64 := by omega
      subst e
      have hv := Lib.hid (show countI m = (M.cntTo m 64 : Int) from rfl)
      generalize M.cntTo m 64 = c at hv hc ⊢
      go_wp2
      go_ret
      exact ⟨by rw [hv.out]; rfl, rfl⟩

set_option maxHeartbeats 1000000 in
theorem awake_any (w : World) : Calls Try.prog 9 #[] w fun e w' => e = .returned (.bool true) ∧ ∃ n, w' = w.drewN n := by
  have h1 : (getI 43981 4 8 == 188) = true := by decide
  have h2 : (putI 0 5 4 3 == 80) = true := by decide
  have h3 : (logI 5 == 3) = true := by decide
  go_enter Try.func9, Try.ntmps9
  go_wp2_with fail
  refine (get_yes 43981 4 8 _ (by decide) (by decide) (by decide)).mono ?_
  rintro e w1 ⟨rfl, n1, rfl⟩
  go_wp2_with fail
  refine (put_yes 0 5 4 3 _ (by decide) (by decide) (by decide) (by decide)).mono ?_
  rintro e w1 ⟨rfl, n2, rfl⟩
  go_wp2_with fail
  refine (log_any 5 _ (by decide)).mono ?_
  rintro e w1 ⟨rfl, rfl⟩
  go_wp2
  go_ret
  exact ⟨rfl, _, rfl⟩
end Go.Proofs.Ytjaipmehnjkpgaa
