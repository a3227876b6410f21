/-
  Contract of package bits' Count.
-/
import Derived.Test.YthlehgohpagfnaaBitsA
namespace Go.Proofs.Ythlehgohpagfnaa
open Go.ChangeShapes Go.WideShapes Go.ChangeAt Go.RowKit

theorem bit_and (m k : Nat) (hm : m < 18446744073709551616) : bits BinOp.and IntKind.u64 ((m : Int) / 2 ^ k) 1 = ((m / 2 ^ k % 2 : Nat) : Int) := by
  have e := div_nat m k (by omega)
  rw [Int.toNat_natCast, Int.toNat_natCast] at e
  rw [e, show (1 : Int) = ((1 : Nat) : Int) from rfl, u64_and_nat _ _ (Nat.lt_of_le_of_lt (Nat.div_le_self _ _) hm) (by decide), nat_mask1]
def countI (x : Int) : Int := (M.cntTo x.toNat 64 : Int)
set_option maxHeartbeats 400000 in
theorem count_any (x : Int) (w : World) (hx0 : 0 ≤ x) (hx : x < 18446744073709551616) :
    Calls Try.prog 22 #[.int .u64 x] w fun e w' => e = .returned (.int .i64 (countI x)) ∧ w = w' := by
  obtain ⟨m, rfl⟩ := Int.eq_ofNat_of_zero_le hx0
  go_enter Try.func22, Try.ntmps22
  go_wp2
  go_loop [3, 5] (fun n t => ∃ k : Nat, k ≤ 64 ∧ t = .int .i64 k ∧ n = .int .i64 (M.cntTo m k : Int)) (fun _ t => 64 - (intOf t).toNat)
  case atStart => exact ⟨0, by omega, rfl, rfl⟩
  case round =>
    obtain ⟨k, hk, rfl, rfl⟩ := hrel
    have hc := M.cntTo_le m k
    by_cases hlt : k < 64
    · have hs := Lib.hid (M.cntTo_succ m k)
      have hb := Lib.hid (bit_and m k (by omega))
      generalize M.cntTo m k = c at *
      clear hx hx0
      go_wp2
      refine ⟨⟨k + 1, by omega, by go_num, ?_⟩, by simp [intOf]; omega⟩
      have h2 : m / 2 ^ k % 2 < 2 := Nat.mod_lt _ (by decide)
      rw [hb.out, hs.out]
      generalize m / 2 ^ k % 2 = z at *
      congr 1
      unfold wrap64
      omega
    · have e : k = 64 := by omega
      subst e
      have hv := Lib.hid (show countI m = (M.cntTo m 64 : Int) from rfl)
      generalize M.cntTo m 64 = c at *
      go_wp2
      go_ret
      exact ⟨by rw [hv.out]; rfl, rfl⟩
end Go.Proofs.Ythlehgohpagfnaa
