/-
  Plain mathematics of bit fields: no program in it.
-/
import Derived.Laws.BitsAllLaws
namespace Go.Proofs.YtbakhipabeaojaaDoor.M

/-- the field's number -/
def getN (x f m : Nat) : Nat := x / 2 ^ f % 2 ^ m
/-- the word with the field replaced -/
def putN (x y f m : Nat) : Nat := 2 ^ f * (2 ^ m * (x / 2 ^ (f + m)) + y) + x % 2 ^ f

theorem getN_bit (x f m i : Nat) : (getN x f m).testBit i = (decide (i < m) && x.testBit (i + f)) := by
  unfold getN
  rw [Nat.testBit_mod_two_pow, Nat.testBit_div_two_pow, Nat.add_comm]
theorem putN_bit (x y f m i : Nat) (hy : y < 2 ^ m) : (putN x y f m).testBit i = if i < f then x.testBit i else if i < f + m then y.testBit (i - f) else x.testBit i := by
  unfold putN
  rw [Nat.testBit_two_pow_mul_add _ (Nat.mod_lt _ (Nat.two_pow_pos _))]
  by_cases h : i < f
  · simp [h, Nat.testBit_mod_two_pow]
  · rw [if_neg h, if_neg h, Nat.testBit_two_pow_mul_add _ hy]
    by_cases h2 : i < f + m
    · rw [if_pos (by omega), if_pos h2]
    · rw [if_neg (by omega), if_neg h2, Nat.testBit_div_two_pow]; congr 1; omega

theorem getN_lt (x f m : Nat) : getN x f m < 2 ^ m := Nat.mod_lt _ (Nat.two_pow_pos _)
theorem pow64 : (2 : Nat) ^ 64 = 18446744073709551616 := by decide
theorem getN_lt64 (x f m : Nat) (hm : m ≤ 64) : getN x f m < 18446744073709551616 := by
  rw [← pow64]; exact Nat.lt_of_lt_of_le (getN_lt x f m) (Nat.pow_le_pow_right (by decide) hm)

theorem lt_of_bits (a k : Nat) (h : ∀ i, k ≤ i → a.testBit i = false) : a < 2 ^ k := Nat.lt_pow_two_of_testBit a h
theorem bit_of_lt (a k i : Nat) (h : a < 2 ^ k) (hi : k ≤ i) : a.testBit i = false :=
  Nat.testBit_lt_two_pow (Nat.lt_of_lt_of_le h (Nat.pow_le_pow_right (by decide) hi))

theorem putN_lt64 (x y f m : Nat) (hy : y < 2 ^ m) (hx : x < 18446744073709551616) (hfm : f + m ≤ 64) : putN x y f m < 18446744073709551616 := by
  rw [← pow64] at hx ⊢
  apply lt_of_bits
  intro i hi
  rw [putN_bit _ _ _ _ _ hy, if_neg (by omega), if_neg (by omega)]
  exact bit_of_lt x 64 i hx hi

/-- what was put is got -/
theorem get_put (x y f m : Nat) (hy : y < 2 ^ m) : getN (putN x y f m) f m = y := by
  apply Nat.eq_of_testBit_eq
  intro i
  rw [getN_bit, putN_bit _ _ _ _ _ hy]
  by_cases h : i < m
  · rw [if_neg (by omega), if_pos (by omega)]; simp [h]
  · simp [h]; exact (bit_of_lt y m i hy (by omega))
/-- put back, the word is as it was -/
theorem put_back (x y f m : Nat) (hy : y < 2 ^ m) : putN (putN x y f m) (getN x f m) f m = x := by
  apply Nat.eq_of_testBit_eq
  intro i
  rw [putN_bit _ _ _ _ _ (getN_lt x f m), putN_bit _ _ _ _ _ hy, getN_bit]
  by_cases h : i < f
  · simp [h]
  · by_cases h2 : i < f + m
    · rw [if_neg h, if_pos h2]
      have e : i - f + f = i := by omega
      have e2 : i - f < m := by omega
      simp [e, e2]
    · simp [h, h2]
/-- two fields that have no bit in common -/
theorem get_apart (x y f m g k : Nat) (hy : y < 2 ^ k) (h : g + k ≤ f ∨ f + m ≤ g) : getN (putN x y g k) f m = getN x f m := by
  apply Nat.eq_of_testBit_eq
  intro i
  rw [getN_bit, getN_bit, putN_bit _ _ _ _ _ hy]
  by_cases hi : i < m
  · congr 1
    rcases h with h | h
    · rw [if_neg (by omega), if_neg (by omega)]
    · rw [if_pos (by omega)]
  · simp [hi]
/-- a word is put together of its two parts -/
theorem whole (x c : Nat) (hx : x < 18446744073709551616) (hc : c ≤ 64) : putN (putN 0 (getN x 0 c) 0 c) (getN x c (64 - c)) c (64 - c) = x := by
  rw [← pow64] at hx
  apply Nat.eq_of_testBit_eq
  intro i
  rw [putN_bit _ _ _ _ _ (getN_lt _ _ _), putN_bit _ _ _ _ _ (getN_lt _ _ _), getN_bit, getN_bit]
  by_cases h : i < c
  · simp [h]
  · by_cases h2 : i < c + (64 - c)
    · have e : i - c + c = i := by omega
      have e2 : i - c < 64 - c := by omega
      simp [h, h2, e, e2]
    · simp [h, h2]; exact bit_of_lt x 64 i hx (by omega)

/-- the code's masks -/
theorem and_get (x f m : Nat) : x / 2 ^ f &&& (2 ^ m - 1) = getN x f m := Nat.and_two_pow_sub_one_eq_mod _ _

theorem mask_bit (f m i : Nat) (h : f + m ≤ 64) : (18446744073709551615 - (2 ^ m - 1) * 2 ^ f).testBit i = (decide (i < 64) && !(decide (f ≤ i) && decide (i < f + m))) := by
  have hlt : (2 ^ m - 1) * 2 ^ f < 2 ^ 64 := by
    apply lt_of_bits
    intro j hj
    rw [← Nat.shiftLeft_eq, Nat.testBit_shiftLeft, Nat.testBit_two_pow_sub_one]
    simp; omega
  have e : 18446744073709551615 - (2 ^ m - 1) * 2 ^ f = 2 ^ 64 - ((2 ^ m - 1) * 2 ^ f + 1) := by rw [pow64]; omega
  rw [e, Nat.testBit_two_pow_sub_succ hlt, ← Nat.shiftLeft_eq, Nat.testBit_shiftLeft, Nat.testBit_two_pow_sub_one]
  congr 2
  by_cases h1 : f ≤ i <;> simp [h1]
  omega

theorem andNot_or (x y f m : Nat) (hx : x < 18446744073709551616) (hy : y < 2 ^ m) (h : f + m ≤ 64) :
    (x &&& (18446744073709551615 - (2 ^ m - 1) * 2 ^ f)) ||| (y * 2 ^ f) = putN x y f m := by
  rw [← pow64] at hx
  apply Nat.eq_of_testBit_eq
  intro i
  rw [Nat.testBit_or, Nat.testBit_and, mask_bit f m i h, putN_bit _ _ _ _ _ hy, ← Nat.shiftLeft_eq, Nat.testBit_shiftLeft]
  by_cases h0 : i < 64
  · by_cases h1 : i < f
    · have : ¬ f ≤ i := by omega
      simp [h0, h1, this]
    · by_cases h2 : i < f + m
      · have : f ≤ i := by omega
        simp [h1, h2, this]
      · have : f ≤ i := by omega
        simp [h0, h1, h2, this]
        exact fun hh => by rw [bit_of_lt y m (i - f) hy (by omega)] at hh; cases hh
  · have h1 : ¬ i < f := by omega
    have h2 : ¬ i < f + m := by omega
    have : f ≤ i := by omega
    rw [bit_of_lt x 64 i hx (by omega), bit_of_lt y m (i - f) hy (by omega)]
    simp [h1, h2]
end Go.Proofs.YtbakhipabeaojaaDoor.M
namespace Go.Proofs.YtbakhipabeaojaaDoor.M
/-- the least k with n ≤ 2^k -/
def logN (n : Nat) : Nat := if n ≤ 1 then 0 else Nat.log2 (n - 1) + 1
theorem logN_one {n : Nat} (h : n ≤ 1) : logN n = 0 := by simp [logN, h]
theorem logN_of {n k : Nat} (h1 : n ≤ 2 ^ k) (h2 : k = 0 ∨ 2 ^ (k - 1) < n) : logN n = k := by
  unfold logN
  by_cases h : n ≤ 1
  · rw [if_pos h]
    rcases h2 with h2 | h2
    · exact h2.symm
    · have := Nat.two_pow_pos (k - 1); omega
  · rw [if_neg h]
    have hn : n - 1 ≠ 0 := by omega
    have hk : k ≠ 0 := by rintro rfl; simp at h1; omega
    rcases h2 with h2 | h2
    · exact absurd h2 hk
    · have a : (n - 1).log2 < k := (Nat.log2_lt hn).2 (by omega)
      have b : ¬ (n - 1).log2 < k - 1 := fun hlt => by have := (Nat.log2_lt hn).1 hlt; omega
      omega
theorem logN_ge (n : Nat) : n ≤ 2 ^ logN n := by
  unfold logN
  by_cases h : n ≤ 1
  · rw [if_pos h]; simpa using h
  · rw [if_neg h]
    have := (Nat.log2_lt (n := n - 1) (k := (n - 1).log2 + 1) (by omega)).1 (Nat.lt_succ_self _)
    omega
theorem logN_lt (n : Nat) : logN n = 0 ∨ 2 ^ (logN n - 1) < n := by
  unfold logN
  by_cases h : n ≤ 1
  · rw [if_pos h]; exact .inl rfl
  · rw [if_neg h]
    have := Nat.log2_self_le (n := n - 1) (by omega)
    right; simp only [Nat.add_sub_cancel]; omega
theorem logN_le {n k : Nat} (h : n ≤ 2 ^ k) : logN n ≤ k := by
  rcases logN_lt n with h2 | h2
  · omega
  · have : 2 ^ (logN n - 1) < 2 ^ k := by omega
    have := (Nat.pow_lt_pow_iff_right (a := 2) (by decide)).1 this
    omega

/-- how many of the first k bits are 1 -/
def cntTo (x : Nat) : Nat → Nat
  | 0 => 0
  | k + 1 => cntTo x k + (x.testBit k).toNat
theorem cntTo_le (x k : Nat) : cntTo x k ≤ k := by
  induction k with
  | zero => exact Nat.le_refl _
  | succ k ih => have := Bool.toNat_le (x.testBit k); simp only [cntTo]; omega
theorem bit_div (x k : Nat) : x / 2 ^ k % 2 = (x.testBit k).toNat := (Nat.toNat_testBit x k).symm
theorem cntTo_succ (x k : Nat) : cntTo x (k + 1) = cntTo x k + x / 2 ^ k % 2 := by rw [bit_div]; rfl
theorem cntTo_congr (x y k : Nat) (h : ∀ i, i < k → x.testBit i = y.testBit i) : cntTo x k = cntTo y k := by
  induction k with
  | zero => rfl
  | succ k ih => rw [cntTo, cntTo, ih (fun i hi => h i (by omega)), h k (by omega)]
theorem cntTo_zero (x k n : Nat) (h : ∀ i, k ≤ i → x.testBit i = false) : cntTo x (k + n) = cntTo x k := by
  induction n with
  | zero => rfl
  | succ n ih => rw [Nat.add_succ, cntTo, ih, h (k + n) (by omega)]; rfl
theorem cntTo_shift (x c n : Nat) : cntTo x (c + n) = cntTo x c + cntTo (x / 2 ^ c) n := by
  induction n with
  | zero => rfl
  | succ n ih => rw [Nat.add_succ, cntTo, ih, cntTo, Nat.testBit_div_two_pow, Nat.add_comm n c]; omega
/-- a word has as many bits as both its parts -/
theorem cnt_whole (x c : Nat) (hc : c ≤ 64) : cntTo (getN x 0 c) 64 + cntTo (getN x c (64 - c)) 64 = cntTo x 64 := by
  have e : 64 = c + (64 - c) := by omega
  have h1 : cntTo (getN x 0 c) 64 = cntTo x c := by
    have hb : cntTo (getN x 0 c) (c + (64 - c)) = cntTo (getN x 0 c) c := cntTo_zero _ _ _ (fun i hi => by rw [getN_bit]; simp; omega)
    rw [← e] at hb
    rw [hb]
    exact cntTo_congr _ _ _ (fun i hi => by rw [getN_bit]; simp [hi])
  have h2 : cntTo (getN x c (64 - c)) 64 = cntTo (x / 2 ^ c) (64 - c) := by
    have hb : cntTo (getN x c (64 - c)) ((64 - c) + c) = cntTo (getN x c (64 - c)) (64 - c) := cntTo_zero _ _ _ (fun i hi => by rw [getN_bit]; simp; omega)
    rw [show (64 - c) + c = 64 by omega] at hb
    rw [hb]
    exact cntTo_congr _ _ _ (fun i hi => by rw [getN_bit, Nat.testBit_div_two_pow, Nat.add_comm]; simp [hi])
  have h3 := cntTo_shift x c (64 - c)
  rw [← e] at h3
  omega
end Go.Proofs.YtbakhipabeaojaaDoor.M
