/-
  Package bitmap, in plain numbers: a set as a function to Bool, its four words, its elements in order, its gaps.
-/
import Derived.Test.YthlehgohpagfnaaBitsK
namespace Go.Proofs.Ythlehgohpagfnaa
open Go.RowKit

/-- k bits of the set from number b on -/
def wordN (m : Nat → Bool) (b : Nat) : Nat → Nat
  | 0 => 0
  | k + 1 => 2 ^ k * (m (b + k)).toNat + wordN m b k
theorem wordN_lt (m : Nat → Bool) (b k : Nat) : wordN m b k < 2 ^ k := by
  induction k with
  | zero => simp [wordN]
  | succ k ih =>
    have h : (m (b + k)).toNat ≤ 1 := Bool.toNat_le _
    have := Nat.mul_le_mul_left (2 ^ k) h
    rw [wordN, Nat.pow_succ]
    omega
theorem wordN_bit (m : Nat → Bool) (b k i : Nat) : (wordN m b k).testBit i = (decide (i < k) && m (b + i)) := by
  induction k with
  | zero => simp [wordN]
  | succ k ih =>
    rw [wordN, Nat.testBit_two_pow_mul_add _ (wordN_lt m b k)]
    by_cases h : i < k
    · rw [if_pos h, ih]; simp [h, Nat.lt_succ_of_lt h]
    · rw [if_neg h]
      by_cases e : i = k
      · subst e; cases m (b + i) <;> simp
      · obtain ⟨j, hj⟩ : ∃ j, i - k = j + 1 := ⟨i - k - 1, by omega⟩
        rw [hj, show decide (i < k + 1) = false from by simp; omega]
        cases m (b + k) <;> simp [Nat.testBit_succ]

/-- the set with number n in or out -/
def upd (m : Nat → Bool) (n : Nat) (b : Bool) : Nat → Bool := fun k => if k = n then b else m k
/-- word i -/
def wd (m : Nat → Bool) (i : Nat) : Int := (wordN m (64 * i) 64 : Int)
def wds (m : Nat → Bool) : List Int := [wd m 0, wd m 1, wd m 2, wd m 3]

theorem wd_bd (m : Nat → Bool) (i : Nat) : 0 ≤ wd m i ∧ wd m i < 18446744073709551616 := by
  have := wordN_lt m (64 * i) 64
  rw [M.pow64] at this
  unfold wd; omega
theorem wd_get (m : Nat → Bool) (i j : Nat) (hj : j < 64) : getI (wd m i) j 1 = ((m (64 * i + j)).toNat : Int) := by
  unfold getI wd
  refine Int.natCast_inj.2 ?_
  rw [Int.toNat_natCast, Int.toNat_natCast, show (1 : Int).toNat = 1 from rfl]
  show wordN m (64 * i) 64 / 2 ^ j % 2 ^ 1 = _
  rw [Nat.pow_one, M.bit_div, wordN_bit]
  simp [hj]
theorem wd_put (m : Nat → Bool) (i j : Nat) (b : Bool) (hj : j < 64) : putI (wd m i) (b.toNat : Int) j 1 = wd (upd m (64 * i + j) b) i := by
  unfold putI wd
  refine Int.natCast_inj.2 ?_
  rw [Int.toNat_natCast, Int.toNat_natCast, Int.toNat_natCast, show (1 : Int).toNat = 1 from rfl]
  apply Nat.eq_of_testBit_eq
  intro t
  rw [M.putN_bit _ _ _ _ _ (by have : b.toNat ≤ 1 := Bool.toNat_le _; omega), wordN_bit, wordN_bit]
  unfold upd
  by_cases h1 : t < j
  · rw [if_pos h1, if_neg (by omega)]
  · by_cases h2 : t < j + 1
    · have : t = j := by omega
      subst this
      rw [if_neg h1, if_pos h2, if_pos rfl]
      cases b <;> simp [hj]
    · rw [if_neg h1, if_neg h2, if_neg (by omega)]
theorem wordN_congr {m m' : Nat → Bool} {b k : Nat} (h : ∀ i, i < k → m (b + i) = m' (b + i)) : wordN m b k = wordN m' b k := by
  apply Nat.eq_of_testBit_eq
  intro t
  rw [wordN_bit, wordN_bit]
  by_cases ht : t < k
  · rw [h t ht]
  · simp [ht]
theorem wd_other (m : Nat → Bool) (i i' j : Nat) (b : Bool) (hj : j < 64) (h : i' ≠ i) : wd (upd m (64 * i + j) b) i' = wd m i' := by
  unfold wd
  refine Int.natCast_inj.2 ?_
  exact wordN_congr fun t ht => if_neg (by omega)
theorem wds_put (m : Nat → Bool) (i j : Nat) (b : Bool) (hi : i < 4) (hj : j < 64) : (wds m).set i (wd (upd m (64 * i + j) b) i) = wds (upd m (64 * i + j) b) := by
  have hne := fun i' h => wd_other m i i' j b hj h
  generalize upd m (64 * i + j) b = m' at *
  unfold wds
  match i, hi with
  | 0, _ => rw [hne 1 (by decide), hne 2 (by decide), hne 3 (by decide)]; rfl
  | 1, _ => rw [hne 0 (by decide), hne 2 (by decide), hne 3 (by decide)]; rfl
  | 2, _ => rw [hne 0 (by decide), hne 1 (by decide), hne 3 (by decide)]; rfl
  | 3, _ => rw [hne 0 (by decide), hne 1 (by decide), hne 2 (by decide)]; rfl
theorem wds_at (m : Nat → Bool) (i : Nat) (hi : i < 4) : (wds m).getD i 0 = wd m i := by
  match i, hi with
  | 0, _ => rfl
  | 1, _ => rfl
  | 2, _ => rfl
  | 3, _ => rfl
def none0 : Nat → Bool := fun _ => false
theorem wd_none (i : Nat) : wd none0 i = 0 := by
  unfold wd
  rw [show wordN none0 (64 * i) 64 = 0 from Nat.eq_of_testBit_eq fun t => by rw [wordN_bit]; simp [none0]]
  rfl
theorem wds_none : wds none0 = [0, 0, 0, 0] := by unfold wds; simp only [wd_none]

/-- the elements below k, in order -/
def upto (m : Nat → Bool) (k : Nat) : List Nat := (List.range k).filter m
theorem upto_succ (m : Nat → Bool) (k : Nat) : upto m (k + 1) = upto m k ++ if m k then [k] else [] := by
  unfold upto
  rw [List.range_succ, List.filter_append]
  cases h : m k <;> simp [h]
theorem upto_len (m : Nat → Bool) (k : Nat) : (upto m k).length ≤ k := by
  have := List.length_filter_le m (List.range k)
  simpa [upto] using this
theorem mem_upto {m : Nat → Bool} {k n : Nat} : n ∈ upto m k ↔ n < k ∧ m n = true := by simp [upto]
theorem upto_congr {m m' : Nat → Bool} {k : Nat} (h : ∀ i, i < k → m i = m' i) : upto m k = upto m' k := by
  unfold upto
  exact List.filter_congr fun x hx => h x (List.mem_range.1 hx)
theorem upto_word (m : Nat → Bool) (i k : Nat) (hk : k ≤ 64) : (upto m (64 * i + k)).length = (upto m (64 * i)).length + M.cntTo (wordN m (64 * i) 64) k := by
  induction k with
  | zero => rfl
  | succ k ih =>
    rw [← Nat.add_assoc, upto_succ, List.length_append, ih (by omega), M.cntTo_succ, M.bit_div, wordN_bit]
    cases m (64 * i + k) <;> simp [show k < 64 from by omega] <;> omega
theorem upto_count (m : Nat → Bool) (i : Nat) : ((upto m (64 * (i + 1))).length : Int) = (upto m (64 * i)).length + countI (wd m i) := by
  have := upto_word m i 64 (Nat.le_refl _)
  unfold countI wd
  rw [Int.toNat_natCast, Nat.mul_succ]
  omega
/-- all elements -/
def els (m : Nat → Bool) : List Nat := upto m 256

/-- is it a number of the range? -/
def inB (n : Int) : Bool := decide (0 ≤ n ∧ n < 256)
def hasB (m : Nat → Bool) (n : Int) : Bool := inB n && m n.toNat
def updI (m : Nat → Bool) (n : Int) (b : Bool) : Nat → Bool := if inB n = true then upd m n.toNat b else m
theorem hasB_in {m : Nat → Bool} {n : Int} (h : inB n = true) : hasB m n = m n.toNat := by simp [hasB, h]
theorem hasB_out {m : Nat → Bool} {n : Int} (h : inB n = false) : hasB m n = false := by simp [hasB, h]
theorem hasB_nat (m : Nat → Bool) (n : Nat) (h : n < 256) : hasB m n = m n := by
  rw [hasB_in (by unfold inB; simp; omega), Int.toNat_natCast]

/-- where the search for a gap stands, the elements of a list having come -/
def gapGo (many : Int) : Int → List Nat → Int
  | first, [] => first
  | first, n :: r => if many ≤ (n : Int) - first then first else gapGo many (n + 1) r
/-- a gap of k numbers begins at n: none of them is in, and all are below end -/
def FreeAt (m : Nat → Bool) (many e : Int) (n : Int) : Prop := n + many ≤ e ∧ ∀ i : Int, n ≤ i → i < n + many → hasB m i = false
/-- Gap's number -/
def gapI (m : Nat → Bool) (many e : Int) : Int :=
  if many < 1 ∨ e < 0 ∨ 256 < e then -1 else if e - gapGo many 0 (els m) < many then -1 else gapGo many 0 (els m)
end Go.Proofs.Ythlehgohpagfnaa
