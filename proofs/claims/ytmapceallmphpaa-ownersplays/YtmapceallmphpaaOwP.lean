/-
  Layer 5's laws over a row of calls: what lies in a row's place, and the counts of all owners.
-/
import Derived.Test.YtmapceallmphpaaOwH
namespace Go.Proofs.Ytmapceallmphpaa
open Go.ChangeShapes Go.WideShapes Go.ChangeAt Go.RowKit

theorem in64_wf {x : Int} (h : (Lit.int .i64 x).wf = true) : in64 x := by
  have h' : (decide (IntKind.i64.min ≤ x) && decide (x ≤ IntKind.i64.max)) = true := h
  rw [Bool.and_eq_true, decide_eq_true_iff, decide_eq_true_iff] at h'
  exact h'
/-- one call of the row -/
theorem oop_cells {w : World} {ao : Option Addr} {n b off : Nat} {E : Nat → Nat → Value} (R : Fr.RowArg w ao n b off [some .i64, some .i64, some .i64, some .i64] E) (i : Nat) (hi : i < n) :
    ∃ d f k v : Int, w.cell? ⟨b, off + i * 4, none⟩ = some (.int .i64 d) ∧ w.cell? ⟨b, off + i * 4 + 1, none⟩ = some (.int .i64 f) ∧ w.cell? ⟨b, off + i * 4 + 2, none⟩ = some (.int .i64 k) ∧ w.cell? ⟨b, off + i * 4 + 3, none⟩ = some (.int .i64 v) ∧
      in64 f ∧ in64 k ∧ in64 v := by
  obtain ⟨d, e0, w0⟩ := R.ok i hi 0 _ rfl
  obtain ⟨f, e1, w1⟩ := R.ok i hi 1 _ rfl
  obtain ⟨k, e2, w2⟩ := R.ok i hi 2 _ rfl
  obtain ⟨v, e3, w3⟩ := R.ok i hi 3 _ rfl
  refine ⟨d, f, k, v, ?_, ?_, ?_, ?_, in64_wf w1, in64_wf w2, in64_wf w3⟩
  · have := R.cell i hi 0 (by decide); rw [e0] at this; simpa [Nat.add_assoc] using this
  · have := R.cell i hi 1 (by decide); rw [e1] at this; simpa [Nat.add_assoc] using this
  · have := R.cell i hi 2 (by decide); rw [e2] at this; simpa [Nat.add_assoc] using this
  · have := R.cell i hi 3 (by decide); rw [e3] at this; simpa [Nat.add_assoc] using this
theorem obox4 {w : World} {g : Nat} {a b c d : Value} {t : TypeId} (h : w.heap[g]? = some (.cells #[a, b, c, d] t (0, 0))) :
    w.cell? ⟨g, 0, none⟩ = some a ∧ w.cell? ⟨g, 1, none⟩ = some b ∧ w.cell? ⟨g, 2, none⟩ = some c ∧ w.cell? ⟨g, 3, none⟩ = some d := by
  refine ⟨?_, ?_, ?_, ?_⟩ <;> (rw [cell_of_row _ _ _ _ _ _ h]; rfl)
theorem sumC_le (f : Nat → Int) (n : Nat) : ∀ w, sumC f n w ≤ w * n
  | 0 => by simp [sumC]
  | w + 1 => by
    have := sumC_le f n w
    have := cnto_le f (w : Int) n
    rw [sumC, Nat.succ_mul]
    omega
theorem ownd_le (f : Nat → Int) : ∀ n, ownd f n ≤ n
  | 0 => Nat.le_refl _
  | n + 1 => by
    have := ownd_le f n
    rw [ownd]
    split <;> omega
theorem of_nat {o : Ow} (j : Nat) (hj : j < o.n) : o.of j = o.f j := by
  unfold Ow.of
  rw [if_pos (by omega)]
  rfl
theorem give_n (o : Ow) (f k w : Int) : (o.give f k w).n = o.n := by unfold Ow.give; split <;> rfl
theorem take_n (o : Ow) (f k w : Int) : (o.take f k w).n = o.n := by unfold Ow.take; split <;> rfl
theorem quota_n (o : Ow) (w m : Int) : (o.quota w m).n = o.n := by unfold Ow.quota; split <;> rfl
theorem give_most (o : Ow) (f k w : Int) : (o.give f k w).most = o.most := by unfold Ow.give; split <;> rfl
theorem take_most (o : Ow) (f k w : Int) : (o.take f k w).most = o.most := by unfold Ow.take; split <;> rfl
theorem quota_most {o : Ow} {V : Nat} {m : Int} (he : o.quotaE V m = 0) : (o.quota V m).most = updI o.most V m := by unfold Ow.quota; rw [if_pos he]; rfl
end Go.Proofs.Ytmapceallmphpaa
