/-
  Package buddy, in plain numbers: blocks, free ones, the greatest free ones in their order.
-/
import Derived.Test.YtmobhojblclmjaaKit
namespace Go.Proofs.Ytmobhojblclmjaa

/-! dyadic blocks: the block of 2^k numbers in which j lies begins at st j k -/
def st (j k : Nat) : Nat := j / 2 ^ k * 2 ^ k
theorem st_le (j k : Nat) : st j k ≤ j := Nat.div_mul_le_self _ _
theorem st_lt (j k : Nat) : j < st j k + 2 ^ k := by
  have := Nat.div_add_mod j (2 ^ k)
  have h2 := Nat.mod_lt j (Nat.two_pow_pos k)
  unfold st
  rw [Nat.mul_comm]
  omega
theorem st_mod (j k : Nat) : st j k % 2 ^ k = 0 := Nat.mul_mod_left _ _
theorem st_of {i j k : Nat} (hi : i % 2 ^ k = 0) (h1 : i ≤ j) (h2 : j < i + 2 ^ k) : st j k = i := by
  obtain ⟨q, rfl⟩ := Nat.dvd_of_mod_eq_zero hi
  unfold st
  have hp := Nat.two_pow_pos k
  have : j / 2 ^ k = q := by
    apply Nat.div_eq_of_lt_le
    · rw [Nat.mul_comm]; exact h1
    · rw [Nat.add_mul, Nat.mul_comm q, Nat.one_mul]; exact h2
  rw [this, Nat.mul_comm]
theorem st_self {i k : Nat} (hi : i % 2 ^ k = 0) : st i k = i := st_of hi (Nat.le_refl _) (by have := Nat.two_pow_pos k; omega)
theorem st_nest (j : Nat) {k l : Nat} (h : k ≤ l) : st j l ≤ st j k ∧ st j k + 2 ^ k ≤ st j l + 2 ^ l := by
  obtain ⟨d, rfl⟩ := Nat.le.dest h
  have e1 : j / 2 ^ (k + d) = j / 2 ^ k / 2 ^ d := by rw [Nat.pow_add, Nat.div_div_eq_div_mul]
  unfold st
  rw [e1]
  generalize j / 2 ^ k = q
  have hp := Nat.two_pow_pos k
  have h1 : q / 2 ^ d * 2 ^ d ≤ q := Nat.div_mul_le_self _ _
  have h2 : q < q / 2 ^ d * 2 ^ d + 2 ^ d := st_lt q d
  have e2 : q / 2 ^ d * 2 ^ (k + d) = q / 2 ^ d * 2 ^ d * 2 ^ k := by rw [Nat.pow_add, Nat.mul_comm (2 ^ k), Nat.mul_assoc]
  have e3 : 2 ^ (k + d) = 2 ^ d * 2 ^ k := by rw [Nat.pow_add, Nat.mul_comm]
  constructor
  · rw [e2]; exact Nat.mul_le_mul_right _ h1
  · rw [e2, e3, ← Nat.add_mul]
    have : q + 1 ≤ q / 2 ^ d * 2 ^ d + 2 ^ d := h2
    have := Nat.mul_le_mul_right (2 ^ k) this
    rw [Nat.add_mul, Nat.one_mul] at this
    exact this
theorem st_st (j : Nat) {k l : Nat} (h : k ≤ l) : st (st j k) l = st j l := by
  have h1 := st_nest j h
  have := Nat.two_pow_pos k
  exact st_of (st_mod j l) h1.1 (by omega)

/-- the block of order k from i on lies below n, and all of it is free -/
structure Blk (F : Nat → Bool) (n i k : Nat) : Prop where
  al : i % 2 ^ k = 0
  le : i + 2 ^ k ≤ n
  fr : ∀ j, i ≤ j → j < i + 2 ^ k → F j = true
/-- .. and it lies in no greater free one -/
structure Mx (F : Nat → Bool) (n i k : Nat) : Prop where
  hi : k ≤ 8
  b : Blk F n i k
  top : k < 8 → ¬ Blk F n (st i (k + 1)) (k + 1)

theorem Blk.down {F : Nat → Bool} {n j k l : Nat} (h : Blk F n (st j l) l) (hk : k ≤ l) : Blk F n (st j k) k := by
  have := st_nest j hk
  have h2 := h.le
  exact ⟨st_mod _ _, by omega, fun x h1 h2 => h.fr x (by omega) (by omega)⟩
theorem Mx.of_mem {F : Nat → Bool} {n i k j : Nat} (h : Mx F n i k) (h1 : i ≤ j) (h2 : j < i + 2 ^ k) : st j k = i := st_of h.b.al h1 h2
theorem Mx.unique {F : Nat → Bool} {n i k i' k' j : Nat} (h : Mx F n i k) (h' : Mx F n i' k') (h1 : i ≤ j) (h2 : j < i + 2 ^ k) (h1' : i' ≤ j) (h2' : j < i' + 2 ^ k') : i = i' ∧ k = k' := by
  have e := h.of_mem h1 h2
  have e' := h'.of_mem h1' h2'
  have key : ∀ {i k i' k' : Nat}, Mx F n i k → Mx F n i' k' → st j k = i → st j k' = i' → ¬ k < k' := by
    intro i k i' k' h h' e e' hlt
    have hb := h'.b
    rw [← e'] at hb
    have hd := Blk.down (k := k + 1) hb (by omega)
    have := h.top (by have := h'.hi; omega)
    rw [← e, st_st j (by omega)] at this
    exact this hd
  have hk : k = k' := by
    have a := key h h' e e'
    have b := key h' h e' e
    omega
  subst hk
  exact ⟨by rw [← e, ← e'], rfl⟩
theorem exists_mx {F : Nat → Bool} {n j : Nat} (hF : F j = true) (hj : j < n) : ∃ k, Mx F n (st j k) k := by
  have h0 : Blk F n (st j 0) 0 := by
    have e : st j 0 = j := by unfold st; simp
    rw [e]
    exact ⟨Nat.mod_one _, by simp; omega, fun x h1 h2 => by rw [show x = j from by simp at h2; omega]; exact hF⟩
  have key : ∀ d k, k + d = 8 → Blk F n (st j k) k → ∃ k, Mx F n (st j k) k := by
    intro d
    induction d with
    | zero => intro k hk hb; exact ⟨k, by omega, hb, fun h => by omega⟩
    | succ d ih =>
      intro k hk hb
      by_cases hn : Blk F n (st j (k + 1)) (k + 1)
      · exact ih (k + 1) (by omega) hn
      · exact ⟨k, by omega, hb, fun _ => by rw [st_st j (by omega)]; exact hn⟩
  exact key 8 0 rfl h0
theorem Blk.in_mx {F : Nat → Bool} {n i k : Nat} (h : Blk F n i k) (hk : k ≤ 8) : ∃ l, k ≤ l ∧ Mx F n (st i l) l := by
  have hp := Nat.two_pow_pos k
  obtain ⟨l, hl⟩ := exists_mx (n := n) (h.fr i (Nat.le_refl _) (by omega)) (by have := h.le; omega)
  refine ⟨l, ?_, hl⟩
  rcases Nat.lt_or_ge l k with hlt | hge
  · exfalso
    have h8 := hl.top (by omega)
    rw [st_st i (by omega)] at h8
    have e := st_self h.al
    rw [← e] at h
    exact h8 (h.down (by omega))
  · exact hge

/-! the same as answers, and the list of the greatest free blocks -/
def blkB (F : Nat → Bool) (n i k : Nat) : Bool := decide (i % 2 ^ k = 0) && decide (i + 2 ^ k ≤ n) && (List.range (2 ^ k)).all fun j => F (i + j)
theorem blkB_iff {F : Nat → Bool} {n i k : Nat} : blkB F n i k = true ↔ Blk F n i k := by
  unfold blkB
  simp only [Bool.and_eq_true, decide_eq_true_eq, List.all_eq_true, List.mem_range]
  constructor
  · rintro ⟨⟨h1, h2⟩, h3⟩
    exact ⟨h1, h2, fun j a b => by have := h3 (j - i) (by omega); rwa [show i + (j - i) = j from by omega] at this⟩
  · rintro ⟨h1, h2, h3⟩
    exact ⟨⟨h1, h2⟩, fun j hj => h3 (i + j) (by omega) (by omega)⟩
def mxB (F : Nat → Bool) (n i k : Nat) : Bool := decide (k ≤ 8) && blkB F n i k && (decide (8 ≤ k) || !blkB F n (st i (k + 1)) (k + 1))
theorem mxB_iff {F : Nat → Bool} {n i k : Nat} : mxB F n i k = true ↔ Mx F n i k := by
  unfold mxB
  simp only [Bool.and_eq_true, decide_eq_true_eq, Bool.or_eq_true, Bool.not_eq_true', blkB_iff]
  have e : blkB F n (st i (k + 1)) (k + 1) = false ↔ ¬ Blk F n (st i (k + 1)) (k + 1) := by rw [← blkB_iff]; simp
  constructor
  · rintro ⟨⟨h1, h2⟩, h3⟩
    exact ⟨h1, h2, fun hlt => by rcases h3 with h3 | h3; omega; exact e.1 h3⟩
  · rintro ⟨h1, h2, h3⟩
    refine ⟨⟨h1, h2⟩, ?_⟩
    by_cases h8 : 8 ≤ k
    · exact .inl h8
    · exact .inr (e.2 (h3 (by omega)))
/-- the greatest free block that begins at i, if one does -/
def mxAt (F : Nat → Bool) (n i : Nat) : List (Nat × Nat) := ((List.range 9).filter (mxB F n i)).map fun k => (i, k)
theorem mem_mxAt {F : Nat → Bool} {n i : Nat} {x : Nat × Nat} : x ∈ mxAt F n i ↔ x.1 = i ∧ Mx F n i x.2 := by
  unfold mxAt
  simp only [List.mem_map, List.mem_filter, List.mem_range, mxB_iff]
  constructor
  · rintro ⟨k, ⟨_, h⟩, rfl⟩; exact ⟨rfl, h⟩
  · rintro ⟨rfl, h⟩; exact ⟨x.2, ⟨by have := h.hi; omega, h⟩, rfl⟩
theorem filter_one {α : Type} (l : List α) (p : α → Bool) (a : α) (hn : l.Nodup) (ha : a ∈ l) (hp : p a = true) (hu : ∀ b, b ∈ l → p b = true → b = a) : l.filter p = [a] := by
  induction l with
  | nil => cases ha
  | cons x r ih =>
    rw [List.nodup_cons] at hn
    by_cases hx : x = a
    · subst hx
      rw [List.filter_cons_of_pos hp, List.filter_eq_nil_iff.2]
      intro b hb hpb
      exact hn.1 (hu b (by simp [hb]) hpb ▸ hb)
    · have hpx : ¬ p x = true := fun h => hx (hu x (by simp) h)
      rw [List.filter_cons_of_neg hpx]
      exact ih hn.2 ((List.mem_cons.1 ha).resolve_left (fun e => hx e.symm)) fun b hb => hu b (by simp [hb])
theorem mxAt_one {F : Nat → Bool} {n i k : Nat} (h : Mx F n i k) : mxAt F n i = [(i, k)] := by
  unfold mxAt
  rw [filter_one (List.range 9) (mxB F n i) k List.nodup_range (by have := h.hi; simp; omega) (mxB_iff.2 h) fun b _ hb => by
    have h1 := Nat.two_pow_pos k
    have h2 := Nat.two_pow_pos b
    exact ((mxB_iff.1 hb).unique h (Nat.le_refl _) (by omega) (Nat.le_refl _) (by omega)).2]
  rfl
theorem mxAt_none {F : Nat → Bool} {n i : Nat} (h : ∀ k, ¬ Mx F n i k) : mxAt F n i = [] := by
  unfold mxAt
  rw [List.filter_eq_nil_iff.2 fun k _ hk => h k (mxB_iff.1 hk)]
  rfl
/-- those that begin below m, in order -/
def mxTo (F : Nat → Bool) (n m : Nat) : List (Nat × Nat) := (List.range m).flatMap (mxAt F n)
theorem mxTo_succ (F : Nat → Bool) (n m : Nat) : mxTo F n (m + 1) = mxTo F n m ++ mxAt F n m := by
  unfold mxTo
  rw [List.range_succ, List.flatMap_append]
  simp
def blocks (F : Nat → Bool) (n : Nat) : List (Nat × Nat) := mxTo F n n
theorem mem_mxTo {F : Nat → Bool} {n m : Nat} {x : Nat × Nat} : x ∈ mxTo F n m ↔ x.1 < m ∧ Mx F n x.1 x.2 := by
  unfold mxTo
  simp only [List.mem_flatMap, List.mem_range, mem_mxAt]
  constructor
  · rintro ⟨i, hi, rfl, h⟩; exact ⟨hi, h⟩
  · rintro ⟨h1, h2⟩; exact ⟨x.1, h1, rfl, h2⟩
theorem mem_blocks {F : Nat → Bool} {n : Nat} {x : Nat × Nat} : x ∈ blocks F n ↔ Mx F n x.1 x.2 := by
  unfold blocks
  rw [mem_mxTo]
  exact ⟨fun h => h.2, fun h => ⟨by have := h.b.le; have := Nat.two_pow_pos x.2; omega, h⟩⟩
/-- no greatest block goes over the number i -/
def Edge (F : Nat → Bool) (n i : Nat) : Prop := ∀ f k, Mx F n f k → f < i → f + 2 ^ k ≤ i
theorem edge_zero (F : Nat → Bool) (n : Nat) : Edge F n 0 := fun f k _ h => by omega
theorem mxTo_jump {F : Nat → Bool} {n i k : Nat} (h : Mx F n i k) : mxTo F n (i + 2 ^ k) = mxTo F n i ++ [(i, k)] := by
  have key : ∀ d, 1 ≤ d → d ≤ 2 ^ k → mxTo F n (i + d) = mxTo F n i ++ [(i, k)] := by
    intro d
    induction d with
    | zero => intro h1; omega
    | succ d ih =>
      intro _ h2
      rw [← Nat.add_assoc, mxTo_succ]
      by_cases h0 : d = 0
      · subst h0
        rw [Nat.add_zero, mxAt_one h]
      · rw [ih (by omega) (by omega), mxAt_none, List.append_nil]
        intro l hl
        have hp := Nat.two_pow_pos l
        have := (h.unique hl (j := i + d) (by omega) (by omega) (Nat.le_refl _) (by omega)).1
        omega
  exact key (2 ^ k) (Nat.two_pow_pos k) (Nat.le_refl _)
theorem edge_jump {F : Nat → Bool} {n i k : Nat} (h : Mx F n i k) (he : Edge F n i) : Edge F n (i + 2 ^ k) := by
  intro f l hl hf
  have hp := Nat.two_pow_pos k
  rcases Nat.lt_or_ge f i with h1 | h1
  · have := he f l hl h1; omega
  · obtain ⟨e1, e2⟩ := h.unique hl h1 hf (Nat.le_refl _) (by have := Nat.two_pow_pos l; omega)
    subst e1 e2
    exact Nat.le_refl _
theorem edge_skip {F : Nat → Bool} {n i : Nat} (hF : F i = false) (he : Edge F n i) : Edge F n (i + 1) := by
  intro f l hl hf
  rcases Nat.lt_or_ge f i with h1 | h1
  · have := he f l hl h1; omega
  · have e : f = i := by omega
    subst e
    have := hl.b.fr f (Nat.le_refl _) (by have := Nat.two_pow_pos l; omega)
    rw [hF] at this
    cases this
theorem mxTo_skip {F : Nat → Bool} {n i : Nat} (hF : F i = false) : mxTo F n (i + 1) = mxTo F n i := by
  rw [mxTo_succ, mxAt_none, List.append_nil]
  intro k h
  have := h.b.fr i (Nat.le_refl _) (by have := Nat.two_pow_pos k; omega)
  rw [hF] at this
  cases this
/-- where the scan meets a free number, a greatest block begins; it is the greatest free one there -/
theorem edge_mx {F : Nat → Bool} {n i : Nat} (he : Edge F n i) (hF : F i = true) (hi : i < n) : ∃ k, Mx F n i k ∧ ∀ l, l ≤ 8 → Blk F n i l → l ≤ k := by
  obtain ⟨k, hk⟩ := exists_mx hF hi
  have h1 := st_le i k
  have h2 := st_lt i k
  have e : st i k = i := by
    rcases Nat.lt_or_ge (st i k) i with hlt | hge
    · have := he _ _ hk hlt; omega
    · omega
  rw [e] at hk
  refine ⟨k, hk, fun l hl hb => ?_⟩
  rcases Nat.lt_or_ge k l with hlt | hge
  · exfalso
    have es := st_self hb.al
    rw [← es] at hb
    exact hk.top (by omega) (hb.down (by omega))
  · exact hge
end Go.Proofs.Ytmobhojblclmjaa
