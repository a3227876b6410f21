/-
  Gaps in plain numbers: what the search finds is the first gap.
-/
import Derived.Test.YthlehgohpagfnaaBmM
namespace Go.Proofs.Ythlehgohpagfnaa

/-- l lists the elements from first on -/
structure From (m : Nat → Bool) (first : Nat) (l : List Nat) : Prop where
  mem : ∀ i, first ≤ i → i < 256 → m i = true → i ∈ l
  isIn : ∀ i, i ∈ l → first ≤ i ∧ i < 256 ∧ m i = true
  rises : l.Pairwise (· < ·)

theorem els_rises (m : Nat → Bool) : (els m).Pairwise (· < ·) := List.Pairwise.filter _ List.pairwise_lt_range
theorem from_all (m : Nat → Bool) : From m 0 (els m) := ⟨fun _ _ h hm => mem_upto.2 ⟨h, hm⟩, fun _ h => ⟨Nat.zero_le _, (mem_upto.1 h).1, (mem_upto.1 h).2⟩, els_rises m⟩

/-- what a search that ends at g has found -/
structure Found (m : Nat → Bool) (many : Int) (g : Int) : Prop where
  lo : 0 ≤ g
  hi : g ≤ 256
  free : ∀ i : Nat, g ≤ i → (i : Int) < g + many → i < 256 → m i = false
  least : ∀ n : Nat, (n : Int) < g → ∃ i : Nat, n ≤ i ∧ (i : Int) < n + many ∧ i < 256 ∧ m i = true

theorem found_of (m : Nat → Bool) (many : Int) : ∀ (l : List Nat) (first : Nat), first ≤ 256 → From m first l →
    (∀ n : Nat, n < first → ∃ i : Nat, n ≤ i ∧ (i : Int) < n + many ∧ i < 256 ∧ m i = true) → Found m many (gapGo many first l)
  | [], first, hf, h, hl => by
    refine ⟨by rw [gapGo]; omega, by rw [gapGo]; omega, fun i h1 _ h3 => ?_, fun n hn => hl n (by rw [gapGo] at hn; omega)⟩
    rw [gapGo] at h1
    cases hm : m i
    · rfl
    · exact absurd (h.mem i (by omega) h3 hm) (by simp)
  | n :: r, first, hf, h, hl => by
    obtain ⟨n1, n2, n3⟩ := h.isIn n (by simp)
    have hr := List.pairwise_cons.1 h.rises
    rw [gapGo]
    by_cases hq : many ≤ (n : Int) - first
    · rw [if_pos hq]
      refine ⟨by omega, by omega, fun i h1 h2 h3 => ?_, fun k hk => hl k (by omega)⟩
      cases hm : m i
      · rfl
      · rcases List.mem_cons.1 (h.mem i (by omega) h3 hm) with e | e
        · omega
        · have := hr.1 i e; omega
    · rw [if_neg hq]
      refine found_of m many r (n + 1) (by omega) ⟨fun i h1 h2 h3 => ?_, fun i hi => ?_, hr.2⟩ fun k hk => ?_
      · rcases List.mem_cons.1 (h.mem i (by omega) h2 h3) with e | e
        · omega
        · exact e
      · have := hr.1 i hi
        have := h.isIn i (by simp [hi])
        exact ⟨by omega, this.2⟩
      · by_cases hk' : k < first
        · exact hl k hk'
        · exact ⟨n, by omega, by omega, n2, n3⟩
theorem found_gap (m : Nat → Bool) (many : Int) : Found m many (gapGo many 0 (els m)) :=
  found_of m many (els m) 0 (by omega) (from_all m) (fun n hn => by omega)

/-- a gap at n, below e -/
def FreeN (m : Nat → Bool) (many e : Int) (n : Nat) : Prop := (n : Int) + many ≤ e ∧ ∀ i : Nat, n ≤ i → (i : Int) < n + many → m i = false

theorem gapI_bad {m : Nat → Bool} {many e : Int} (h : many < 1 ∨ e < 0 ∨ 256 < e) : gapI m many e = -1 := by unfold gapI; rw [if_pos h]
theorem gapI_is {m : Nat → Bool} {many e : Int} (h1 : 1 ≤ many) (h2 : 0 ≤ e) (h3 : e ≤ 256) {n : Nat} (h : FreeN m many e n) (hl : ∀ k : Nat, k < n → ¬ FreeN m many e k) : gapI m many e = n := by
  have F := found_gap m many
  unfold gapI
  rw [if_neg (by omega)]
  obtain ⟨g, hg⟩ := Int.eq_ofNat_of_zero_le F.lo
  rw [hg] at F ⊢
  have hle : g ≤ n := by
    rcases Nat.lt_or_ge n g with hlt | hge
    · obtain ⟨i, i1, i2, i3, i4⟩ := F.least n (by omega)
      rw [h.2 i i1 i2] at i4; cases i4
    · exact hge
  have hfree : FreeN m many e g := ⟨by have := h.1; omega, fun i i1 i2 => F.free i (by omega) i2 (by have := h.1; omega)⟩
  rw [if_neg (by have := hfree.1; omega)]
  rcases Nat.lt_or_ge g n with hlt | hge
  · exact absurd hfree (hl g hlt)
  · omega
theorem gapI_none {m : Nat → Bool} {many e : Int} (h1 : 1 ≤ many) (h2 : 0 ≤ e) (h3 : e ≤ 256) (hl : ∀ k : Nat, (k : Int) < e → ¬ FreeN m many e k) : gapI m many e = -1 := by
  have F := found_gap m many
  unfold gapI
  rw [if_neg (by omega)]
  obtain ⟨g, hg⟩ := Int.eq_ofNat_of_zero_le F.lo
  rw [hg] at F ⊢
  by_cases hq : e - (g : Int) < many
  · rw [if_pos hq]
  · have hfree : FreeN m many e g := ⟨by omega, fun i i1 i2 => F.free i (by omega) i2 (by omega)⟩
    exact absurd hfree (hl g (by omega))
/-- what Gap's number says -/
theorem gapI_cases (m : Nat → Bool) (many e : Int) : gapI m many e = -1 ∧ ¬ (1 ≤ many ∧ many ≤ e ∧ e ≤ 256 ∧ els m = []) ∨
    ∃ g : Nat, gapI m many e = g ∧ 1 ≤ many ∧ e ≤ 256 ∧ (g : Int) + many ≤ e ∧ (∀ i : Nat, g ≤ i → (i : Int) < g + many → m i = false) ∧
      ∀ n : Nat, n < g → ∃ i : Nat, n ≤ i ∧ (i : Int) < n + many ∧ m i = true := by
  by_cases hb : many < 1 ∨ e < 0 ∨ 256 < e
  · exact .inl ⟨gapI_bad hb, by omega⟩
  have F := found_gap m many
  have hu : gapI m many e = if e - gapGo many 0 (els m) < many then -1 else gapGo many 0 (els m) := by unfold gapI; rw [if_neg hb]
  obtain ⟨g, hg⟩ := Int.eq_ofNat_of_zero_le F.lo
  by_cases hq : e - gapGo many 0 (els m) < many
  · refine .inl ⟨by rw [hu, if_pos hq], fun hh => ?_⟩
    rw [hh.2.2.2, gapGo] at hq
    omega
  · rw [if_neg hq] at hu
    rw [hg] at F hq hu
    exact .inr ⟨g, hu, by omega, by omega, by omega, fun i i1 i2 => F.free i (by omega) i2 (by omega), fun n hn => by
      obtain ⟨i, i1, i2, _, i4⟩ := F.least n (by omega)
      exact ⟨i, i1, i2, i4⟩⟩
end Go.Proofs.Ythlehgohpagfnaa
