/-
  Package buddy, in plain numbers: the given blocks in the order of their frames.
-/
import Derived.Test.YtmobhojblclmjaaBuL
namespace Go.Proofs.Ytmobhojblclmjaa

def ins (l : List (Nat × Nat)) (x : Nat × Nat) : List (Nat × Nat) := l.takeWhile (fun y => decide (y.1 < x.1)) ++ ([x] ++ l.dropWhile (fun y => decide (y.1 < x.1)))
def heldOf (g : List (Nat × Nat)) : List (Nat × Nat) := g.foldl ins []
theorem heldOf_snoc (g : List (Nat × Nat)) (x : Nat × Nat) : heldOf (g ++ [x]) = ins (heldOf g) x := by simp [heldOf]
theorem ins_mem {l : List (Nat × Nat)} {x y : Nat × Nat} : y ∈ ins l x ↔ y = x ∨ y ∈ l := by
  unfold ins
  have h := List.takeWhile_append_dropWhile (p := fun y : Nat × Nat => decide (y.1 < x.1)) (l := l)
  have : y ∈ l ↔ y ∈ l.takeWhile (fun y => decide (y.1 < x.1)) ∨ y ∈ l.dropWhile (fun y => decide (y.1 < x.1)) := by
    rw [← List.mem_append, h]
  rw [this]
  simp only [List.mem_append, List.mem_singleton]
  constructor
  · rintro (h | h | h)
    · exact .inr (.inl h)
    · exact .inl h
    · exact .inr (.inr h)
  · rintro (h | h | h)
    · exact .inr (.inl h)
    · exact .inl h
    · exact .inr (.inr h)
/-- where the search stops, all before it being below -/
theorem ins_at (l : List (Nat × Nat)) (x : Nat × Nat) : ∀ i, i ≤ l.length → (∀ j, j < i → (l.getD j (0, 0)).1 < x.1) → (i < l.length → ¬ (l.getD i (0, 0)).1 < x.1) → ins l x = l.take i ++ ([x] ++ l.drop i) := by
  induction l with
  | nil => intro i hi; simp at hi; subst hi; simp [ins]
  | cons y r ih =>
    intro i hi hb hs
    cases i with
    | zero =>
      have : ¬ y.1 < x.1 := hs (by simp)
      unfold ins
      rw [List.takeWhile_cons, List.dropWhile_cons, decide_eq_false this]
      simp
    | succ i =>
      have hy : y.1 < x.1 := hb 0 (by omega)
      have := ih i (by simpa using hi) (fun j hj => hb (j + 1) (by omega)) (fun h => hs (by simpa using h))
      unfold ins at this ⊢
      rw [List.takeWhile_cons, List.dropWhile_cons, decide_eq_true hy]
      exact congrArg (List.cons y) this
theorem takeWhile_all {l : List (Nat × Nat)} {p : Nat × Nat → Bool} {y : Nat × Nat} (h : y ∈ l.takeWhile p) : p y = true := by
  induction l with
  | nil => cases h
  | cons z r ih =>
    rw [List.takeWhile_cons] at h
    by_cases hz : p z = true
    · rw [if_pos hz] at h
      rcases List.mem_cons.1 h with e | e
      · rw [e]; exact hz
      · exact ih e
    · rw [if_neg hz] at h; cases h
theorem ins_rises {l : List (Nat × Nat)} {x : Nat × Nat} (h : l.Pairwise fun a b => a.1 < b.1) (hx : ∀ y, y ∈ l → y.1 ≠ x.1) : (ins l x).Pairwise fun a b => a.1 < b.1 := by
  induction l with
  | nil => simp [ins]
  | cons y r ih =>
    rw [List.pairwise_cons] at h
    have hyx := hx y (by simp)
    by_cases hy : y.1 < x.1
    · have e : ins (y :: r) x = y :: ins r x := by
        unfold ins
        rw [List.takeWhile_cons, List.dropWhile_cons, decide_eq_true hy]
        simp
      rw [e, List.pairwise_cons]
      refine ⟨fun z hz => ?_, ih h.2 fun z hz => hx z (by simp [hz])⟩
      rcases ins_mem.1 hz with rfl | hz
      · exact hy
      · exact h.1 z hz
    · have e : ins (y :: r) x = x :: y :: r := by
        unfold ins
        rw [List.takeWhile_cons, List.dropWhile_cons, decide_eq_false hy]
        simp
      rw [e, List.pairwise_cons, List.pairwise_cons]
      refine ⟨fun z hz => ?_, h⟩
      rcases List.mem_cons.1 hz with rfl | hz
      · omega
      · have := h.1 z hz; omega
theorem heldOf_mem (g : List (Nat × Nat)) : ∀ {y : Nat × Nat}, y ∈ heldOf g ↔ y ∈ g := by
  induction g using snoc_induction with
  | h0 => intro y; rfl
  | h1 l x ih =>
    intro y
    rw [heldOf_snoc, ins_mem, ih, List.mem_append, List.mem_singleton]
    exact Or.comm
theorem heldOf_rises {g : List (Nat × Nat)} (h : g.Pairwise fun a b => a.1 ≠ b.1) : (heldOf g).Pairwise fun a b => a.1 < b.1 := by
  induction g using snoc_induction with
  | h0 => exact List.Pairwise.nil
  | h1 l x ih =>
    rw [List.pairwise_append] at h
    rw [heldOf_snoc]
    exact ins_rises (ih h.1) fun y hy => h.2.2 y ((heldOf_mem l).1 hy) x (by simp)
theorem Bud.Ok.frames {b : Bud} (h : b.Ok) : b.gave.Pairwise fun x y => x.1 ≠ y.1 := h.apart.imp fun {x y} hxy e => by
  have h1 := Nat.two_pow_pos x.2
  have h2 := Nat.two_pow_pos y.2
  have := hxy x.1 (inBlk_iff.2 ⟨Nat.le_refl _, by omega⟩)
  rw [inBlk_iff.2 ⟨by omega, by omega⟩] at this
  cases this
/-- two lists that rise and have the same in them are the same -/
theorem rises_ext : ∀ {l l' : List (Nat × Nat)}, l.Pairwise (fun a b => a.1 < b.1) → l'.Pairwise (fun a b => a.1 < b.1) → (∀ x, x ∈ l ↔ x ∈ l') → l = l'
  | [], [], _, _, _ => rfl
  | [], y :: r, _, _, h => by have := (h y).2 (by simp); cases this
  | x :: r, [], _, _, h => by have := (h x).1 (by simp); cases this
  | x :: r, y :: s, h1, h2, h => by
    rw [List.pairwise_cons] at h1 h2
    have e : x = y := by
      rcases List.mem_cons.1 ((h x).1 (by simp)) with e | hx
      · exact e
      · rcases List.mem_cons.1 ((h y).2 (by simp)) with e | hy
        · exact e.symm
        · have := h1.1 y hy; have := h2.1 x hx; omega
    subst e
    rw [rises_ext h1.2 h2.2 fun z => ?_]
    constructor
    · intro hz
      rcases List.mem_cons.1 ((h z).1 (by simp [hz])) with e | hz'
      · subst e; have := h1.1 z hz; omega
      · exact hz'
    · intro hz
      rcases List.mem_cons.1 ((h z).2 (by simp [hz])) with e | hz'
      · subst e; have := h2.1 z hz; omega
      · exact hz'
def Bud.held (b : Bud) : List (Nat × Nat) := heldOf b.gave
theorem held_len (b : Bud) : b.held.length = b.gave.length := by
  unfold Bud.held
  generalize b.gave = g
  induction g using snoc_induction with
  | h0 => rfl
  | h1 l x ih =>
    rw [heldOf_snoc]
    unfold ins
    have := congrArg List.length (List.takeWhile_append_dropWhile (p := fun y : Nat × Nat => decide (y.1 < x.1)) (l := heldOf l))
    simp only [List.length_append, List.length_singleton] at this ⊢
    omega
end Go.Proofs.Ytmobhojblclmjaa
