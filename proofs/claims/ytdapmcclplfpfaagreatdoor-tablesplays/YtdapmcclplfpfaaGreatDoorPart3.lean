/-
  Texts that the laws stand on, joined: BuM, BuS, TbM, BuR, BuT, BuU, MapK, BgA, BgB.
-/
import Derived.Deep.CutBlock
import Derived.Deep.DeepCutAuto
import Derived.Deep.RegionHeld3
import Derived.Maps.AppendAt
import Derived.Maps.OwnOps
import Derived.Maps.OwnSet
import Derived.Maps.RangeWalk
import Derived.RangeFuncBox
import Derived.Test.YtdapmcclplfpfaaGreatDoorPart2

/-
  Package buddy, in plain numbers: blocks, free ones, the greatest free ones in their order.
-/
namespace Go.Proofs.YtdapmcclplfpfaaGreatDoor

/-! dyadic blocks: the block of 2^k numbers in which j lies begins at st j k -/
def st (j k : Nat) : Nat := j / 2 ^ k * 2 ^ k
theorem st_le (j k : Nat) : st j k ≤ j := Nat.div_mul_le_self _ _
theorem st_lt (j k : Nat) : j < st j k + 2 ^ k := by
  have := Nat.div_add_mod j (2 ^ k)
  have h2 := Nat.mod_lt j (Nat.two_pow_pos k)
  unfold st
  rw [Nat.mul_comm]
  omega
theorem st_mod (j k : Nat) : st j k % 2 ^ k = 0 := Nat.mul_mod_left _ _
theorem st_of {i j k : Nat} (hi : i % 2 ^ k = 0) (h1 : i ≤ j) (h2 : j < i + 2 ^ k) : st j k = i := by
  obtain ⟨q, rfl⟩ := Nat.dvd_of_mod_eq_zero hi
  unfold st
  have hp := Nat.two_pow_pos k
  have : j / 2 ^ k = q := by
    apply Nat.div_eq_of_lt_le
    · rw [Nat.mul_comm]; exact h1
    · rw [Nat.add_mul, Nat.mul_comm q, Nat.one_mul]; exact h2
  rw [this, Nat.mul_comm]
theorem st_self {i k : Nat} (hi : i % 2 ^ k = 0) : st i k = i := st_of hi (Nat.le_refl _) (by have := Nat.two_pow_pos k; omega)
theorem st_nest (j : Nat) {k l : Nat} (h : k ≤ l) : st j l ≤ st j k ∧ st j k + 2 ^ k ≤ st j l + 2 ^ l := by
  obtain ⟨d, rfl⟩ := Nat.le.dest h
  have e1 : j / 2 ^ (k + d) = j / 2 ^ k / 2 ^ d := by rw [Nat.pow_add, Nat.div_div_eq_div_mul]
  unfold st
  rw [e1]
  generalize j / 2 ^ k = q
  have hp := Nat.two_pow_pos k
  have h1 : q / 2 ^ d * 2 ^ d ≤ q := Nat.div_mul_le_self _ _
  have h2 : q < q / 2 ^ d * 2 ^ d + 2 ^ d := st_lt q d
  have e2 : q / 2 ^ d * 2 ^ (k + d) = q / 2 ^ d * 2 ^ d * 2 ^ k := by rw [Nat.pow_add, Nat.mul_comm (2 ^ k), Nat.mul_assoc]
  have e3 : 2 ^ (k + d) = 2 ^ d * 2 ^ k := by rw [Nat.pow_add, Nat.mul_comm]
  constructor
  · rw [e2]; exact Nat.mul_le_mul_right _ h1
  · rw [e2, e3, ← Nat.add_mul]
    have : q + 1 ≤ q / 2 ^ d * 2 ^ d + 2 ^ d := h2
    have := Nat.mul_le_mul_right (2 ^ k) this
    rw [Nat.add_mul, Nat.one_mul] at this
    exact this
theorem st_st (j : Nat) {k l : Nat} (h : k ≤ l) : st (st j k) l = st j l := by
  have h1 := st_nest j h
  have := Nat.two_pow_pos k
  exact st_of (st_mod j l) h1.1 (by omega)

/-- the block of order k from i on lies below n, and all of it is free -/
structure Blk (F : Nat → Bool) (n i k : Nat) : Prop where
  al : i % 2 ^ k = 0
  le : i + 2 ^ k ≤ n
  fr : ∀ j, i ≤ j → j < i + 2 ^ k → F j = true
/-- .. and it lies in no greater free one -/
structure Mx (F : Nat → Bool) (n i k : Nat) : Prop where
  hi : k ≤ 8
  b : Blk F n i k
  top : k < 8 → ¬ Blk F n (st i (k + 1)) (k + 1)

theorem Blk.down {F : Nat → Bool} {n j k l : Nat} (h : Blk F n (st j l) l) (hk : k ≤ l) : Blk F n (st j k) k := by
  have := st_nest j hk
  have h2 := h.le
  exact ⟨st_mod _ _, by omega, fun x h1 h2 => h.fr x (by omega) (by omega)⟩
theorem Mx.of_mem {F : Nat → Bool} {n i k j : Nat} (h : Mx F n i k) (h1 : i ≤ j) (h2 : j < i + 2 ^ k) : st j k = i := st_of h.b.al h1 h2
theorem Mx.unique {F : Nat → Bool} {n i k i' k' j : Nat} (h : Mx F n i k) (h' : Mx F n i' k') (h1 : i ≤ j) (h2 : j < i + 2 ^ k) (h1' : i' ≤ j) (h2' : j < i' + 2 ^ k') : i = i' ∧ k = k' := by
  have e := h.of_mem h1 h2
  have e' := h'.of_mem h1' h2'
  have key : ∀ {i k i' k' : Nat}, Mx F n i k → Mx F n i' k' → st j k = i → st j k' = i' → ¬ k < k' := by
    intro i k i' k' h h' e e' hlt
    have hb := h'.b
    rw [← e'] at hb
    have hd := Blk.down (k := k + 1) hb (by omega)
    have := h.top (by have := h'.hi; omega)
    rw [← e, st_st j (by omega)] at this
    exact this hd
  have hk : k = k' := by
    have a := key h h' e e'
    have b := key h' h e' e
    omega
  subst hk
  exact ⟨by rw [← e, ← e'], rfl⟩
theorem exists_mx {F : Nat → Bool} {n j : Nat} (hF : F j = true) (hj : j < n) : ∃ k, Mx F n (st j k) k := by
  have h0 : Blk F n (st j 0) 0 := by
    have e : st j 0 = j := by unfold st; simp
    rw [e]
    exact ⟨Nat.mod_one _, by simp; omega, fun x h1 h2 => by rw [show x = j from by simp at h2; omega]; exact hF⟩
  have key : ∀ d k, k + d = 8 → Blk F n (st j k) k → ∃ k, Mx F n (st j k) k := by
    intro d
    induction d with
    | zero => intro k hk hb; exact ⟨k, by omega, hb, fun h => by omega⟩
    | succ d ih =>
      intro k hk hb
      by_cases hn : Blk F n (st j (k + 1)) (k + 1)
      · exact ih (k + 1) (by omega) hn
      · exact ⟨k, by omega, hb, fun _ => by rw [st_st j (by omega)]; exact hn⟩
  exact key 8 0 rfl h0
theorem Blk.in_mx {F : Nat → Bool} {n i k : Nat} (h : Blk F n i k) (hk : k ≤ 8) : ∃ l, k ≤ l ∧ Mx F n (st i l) l := by
  have hp := Nat.two_pow_pos k
  obtain ⟨l, hl⟩ := exists_mx (n := n) (h.fr i (Nat.le_refl _) (by omega)) (by have := h.le; omega)
  refine ⟨l, ?_, hl⟩
  rcases Nat.lt_or_ge l k with hlt | hge
  · exfalso
    have h8 := hl.top (by omega)
    rw [st_st i (by omega)] at h8
    have e := st_self h.al
    rw [← e] at h
    exact h8 (h.down (by omega))
  · exact hge

/-! the same as answers, and the list of the greatest free blocks -/
def blkB (F : Nat → Bool) (n i k : Nat) : Bool := decide (i % 2 ^ k = 0) && decide (i + 2 ^ k ≤ n) && (List.range (2 ^ k)).all fun j => F (i + j)
theorem blkB_iff {F : Nat → Bool} {n i k : Nat} : blkB F n i k = true ↔ Blk F n i k := by
  unfold blkB
  simp only [Bool.and_eq_true, decide_eq_true_eq, List.all_eq_true, List.mem_range]
  constructor
  · rintro ⟨⟨h1, h2⟩, h3⟩
    exact ⟨h1, h2, fun j a b => by have := h3 (j - i) (by omega); rwa [show i + (j - i) = j from by omega] at this⟩
  · rintro ⟨h1, h2, h3⟩
    exact ⟨⟨h1, h2⟩, fun j hj => h3 (i + j) (by omega) (by omega)⟩
def mxB (F : Nat → Bool) (n i k : Nat) : Bool := decide (k ≤ 8) && blkB F n i k && (decide (8 ≤ k) || !blkB F n (st i (k + 1)) (k + 1))
theorem mxB_iff {F : Nat → Bool} {n i k : Nat} : mxB F n i k = true ↔ Mx F n i k := by
  unfold mxB
  simp only [Bool.and_eq_true, decide_eq_true_eq, Bool.or_eq_true, Bool.not_eq_true', blkB_iff]
  have e : blkB F n (st i (k + 1)) (k + 1) = false ↔ ¬ Blk F n (st i (k + 1)) (k + 1) := by rw [← blkB_iff]; simp
  constructor
  · rintro ⟨⟨h1, h2⟩, h3⟩
    exact ⟨h1, h2, fun hlt => by rcases h3 with h3 | h3; omega; exact e.1 h3⟩
  · rintro ⟨h1, h2, h3⟩
    refine ⟨⟨h1, h2⟩, ?_⟩
    by_cases h8 : 8 ≤ k
    · exact .inl h8
    · exact .inr (e.2 (h3 (by omega)))
/-- the greatest free block that begins at i, if one does -/
def mxAt (F : Nat → Bool) (n i : Nat) : List (Nat × Nat) := ((List.range 9).filter (mxB F n i)).map fun k => (i, k)
theorem mem_mxAt {F : Nat → Bool} {n i : Nat} {x : Nat × Nat} : x ∈ mxAt F n i ↔ x.1 = i ∧ Mx F n i x.2 := by
  unfold mxAt
  simp only [List.mem_map, List.mem_filter, List.mem_range, mxB_iff]
  constructor
  · rintro ⟨k, ⟨_, h⟩, rfl⟩; exact ⟨rfl, h⟩
  · rintro ⟨rfl, h⟩; exact ⟨x.2, ⟨by have := h.hi; omega, h⟩, rfl⟩
theorem filter_one {α : Type} (l : List α) (p : α → Bool) (a : α) (hn : l.Nodup) (ha : a ∈ l) (hp : p a = true) (hu : ∀ b, b ∈ l → p b = true → b = a) : l.filter p = [a] := by
  induction l with
  | nil => cases ha
  | cons x r ih =>
    rw [List.nodup_cons] at hn
    by_cases hx : x = a
    · subst hx
      rw [List.filter_cons_of_pos hp, List.filter_eq_nil_iff.2]
      intro b hb hpb
      exact hn.1 (hu b (by simp [hb]) hpb ▸ hb)
    · have hpx : ¬ p x = true := fun h => hx (hu x (by simp) h)
      rw [List.filter_cons_of_neg hpx]
      exact ih hn.2 ((List.mem_cons.1 ha).resolve_left (fun e => hx e.symm)) fun b hb => hu b (by simp [hb])
theorem mxAt_one {F : Nat → Bool} {n i k : Nat} (h : Mx F n i k) : mxAt F n i = [(i, k)] := by
  unfold mxAt
  rw [filter_one (List.range 9) (mxB F n i) k List.nodup_range (by have := h.hi; simp; omega) (mxB_iff.2 h) fun b _ hb => by
    have h1 := Nat.two_pow_pos k
    have h2 := Nat.two_pow_pos b
    exact ((mxB_iff.1 hb).unique h (Nat.le_refl _) (by omega) (Nat.le_refl _) (by omega)).2]
  rfl
theorem mxAt_none {F : Nat → Bool} {n i : Nat} (h : ∀ k, ¬ Mx F n i k) : mxAt F n i = [] := by
  unfold mxAt
  rw [List.filter_eq_nil_iff.2 fun k _ hk => h k (mxB_iff.1 hk)]
  rfl
/-- those that begin below m, in order -/
def mxTo (F : Nat → Bool) (n m : Nat) : List (Nat × Nat) := (List.range m).flatMap (mxAt F n)
theorem mxTo_succ (F : Nat → Bool) (n m : Nat) : mxTo F n (m + 1) = mxTo F n m ++ mxAt F n m := by
  unfold mxTo
  rw [List.range_succ, List.flatMap_append]
  simp
def blocks (F : Nat → Bool) (n : Nat) : List (Nat × Nat) := mxTo F n n
theorem mem_mxTo {F : Nat → Bool} {n m : Nat} {x : Nat × Nat} : x ∈ mxTo F n m ↔ x.1 < m ∧ Mx F n x.1 x.2 := by
  unfold mxTo
  simp only [List.mem_flatMap, List.mem_range, mem_mxAt]
  constructor
  · rintro ⟨i, hi, rfl, h⟩; exact ⟨hi, h⟩
  · rintro ⟨h1, h2⟩; exact ⟨x.1, h1, rfl, h2⟩
theorem mem_blocks {F : Nat → Bool} {n : Nat} {x : Nat × Nat} : x ∈ blocks F n ↔ Mx F n x.1 x.2 := by
  unfold blocks
  rw [mem_mxTo]
  exact ⟨fun h => h.2, fun h => ⟨by have := h.b.le; have := Nat.two_pow_pos x.2; omega, h⟩⟩
/-- no greatest block goes over the number i -/
def Edge (F : Nat → Bool) (n i : Nat) : Prop := ∀ f k, Mx F n f k → f < i → f + 2 ^ k ≤ i
theorem edge_zero (F : Nat → Bool) (n : Nat) : Edge F n 0 := fun f k _ h => by omega
theorem mxTo_jump {F : Nat → Bool} {n i k : Nat} (h : Mx F n i k) : mxTo F n (i + 2 ^ k) = mxTo F n i ++ [(i, k)] := by
  have key : ∀ d, 1 ≤ d → d ≤ 2 ^ k → mxTo F n (i + d) = mxTo F n i ++ [(i, k)] := by
    intro d
    induction d with
    | zero => intro h1; omega
    | succ d ih =>
      intro _ h2
      rw [← Nat.add_assoc, mxTo_succ]
      by_cases h0 : d = 0
      · subst h0
        rw [Nat.add_zero, mxAt_one h]
      · rw [ih (by omega) (by omega), mxAt_none, List.append_nil]
        intro l hl
        have hp := Nat.two_pow_pos l
        have := (h.unique hl (j := i + d) (by omega) (by omega) (Nat.le_refl _) (by omega)).1
        omega
  exact key (2 ^ k) (Nat.two_pow_pos k) (Nat.le_refl _)
theorem edge_jump {F : Nat → Bool} {n i k : Nat} (h : Mx F n i k) (he : Edge F n i) : Edge F n (i + 2 ^ k) := by
  intro f l hl hf
  have hp := Nat.two_pow_pos k
  rcases Nat.lt_or_ge f i with h1 | h1
  · have := he f l hl h1; omega
  · obtain ⟨e1, e2⟩ := h.unique hl h1 hf (Nat.le_refl _) (by have := Nat.two_pow_pos l; omega)
    subst e1 e2
    exact Nat.le_refl _
theorem edge_skip {F : Nat → Bool} {n i : Nat} (hF : F i = false) (he : Edge F n i) : Edge F n (i + 1) := by
  intro f l hl hf
  rcases Nat.lt_or_ge f i with h1 | h1
  · have := he f l hl h1; omega
  · have e : f = i := by omega
    subst e
    have := hl.b.fr f (Nat.le_refl _) (by have := Nat.two_pow_pos l; omega)
    rw [hF] at this
    cases this
theorem mxTo_skip {F : Nat → Bool} {n i : Nat} (hF : F i = false) : mxTo F n (i + 1) = mxTo F n i := by
  rw [mxTo_succ, mxAt_none, List.append_nil]
  intro k h
  have := h.b.fr i (Nat.le_refl _) (by have := Nat.two_pow_pos k; omega)
  rw [hF] at this
  cases this
/-- where the scan meets a free number, a greatest block begins; it is the greatest free one there -/
theorem edge_mx {F : Nat → Bool} {n i : Nat} (he : Edge F n i) (hF : F i = true) (hi : i < n) : ∃ k, Mx F n i k ∧ ∀ l, l ≤ 8 → Blk F n i l → l ≤ k := by
  obtain ⟨k, hk⟩ := exists_mx hF hi
  have h1 := st_le i k
  have h2 := st_lt i k
  have e : st i k = i := by
    rcases Nat.lt_or_ge (st i k) i with hlt | hge
    · have := he _ _ hk hlt; omega
    · omega
  rw [e] at hk
  refine ⟨k, hk, fun l hl hb => ?_⟩
  rcases Nat.lt_or_ge k l with hlt | hge
  · exfalso
    have es := st_self hb.al
    rw [← es] at hb
    exact hk.top (by omega) (hb.down (by omega))
  · exact hge
end Go.Proofs.YtdapmcclplfpfaaGreatDoor

/-
  Package buddy, in plain numbers: an allocator's state, Alloc, Free, Held, and what always holds of it.
-/
namespace Go.Proofs.YtdapmcclplfpfaaGreatDoor

/-- does frame j lie in the block? -/
def inBlk (x : Nat × Nat) (j : Nat) : Bool := decide (x.1 ≤ j) && decide (j < x.1 + 2 ^ x.2)
theorem inBlk_iff {x : Nat × Nat} {j : Nat} : inBlk x j = true ↔ x.1 ≤ j ∧ j < x.1 + 2 ^ x.2 := by simp [inBlk]
theorem inBlk_no {x : Nat × Nat} {j : Nat} : inBlk x j = false ↔ ¬ (x.1 ≤ j ∧ j < x.1 + 2 ^ x.2) := by rw [← inBlk_iff]; simp
/-- an allocator: how many frames, how many of them reserved, which are free, the blocks that were given, one by one -/
structure Bud where
  n : Nat
  res : Nat
  F : Nat → Bool
  gave : List (Nat × Nat)
def bud0 (n res : Nat) : Bud := ⟨n, res, fun j => decide (res ≤ j) && decide (j < n), []⟩
structure Bud.Ok (b : Bud) : Prop where
  lo : 1 ≤ b.n
  hi : b.n ≤ 256
  rs : b.res ≤ b.n
  blk : ∀ x, x ∈ b.gave → x.2 ≤ 8 ∧ x.1 % 2 ^ x.2 = 0 ∧ b.res ≤ x.1 ∧ x.1 + 2 ^ x.2 ≤ b.n
  apart : b.gave.Pairwise fun x y => ∀ j, inBlk x j = true → inBlk y j = false
  fr : ∀ j, b.F j = true ↔ b.res ≤ j ∧ j < b.n ∧ ∀ x, x ∈ b.gave → inBlk x j = false
theorem bud0_ok {n res : Nat} (h1 : 1 ≤ n) (h2 : n ≤ 256) (h3 : res ≤ n) : (bud0 n res).Ok :=
  ⟨h1, h2, h3, fun x hx => by simp [bud0] at hx, by simp [bud0], fun j => by simp [bud0]⟩
theorem Bud.Ok.ext {b c : Bud} (h : b.Ok) (h' : c.Ok) (e1 : b.n = c.n) (e2 : b.res = c.res) (e3 : ∀ x, x ∈ b.gave ↔ x ∈ c.gave) : b.F = c.F := by
  funext j
  have e : b.F j = true ↔ c.F j = true := by
    rw [h.fr, h'.fr, e1, e2]
    constructor
    · rintro ⟨a1, a2, a3⟩; exact ⟨a1, a2, fun x hx => a3 x ((e3 x).2 hx)⟩
    · rintro ⟨a1, a2, a3⟩; exact ⟨a1, a2, fun x hx => a3 x ((e3 x).1 hx)⟩
  cases hb : b.F j <;> cases hc : c.F j <;> simp_all

/-! Alloc -/
/-- the best block so far, one more looked at -/
def better (o : Nat) (b : Option (Nat × Nat)) (x : Nat × Nat) : Option (Nat × Nat) :=
  match b with
  | none => if o ≤ x.2 then some x else none
  | some y => if o ≤ x.2 ∧ x.2 < y.2 then some x else some y
def pick (o : Nat) (l : List (Nat × Nat)) : Option (Nat × Nat) := l.foldl (better o) none
theorem pick_snoc (o : Nat) (l : List (Nat × Nat)) (x : Nat × Nat) : pick o (l ++ [x]) = better o (pick o l) x := by simp [pick]
theorem snoc_induction {α : Type} {P : List α → Prop} (h0 : P []) (h1 : ∀ l x, P l → P (l ++ [x])) (l : List α) : P l := by
  have : ∀ r : List α, P r.reverse := by
    intro r
    induction r with
    | nil => exact h0
    | cons x r ih => rw [List.reverse_cons]; exact h1 _ _ ih
  have h := this l.reverse
  rwa [List.reverse_reverse] at h
theorem pick_spec (o : Nat) (l : List (Nat × Nat)) : match pick o l with
    | none => ∀ y, y ∈ l → y.2 < o
    | some x => x ∈ l ∧ o ≤ x.2 ∧ ∀ y, y ∈ l → o ≤ y.2 → x.2 ≤ y.2 := by
  induction l using snoc_induction with
  | h0 => simp [pick]
  | h1 l x ih =>
    rw [pick_snoc]
    cases hp : pick o l with
    | none =>
      rw [hp] at ih
      unfold better
      by_cases hx : o ≤ x.2
      · simp only [hx, if_true]
        refine ⟨by simp, trivial, fun y hy ho => ?_⟩
        rcases List.mem_append.1 hy with h | h
        · have := ih y h; omega
        · simp at h; subst h; exact Nat.le_refl _
      · simp only [hx, if_false]
        intro y hy
        rcases List.mem_append.1 hy with h | h
        · exact ih y h
        · simp at h; subst h; omega
    | some y =>
      rw [hp] at ih
      obtain ⟨i1, i2, i3⟩ := ih
      unfold better
      by_cases hx : o ≤ x.2 ∧ x.2 < y.2
      · simp only [hx, and_self, if_true]
        refine ⟨by simp, trivial, fun z hz ho => ?_⟩
        rcases List.mem_append.1 hz with h | h
        · have := i3 z h ho; omega
        · simp at h; subst h; exact Nat.le_refl _
      · simp only [hx, if_false]
        refine ⟨by simp [i1], i2, fun z hz ho => ?_⟩
        rcases List.mem_append.1 hz with h | h
        · exact i3 z h ho
        · simp at h; subst h; omega
theorem pick_none {o : Nat} {l : List (Nat × Nat)} (h : pick o l = none) : ∀ y, y ∈ l → y.2 < o := by have := pick_spec o l; rw [h] at this; exact this
theorem pick_some {o : Nat} {l : List (Nat × Nat)} {x : Nat × Nat} (h : pick o l = some x) : x ∈ l ∧ o ≤ x.2 ∧ ∀ y, y ∈ l → o ≤ y.2 → x.2 ≤ y.2 := by have := pick_spec o l; rw [h] at this; exact this

def cutF (F : Nat → Bool) (x : Nat × Nat) : Nat → Bool := fun j => F j && !inBlk x j
def addF (F : Nat → Bool) (x : Nat × Nat) : Nat → Bool := fun j => F j || inBlk x j
/-- the block that Alloc chooses -/
def Bud.sel (b : Bud) (o : Nat) : Option (Nat × Nat) := pick o (blocks b.F b.n)
def Bud.give (b : Bud) (x : Nat × Nat) : Bud := { b with F := cutF b.F x, gave := b.gave ++ [x] }
def Bud.take (b : Bud) (x : Nat × Nat) : Bud := { b with F := addF b.F x, gave := b.gave.erase x }

theorem sel_blk {b : Bud} {o : Nat} {x : Nat × Nat} (h : b.sel o = some x) : Mx b.F b.n x.1 x.2 ∧ o ≤ x.2 := by
  have := pick_some h
  exact ⟨mem_blocks.1 this.1, this.2.1⟩
theorem pow_mono {o k : Nat} (h : o ≤ k) : 2 ^ o ≤ 2 ^ k := Nat.pow_le_pow_right (by decide) h
theorem mod_pow_of {i o k : Nat} (h : o ≤ k) (hi : i % 2 ^ k = 0) : i % 2 ^ o = 0 := by
  obtain ⟨d, rfl⟩ := Nat.le.dest h
  rw [Nat.pow_add] at hi
  exact Nat.mod_eq_zero_of_dvd (Nat.dvd_trans (Nat.dvd_mul_right _ _) (Nat.dvd_of_mod_eq_zero hi))
/-- a block of order o at the beginning of a free one -/
theorem Blk.head {F : Nat → Bool} {n i k o : Nat} (h : Blk F n i k) (ho : o ≤ k) : Blk F n i o := by
  have := pow_mono ho
  have h2 := h.le
  exact ⟨mod_pow_of ho h.al, by omega, fun j h1 h2 => h.fr j h1 (by omega)⟩
theorem Bud.Ok.give {b : Bud} (h : b.Ok) {f o : Nat} (ho : o ≤ 8) (hb : Blk b.F b.n f o) : (b.give (f, o)).Ok := by
  have hp := Nat.two_pow_pos o
  have hf := (h.fr f).1 (hb.fr f (Nat.le_refl _) (by omega))
  refine ⟨h.lo, h.hi, h.rs, fun x hx => ?_, ?_, fun j => ?_⟩
  · rcases List.mem_append.1 hx with hx | hx
    · exact h.blk x hx
    · simp at hx; subst hx; exact ⟨ho, hb.al, hf.1, hb.le⟩
  · show (b.gave ++ [(f, o)]).Pairwise _
    rw [List.pairwise_append]
    refine ⟨h.apart, by simp, fun x hx y hy j hj => ?_⟩
    simp at hy; subst hy
    rw [inBlk_no]
    intro hj2
    have := ((h.fr j).1 (hb.fr j hj2.1 hj2.2)).2.2 x hx
    rw [hj] at this; cases this
  · show (b.F j && !inBlk (f, o) j) = true ↔ _
    simp only [Bool.and_eq_true, Bool.not_eq_true']
    rw [h.fr]
    show _ ↔ b.res ≤ j ∧ j < b.n ∧ ∀ x, x ∈ b.gave ++ [(f, o)] → _
    simp only [List.mem_append, List.mem_singleton]
    constructor
    · rintro ⟨⟨a1, a2, a3⟩, a4⟩
      exact ⟨a1, a2, fun x hx => by rcases hx with hx | hx; exact a3 x hx; rw [hx]; exact a4⟩
    · rintro ⟨a1, a2, a3⟩
      exact ⟨⟨a1, a2, fun x hx => a3 x (.inl hx)⟩, a3 _ (.inr rfl)⟩
theorem Bud.Ok.nodup {b : Bud} (h : b.Ok) : b.gave.Nodup := by
  refine List.Pairwise.imp (fun {x y} hxy e => ?_) h.apart
  subst e
  have hx : inBlk x x.1 = true := by rw [inBlk_iff]; have := Nat.two_pow_pos x.2; omega
  have := hxy x.1 hx
  rw [hx] at this; cases this
theorem Bud.Ok.two {b : Bud} (h : b.Ok) {x y : Nat × Nat} (hx : x ∈ b.gave) (hy : y ∈ b.gave) (hne : x ≠ y) (j : Nat) (hj : inBlk x j = true) : inBlk y j = false := by
  have key : ∀ l : List (Nat × Nat), l.Pairwise (fun x y => ∀ j, inBlk x j = true → inBlk y j = false) → x ∈ l → y ∈ l → inBlk y j = false := by
    intro l hl
    induction l with
    | nil => intro hx; cases hx
    | cons z r ih =>
      intro hx hy
      rw [List.pairwise_cons] at hl
      rcases List.mem_cons.1 hx with e | hx'
      · rcases List.mem_cons.1 hy with e' | hy'
        · exact absurd (e.trans e'.symm) hne
        · subst e; exact hl.1 y hy' j hj
      · rcases List.mem_cons.1 hy with e' | hy'
        · subst e'
          cases hb : inBlk y j
          · rfl
          · have := hl.1 x hx' j hb
            rw [hj] at this; cases this
        · exact ih hl.2 hx' hy'
  exact key b.gave h.apart hx hy
theorem Bud.Ok.take {b : Bud} (h : b.Ok) {x : Nat × Nat} (hx : x ∈ b.gave) : (b.take x).Ok := by
  have hmem : ∀ y, y ∈ b.gave.erase x ↔ y ≠ x ∧ y ∈ b.gave := fun y => h.nodup.mem_erase_iff
  refine ⟨h.lo, h.hi, h.rs, fun y hy => h.blk y ((hmem y).1 hy).2, h.apart.sublist List.erase_sublist, fun j => ?_⟩
  show (b.F j || inBlk x j) = true ↔ b.res ≤ j ∧ j < b.n ∧ ∀ y, y ∈ b.gave.erase x → _
  rw [Bool.or_eq_true, h.fr]
  obtain ⟨b1, b2, b3, b4⟩ := h.blk x hx
  constructor
  · rintro (⟨a1, a2, a3⟩ | hj)
    · exact ⟨a1, a2, fun y hy => a3 y ((hmem y).1 hy).2⟩
    · have hj' := inBlk_iff.1 hj
      exact ⟨by omega, by omega, fun y hy => h.two hx ((hmem y).1 hy).2 (fun e => ((hmem y).1 hy).1 e.symm) j hj⟩
  · rintro ⟨a1, a2, a3⟩
    cases hj : inBlk x j
    · refine .inl ⟨a1, a2, fun y hy => ?_⟩
      by_cases e : y = x
      · rw [e]; exact hj
      · exact a3 y ((hmem y).2 ⟨e, hy⟩)
    · exact .inr rfl
theorem sel_give {b : Bud} (h : b.Ok) {o : Nat} {x : Nat × Nat} (ho : o ≤ 8) (hs : b.sel o = some x) : (b.give (x.1, o)).Ok ∧ Blk b.F b.n x.1 o := by
  obtain ⟨h1, h2⟩ := sel_blk hs
  exact ⟨h.give ho (h1.b.head h2), h1.b.head h2⟩

/-! Left -/
def cnt (F : Nat → Bool) (n : Nat) : Nat := ((List.range n).filter F).length
theorem cnt_succ (F : Nat → Bool) (n : Nat) : cnt F (n + 1) = cnt F n + (F n).toNat := by
  unfold cnt
  rw [List.range_succ, List.filter_append, List.length_append]
  cases h : F n <;> simp [h]
theorem cnt_le (F : Nat → Bool) (n : Nat) : cnt F n ≤ n := by
  have := List.length_filter_le F (List.range n)
  simpa [cnt] using this
theorem cnt_cut (F : Nat → Bool) (f k : Nat) (hf : ∀ j, f ≤ j → j < f + 2 ^ k → F j = true) : ∀ n, cnt (cutF F (f, k)) n + (min n (f + 2 ^ k) - min n f) = cnt F n
  | 0 => by simp [cnt]
  | n + 1 => by
    rw [cnt_succ, cnt_succ]
    have ih := cnt_cut F f k hf n
    have hp := Nat.two_pow_pos k
    by_cases h1 : f ≤ n ∧ n < f + 2 ^ k
    · have e1 : cutF F (f, k) n = false := by unfold cutF; rw [inBlk_iff.2 h1]; simp
      rw [e1, hf n h1.1 h1.2]
      simp only [Bool.toNat_false, Bool.toNat_true]
      omega
    · have e1 : cutF F (f, k) n = F n := by unfold cutF; rw [inBlk_no.2 h1]; simp
      rw [e1]
      omega
def Bud.left (b : Bud) : Nat := cnt b.F b.n
theorem left_give {b : Bud} {f o : Nat} (hb : Blk b.F b.n f o) : (b.give (f, o)).left + 2 ^ o = b.left := by
  have h := cnt_cut b.F f o hb.fr b.n
  have := hb.le
  have hp := Nat.two_pow_pos o
  show cnt (cutF b.F (f, o)) b.n + 2 ^ o = cnt b.F b.n
  rw [Nat.min_eq_right (by omega), Nat.min_eq_right (by omega)] at h
  omega
theorem left_take {b : Bud} (h : b.Ok) {x : Nat × Nat} (hx : x ∈ b.gave) : (b.take x).left = b.left + 2 ^ x.2 := by
  obtain ⟨b1, b2, b3, b4⟩ := h.blk x hx
  have hfull : ∀ j, x.1 ≤ j → j < x.1 + 2 ^ x.2 → addF b.F x j = true := fun j h1 h2 => by unfold addF; rw [inBlk_iff.2 ⟨h1, h2⟩]; simp
  have hc := cnt_cut (addF b.F x) x.1 x.2 hfull b.n
  have e : cutF (addF b.F x) (x.1, x.2) = b.F := by
    funext j
    unfold cutF addF
    cases hj : inBlk x j
    · simp
    · have : b.F j = false := by
        cases hF : b.F j
        · rfl
        · have := ((h.fr j).1 hF).2.2 x hx
          rw [hj] at this; cases this
      simp [this]
  have hp := Nat.two_pow_pos x.2
  rw [e, Nat.min_eq_right (by omega), Nat.min_eq_right (by omega)] at hc
  show cnt (addF b.F x) b.n = cnt b.F b.n + 2 ^ x.2
  omega

theorem nodup_len : ∀ (n : Nat) (l : List Nat), l.Nodup → (∀ x, x ∈ l → x < n) → l.length ≤ n
  | 0, l, _, h => by
    cases l with
    | nil => exact Nat.le_refl _
    | cons x r => have := h x (by simp); omega
  | n + 1, l, hn, h => by
    have ih := nodup_len n (l.erase n) (hn.erase n) fun x hx => by
      have h1 := hn.mem_erase_iff.1 hx
      have := h x h1.2
      have := h1.1
      omega
    have := List.length_erase (a := n) (l := l)
    rw [this] at ih
    split at ih <;> omega
/-- blocks that lie apart below n are at most n -/
theorem apart_len : ∀ (l : List (Nat × Nat)) (n : Nat), l.Pairwise (fun x y => ∀ j, inBlk x j = true → inBlk y j = false) → (∀ x, x ∈ l → x.1 + 2 ^ x.2 ≤ n) → l.length ≤ n := by
  intro l n hp hb
  have hnd : (l.map Prod.fst).Nodup := by
    rw [List.Nodup, List.pairwise_map]
    refine hp.imp fun {x y} hxy e => ?_
    have h1 := Nat.two_pow_pos x.2
    have h2 := Nat.two_pow_pos y.2
    have := hxy x.1 (inBlk_iff.2 ⟨Nat.le_refl _, by omega⟩)
    rw [inBlk_iff.2 ⟨by omega, by omega⟩] at this
    cases this
  have := nodup_len n _ hnd fun j hj => by
    obtain ⟨x, hx, rfl⟩ := List.mem_map.1 hj
    have := hb x hx
    have := Nat.two_pow_pos x.2
    omega
  simpa using this
theorem Bud.Ok.gave_len {b : Bud} (h : b.Ok) : b.gave.length ≤ 256 :=
  Nat.le_trans (apart_len b.gave b.n h.apart fun x hx => (h.blk x hx).2.2.2) h.hi
end Go.Proofs.YtdapmcclplfpfaaGreatDoor

/-
  Package tables, in plain numbers: a space as a tree of entries, the words of its tables, what a walk finds there.
-/
namespace Go.Proofs.YtdapmcclplfpfaaGreatDoor

/-- the node of a level on the way to page q: its upper digits -/
def nd (q l : Nat) : Nat := q / 16 ^ (3 - l)
theorem nd0 {q : Nat} (h : q < 4096) : nd q 0 = 0 := Nat.div_eq_of_lt (by simpa using h)
theorem nd1 (q : Nat) : nd q 1 = q / 256 := rfl
theorem nd2 (q : Nat) : nd q 2 = q / 16 := rfl
theorem nd3 (q : Nat) : nd q 3 = q := by simp [nd]
theorem idx_nat (q k : Nat) (hq : q < 4096) (hk : k < 3) : idxI q k = ((nd q (k + 1) % 16 : Nat) : Int) := by
  have hb : idxB q k = true := decide_eq_true (by omega)
  unfold idxI
  rw [if_pos hb]
  match k, hk with
  | 0, _ => simp [nd1]; omega
  | 1, _ => simp [nd2]
  | 2, _ => simp [nd3]
theorem nd_up (q k : Nat) (hk : k < 3) : nd q (k + 1) / 16 = nd q k := by
  match k, hk with
  | 0, _ => rw [nd1]; unfold nd; simp; omega
  | 1, _ => rw [nd1, nd2]; omega
  | 2, _ => rw [nd2, nd3]
theorem nd_step (q k : Nat) (hk : k < 3) : 16 * nd q k + nd q (k + 1) % 16 = nd q (k + 1) := by
  have := nd_up q k hk
  omega
theorem nd_lt (q k : Nat) (hq : q < 4096) (hk : k ≤ 3) : nd q k < 16 ^ k := by
  match k, hk with
  | 0, _ => rw [nd0 hq]; decide
  | 1, _ => rw [nd1]; omega
  | 2, _ => rw [nd2]; omega
  | 3, _ => rw [nd3]; omega

/-- a space: its root, and the entry of each node in the table above it (levels 1 to 3) -/
structure Sp where
  root : Int
  E : Nat → Nat → En
def Sp.on (s : Sp) (l d : Nat) : Bool := if l = 0 then decide (d = 0) else (s.E l d).v
def Sp.fr (s : Sp) (l d : Nat) : Int := if l = 0 then s.root else (s.E l d).f
theorem Sp.on0 (s : Sp) : s.on 0 0 = true := rfl
theorem Sp.fr0 (s : Sp) (d : Nat) : s.fr 0 d = s.root := rfl
theorem Sp.onS (s : Sp) (l d : Nat) : s.on (l + 1) d = (s.E (l + 1) d).v := by simp [Sp.on]
theorem Sp.frS (s : Sp) (l d : Nat) : s.fr (l + 1) d = (s.E (l + 1) d).f := by simp [Sp.fr]
structure Sp.Ok (s : Sp) (n : Nat) : Prop where
  rlo : 0 ≤ s.root
  rhi : s.root < n
  none : ∀ l d, (s.E l d).v = false → s.E l d = En.zero
  lv : ∀ l d, (s.E l d).v = true → 1 ≤ l ∧ l ≤ 3 ∧ d < 16 ^ l ∧ s.on (l - 1) (d / 16) = true
  tb : ∀ l d, (s.E l d).v = true → l ≤ 2 → (s.E l d).t = true ∧ (s.E l d).r = false
  pg : ∀ d, (s.E 3 d).v = true → (s.E 3 d).t = false
  f : ∀ l d, (s.E l d).v = true → 0 ≤ (s.E l d).f ∧ (s.E l d).f < n
  inj : ∀ l d l' d', l ≤ 2 → l' ≤ 2 → s.on l d = true → s.on l' d' = true → s.fr l d = s.fr l' d' → l = l' ∧ d = d'
/-- no table is there for nothing -/
def Sp.need (s : Sp) : Prop := ∀ l d, 1 ≤ l → l ≤ 2 → s.on l d = true → ∃ p, p < 16 ∧ (s.E (l + 1) (16 * d + p)).v = true
/-- the words of its tables -/
def Sp.In (s : Sp) (m : Mem) : Prop := ∀ l d p, l ≤ 2 → s.on l d = true → p < 16 → m.word (s.fr l d) (p : Nat) = (s.E (l + 1) (16 * d + p)).word
theorem En.zero_ok : En.zero.ok = true := rfl
theorem En.zero_word : En.zero.word = 0 := rfl
theorem Sp.Ok.frb {s : Sp} {n : Nat} (h : s.Ok n) {l d : Nat} (ho : s.on l d = true) : 0 ≤ s.fr l d ∧ s.fr l d < n := by
  cases l with
  | zero => exact ⟨h.rlo, h.rhi⟩
  | succ l => rw [s.onS] at ho; rw [s.frS]; exact h.f _ _ ho
theorem Sp.Ok.eok {s : Sp} {n : Nat} (h : s.Ok n) (hn : n ≤ 256) (l d : Nat) : (s.E l d).ok = true := by
  cases hv : (s.E l d).v
  · rw [h.none l d hv]; rfl
  · have hf := h.f l d hv
    have hl := h.lv l d hv
    by_cases h3 : l = 3
    · subst h3
      have := h.pg d hv
      unfold En.ok rightB
      rw [hv, this]
      simp; omega
    · have := h.tb l d hv (by omega)
      unfold En.ok rightB
      rw [hv, this.1, this.2]
      simp; omega
theorem Sp.Ok.ond {s : Sp} {n : Nat} (h : s.Ok n) {l d : Nat} (hl : l ≤ 3) (ho : s.on l d = true) : d < 16 ^ l := by
  cases l with
  | zero => have : d = 0 := by simpa [Sp.on] using ho
            subst this; decide
  | succ l => rw [s.onS] at ho; exact (h.lv _ _ ho).2.2.1
theorem Sp.In.get {s : Sp} {m : Mem} (h : s.In m) (hk : s.Ok m.n) (hn : m.n ≤ 256) {l d p : Nat} (hl : l ≤ 2) (ho : s.on l d = true) (hp : p < 16) :
    m.slot (s.fr l d) (p : Nat) = true ∧ m.getX (s.fr l d) (p : Nat) = 0 ∧ m.getE (s.fr l d) (p : Nat) = s.E (l + 1) (16 * d + p) := by
  have hs : m.slot (s.fr l d) (p : Nat) = true := by
    rw [Mem.slot_iff]
    have := hk.frb ho
    omega
  have hw := h l d p hl ho hp
  have := of_word _ (hk.eok hn (l + 1) (16 * d + p))
  refine ⟨hs, ?_, ?_⟩
  · unfold Mem.getX; rw [if_pos hs, hw, this.1]; rfl
  · unfold Mem.getE; rw [if_pos hs, hw, this.2]

/-- how many tables lead towards a page -/
def Sp.dep (s : Sp) (q : Nat) : Nat := if (s.E 1 (nd q 1)).v = false then 1 else if (s.E 2 (nd q 2)).v = false then 2 else 3
theorem Sp.dep_on {s : Sp} {q : Nat} (hq : q < 4096) : ∀ k, k < s.dep q → s.on k (nd q k) = true := by
  intro k hk
  match k with
  | 0 => rw [nd0 hq]; rfl
  | 1 =>
    unfold Sp.dep at hk
    rw [s.onS]
    cases hv : (s.E 1 (nd q 1)).v
    · rw [hv] at hk; simp at hk
    · rfl
  | 2 =>
    unfold Sp.dep at hk
    rw [s.onS]
    cases hv : (s.E 2 (nd q 2)).v
    · rw [hv] at hk; split at hk <;> simp at hk
    · rfl
  | k + 3 => unfold Sp.dep at hk; split at hk; omega; split at hk <;> omega
theorem Sp.dep_bd (s : Sp) (q : Nat) : 1 ≤ s.dep q ∧ s.dep q ≤ 3 := by unfold Sp.dep; split; omega; split <;> omega
theorem Sp.dep_off {s : Sp} {n q : Nat} (hk : s.Ok n) : ∀ k, s.dep q ≤ k → k ≤ 2 → s.on k (nd q k) = false := by
  intro k h1 h2
  have hb := s.dep_bd q
  match k, h2 with
  | 0, _ => omega
  | 1, _ =>
    rw [s.onS]
    cases hv : (s.E 1 (nd q 1)).v
    · rfl
    · unfold Sp.dep at h1; rw [hv] at h1; simp at h1; split at h1 <;> omega
  | 2, _ =>
    rw [s.onS]
    cases hv : (s.E 2 (nd q 2)).v
    · rfl
    · have := (hk.lv _ _ hv).2.2.2
      rw [show nd q 2 / 16 = nd q 1 from nd_up q 1 (by omega)] at this
      rw [show (2 : Nat) - 1 = 0 + 1 from rfl, s.onS] at this
      unfold Sp.dep at h1
      rw [this, hv] at h1
      simp at h1
theorem Sp.page_dep {s : Sp} {n q : Nat} (hk : s.Ok n) (hv : (s.E 3 q).v = true) : s.dep q = 3 ∧ q < 4096 := by
  have h3 := hk.lv _ _ hv
  have h2 : (s.E 2 (nd q 2)).v = true := by
    have := h3.2.2.2
    rw [show (3 : Nat) - 1 = 1 + 1 from rfl, s.onS] at this
    exact this
  have h1 : (s.E 1 (nd q 1)).v = true := by
    have := (hk.lv _ _ h2).2.2.2
    rw [show nd q 2 / 16 = nd q 1 from nd_up q 1 (by omega)] at this
    rw [show (2 : Nat) - 1 = 0 + 1 from rfl, s.onS] at this
    exact this
  refine ⟨?_, by simpa using h3.2.2.1⟩
  unfold Sp.dep
  rw [h1, h2]
  simp
/-- what a walk from the root finds -/
theorem Sp.walk {s : Sp} {m : Mem} (h : s.In m) (hk : s.Ok m.n) (hn : m.n ≤ 256) {q : Nat} (hq : q < 4096) :
    m.wN s.root q = s.dep q ∧ m.wX s.root q = (if (s.E 3 q).v = true then 0 else 10) ∧ m.wE s.root q = s.E 3 q ∧ (∀ k, k < s.dep q → m.wF s.root q k = s.fr k (nd q k)) := by
  have hB : m.wB s.root q = true := by
    unfold Mem.wB
    have h1 : m.ex s.root 1 = true := decide_eq_true (by have := hk.rlo; have := hk.rhi; omega)
    have h2 : pageB q = true := decide_eq_true (by omega)
    rw [h1, h2]; rfl
  have key : ∀ k, k < 3 → m.wF s.root q k = s.fr k (nd q k) → s.on k (nd q k) = true → m.getE (m.wF s.root q k) (idxI q k) = s.E (k + 1) (nd q (k + 1)) ∧ m.getX (m.wF s.root q k) (idxI q k) = 0 := by
    intro k hk3 e ho
    have := h.get hk hn (p := nd q (k + 1) % 16) (by omega) ho (Nat.mod_lt _ (by decide))
    rw [nd_step q k hk3] at this
    rw [e, idx_nat q k hq hk3]
    exact ⟨this.2.2, this.2.1⟩
  have hC : ∀ k, k < 3 → m.wF s.root q k = s.fr k (nd q k) → s.on k (nd q k) = true → m.wC s.root q k = if (s.E (k + 1) (nd q (k + 1))).v = true then 0 else 10 := by
    intro k hk3 e ho
    obtain ⟨k1, k2⟩ := key k hk3 e ho
    unfold Mem.wC
    rw [k1, k2]
    unfold codeI
    cases hv : (s.E (k + 1) (nd q (k + 1))).v
    · simp
    · by_cases h2 : k < 2
      · have := (hk.tb _ _ hv (by omega)).1
        simp [this, h2]
      · obtain rfl : k = 2 := by omega
        have := hk.pg _ hv
        simp [this]
  have f0 : m.wF s.root q 0 = s.fr 0 (nd q 0) := rfl
  have o0 : s.on 0 (nd q 0) = true := by rw [nd0 hq]; rfl
  have c0 := hC 0 (by omega) f0 o0
  cases h1 : (s.E 1 (nd q 1)).v
  · have hd : s.dep q = 1 := by unfold Sp.dep; rw [h1]; rfl
    rw [h1] at c0
    have := m.walk_stop s.root q hB 0 (by omega) (by omega) (by rw [c0]; simp)
    have h3 : (s.E 3 q).v = false := by
      cases hv : (s.E 3 q).v
      · rfl
      · have := (Sp.page_dep hk hv).1; omega
    rw [hd, h3, hk.none _ _ h3]
    refine ⟨this.1, by rw [this.2.1, c0], this.2.2, fun k hk => ?_⟩
    obtain rfl : k = 0 := by omega
    exact f0
  · rw [h1] at c0
    have f1 : m.wF s.root q 1 = s.fr 1 (nd q 1) := by rw [Mem.wF, (key 0 (by omega) f0 o0).1, s.frS]
    have o1 : s.on 1 (nd q 1) = true := by rw [s.onS]; exact h1
    have c1 := hC 1 (by omega) f1 o1
    cases h2 : (s.E 2 (nd q 2)).v
    · have hd : s.dep q = 2 := by unfold Sp.dep; rw [h1, h2]; rfl
      rw [h2] at c1
      have := m.walk_stop s.root q hB 1 (by omega) (fun j hj => by obtain rfl : j = 0 := by omega
                                                                   exact c0) (by rw [c1]; simp)
      have h3 : (s.E 3 q).v = false := by
        cases hv : (s.E 3 q).v
        · rfl
        · have := (Sp.page_dep hk hv).1; omega
      rw [hd, h3, hk.none _ _ h3]
      refine ⟨this.1, by rw [this.2.1, c1], this.2.2, fun k hk => ?_⟩
      match k, hk with
      | 0, _ => exact f0
      | 1, _ => exact f1
    · have hd : s.dep q = 3 := by unfold Sp.dep; rw [h1, h2]; rfl
      rw [h2] at c1
      have f2 : m.wF s.root q 2 = s.fr 2 (nd q 2) := by rw [Mem.wF, (key 1 (by omega) f1 o1).1, s.frS]
      have o2 : s.on 2 (nd q 2) = true := by rw [s.onS]; exact h2
      have c2 := hC 2 (by omega) f2 o2
      rw [show (2 : Nat) + 1 = 3 from rfl, nd3] at c2
      have hF : ∀ k, k < s.dep q → m.wF s.root q k = s.fr k (nd q k) := by
        intro k hk
        rw [hd] at hk
        match k, hk with
        | 0, _ => exact f0
        | 1, _ => exact f1
        | 2, _ => exact f2
      cases h3 : (s.E 3 q).v
      · rw [h3] at c2
        have := m.walk_stop s.root q hB 2 (by omega) (fun j hj => by
          match j, hj with
          | 0, _ => exact c0
          | 1, _ => exact c1) (by rw [c2]; simp)
        rw [hk.none _ _ h3]
        exact ⟨by rw [this.1, hd], by rw [this.2.1, c2], this.2.2, hF⟩
      · rw [h3] at c2
        have := m.walk_end s.root q hB (fun j hj => by
          match j, hj with
          | 0, _ => exact c0
          | 1, _ => exact c1
          | 2, _ => exact c2)
        refine ⟨by rw [this.1, hd], this.2.1, ?_, hF⟩
        have k2 := (key 2 (by omega) f2 o2).1
        rw [nd3] at k2
        rw [this.2.2]
        exact k2

/-! one entry set -/
def Sp.set (s : Sp) (l d : Nat) (e : En) : Sp := { s with E := fun l' d' => if l' = l ∧ d' = d then e else s.E l' d' }
theorem Sp.set_same (s : Sp) (l d : Nat) (e : En) : (s.set l d e).E l d = e := by simp [Sp.set]
theorem Sp.set_ne (s : Sp) {l d l' d' : Nat} (e : En) (h : ¬ (l' = l ∧ d' = d)) : (s.set l d e).E l' d' = s.E l' d' := by simp only [Sp.set]; rw [if_neg h]
theorem Sp.set_root (s : Sp) (l d : Nat) (e : En) : (s.set l d e).root = s.root := rfl
theorem Sp.set_on_same (s : Sp) (l d : Nat) (e : En) : (s.set (l + 1) d e).on (l + 1) d = e.v := by rw [Sp.onS, Sp.set_same]
theorem Sp.set_fr_same (s : Sp) (l d : Nat) (e : En) : (s.set (l + 1) d e).fr (l + 1) d = e.f := by rw [Sp.frS, Sp.set_same]
theorem Sp.set_on (s : Sp) {l d l' d' : Nat} (e : En) (h : ¬ (l' = l + 1 ∧ d' = d)) : (s.set (l + 1) d e).on l' d' = s.on l' d' := by
  cases l' with
  | zero => rfl
  | succ l' => rw [Sp.onS, Sp.onS, s.set_ne e h]
theorem Sp.set_fr (s : Sp) {l d l' d' : Nat} (e : En) (h : ¬ (l' = l + 1 ∧ d' = d)) : (s.set (l + 1) d e).fr l' d' = s.fr l' d' := by
  cases l' with
  | zero => rfl
  | succ l' => rw [Sp.frS, Sp.frS, s.set_ne e h]
theorem Mem.word_put (m : Mem) (hk : m.ok) (f p : Int) (e : En) (g q : Int) (hs : m.slot f p = true) (hq : m.slot g q = true) (he : e.ok = true) : (m.put f p e).word g q = if g = f ∧ q = p then e.word else m.word g q := by
  unfold Mem.put Mem.putB
  rw [hs, he]
  simp only [Bool.and_true, if_true]
  exact m.word_wr hk f p g q _ hs hq
/-- the words behind a Put -/
theorem Sp.In.set {s : Sp} {m : Mem} (h : s.In m) (hk : s.Ok m.n) (hm : m.ok) {l d p : Nat} (hl : l ≤ 2) (ho : s.on l d = true) (hp : p < 16) (e : En) (he : e.ok = true)
    (hnew : l + 1 ≤ 2 → e.v = true → 0 ≤ e.f ∧ e.f < m.n ∧ (∀ p' : Nat, p' < 16 → m.word e.f p' = 0 ∧ (s.E (l + 2) (16 * (16 * d + p) + p')).v = false) ∧ e.f ≠ s.fr l d) :
    (s.set (l + 1) (16 * d + p) e).In (m.put (s.fr l d) (p : Nat) e) := by
  have hs : m.slot (s.fr l d) (p : Nat) = true := by rw [Mem.slot_iff]; have := hk.frb ho; omega
  intro l' d' p' hl' ho' hp'
  by_cases hx : l' = l + 1 ∧ d' = 16 * d + p
  · obtain ⟨rfl, rfl⟩ := hx
    rw [Sp.set_on_same] at ho'
    rw [Sp.set_fr_same]
    obtain ⟨n1, n2, n3, n4⟩ := hnew hl' ho'
    rw [m.word_put hm _ _ _ _ _ hs (by rw [Mem.slot_iff]; omega) he, if_neg (fun x => n4 x.1), (n3 p' hp').1, s.set_ne e (by omega), hk.none _ _ (n3 p' hp').2]
    rfl
  · rw [s.set_on e hx] at ho'
    rw [s.set_fr e hx]
    rw [m.word_put hm _ _ _ _ _ hs (by rw [Mem.slot_iff]; have := hk.frb ho'; omega) he]
    by_cases hy : s.fr l' d' = s.fr l d ∧ (p' : Int) = p
    · obtain ⟨rfl, rfl⟩ := hk.inj _ _ _ _ hl' hl ho' ho hy.1
      obtain rfl : p' = p := by omega
      rw [if_pos hy, s.set_same]
    · rw [if_neg hy, h l' d' p' hl' ho' hp', s.set_ne e]
      rintro ⟨a, b⟩
      obtain rfl : l' = l := by omega
      have : d' = d ∧ p' = p := by omega
      exact hy ⟨by rw [this.1], by rw [this.2]⟩
/-- a table more -/
def tbE (c : Int) : En := ⟨true, false, true, c⟩
theorem Sp.Ok.table {s : Sp} {n : Nat} (hk : s.Ok n) {l d p : Nat} (hl : l ≤ 1) (ho : s.on l d = true) (hp : p < 16) (hoff : (s.E (l + 1) (16 * d + p)).v = false) {c : Int} (h0 : 0 ≤ c) (h1 : c < n)
    (hfr : ∀ l' d', l' ≤ 2 → s.on l' d' = true → s.fr l' d' ≠ c) : (s.set (l + 1) (16 * d + p) (tbE c)).Ok n := by
  have hd := hk.ond (by omega) ho
  have hon : ∀ l' d', s.on l' d' = true → (s.set (l + 1) (16 * d + p) (tbE c)).on l' d' = true := by
    intro l' d' h
    by_cases hx : l' = l + 1 ∧ d' = 16 * d + p
    · rw [hx.1, hx.2, Sp.set_on_same]; rfl
    · rw [s.set_on _ hx]; exact h
  refine ⟨hk.rlo, hk.rhi, ?_, ?_, ?_, ?_, ?_, ?_⟩
  · intro l' d' hv
    by_cases hx : l' = l + 1 ∧ d' = 16 * d + p
    · rw [hx.1, hx.2, Sp.set_same] at hv; cases hv
    · rw [s.set_ne _ hx] at hv ⊢; exact hk.none _ _ hv
  · intro l' d' hv
    by_cases hx : l' = l + 1 ∧ d' = 16 * d + p
    · obtain ⟨rfl, rfl⟩ := hx
      refine ⟨by omega, by omega, ?_, ?_⟩
      · rw [Nat.pow_succ]; omega
      · rw [show l + 1 - 1 = l from rfl, show (16 * d + p) / 16 = d from by omega]
        exact hon _ _ ho
    · rw [s.set_ne _ hx] at hv
      obtain ⟨a, b, c', e⟩ := hk.lv _ _ hv
      exact ⟨a, b, c', hon _ _ e⟩
  · intro l' d' hv h2
    by_cases hx : l' = l + 1 ∧ d' = 16 * d + p
    · rw [hx.1, hx.2, Sp.set_same]; exact ⟨rfl, rfl⟩
    · rw [s.set_ne _ hx] at hv ⊢; exact hk.tb _ _ hv h2
  · intro d' hv
    rw [s.set_ne _ (by omega)] at hv ⊢
    exact hk.pg _ hv
  · intro l' d' hv
    by_cases hx : l' = l + 1 ∧ d' = 16 * d + p
    · rw [hx.1, hx.2, Sp.set_same]; exact ⟨h0, h1⟩
    · rw [s.set_ne _ hx] at hv ⊢; exact hk.f _ _ hv
  · intro l1 d1 l2 d2 a1 a2 o1 o2 e
    by_cases hx : l1 = l + 1 ∧ d1 = 16 * d + p
    · by_cases hy : l2 = l + 1 ∧ d2 = 16 * d + p
      · exact ⟨hx.1.trans hy.1.symm, hx.2.trans hy.2.symm⟩
      · exfalso
        rw [s.set_on _ hy] at o2
        rw [s.set_fr _ hy, hx.1, hx.2, Sp.set_fr_same] at e
        exact hfr _ _ a2 o2 e.symm
    · by_cases hy : l2 = l + 1 ∧ d2 = 16 * d + p
      · exfalso
        rw [s.set_on _ hx] at o1
        rw [s.set_fr _ hx, hy.1, hy.2, Sp.set_fr_same] at e
        exact hfr _ _ a1 o1 e
      · rw [s.set_on _ hx] at o1
        rw [s.set_on _ hy] at o2
        rw [s.set_fr _ hx, s.set_fr _ hy] at e
        exact hk.inj _ _ _ _ a1 a2 o1 o2 e
/-- a page -/
theorem Sp.Ok.page {s : Sp} {n : Nat} (hk : s.Ok n) {d p : Nat} (ho : s.on 2 d = true) (hp : p < 16) (e : En) (hv : e.v = true) (ht : e.t = false) (h0 : 0 ≤ e.f) (h1 : e.f < n) :
    (s.set 3 (16 * d + p) e).Ok n := by
  have hd := hk.ond (by omega) ho
  have hon : ∀ l' d', l' ≤ 2 → (s.set 3 (16 * d + p) e).on l' d' = s.on l' d' := fun l' d' h => s.set_on e (by omega)
  refine ⟨hk.rlo, hk.rhi, ?_, ?_, ?_, ?_, ?_, ?_⟩
  · intro l' d' hv'
    by_cases hx : l' = 3 ∧ d' = 16 * d + p
    · rw [hx.1, hx.2, Sp.set_same, hv] at hv'; cases hv'
    · rw [s.set_ne _ hx] at hv' ⊢; exact hk.none _ _ hv'
  · intro l' d' hv'
    by_cases hx : l' = 3 ∧ d' = 16 * d + p
    · obtain ⟨rfl, rfl⟩ := hx
      refine ⟨by omega, by omega, ?_, ?_⟩
      · rw [Nat.pow_succ]; omega
      · rw [hon _ _ (by omega), show (16 * d + p) / 16 = d from by omega]
        exact ho
    · rw [s.set_ne _ hx] at hv'
      obtain ⟨a, b, c', e'⟩ := hk.lv _ _ hv'
      exact ⟨a, b, c', by rw [hon _ _ (by omega)]; exact e'⟩
  · intro l' d' hv' h2
    rw [s.set_ne _ (by omega)] at hv' ⊢
    exact hk.tb _ _ hv' h2
  · intro d' hv'
    by_cases hx : 3 = 3 ∧ d' = 16 * d + p
    · rw [hx.2, Sp.set_same]; exact ht
    · rw [s.set_ne _ hx] at hv' ⊢; exact hk.pg _ hv'
  · intro l' d' hv'
    by_cases hx : l' = 3 ∧ d' = 16 * d + p
    · rw [hx.1, hx.2, Sp.set_same]; exact ⟨h0, h1⟩
    · rw [s.set_ne _ hx] at hv' ⊢; exact hk.f _ _ hv'
  · intro l1 d1 l2 d2 a1 a2 o1 o2 e'
    rw [hon _ _ a1] at o1
    rw [hon _ _ a2] at o2
    rw [s.set_fr _ (by omega), s.set_fr _ (by omega)] at e'
    exact hk.inj _ _ _ _ a1 a2 o1 o2 e'
/-- an entry that goes -/
theorem Sp.Ok.drop {s : Sp} {n : Nat} (hk : s.Ok n) {l d : Nat} (hch : l + 1 ≤ 2 → ∀ p, p < 16 → (s.E (l + 2) (16 * d + p)).v = false) : (s.set (l + 1) d En.zero).Ok n := by
  have hv0 : ∀ l' d', ((s.set (l + 1) d En.zero).E l' d').v = true → ¬ (l' = l + 1 ∧ d' = d) ∧ (s.E l' d').v = true := by
    intro l' d' hv
    by_cases hx : l' = l + 1 ∧ d' = d
    · rw [hx.1, hx.2, Sp.set_same] at hv; cases hv
    · rw [s.set_ne _ hx] at hv; exact ⟨hx, hv⟩
  have hon0 : ∀ l' d', (s.set (l + 1) d En.zero).on l' d' = true → ¬ (l' = l + 1 ∧ d' = d) ∧ s.on l' d' = true := by
    intro l' d' hv
    by_cases hx : l' = l + 1 ∧ d' = d
    · rw [hx.1, hx.2, Sp.set_on_same] at hv; cases hv
    · rw [s.set_on _ hx] at hv; exact ⟨hx, hv⟩
  refine ⟨hk.rlo, hk.rhi, ?_, ?_, ?_, ?_, ?_, ?_⟩
  · intro l' d' hv
    by_cases hx : l' = l + 1 ∧ d' = d
    · rw [hx.1, hx.2, Sp.set_same]
    · rw [s.set_ne _ hx] at hv ⊢; exact hk.none _ _ hv
  · intro l' d' hv
    obtain ⟨hx, hv'⟩ := hv0 _ _ hv
    obtain ⟨a, b, c', e'⟩ := hk.lv _ _ hv'
    refine ⟨a, b, c', ?_⟩
    rw [s.set_on _ ?_]
    · exact e'
    · rintro ⟨h1, h2⟩
      obtain rfl : l' = l + 2 := by omega
      have := hch (by omega) (d' % 16) (Nat.mod_lt _ (by decide))
      rw [show 16 * d + d' % 16 = d' from by omega, hv'] at this
      cases this
  · intro l' d' hv h2
    obtain ⟨hx, hv'⟩ := hv0 _ _ hv
    rw [s.set_ne _ hx]; exact hk.tb _ _ hv' h2
  · intro d' hv
    obtain ⟨hx, hv'⟩ := hv0 _ _ hv
    rw [s.set_ne _ hx]; exact hk.pg _ hv'
  · intro l' d' hv
    obtain ⟨hx, hv'⟩ := hv0 _ _ hv
    rw [s.set_ne _ hx]; exact hk.f _ _ hv'
  · intro l1 d1 l2 d2 a1 a2 o1 o2 e
    obtain ⟨x1, o1'⟩ := hon0 _ _ o1
    obtain ⟨x2, o2'⟩ := hon0 _ _ o2
    rw [s.set_fr _ x1, s.set_fr _ x2] at e
    exact hk.inj _ _ _ _ a1 a2 o1' o2' e
end Go.Proofs.YtdapmcclplfpfaaGreatDoor

/-
  The document's own allocator: where it lies, and the contracts of its power, free, Blocks, Left.
-/
namespace Go.Proofs.YtdapmcclplfpfaaGreatDoor
open Go.ChangeShapes Go.WideShapes Go.ChangeAt Go.RowKit

/-- the cells of blocks -/
def bcells (l : List (Nat × Nat)) : List Value := l.flatMap fun x => [.int .i64 (x.1 : Int), .int .i64 (x.2 : Int)]
theorem bcells_app (l l' : List (Nat × Nat)) : bcells (l ++ l') = bcells l ++ bcells l' := List.flatMap_append
theorem bcells_length (l : List (Nat × Nat)) : (bcells l).length = l.length * 2 := by
  induction l with
  | nil => rfl
  | cons x r ih => rw [show x :: r = [x] ++ r from rfl, bcells_app, List.length_append, ih]; simp [bcells]; omega
def fcells (n : Nat) (F : Nat → Bool) : List Value := (List.range n).map fun i => .bool (F i)
/-- the document's allocator b lies at block C, over the memory at MP, its marks at FB, the given blocks in the slice g -/
structure RBud (w : World) (C MP FB : Nat) (g : Value) (b : Bud) : Prop where
  head : w.heap[C]? = some (.cells #[.pointer (some ⟨MP, 0, none⟩), .slice (some ⟨FB, 0, none⟩) b.n b.n, g] 69 (0, 0))
  fr : w.heap[FB]? = some (.cells (fcells b.n b.F).toArray 4 (0, 0))
  gv : w.ownsRow 0 113 2 g b.gave.length (bcells b.gave)
  ok : b.Ok
theorem RBud.c0 {w : World} {C MP FB : Nat} {g : Value} {b : Bud} (h : RBud w C MP FB g b) : w.cell? ⟨C, 0, none⟩ = some (.pointer (some ⟨MP, 0, none⟩)) := by rw [cell_of_row w C 0 _ _ _ h.head]; rfl
theorem RBud.c1 {w : World} {C MP FB : Nat} {g : Value} {b : Bud} (h : RBud w C MP FB g b) : w.cell? ⟨C, 1, none⟩ = some (.slice (some ⟨FB, 0, none⟩) b.n b.n) := by rw [cell_of_row w C 1 _ _ _ h.head]; rfl
theorem RBud.c2 {w : World} {C MP FB : Nat} {g : Value} {b : Bud} (h : RBud w C MP FB g b) : w.cell? ⟨C, 2, none⟩ = some g := by rw [cell_of_row w C 2 _ _ _ h.head]; rfl
theorem fcell {w : World} {FB n : Nat} {F : Nat → Bool} {t : TypeId} (h : w.heap[FB]? = some (.cells (fcells n F).toArray t (0, 0))) (i : Nat) (hi : i < n) : w.cell? ⟨FB, i, none⟩ = some (.bool (F i)) := by
  rw [cell_of_row w FB i _ _ _ h, List.getElem?_toArray]
  simp [fcells, hi]

theorem row_kept {S : Nat → Prop} {w w' : World} {base sz k : Nat} {e : TypeId} {v : Value} {xs : List Value} (h : w.ownsRow base e sz v k xs) (u : Upd S w w') (hg : ∀ j, v.ownBlock = some j → ¬ S j) : w'.ownsRow base e sz v k xs := by
  refine ⟨h.1, ?_⟩
  rcases h.2 with hn | ⟨g, cap, cur, rfl, hb, hgg, rest⟩
  · exact .inl hn
  · exact .inr ⟨g, cap, cur, rfl, hb, u.at hgg (hg g rfl), rest⟩
theorem RBud.kept {S : Nat → Prop} {w w' : World} {C MP FB : Nat} {g : Value} {b : Bud} (h : RBud w C MP FB g b) (u : Upd S w w') (h1 : ¬ S C) (h2 : ¬ S FB) (h3 : ∀ j, g.ownBlock = some j → ¬ S j) : RBud w' C MP FB g b :=
  ⟨u.at h.head h1, u.at h.fr h2, row_kept h.gv u h3, h.ok⟩
theorem upd_of_below {B : Nat} {w w' : World} (h : Below B w w') (hB : w.heap.size ≤ B) : Upd (fun _ => False) w w' := ⟨h.os, h.tape, h.output, h.size, fun k hk _ => h.block k (by omega)⟩
theorem RBud.below {w w' : World} {C MP FB B : Nat} {g : Value} {b : Bud} (h : RBud w C MP FB g b) (hb : Below B w w') (hB : w.heap.size ≤ B) : RBud w' C MP FB g b :=
  h.kept (upd_of_below hb hB) (fun h => h) (fun h => h) (fun _ _ h => h)
/-- two to the power of k, as a number that the walk leaves alone -/
def pw (k : Nat) : Int := ((2 ^ k : Nat) : Int)
theorem pw_succ (k : Nat) : pw (k + 1) = pw k * 2 := by unfold pw; rw [Nat.pow_succ]; omega
theorem pw_bd (k : Nat) (h : k ≤ 8) : 1 ≤ pw k ∧ pw k ≤ 256 := by
  have h1 : 2 ^ k ≤ 2 ^ 8 := pow_mono h
  have h2 := Nat.two_pow_pos k
  unfold pw
  omega
set_option maxHeartbeats 400000 in
theorem rpower_any (k : Nat) (w : World) (hk : k ≤ 8) :
    Calls Tryz.prog 56 #[.int .i64 k] w fun e w' => e = .returned (.int .i64 (pw k)) ∧ w = w' := by
  go_enter Tryz.func56, Tryz.ntmps56
  go_wp2
  go_loop [3, 4] (fun p t => ∃ i : Nat, i ≤ k ∧ t = .int .i64 i ∧ p = .int .i64 (pw i)) (fun _ t => k - (intOf t).toNat)
  case atStart => exact ⟨0, by omega, rfl, rfl⟩
  case round =>
    obtain ⟨i, hi, rfl, rfl⟩ := hrel
    by_cases hlt : i < k
    · have h1 := pw_bd i (by omega)
      have hs := Lib.hid (pw_succ i)
      generalize pw i = p at h1 hs ⊢
      go_wp2
      exact ⟨⟨i + 1, by omega, by go_num, by rw [hs.out]⟩, by simp [intOf]; omega⟩
    · have e : i = k := by omega
      subst e
      go_wp2
      go_ret
      exact ⟨rfl, rfl⟩

def freeAll (F : Nat → Bool) (n i q : Nat) : Bool := decide (i + q ≤ n) && (List.range q).all fun j => F (i + j)
theorem blkB_free (F : Nat → Bool) (n i k : Nat) : blkB F n i k = (decide (i % 2 ^ k = 0) && freeAll F n i (2 ^ k)) := by
  unfold blkB freeAll
  rw [Bool.and_assoc]
theorem freeAll_no {F : Nat → Bool} {n i q : Nat} (h : ¬ i + q ≤ n) : freeAll F n i q = false := by unfold freeAll; simp [h]
theorem freeAll_hit {F : Nat → Bool} {n i q j : Nat} (h1 : i ≤ j) (h2 : j < i + q) (hF : F j = false) : freeAll F n i q = false := by
  cases hb : freeAll F n i q
  · rfl
  · unfold freeAll at hb
    rw [Bool.and_eq_true, List.all_eq_true] at hb
    have := hb.2 (j - i) (by simp; omega)
    rw [show i + (j - i) = j from by omega, hF] at this
    cases this
theorem freeAll_yes {F : Nat → Bool} {n i q : Nat} (h : i + q ≤ n) (hF : ∀ j, i ≤ j → j < i + q → F j = true) : freeAll F n i q = true := by
  unfold freeAll
  rw [Bool.and_eq_true, List.all_eq_true]
  exact ⟨decide_eq_true h, fun j hj => hF (i + j) (by omega) (by simp at hj; omega)⟩

set_option maxHeartbeats 1000000 in
theorem rfree_any (C MP FB : Nat) (g : Value) (b : Bud) (i q : Nat) (w : World) (h : RBud w C MP FB g b) (hi : i ≤ 256) (hq : q ≤ 256) :
    Calls Tryz.prog 75 #[.pointer (some ⟨C, 0, none⟩), .int .i64 i, .int .i64 q] w fun e w' => e = .returned (.bool (freeAll b.F b.n i q)) ∧ w = w' := by
  have hc := h.c1
  have hn := h.ok.hi
  have hcell := fun j hj => fcell h.fr j hj
  by_cases hle : i + q ≤ b.n
  · go_enter Tryz.func75, Tryz.ntmps75
    go_wp2
    go_loop [7] (fun t => ∃ j : Nat, i ≤ j ∧ j ≤ i + q ∧ t = .int .i64 j ∧ Hid (∀ x, i ≤ x → x < j → b.F x = true)) (fun t => 1000 - (intOf t).toNat)
    case atStart => exact ⟨i, Nat.le_refl _, by omega, rfl, Lib.hid fun x h1 h2 => by omega⟩
    case round =>
      obtain ⟨j, j1, j2, rfl, hF⟩ := hrel
      by_cases hlt : j < i + q
      · have hcj := hcell j (by omega)
        cases hb : b.F j
        · have hv := Lib.hid (freeAll_hit (n := b.n) j1 hlt hb)
          rw [hb] at hcj
          clear hb hcell
          go_wp2
          go_ret
          exact ⟨by rw [hv.out]; rfl, rfl⟩
        · rw [hb] at hcj
          have hst : Hid (∀ x, i ≤ x → x < j + 1 → b.F x = true) := Lib.hid fun x h1 h2 => by
            rcases Nat.lt_or_ge x j with hx | hx
            · exact hF.out x h1 hx
            · rw [show x = j from by omega]; exact hb
          clear hb hcell
          go_wp2
          exact ⟨⟨j + 1, by omega, by omega, by go_num, hst⟩, by simp [intOf]; omega⟩
      · have hv := Lib.hid (freeAll_yes hle fun x h1 h2 => hF.out x h1 (by omega))
        clear hcell
        go_wp2
        go_ret
        exact ⟨by rw [hv.out]; rfl, rfl⟩
  · have hv := Lib.hid (freeAll_no (F := b.F) hle)
    clear hcell
    go_enter Tryz.func75, Tryz.ntmps75
    go_wp2
    go_ret
    exact ⟨by rw [hv.out]; rfl, rfl⟩

set_option maxHeartbeats 1000000 in
theorem rleft_any (C MP FB : Nat) (g : Value) (b : Bud) (w : World) (h : RBud w C MP FB g b) :
    Calls Tryz.prog 23 #[.pointer (some ⟨C, 0, none⟩)] w fun e w' => e = .returned (.int .i64 b.left) ∧ w = w' := by
  have hc := h.c1
  have hn := h.ok.hi
  have hcell := fun j hj => fcell h.fr j hj
  go_enter Tryz.func23, Tryz.ntmps23
  go_wp2
  go_loop [3, 4] (fun s t => ∃ j : Nat, j ≤ b.n ∧ t = .int .i64 j ∧ s = .int .i64 (cnt b.F j : Nat)) (fun _ t => b.n - (intOf t).toNat)
  case atStart => exact ⟨0, by omega, rfl, rfl⟩
  case round =>
    obtain ⟨j, j1, rfl, rfl⟩ := hrel
    by_cases hlt : j < b.n
    · have hcj := hcell j hlt
      have hs := Lib.hid (cnt_succ b.F j)
      have hcl := cnt_le b.F j
      generalize cnt b.F j = c at hs hcl ⊢
      clear hcell
      cases hb : b.F j
      · rw [hb] at hcj hs
        clear hb
        go_wp2
        exact ⟨⟨j + 1, by omega, by go_num, by rw [hs.out]; rfl⟩, by simp [intOf]; omega⟩
      · rw [hb] at hcj hs
        clear hb
        go_wp2
        exact ⟨⟨j + 1, by omega, by go_num, by rw [hs.out]; rfl⟩, by simp [intOf]; omega⟩
    · have e : j = b.n := by omega
      subst e
      clear hcell
      have hv := Lib.hid (show b.left = cnt b.F b.n from rfl)
      generalize cnt b.F b.n = c at hv ⊢
      go_wp2
      go_ret
      exact ⟨by rw [hv.out]; rfl, rfl⟩

/-- the greatest order below k of a free block at i, as Blocks looks for it -/
def bestTo (F : Nat → Bool) (n i : Nat) : Nat → Int
  | 0 => -1
  | k + 1 => if blkB F n i k = true then (k : Int) else bestTo F n i k
theorem bestTo_none {F : Nat → Bool} {n i : Nat} (h : F i = false) : ∀ k, bestTo F n i k = -1
  | 0 => rfl
  | k + 1 => by
    rw [bestTo, if_neg, bestTo_none h k]
    intro hb
    have := (blkB_iff.1 hb).fr i (Nat.le_refl _) (by have := Nat.two_pow_pos k; omega)
    rw [h] at this; cases this
theorem bestTo_is {F : Nat → Bool} {n i k : Nat} (h : Blk F n i k) (hk : k ≤ 8) (hu : ∀ l, l ≤ 8 → Blk F n i l → l ≤ k) : ∀ d, k < d → d ≤ 9 → bestTo F n i d = k
  | 0, h1, _ => by omega
  | d + 1, h1, h2 => by
    rw [bestTo]
    by_cases hd : d = k
    · subst hd; rw [if_pos (blkB_iff.2 h)]
    · rw [if_neg, bestTo_is h hk hu d (by omega) (by omega)]
      intro hb
      have := hu d (by omega) (blkB_iff.1 hb)
      omega
theorem bestTo_bd (F : Nat → Bool) (n i : Nat) : ∀ k, -1 ≤ bestTo F n i k ∧ bestTo F n i k < k
  | 0 => by simp [bestTo]
  | k + 1 => by
    have := bestTo_bd F n i k
    rw [bestTo]
    split <;> omega

theorem mxTo_len (F : Nat → Bool) (n : Nat) : ∀ m, (mxTo F n m).length ≤ m
  | 0 => by simp [mxTo]
  | m + 1 => by
    rw [mxTo_succ, List.length_append]
    have := mxTo_len F n m
    by_cases h : ∃ k, Mx F n m k
    · obtain ⟨k, hk⟩ := h
      rw [mxAt_one hk]; simp; omega
    · rw [mxAt_none fun k hk => h ⟨k, hk⟩]; simp; omega
theorem info_rblock : (Tryz.prog.info? 113).map (fun i => (i.zero, i.size, i.bytes)) = some (some (.agg #[.int .i64 0, .int .i64 0]), 2, 16) := by kernel_rfl
theorem slice2 {w : World} {base : Nat} {e : TypeId} {v : Value} {k : Nat} {xs : List Value} (h : w.ownsRow base e 2 v k xs) : ∃ o cap, v = .slice o k cap := by
  rcases h.2 with ⟨rfl, rfl⟩ | ⟨g, cap, cur, rfl, _⟩
  · exact ⟨none, 0, rfl⟩
  · exact ⟨_, _, rfl⟩
theorem cell_two (w : World) (x y : Value) (t : TypeId) : ∀ j u, [x, y][j]? = some u → (w.alloc (.cells #[x, y] t)).cell? ((⟨w.heap.size, 0, none⟩ : Addr).add j) = some u := by
  intro j u hj
  have hadd : (⟨w.heap.size, 0, none⟩ : Addr).add j = ⟨w.heap.size, j, none⟩ := by unfold Addr.add; split <;> simp_all
  rw [hadd, cell_of_row _ _ j _ _ _ (heap_alloc_last w (.cells #[x, y] t))]
  simpa using hj

set_option maxRecDepth 100000 in
set_option maxHeartbeats 2000000 in
theorem rblocks_any (C MP FB : Nat) (g : Value) (b : Bud) (w : World) (h : RBud w C MP FB g b) :
    Calls Tryz.prog 55 #[.pointer (some ⟨C, 0, none⟩)] w fun e w' => ∃ v, e = .returned v ∧ w'.ownsRow w.heap.size 113 2 v (blocks b.F b.n).length (bcells (blocks b.F b.n)) ∧ Below w.heap.size w w' := by
  obtain ⟨i0, hi, hz0, hz1, hz2⟩ := info_parts info_rblock
  have hn := h.ok.hi
  obtain ⟨N, hN⟩ : ∃ N, w.heap.size = N := ⟨_, rfl⟩
  rw [hN]
  go_enter Tryz.func55, Tryz.ntmps55
  go_wp2
  go_loopw [3, 4] (fun v t wr => ∃ i : Nat, i ≤ b.n ∧ t = .int .i64 i ∧ wr.ownsRow N 113 2 v (mxTo b.F b.n i).length (bcells (mxTo b.F b.n i)) ∧ Below N w wr ∧ Hid (Edge b.F b.n i)) (fun _ t _ => b.n - (intOf t).toNat)
  case atStart => exact ⟨0, by omega, rfl, World.ownsRow_nil _ _ _ _, hN ▸ Below.refl _ _, Lib.hid (edge_zero _ _)⟩
  case round =>
    obtain ⟨i, hi', rfl, hrow, hB, hE⟩ := hrel
    have hW : RBud wr C MP FB g b := h.below hB (by omega)
    have hc := hW.c1
    have hsize := hB.size
    by_cases hlt : i < b.n
    · go_wp2
      go_loop [5, 6] (fun s t => ∃ k : Nat, k ≤ 9 ∧ t = .int .i64 k ∧ s = .int .i64 (bestTo b.F b.n i k)) (fun _ t => 9 - (intOf t).toNat)
      case atStart => exact ⟨0, by omega, rfl, rfl⟩
      case round =>
        obtain ⟨k, hk, rfl, rfl⟩ := hrel
        by_cases hk9 : k < 9
        · have hbd := pw_bd k (by omega)
          have hpow := fun wx => rpower_any k wx (by omega)
          have hfree : ∀ wx, RBud wx C MP FB g b → Calls Tryz.prog 75 #[.pointer (some ⟨C, 0, none⟩), .int .i64 i, .int .i64 (pw k)] wx fun e w' => e = .returned (.bool (freeAll b.F b.n i (2 ^ k))) ∧ wx = w' := fun wx hx => rfree_any C MP FB g b i (2 ^ k) wx hx (by omega) (by have := hbd.2; unfold pw at this; omega)
          have hst := Lib.hid (show bestTo b.F b.n i (k + 1) = if (decide (i % 2 ^ k = 0) && freeAll b.F b.n i (2 ^ k)) = true then (k : Int) else bestTo b.F b.n i k from by rw [bestTo, blkB_free])
          have hmod : (i : Int) % pw k = 0 ↔ decide (i % 2 ^ k = 0) = true := by
            unfold pw
            rw [← Int.natCast_emod, decide_eq_true_iff]
            omega
          generalize freeAll b.F b.n i (2 ^ k) = fa at hfree hst
          generalize bestTo b.F b.n i k = bt at hst ⊢
          generalize decide (i % 2 ^ k = 0) = al at hst hmod
          generalize pw k = pk at hbd hpow hfree hmod
          have hne : ¬ pk = 0 := by omega
          cases al
          · have hm : ¬ (i : Int) % pk = 0 := fun h => by have := hmod.1 h; cases this
            clear hmod
            go_wp2_with fail
            refine (hpow _).mono ?_
            rintro z w3 ⟨rfl, rfl⟩
            go_wp2
            exact ⟨⟨k + 1, by omega, by go_num, by rw [hst.out]; rfl⟩, by simp [intOf]; omega⟩
          · have hm : (i : Int) % pk = 0 := hmod.2 rfl
            clear hmod
            cases fa
            · go_wp2_with fail
              refine (hpow _).mono ?_
              rintro z w3 ⟨rfl, rfl⟩
              go_wp2_with fail
              refine (hpow _).mono ?_
              rintro z w3 ⟨rfl, rfl⟩
              go_wp2_with fail
              refine (hfree _ hW).mono ?_
              rintro z w3 ⟨rfl, rfl⟩
              go_wp2
              exact ⟨⟨k + 1, by omega, by go_num, by rw [hst.out]; rfl⟩, by simp [intOf]; omega⟩
            · go_wp2_with fail
              refine (hpow _).mono ?_
              rintro z w3 ⟨rfl, rfl⟩
              go_wp2_with fail
              refine (hpow _).mono ?_
              rintro z w3 ⟨rfl, rfl⟩
              go_wp2_with fail
              refine (hfree _ hW).mono ?_
              rintro z w3 ⟨rfl, rfl⟩
              go_wp2
              exact ⟨⟨k + 1, by omega, by go_num, by rw [hst.out]; rfl⟩, by simp [intOf]; omega⟩
        · have e : k = 9 := by omega
          subst e
          cases hF : b.F i
          · have hb := Lib.hid (bestTo_none (n := b.n) hF 9)
            have hE' := Lib.hid (edge_skip hF hE.out)
            have hm := Lib.hid (mxTo_skip (n := b.n) hF)
            rw [hb.out]
            go_wp2
            exact ⟨⟨i + 1, by omega, by go_num, by rw [hm.out]; exact hrow, hB, hE'⟩, by simp [intOf]; omega⟩
          · obtain ⟨q, hq, hmax⟩ := edge_mx hE.out hF hlt
            have hb := Lib.hid (bestTo_is hq.b hq.hi hmax 9 (by have := hq.hi; omega) (by omega))
            have hE' := Lib.hid (edge_jump hq hE.out)
            have hm := Lib.hid (mxTo_jump hq)
            have hql := hq.b.le
            have hq8 := hq.hi
            have hbd := pw_bd q hq8
            have hpow := fun wx => rpower_any q wx hq8
            have hpw := Lib.hid (show pw q = ((2 ^ q : Nat) : Int) from rfl)
            rw [hb.out]
            obtain ⟨o, cap, rfl⟩ := slice2 hrow
            have hml : (mxTo b.F b.n i).length ≤ i := mxTo_len _ _ _
            clear hmax hq
            generalize pw q = pq at hbd hpow hpw
            go_wp2_with (first
              | (at_builtin; refine wpList_append_own _ rfl _ _ 67 rfl N 113 i0 (.agg #[.int .i64 0, .int .i64 0]) 2 16 Tryz.underlying67 hi hz0 hz1 hz2 rfl (by decide) _ _ _ rfl (hrow.alloc _) ⟨wr.heap.size, 0, none⟩ 1 1 [.int .i64 i, .int .i64 q] rfl rfl (cell_two _ _ _ _) (by simp [Value.oneCell']) (by simp [maxLen]; omega) (by omega) (by simp; omega) ?_; intro v' w1 hown' hgrow _; obtain ⟨g', cap', rfl⟩ := ownsRow_succ hown')
              | (go_at_call 56; refine (hpow _).mono ?_; rintro z w3 ⟨rfl, rfl⟩))
            have hp2 := Nat.two_pow_pos q
            refine ⟨⟨i + 2 ^ q, hql, by rw [hpw.out]; congr 1, by rw [hm.out, bcells_app, List.length_append]; exact hown', ?_, hE'⟩, by rw [hpw.out]; simp only [intOf]; omega⟩
            exact hB.trans (((Below.refl N wr).alloc (by omega) _).grown hgrow (by simp; omega) fun j ej => (hrow.lt j ej).1)
    · have e : i = b.n := by omega
      subst e
      obtain ⟨o, cap, rfl⟩ := slice2 hrow
      have Hrow := Lib.hid (show wr.ownsRow N 113 2 _ (blocks b.F b.n).length (bcells (blocks b.F b.n)) from hrow)
      clear hrow
      go_wp2
      go_ret
      exact ⟨_, rfl, Hrow.out, hB⟩
end Go.Proofs.YtdapmcclplfpfaaGreatDoor

/-
  The document's own allocator: New, and marks that are set.
-/
namespace Go.Proofs.YtdapmcclplfpfaaGreatDoor
open Go.ChangeShapes Go.WideShapes Go.ChangeAt Go.RowKit

def updF (F : Nat → Bool) (i : Nat) (v : Bool) : Nat → Bool := fun j => if j = i then v else F j
theorem fcells_set (n : Nat) (F : Nat → Bool) (i : Nat) (v : Bool) : (fcells n F).set i (.bool v) = fcells n (updF F i v) := by
  apply List.ext_getElem
  · simp [fcells]
  · intro j h1 h2
    simp only [fcells, List.getElem_set, List.getElem_map, List.getElem_range, updF]
    by_cases e : i = j
    · subst e; simp
    · rw [if_neg e, if_neg (fun e' => e e'.symm)]
theorem fcells_congr {n : Nat} {F G : Nat → Bool} (h : ∀ j, j < n → F j = G j) : fcells n F = fcells n G := by
  unfold fcells
  exact List.map_congr_left fun j hj => by rw [h j (List.mem_range.1 hj)]
theorem fcells_none (n : Nat) (F : Nat → Bool) (h : ∀ j, j < n → F j = false) : fcells n F = List.replicate n (.bool false) := by
  apply List.ext_getElem
  · simp [fcells]
  · intro j h1 h2
    simp [fcells] at h1 ⊢
    exact h j h1
/-- from a to b -/
def betw (a b : Nat) : Nat → Bool := fun j => decide (a ≤ j) && decide (j < b)
theorem betw_step (n a i : Nat) (h : a ≤ i) : fcells n (updF (betw a i) i true) = fcells n (betw a (i + 1)) := fcells_congr fun j _ => by
  unfold updF betw
  by_cases e : j = i
  · rw [if_pos e]; simp; omega
  · rw [if_neg e]
    by_cases h1 : a ≤ j
    · by_cases h2 : j < i
      · simp [h1, h2]; omega
      · simp [h1, h2]; omega
    · simp [h1]

theorem info_bool : (Tryz.prog.info? 4).map (fun i => (i.zero, i.size, i.bytes)) = some (some (.bool false), 1, 1) := by kernel_rfl

set_option maxHeartbeats 1000000 in
theorem rbNew_no (MP : Nat) (m : Mem) (res : Int) (w : World) (h : RefAt w MP m) (hb : res < 0 ∨ (m.n : Int) < res) :
    Calls Tryz.prog 7 #[.pointer (some ⟨MP, 0, none⟩), .int .i64 res] w fun e w' => e = .returned (.tuple #[.pointer none, .int .i64 1]) ∧ w = w' := by
  have hc := h.cellA
  have h1 := h.lo
  have h2 := h.hi
  by_cases h0 : res < 0
  · go_enter Tryz.func7, Tryz.ntmps7
    go_wp2
    go_ret2
    exact ⟨rfl, rfl⟩
  · have h3 : (m.n : Int) < res := by omega
    have hd : (16 * (m.n : Int)).tdiv 16 = m.n := by rw [Int.mul_comm]; exact Int.mul_tdiv_cancel _ (by decide)
    have hd2 : 16 * (m.n : Int) / 16 = m.n := by omega
    clear hb
    go_enter Tryz.func7, Tryz.ntmps7
    go_wp2
    go_ret2
    exact ⟨rfl, rfl⟩

set_option maxRecDepth 100000 in
set_option maxHeartbeats 2000000 in
theorem rbNew_yes (MP : Nat) (m : Mem) (res : Nat) (w : World) (h : RefAt w MP m) (hb : res ≤ m.n) :
    Calls Tryz.prog 7 #[.pointer (some ⟨MP, 0, none⟩), .int .i64 res] w fun e w' => e = .returned (.tuple #[.pointer (some ⟨w.heap.size + 1, 0, none⟩), .int .i64 0]) ∧ RBud w' (w.heap.size + 1) MP w.heap.size (.slice none 0 0) (bud0 m.n res) ∧ Below w.heap.size w w' := by
  have hc := h.cellA
  have h1 := h.lo
  have h2 := h.hi
  have hd2 : 16 * (m.n : Int) / 16 = m.n := by omega
  have hC := Lib.hid (show madeCells (Value.bool false).cells (m.n * 1) = (fcells m.n (betw res res)).toArray from by
    rw [fcells_none m.n _ (fun j _ => by unfold betw; simp), Nat.mul_one]
    exact madeCells_same (.bool false) 1 m.n (by decide))
  obtain ⟨N, hN⟩ : ∃ N, w.heap.size = N := ⟨_, rfl⟩
  rw [hN]
  go_enter Tryz.func7, Tryz.ntmps7
  go_wp2_with (with_reducible refine wpList_make_exact rfl (.tmp 30) (.tmp 30) 66 rfl 4 _ 1 1 Tryz.underlying66 info_bool .i64 .i64 m.n rfl rfl (by omega) (by omega) _ hC.out ?_)
  obtain ⟨W, hWe⟩ : ∃ W, (w.alloc (.cells (fcells m.n (betw res res)).toArray 4)).alloc (.cells #[.pointer (some ⟨MP, 0, none⟩), .slice (some ⟨N, 0, none⟩) m.n m.n, .slice none 0 0] 69) = W := ⟨_, rfl⟩
  have hB : Below N w W := by
    rw [← hWe, ← hN]
    exact ((Below.refl _ w).alloc (Nat.le_refl _) _).alloc (by simp) _
  have hf : W.heap[N]? = some (.cells (fcells m.n (betw res res)).toArray 4 (0, 0)) := by
    rw [← hWe, Below.heap_alloc _ _ _ (by simp; omega), ← hN]
    exact heap_alloc_last w _
  have hh : W.heap[N + 1]? = some (.cells #[.pointer (some ⟨MP, 0, none⟩), .slice (some ⟨N, 0, none⟩) m.n m.n, .slice none 0 0] 69 (0, 0)) := by
    rw [← hWe]
    have := heap_alloc_last (w.alloc (.cells (fcells m.n (betw res res)).toArray 4)) (.cells #[.pointer (some ⟨MP, 0, none⟩), .slice (some ⟨N, 0, none⟩) m.n m.n, .slice none 0 0] 69)
    rwa [World.size_alloc, hN] at this
  rw [hWe]
  clear hWe hc
  go_loopw [7] (fun t wr => ∃ i : Nat, res ≤ i ∧ i ≤ m.n ∧ t = .int .i64 i ∧ Hid (wr.heap[N]? = some (.cells (fcells m.n (betw res i)).toArray 4 (0, 0))) ∧ Hid (wr.heap[N + 1]? = some (.cells #[.pointer (some ⟨MP, 0, none⟩), .slice (some ⟨N, 0, none⟩) m.n m.n, .slice none 0 0] 69 (0, 0))) ∧ Below N w wr) (fun t _ => 256 - (intOf t).toNat)
  case atStart => exact ⟨res, Nat.le_refl _, hb, rfl, Lib.hid hf, Lib.hid hh, hB⟩
  case round =>
    obtain ⟨i, i1, i2, rfl, f1, h1', B1⟩ := hrel
    have hc1 : wr.cell? ⟨N + 1, 1, none⟩ = some (.slice (some ⟨N, 0, none⟩) m.n m.n) := by rw [cell_of_row wr (N + 1) 1 _ _ _ h1'.out]; rfl
    by_cases hlt : i < m.n
    · have hci := fcell f1.out i hlt
      have hfz := frozen_block f1.out i
      have hset := Lib.hid (show (wr.setCell ⟨N, i, none⟩ (.bool true)).heap[N]? = some (.cells (fcells m.n (betw res (i + 1))).toArray 4 (0, 0)) from by rw [heap_setCell_same f1.out i (.bool true), fcells_set, betw_step m.n res i i1])
      have hoth := Lib.hid (show (wr.setCell ⟨N, i, none⟩ (.bool true)).heap[N + 1]? = _ from (Below.heap_setCell _ _ _ _ (by simp)).trans h1'.out)
      generalize betw res i i = bi at hci
      go_wp2
      go_roundw
      case rel => exact ⟨i + 1, by omega, by omega, by go_num, hset, hoth, B1.setCell (p := ⟨N, i, none⟩) (by simp) _⟩
      case measure => simp [intOf]; omega
    · have e : i = m.n := by omega
      subst e
      go_wp2
      go_ret2
      exact ⟨rfl, ⟨h1'.out, f1.out, World.ownsRow_nil _ _ _ _, bud0_ok h1 h2 hb⟩, B1⟩
end Go.Proofs.YtdapmcclplfpfaaGreatDoor

/-
  The document's own allocator: Alloc.
-/
namespace Go.Proofs.YtdapmcclplfpfaaGreatDoor
open Go.ChangeShapes Go.WideShapes Go.ChangeAt Go.RowKit

theorem bcells_get (l : List (Nat × Nat)) : ∀ i, i < l.length → (bcells l)[i * 2]? = some (.int .i64 ((l.getD i (0, 0)).1 : Int)) ∧ (bcells l)[i * 2 + 1]? = some (.int .i64 ((l.getD i (0, 0)).2 : Int)) := by
  induction l with
  | nil => intro i hi; simp at hi
  | cons x r ih =>
    intro i hi
    rw [show x :: r = [x] ++ r from rfl, bcells_app]
    have e : bcells [x] = [.int .i64 (x.1 : Int), .int .i64 (x.2 : Int)] := rfl
    rw [e]
    cases i with
    | zero => exact ⟨rfl, rfl⟩
    | succ i =>
      have := ih i (by simpa using hi)
      rw [show (i + 1) * 2 = i * 2 + 2 from by omega]
      exact ⟨by simpa using this.1, by simpa using this.2⟩
theorem bcells_one (l : List (Nat × Nat)) : ∀ u ∈ bcells l, u.oneCell' = true := by
  intro u hu
  simp only [bcells, List.mem_flatMap] at hu
  obtain ⟨x, _, hx⟩ := hu
  simp at hx
  rcases hx with rfl | rfl <;> rfl
/-- a slice of blocks that can be read -/
def BRow (w : World) (v : Value) (l : List (Nat × Nat)) : Prop := ∃ o cap, v = .slice o l.length cap ∧ ∀ i, i < l.length → ∃ g, o = some ⟨g, 0, none⟩ ∧ w.cell? ⟨g, i * 2, none⟩ = some (.int .i64 ((l.getD i (0, 0)).1 : Int)) ∧ w.cell? ⟨g, i * 2 + 1, none⟩ = some (.int .i64 ((l.getD i (0, 0)).2 : Int))
theorem brow_of {w : World} {base : Nat} {e : TypeId} {v : Value} {l : List (Nat × Nat)} (h : w.ownsRow base e 2 v l.length (bcells l)) : BRow w v l := by
  rcases h.2 with ⟨rfl, h0⟩ | ⟨g, cap, cur, rfl, hb, hg, _⟩
  · exact ⟨none, 0, by rw [h0], fun i hi => by omega⟩
  · refine ⟨_, cap, rfl, fun i hi => ⟨g, rfl, ?_, ?_⟩⟩
    · have := h.cells (g := g) rfl (i * 2) _ (bcells_get l i hi).1
      rwa [add_mid0, Nat.zero_add] at this
    · have := h.cells (g := g) rfl (i * 2 + 1) _ (bcells_get l i hi).2
      rwa [add_mid0, Nat.zero_add] at this
theorem BRow.drewN {w : World} {v : Value} {l : List (Nat × Nat)} (h : BRow w v l) (n : Nat) : BRow (w.drewN n) v l := h

set_option maxHeartbeats 400000 in
theorem rAlloc_bad (C : Nat) (o : Int) (w : World) (hb : o < 0 ∨ 8 < o) :
    Calls Tryz.prog 31 #[.pointer (some ⟨C, 0, none⟩), .int .i64 o] w fun e w' => e = .returned (.tuple #[.int .i64 0, .int .i64 1]) ∧ w = w' := by
  by_cases h0 : o < 0
  all_goals
    go_enter Tryz.func31, Tryz.ntmps31
    go_wp2
    go_ret2
    exact ⟨rfl, rfl⟩

/-- where the scan stands: bi the best one's place, or -1 -/
def Best (o : Nat) (L : List (Nat × Nat)) (i : Nat) (bi : Int) : Prop := (bi = -1 ∧ pick o (L.take i) = none) ∨ ∃ j : Nat, bi = j ∧ j < i ∧ pick o (L.take i) = some (L.getD j (0, 0))
theorem take_snoc (L : List (Nat × Nat)) (i : Nat) (h : i < L.length) : L.take (i + 1) = L.take i ++ [L.getD i (0, 0)] := by
  rw [List.take_add_one, List.getElem?_eq_getElem h]
  simp [List.getElem?_eq_getElem h]
theorem Best.low {o : Nat} {L : List (Nat × Nat)} {i : Nat} {bi : Int} (h : Best o L i bi) (hi : i < L.length) (hx : ¬ o ≤ (L.getD i (0, 0)).2) : Best o L (i + 1) bi := by
  unfold Best
  rw [take_snoc L i hi, pick_snoc]
  rcases h with ⟨h1, h2⟩ | ⟨j, h1, h2, h3⟩
  · left; rw [h2]; unfold better; exact ⟨h1, if_neg hx⟩
  · right; refine ⟨j, h1, by omega, ?_⟩; rw [h3]; unfold better; simp only [hx, false_and, if_false]
theorem Best.first {o : Nat} {L : List (Nat × Nat)} {i : Nat} (h : Best o L i (-1)) (hi : i < L.length) (hx : o ≤ (L.getD i (0, 0)).2) : Best o L (i + 1) i := by
  unfold Best
  rw [take_snoc L i hi, pick_snoc]
  rcases h with ⟨h1, h2⟩ | ⟨j, h1, h2, h3⟩
  · right; refine ⟨i, rfl, by omega, ?_⟩; rw [h2]; unfold better; simp only [hx, if_true]
  · omega
theorem Best.more {o : Nat} {L : List (Nat × Nat)} {i j : Nat} (h : Best o L i j) (hi : i < L.length) (hx : o ≤ (L.getD i (0, 0)).2) (hl : (L.getD i (0, 0)).2 < (L.getD j (0, 0)).2) : Best o L (i + 1) i := by
  unfold Best
  rw [take_snoc L i hi, pick_snoc]
  rcases h with ⟨h1, h2⟩ | ⟨j', h1, h2, h3⟩
  · omega
  · right; refine ⟨i, rfl, by omega, ?_⟩
    rw [h3, show j' = j from by omega]; unfold better; simp only [hx, hl, and_self, if_true]
theorem Best.stay {o : Nat} {L : List (Nat × Nat)} {i j : Nat} (h : Best o L i j) (hi : i < L.length) (hl : ¬ (L.getD i (0, 0)).2 < (L.getD j (0, 0)).2) : Best o L (i + 1) j := by
  unfold Best
  rw [take_snoc L i hi, pick_snoc]
  rcases h with ⟨h1, h2⟩ | ⟨j', h1, h2, h3⟩
  · omega
  · right; refine ⟨j, rfl, by omega, ?_⟩
    rw [h3, show j' = j from by omega]; unfold better; simp only [hl, and_false, if_false]
theorem src_new (w : World) (x y : Value) (t : TypeId) : Src (w.alloc (.cells #[x, y] t)) (.slice (some ⟨w.heap.size, 0, none⟩) 1 1) 1 2 [x, y] :=
  .inr ⟨w.heap.size, 0, 1, rfl, rfl, fun j u hu => by have := cell_two w x y t j u hu; rwa [add_mid0] at this⟩
/-- a new slice out of an empty one: nothing that was there has turned -/
theorem gave_upd {wr w4 w5 : World} {e t : TypeId} {c : Array Value} {og4 : Option Addr} {n4 cap4 : Nat} {sz n base : Nat} {v : Value} {xs : List Value} (_ : wr.ownsRow base e sz v n xs)
    (g4 : (wr.alloc (.cells #[] e)).grownBy w4 (Value.slice (some ⟨wr.heap.size, 0, none⟩) 0 0).ownBlock) (g5 : (w4.alloc (.cells c t)).grownBy w5 (Value.slice og4 n4 cap4).ownBlock) (h4 : ∀ k, (Value.slice og4 n4 cap4).ownBlock = some k → wr.heap.size ≤ k) :
    Upd (fun _ => False) wr w5 := by
  refine ⟨by rw [g5.os]; exact g4.os, by rw [g5.tape]; exact g4.tape, by rw [g5.output]; exact g4.output, ?_, fun k hk _ => ?_⟩
  · have a := g4.size
    have b := g5.size
    simp at a b
    omega
  · have a := g4.size
    simp at a
    rw [g5.block k (by simp; omega) (fun e' => by have := h4 k e'.symm; omega), Below.heap_alloc _ _ _ (by omega), g4.block k (by simp; omega) (fun e' => by simp [Value.ownBlock] at e'; omega), Below.heap_alloc _ _ _ hk]
theorem row_base {w : World} {base base' sz k : Nat} {e : TypeId} {v : Value} {xs : List Value} (h : w.ownsRow base e sz v k xs) (hb : base' ≤ base) : w.ownsRow base' e sz v k xs := by
  refine ⟨h.1, ?_⟩
  rcases h.2 with hn | ⟨g, cap, cur, rfl, h1, rest⟩
  · exact .inl hn
  · exact .inr ⟨g, cap, cur, rfl, by omega, rest⟩
/-- taken from f up to i -/
def cutTo (F : Nat → Bool) (f i : Nat) : Nat → Bool := fun j => F j && !(decide (f ≤ j) && decide (j < i))
theorem cutTo_start (F : Nat → Bool) (f : Nat) : cutTo F f f = F := by
  funext j
  unfold cutTo
  rw [show (decide (f ≤ j) && decide (j < f)) = false from by simp]
  simp
theorem cutTo_step (n : Nat) (F : Nat → Bool) (f i : Nat) (h : f ≤ i) : fcells n (updF (cutTo F f i) i false) = fcells n (cutTo F f (i + 1)) := fcells_congr fun j _ => by
  unfold updF cutTo
  by_cases e : j = i
  · rw [if_pos e, e]; simp [h]
  · rw [if_neg e]
    by_cases h2 : j < i
    · simp [h2, Nat.lt_succ_of_lt h2]
    · simp [h2, show ¬ j < i + 1 from by omega]
theorem RBud.neCF {w : World} {C MP FB : Nat} {g : Value} {b : Bud} (h : RBud w C MP FB g b) : C ≠ FB := by
  intro e
  have h1 := h.head
  rw [e, h.fr] at h1
  simp at h1
theorem ty_ne {w : World} {base sz k : Nat} {e t : TypeId} {v : Value} {xs : List Value} {X : Nat} {c : Array Value} (h : w.ownsRow base e sz v k xs) (hX : w.heap[X]? = some (.cells c t (0, 0))) (ht : t ≠ e) : ∀ j, v.ownBlock = some j → ¬ j = X := by
  intro j hj e'
  rcases h.2 with ⟨rfl, _⟩ | ⟨g, cap, cur, rfl, _, hgg, _⟩
  · simp [Value.ownBlock] at hj
  · simp [Value.ownBlock] at hj
    subst hj e'
    rw [hX] at hgg
    simp at hgg
    exact ht hgg.2
theorem RBud.neG {w : World} {C MP FB : Nat} {g : Value} {b : Bud} (h : RBud w C MP FB g b) : ∀ j, g.ownBlock = some j → ¬ j = FB := ty_ne h.gv h.fr (by decide)
theorem RBud.neGC {w : World} {C MP FB : Nat} {g : Value} {b : Bud} (h : RBud w C MP FB g b) : ∀ j, g.ownBlock = some j → ¬ j = C := ty_ne h.gv h.head (by decide)

set_option maxRecDepth 100000 in
set_option maxHeartbeats 4000000 in
theorem rAlloc_any (C MP FB : Nat) (g : Value) (b : Bud) (o : Nat) (w : World) (h : RBud w C MP FB g b) (ho : o ≤ 8) :
    Calls Tryz.prog 31 #[.pointer (some ⟨C, 0, none⟩), .int .i64 o] w fun e w' =>
      (b.sel o = none ∧ e = .returned (.tuple #[.int .i64 0, .int .i64 6]) ∧ Below w.heap.size w w') ∨
      (∃ x g', b.sel o = some x ∧ e = .returned (.tuple #[.int .i64 (x.1 : Int), .int .i64 0]) ∧ RBud w' C MP FB g' (b.give (x.1, o)) ∧ Upd (fun k => k = C ∨ k = FB) w w' ∧ ∀ k, g'.ownBlock = some k → w.heap.size ≤ k) := by
  obtain ⟨N, hN⟩ : ∃ N, w.heap.size = N := ⟨_, rfl⟩
  go_enter Tryz.func31, Tryz.ntmps31
  go_wp2_with fail
  refine (rblocks_any C MP FB g b _ h).mono ?_
  rintro z w1 ⟨v, rfl, hrow, b1⟩
  have hW := h.below b1 (Nat.le_refl _)
  rw [hN] at hrow b1
  have hsel : b.sel o = pick o (blocks b.F b.n) := rfl
  have hr := brow_of hrow
  have hll : (blocks b.F b.n).length ≤ 256 := Nat.le_trans (mxTo_len _ _ _) h.ok.hi
  clear hrow
  obtain ⟨L, hL⟩ : ∃ L, blocks b.F b.n = L := ⟨_, rfl⟩
  rw [hL] at hsel hr hll
  obtain ⟨oa, cap, rfl, hc⟩ := hr
  obtain ⟨ln, hln⟩ : ∃ ln, L.length = ln := ⟨_, rfl⟩
  rw [hln] at hc hll ⊢
  have HLn := Lib.hid hln
  have HL := Lib.hid hL
  have Hsel := Lib.hid hsel
  clear hln hL hsel
  go_upto_block 0 with fail
  go_cut [7] (fun s7 wx => ∃ (bi : Int) (q : Nat), s7 = .int .i64 bi ∧ wx = w1.drewN q ∧ Hid (Best o L ln bi))
  case first =>
    go_wp2_with fail
    go_loopw [7, 8] (fun s t wr => ∃ (i q : Nat) (bi : Int), i ≤ ln ∧ t = .int .i64 i ∧ s = .int .i64 bi ∧ wr = w1.drewN q ∧ Hid (Best o L i bi)) (fun _ t _ => ln - (intOf t).toNat)
    case atStart => exact ⟨0, 0, -1, by omega, rfl, rfl, rfl, Lib.hid (.inl ⟨rfl, rfl⟩)⟩
    case round =>
      obtain ⟨i, q, bi, hi, rfl, rfl, rfl, hb⟩ := hrel
      by_cases hlt : i < ln
      · obtain ⟨ga, rfl, c0, c1⟩ := hc i hlt
        have hil : i < L.length := by rw [HLn.out]; exact hlt
        have hin : (i : Int) < (ln : Int) := by omega
        have hlow := Lib.hid (fun hx => hb.out.low hil hx)
        rcases hb.out with ⟨rfl, hp⟩ | ⟨j, rfl, hj, hp⟩
        · have hfst := Lib.hid (fun hx => Best.first hb.out hil hx)
          clear hp hc hb c0
          generalize L.getD i (0, 0) = x at c1 hlow hfst
          by_cases hx : o ≤ x.2
          · have HB := Lib.hid (hfst.out hx)
            clear hlow hfst
            have hx' : (o : Int) ≤ (x.2 : Int) := by omega
            generalize x.2 = k at c1 hx hx'
            go_wp2
            go_quiet (fail)
            go_wp2
            go_roundw
            case rel => exact ⟨i + 1, _, _, by omega, by go_num, rfl, rfl, HB⟩
            case measure => simp [intOf]; omega
          · have HB := Lib.hid (hlow.out hx)
            clear hlow hfst
            have hx' : ¬ (o : Int) ≤ (x.2 : Int) := by omega
            generalize x.2 = k at c1 hx hx'
            go_wp2
            go_quiet (fail)
            go_wp2
            go_roundw
            case rel => exact ⟨i + 1, _, _, by omega, by go_num, rfl, rfl, HB⟩
            case measure => simp [intOf]; omega
        · have hmore := Lib.hid (fun hx hl => Best.more hb.out hil hx hl)
          have hstay := Lib.hid (fun hl => Best.stay hb.out hil hl)
          obtain ⟨ga', eg, c0', c1'⟩ := hc j (by omega)
          cases eg
          have hjn : (j : Int) < (ln : Int) := by omega
          clear hp hc hb c0 c0'
          generalize L.getD i (0, 0) = x at c1 hlow hmore hstay
          generalize L.getD j (0, 0) = y at c1' hmore hstay
          by_cases hx : o ≤ x.2
          · have hx' : (o : Int) ≤ (x.2 : Int) := by omega
            by_cases hl : x.2 < y.2
            · have HB := Lib.hid (hmore.out hx hl)
              have hl' : (x.2 : Int) < (y.2 : Int) := by omega
              clear hlow hmore hstay
              generalize x.2 = k at c1 hx hx' hl hl'
              generalize y.2 = k' at c1' hl hl'
              go_wp2
              go_quiet (fail)
              go_wp2
              go_roundw
              case rel => exact ⟨i + 1, _, _, by omega, by go_num, rfl, rfl, HB⟩
              case measure => simp [intOf]; omega
            · have HB := Lib.hid (hstay.out hl)
              have hl' : ¬ (x.2 : Int) < (y.2 : Int) := by omega
              clear hlow hmore hstay
              generalize x.2 = k at c1 hx hx' hl hl'
              generalize y.2 = k' at c1' hl hl'
              go_wp2
              go_quiet (fail)
              go_wp2
              go_roundw
              case rel => exact ⟨i + 1, _, _, by omega, by go_num, rfl, rfl, HB⟩
              case measure => simp [intOf]; omega
          · have HB := Lib.hid (hlow.out hx)
            clear hlow hmore hstay
            have hx' : ¬ (o : Int) ≤ (x.2 : Int) := by omega
            generalize x.2 = k at c1 hx hx'
            go_wp2
            go_quiet (fail)
            go_wp2
            go_roundw
            case rel => exact ⟨i + 1, _, _, by omega, by go_num, rfl, rfl, HB⟩
            case measure => simp [intOf]; omega
      · have e : i = ln := by omega
        subst e
        go_wp2
        go_meet
        exact ⟨bi, q, rfl, rfl, hb⟩
  case rest =>
    obtain ⟨bi, q, rfl, rfl, hb⟩ := hcut
    have hall : L.take ln = L := List.take_of_length_le (by rw [HLn.out]; exact Nat.le_refl _)
    rcases hb.out with ⟨rfl, hp⟩ | ⟨j, rfl, hj, hp⟩
    · rw [hall] at hp
      have Hn := Lib.hid (Hsel.out.trans hp)
      clear hall hp hc hb
      go_wp2
      go_ret2
      exact .inl ⟨Hn.out, rfl, by rw [hN]; exact below_drewN b1 q⟩
    · rw [hall] at hp
      have Hn := Lib.hid (Hsel.out.trans hp)
      obtain ⟨ga, rfl, c0, c1⟩ := hc j hj
      have hjn : (j : Int) < (ln : Int) := by omega
      clear hall hp hc hb c1
      obtain ⟨x, hx⟩ : ∃ x, L.getD j (0, 0) = x := ⟨_, rfl⟩
      rw [hx] at Hn c0
      obtain ⟨hgo, hblk⟩ := sel_give h.ok ho Hn.out
      have hxl := hblk.le
      have hn := h.ok.hi
      have hW := hW.below (below_drewN (Below.refl w1.heap.size w1) q) (Nat.le_refl _)
      have b2 := below_drewN b1 q
      have c0 : (w1.drewN q).cell? ⟨ga, j * 2, none⟩ = some (.int .i64 (x.1 : Int)) := c0
      generalize w1.drewN q = w2 at hW b2 c0 ⊢
      clear hx b1
      have hCF := hW.neCF
      have hgF := hW.neG
      have hbd := pw_bd o ho
      have hpw := Lib.hid (show pw o = ((2 ^ o : Nat) : Int) from rfl)
      have hxl' : (x.1 : Int) + pw o ≤ 256 := by have := hpw.out; omega
      have hpow := fun wx => rpower_any o wx ho
      obtain ⟨f, hf⟩ : ∃ f, x.1 = f := ⟨_, rfl⟩
      rw [hf] at c0 hgo hblk hxl hxl'
      generalize pw o = po at hbd hpw hxl' hpow
      go_wp2_with fail
      go_loopw [10] (fun t wr => ∃ i : Nat, f ≤ i ∧ (i : Int) ≤ f + po ∧ t = .int .i64 i ∧ Upd (· = FB) w2 wr ∧ Hid (wr.heap[FB]? = some (.cells (fcells b.n (cutTo b.F f i)).toArray 4 (0, 0)))) (fun t _ => 256 - (intOf t).toNat)
      case atStart => exact ⟨f, Nat.le_refl _, by omega, rfl, Upd.refl _ _, Lib.hid (by rw [cutTo_start]; exact hW.fr)⟩
      case round =>
        obtain ⟨i, i1, i2, rfl, U, hF⟩ := hrel
        have hin : (i : Int) < f + po → i < b.n := fun hlt => by have := hpw.out; omega
        have hc1 : wr.cell? ⟨C, 1, none⟩ = some (.slice (some ⟨FB, 0, none⟩) b.n b.n) := U.cell hW.c1 hCF
        by_cases hlt : (i : Int) < f + po
        · have hci := fcell hF.out i (hin hlt)
          have hfz := frozen_block hF.out i
          have hil : (i : Int) < (b.n : Int) := by have := hin hlt; omega
          have hset := Lib.hid (show (wr.setCell ⟨FB, i, none⟩ (.bool false)).heap[FB]? = some (.cells (fcells b.n (cutTo b.F f (i + 1))).toArray 4 (0, 0)) from by rw [heap_setCell_same hF.out i (.bool false), fcells_set, cutTo_step b.n b.F f i i1])
          generalize cutTo b.F f i i = bi at hci
          go_wp2_with (go_at_call 56; refine (hpow _).mono ?_; rintro z w3 ⟨rfl, rfl⟩)
          go_roundw
          case rel => exact ⟨i + 1, by omega, by omega, by go_num, U.setCell (.inl rfl) _, hset⟩
          case measure => simp [intOf]; omega
        · have e : i = f + 2 ^ o := by have := hpw.out; omega
          have hF2 := Lib.hid (show wr.heap[FB]? = some (.cells (fcells (b.give (f, o)).n (b.give (f, o)).F).toArray 4 (0, 0)) from by have := hF.out; rw [e] at this; exact this)
          clear e hF
          have hhd : wr.heap[C]? = _ := U.at hW.head hCF
          have hgv := row_kept hW.gv U hgF
          have hc2 : wr.cell? ⟨C, 2, none⟩ = some g := U.cell hW.c2 hCF
          have hbU := b2.size
          have hUs := U.size
          obtain ⟨i0, hi, hz0, hz1, hz2⟩ := info_parts info_rblock
          have hle : b.gave.length + 1 ≤ 256 := by have := hgo.gave_len; simpa [Bud.give] using this
          obtain ⟨og, capg, rfl⟩ := slice2 hgv
          have hcA : (wr.alloc (.cells #[] 113)).cell? ⟨C, 2, none⟩ = some (.slice og b.gave.length capg) := ((Upd.refl (fun _ => False) wr).alloc _).cell hc2 (fun h => h)
          go_wp2_with fail
          refine (hpow _).mono ?_
          rintro z w3 ⟨rfl, rfl⟩
          go_wp2_with (first
            | (at_builtin; refine wpList_append_src _ rfl (.tmp 73) (.tmp 77) 67 rfl wr.heap.size 113 i0 (.agg #[.int .i64 0, .int .i64 0]) 2 16 Tryz.underlying67 hi hz0 hz1 hz2 rfl (by decide) (.slice (some ⟨wr.heap.size, 0, none⟩) 0 0) 0 [] rfl (World.ownsRow_made wr #[] 0 (Nat.le_refl _) (by decide) rfl) (.slice og b.gave.length capg) b.gave.length (bcells b.gave) rfl (Src.of_row (hgv.alloc _)) (bcells_one _) (by simp [maxLen]; omega) (by omega) (by simp) ?_; intro v4 w4 own4 grow4; rw [Nat.zero_add, List.nil_append] at own4; obtain ⟨og4, cap4, rfl⟩ := slice2 own4)
            | (at_builtin; refine wpList_append_src _ rfl (.tmp 78) (.tmp 82) 67 rfl wr.heap.size 113 i0 (.agg #[.int .i64 0, .int .i64 0]) 2 16 Tryz.underlying67 hi hz0 hz1 hz2 rfl (by decide) (.slice og4 b.gave.length cap4) b.gave.length (bcells b.gave) rfl (own4.alloc _) (.slice (some ⟨w4.heap.size, 0, none⟩) 1 1) 1 (bcells [(f, o)]) rfl (src_new _ _ _ _) (bcells_one _) (by simp [maxLen]; omega) (by omega) (by have := grow4.size; simp at this ⊢; omega) ?_; intro v5 w5 own5 grow5; rw [← bcells_app] at own5; obtain ⟨og5, cap5, rfl⟩ := slice2 own5; have u5 := gave_upd hgv grow4 grow5 (fun k hk => (own4.lt k hk).1); have hc5 := u5.cell hc2 (fun h => h); have hf5 := frozen_block (u5.at hhd (fun h => h)) 2))
          have hCl := lt_of_heap hhd
          have hh5 := u5.at hhd (fun h => h)
          have uS : Upd (· = C) w5 (w5.setCell ⟨C, 2, none⟩ (.slice og5 (b.gave.length + 1) cap5)) := (Upd.refl (· = C) w5).setCell (.inl rfl) _
          have hrow := row_kept (row_base own5 (Nat.zero_le _)) uS (fun k hk e => by have := (own5.lt k hk).1; omega)
          have hfr6 := uS.at (u5.at hF2.out (fun h => h)) (fun e => hCF e.symm)
          have hh6 : (w5.setCell ⟨C, 2, none⟩ (.slice og5 (b.gave.length + 1) cap5)).heap[C]? = some (.cells #[.pointer (some ⟨MP, 0, none⟩), .slice (some ⟨FB, 0, none⟩) b.n b.n, .slice og5 (b.gave.length + 1) cap5] 69 (0, 0)) := heap_setCell_same (C := [.pointer (some ⟨MP, 0, none⟩), .slice (some ⟨FB, 0, none⟩) b.n b.n, .slice og b.gave.length capg]) hh5 2 _
          have uw : Upd (fun k => k = C ∨ k = FB) w (w5.setCell ⟨C, 2, none⟩ (.slice og5 (b.gave.length + 1) cap5)) :=
            (((upd_of_below b2 (by omega)).mono (fun _ _ h => h.elim)).trans (U.mono (fun _ _ h => .inr h))).trans ((u5.mono (fun _ _ h => h.elim)).trans (uS.mono (fun _ _ h => .inl h)))
          go_ret2
          exact .inr ⟨x, .slice og5 (b.gave.length + 1) cap5, Hn.out, by rw [hf]; rfl, by rw [hf]; exact ⟨hh6, hfr6, by show _; rw [show (b.give (f, o)).gave.length = b.gave.length + 1 from by simp [Bud.give]]; exact hrow, hgo⟩, uw, fun k hk => by have := (own5.lt k hk).1; omega⟩
end Go.Proofs.YtdapmcclplfpfaaGreatDoor

/-
  Maps of numbers by numbers, as a plain list of pairs; kept, drawn back to their size.
-/
namespace Go.Proofs.YtdapmcclplfpfaaGreatDoor
open Go.ChangeShapes Go.WideShapes Go.ChangeAt Go.RowKit Go.Maps

/-- a frame as a key of the map -/
def kf (f : Nat) : Lit := .int .i64 f
theorem kf_inj {f g : Nat} (h : kf f = kf g) : f = g := by unfold kf at h; injection h with _ h; omega
theorem isKey (f : Nat) : WideAt.IsKeyLit (kf f) := trivial
theorem kf_same (f g : Nat) : (kf f).sameKey (kf g) = decide (f = g) := by
  by_cases h : f = g
  · subst h; rw [decide_eq_true rfl]; exact WideAt.sameKey_self trivial
  · rw [decide_eq_false h]; exact sameKey_ne fun e => h (kf_inj e)
/-- the map holds just the given blocks: by the frame the order -/
structure MapOf (D : DataW Unit) (g : List (Nat × Nat)) : Prop where
  get : ∀ x, x ∈ g → ∀ z, D.atKey (kf x.1) z = .lit (.int .i64 (x.2 : Int))
  has : ∀ kl, Maps.has D kl = true → ∃ x, x ∈ g ∧ kl = kf x.1
  sz : Maps.size D = g.length
theorem MapOf.mem {D : DataW Unit} {g : List (Nat × Nat)} (h : MapOf D g) {x : Nat × Nat} (hx : x ∈ g) : Maps.has D (kf x.1) = true := has_true_of_atKey (h.get x hx)
theorem MapOf.no {D : DataW Unit} {g : List (Nat × Nat)} (h : MapOf D g) {kl : Lit} (hx : ∀ x, x ∈ g → kl ≠ kf x.1) : Maps.has D kl = false := by
  cases hb : Maps.has D kl
  · rfl
  · obtain ⟨x, hx', e⟩ := h.has kl hb
    exact absurd e (hx x hx')
theorem mapOf_nil : MapOf (.map []) [] := ⟨fun x hx => absurd hx (List.not_mem_nil), fun kl h => by exact absurd h (by simp [has_eq]), rfl⟩
theorem MapOf.put {D : DataW Unit} {g : List (Nat × Nat)} (h : MapOf D g) (hD : Tidy D) (f o : Nat) (hf : ∀ x, x ∈ g → x.1 ≠ f) : MapOf (D.put (kf f) (.lit (.int .i64 (o : Int)))) (g ++ [(f, o)]) := by
  have hno : Maps.has D (kf f) = false := h.no fun x hx e => hf x hx (kf_inj e).symm
  refine ⟨fun x hx z => ?_, fun kl hk => ?_, ?_⟩
  · rcases List.mem_append.1 hx with hx | hx
    · rw [atKey_put_other fun e => hf x hx (kf_inj e)]; exact h.get x hx z
    · simp at hx; subst hx; exact atKey_put_same hD.isMap (isKey f) _ _
  · by_cases e : kl = kf f
    · exact ⟨(f, o), by simp, e⟩
    · rw [has_put_other e] at hk
      obtain ⟨x, hx, e2⟩ := h.has kl hk
      exact ⟨x, by simp [hx], e2⟩
  · rw [size_put hD, hno, h.sz]; simp
theorem MapOf.del {D : DataW Unit} {g : List (Nat × Nat)} (h : MapOf D g) (hD : Tidy D) {x : Nat × Nat} (hx : x ∈ g) (hn : g.Nodup) (hk : ∀ y, y ∈ g → y.1 = x.1 → y = x) : MapOf (D.del (kf x.1)) (g.erase x) := by
  refine ⟨fun y hy z => ?_, fun kl hkl => ?_, ?_⟩
  · obtain ⟨h1, h2⟩ := hn.mem_erase_iff.1 hy
    rw [atKey_del_other fun e => h1 (hk y h2 (kf_inj e))]; exact h.get y h2 z
  · by_cases e : kl = kf x.1
    · subst e; rw [has_del_same] at hkl; cases hkl
    · rw [has_del_other e] at hkl
      obtain ⟨y, hy, e2⟩ := h.has kl hkl
      exact ⟨y, hn.mem_erase_iff.2 ⟨fun e3 => e (by rw [e2, e3]), hy⟩, e2⟩
  · have := size_del (k := kf x.1) hD
    rw [h.mem hx, h.sz] at this
    rw [List.length_erase_of_mem hx]
    simp at this
    omega
theorem keyLaw : Keyed Tryz.prog 3 := int_keyed Tryz.underlying3
theorem map_kept {S : Nat → Prop} {w w' : World} {k : TypeId} {R : Value → Option (DataW Unit × List MemPlace)} {b n : Nat} {D : DataW Unit} (h : w.ownsMap Tryz.prog k R b n D) (u : Upd S w w') (hb : ¬ S b) : w'.ownsMap Tryz.prog k R b n D := by
  obtain ⟨es, clock, hx, F, hs, hD⟩ := h
  exact ⟨es, clock, u.at hx hb, F, hs, hD⟩
theorem map_tight {w : World} {k : TypeId} {R : Value → Option (DataW Unit × List MemPlace)} {b n : Nat} {D : DataW Unit} (h : w.ownsMap Tryz.prog k R b n D) (m : Nat) (hm : Maps.size D ≤ m) : w.ownsMap Tryz.prog k R b m D := by
  obtain ⟨es, clock, hx, F, hs, rfl⟩ := h
  refine ⟨es, clock, hx, F, ?_, rfl⟩
  rw [size_eq, length_sorted, List.length_map, Array.length_toList] at hm
  exact hm
theorem upd_grown {a c : World} {j : Nat} (h : a.grownBy c (some j)) : Upd (· = j) a c := ⟨h.os, h.tape, h.output, h.size, fun k hk hs => h.block k hk fun e => hs (by injection e)⟩
theorem upd_grown0 {S : Nat → Prop} {a c : World} (h : a.grownBy c none) : Upd S a c := ⟨h.os, h.tape, h.output, h.size, fun k hk _ => h.block k hk (by simp)⟩

end Go.Proofs.YtdapmcclplfpfaaGreatDoor

/-
  Package buddy: where an allocator lies; its map of given blocks as a plain list.
-/
namespace Go.Proofs.YtdapmcclplfpfaaGreatDoor
open Go.ChangeShapes Go.WideShapes Go.ChangeAt Go.RowKit Go.Maps

theorem Bud.Ok.key {b : Bud} (h : b.Ok) {x y : Nat × Nat} (hx : x ∈ b.gave) (hy : y ∈ b.gave) (e : x.1 = y.1) : x = y := by
  refine Decidable.byContradiction fun hne => ?_
  have p1 := Nat.two_pow_pos x.2
  have p2 := Nat.two_pow_pos y.2
  have := h.two hx hy hne x.1 (inBlk_iff.2 ⟨Nat.le_refl _, by omega⟩)
  rw [inBlk_iff.2 ⟨by omega, by omega⟩] at this
  cases this

/-- an allocator lies at A: over the memory at MA, its map at GB -/
structure BudAt (w : World) (A MA GB : Nat) (b : Bud) : Prop where
  head : w.heap[A]? = some (.cells #[.pointer (some ⟨MA, 0, none⟩), .int .i64 b.res, .map (some GB)] 104 (0, 0))
  mp : ∃ D : DataW Unit, w.ownsMap Tryz.prog 3 (plainElem Tryz.prog 3) GB 256 D ∧ MapOf D b.gave
  ok : b.Ok
theorem BudAt.c0 {w : World} {A MA GB : Nat} {b : Bud} (h : BudAt w A MA GB b) : w.cell? ⟨A, 0, none⟩ = some (.pointer (some ⟨MA, 0, none⟩)) := by rw [cell_of_row w A 0 _ _ _ h.head]; rfl
theorem BudAt.c1 {w : World} {A MA GB : Nat} {b : Bud} (h : BudAt w A MA GB b) : w.cell? ⟨A, 1, none⟩ = some (.int .i64 b.res) := by rw [cell_of_row w A 1 _ _ _ h.head]; rfl
theorem BudAt.c2 {w : World} {A MA GB : Nat} {b : Bud} (h : BudAt w A MA GB b) : w.cell? ⟨A, 2, none⟩ = some (.map (some GB)) := by rw [cell_of_row w A 2 _ _ _ h.head]; rfl
theorem BudAt.lts {w : World} {A MA GB : Nat} {b : Bud} (h : BudAt w A MA GB b) : A < w.heap.size ∧ GB < w.heap.size := by
  obtain ⟨D, h1, _⟩ := h.mp
  exact ⟨lt_of_heap h.head, h1.lt⟩
theorem BudAt.ne {w : World} {A MA GB : Nat} {b : Bud} (h : BudAt w A MA GB b) : A ≠ GB := by
  obtain ⟨D, ⟨es, c, hb, _⟩, _⟩ := h.mp
  intro e
  have := h.head
  rw [e, hb] at this
  cases this
theorem BudAt.kept {S : Nat → Prop} {w w' : World} {A MA GB : Nat} {b : Bud} (h : BudAt w A MA GB b) (u : Upd S w w') (h1 : ¬ S A) (h2 : ¬ S GB) : BudAt w' A MA GB b := by
  obtain ⟨D, h3, h4⟩ := h.mp
  exact ⟨u.at h.head h1, ⟨D, map_kept h3 u h2, h4⟩, h.ok⟩
theorem BudAt.below {w w' : World} {A MA GB : Nat} {b : Bud} (h : BudAt w A MA GB b) (u : Below w.heap.size w w') : BudAt w' A MA GB b := h.kept (Upd.of_below (S := fun _ => False) u) (fun h => h) (fun h => h)
theorem shl_pw (k : Nat) (hk : k ≤ 8) : IntKind.i64.wrap (1 * 2 ^ min ((k : Int)).toNat IntKind.i64.bits) = pw k := by
  unfold pw
  match k, hk with
  | 0, _ | 1, _ | 2, _ | 3, _ | 4, _ | 5, _ | 6, _ | 7, _ | 8, _ => rfl
/-- 1 << k -/
theorem wpList_shl1 {P : Program} {ops : Array Oper} {rest : List Oper} {op : Oper} {a : Act} {w : World} {Q : Exit → Act → World → Prop} (hgd : op.guard = none) (t u : TypeId) (x y : Operand) (ho : op.op = .binOp .shl t x y u)
    (hx : a.eval x = .int .i64 1) (k : Nat) (hk : k ≤ 8) (hy : a.eval y = .int .i64 k) (h : wpList P ops Q rest (a.put op.dst (.int .i64 (pw k))) w) : wpList P ops Q (op :: rest) a w := by
  refine wpList_plain hgd fun K hK => ?_
  unfold Oper.wp execOp
  simp only [ho, hx, hy, eqGuard_shl, binOp_shl, shift_shl_any _ _ _ _ (Int.natCast_nonneg k), Sem.run_bind, Sem.run_pure, Result.andThen_ok, shl_pw k hk]
  exact hK _ _ h
end Go.Proofs.YtdapmcclplfpfaaGreatDoor

/-
  Package buddy: New and Left.
-/
namespace Go.Proofs.YtdapmcclplfpfaaGreatDoor
open Go.ChangeShapes Go.WideShapes Go.ChangeAt Go.RowKit Go.Maps

set_option maxHeartbeats 400000 in
theorem bNew_nil (r : Int) (w : World) :
    Calls Tryz.prog 29 #[.pointer none, .int .i64 r] w fun e w' => e = .returned (.tuple #[.pointer none, .int .i64 1]) ∧ w = w' := by
  go_enter Tryz.func29, Tryz.ntmps29
  go_wp2
  go_ret2
  exact ⟨rfl, rfl⟩
set_option maxHeartbeats 400000 in
theorem bNew_no (MA : Nat) (m : Mem) (r : Int) (w : World) (h : MemAt w MA m) (hr : r < 0 ∨ (m.n : Int) < r) :
    Calls Tryz.prog 29 #[.pointer (some ⟨MA, 0, none⟩), .int .i64 r] w fun e w' => e = .returned (.tuple #[.pointer none, .int .i64 1]) ∧ w = w' := by
  by_cases h0 : r < 0
  · clear hr
    go_enter Tryz.func29, Tryz.ntmps29
    go_wp2
    go_ret2
    exact ⟨rfl, rfl⟩
  · have h1 : (m.n : Int) < r := by omega
    clear hr
    go_enter Tryz.func29, Tryz.ntmps29
    go_wp2_with fail
    refine (frames_any MA m _ h).mono ?_
    rintro e w' ⟨rfl, rfl⟩
    go_wp2
    go_ret2
    exact ⟨rfl, rfl⟩
set_option maxHeartbeats 400000 in
theorem bNew_yes (MA : Nat) (m : Mem) (r : Nat) (w : World) (h : MemAt w MA m) (hr : r ≤ m.n) :
    Calls Tryz.prog 29 #[.pointer (some ⟨MA, 0, none⟩), .int .i64 r] w fun e w' => e = .returned (.tuple #[.pointer (some ⟨w.heap.size + 1, 0, none⟩), .int .i64 0]) ∧ BudAt w' (w.heap.size + 1) MA w.heap.size (bud0 m.n r) ∧ Upd (fun _ => False) w w' ∧ w'.heap.size = w.heap.size + 2 := by
  have hmk := run_makeMap (P := Tryz.prog) 102 w
  go_enter Tryz.func29, Tryz.ntmps29
  go_wp2_with fail
  refine (frames_any MA m _ h).mono ?_
  rintro e w' ⟨rfl, rfl⟩
  go_wp2
  go_ret2
  have hm0 : (w.alloc (.map #[] 0)).ownsMap Tryz.prog 3 (plainElem (H := Unit) Tryz.prog 3) w.heap.size 0 (.map []) := World.ownsMap_made w _ _ _
  refine ⟨rfl, ⟨?_, ⟨_, (hm0.alloc _).mono (by omega), mapOf_nil⟩, bud0_ok h.lo h.hi hr⟩, ((Upd.refl _ _).alloc _).alloc _, by simp⟩
  have := heap_alloc_last (w.alloc (.map #[] 0)) (.cells #[.pointer (some ⟨MA, 0, none⟩), .int .i64 r, .map (some w.heap.size)] 104)
  rw [show (w.alloc (.map #[] 0)).heap.size = w.heap.size + 1 from by simp] at this
  exact this

theorem left_sum {b : Bud} (h : b.Ok) : b.left + (b.gave.map fun x => 2 ^ x.2).sum = b.n - b.res := by
  obtain ⟨L, hL⟩ : ∃ L, b.gave.length = L := ⟨_, rfl⟩
  induction L generalizing b with
  | zero =>
    have hg : b.gave = [] := List.length_eq_zero_iff.1 hL
    have key : ∀ n, n ≤ b.n → cnt b.F n = n - b.res := by
      intro n
      induction n with
      | zero => intro _; simp [cnt]
      | succ n ih =>
        intro hn
        rw [cnt_succ, ih (by omega)]
        by_cases h1 : b.res ≤ n
        · rw [(h.fr n).2 ⟨h1, by omega, fun x hx => by rw [hg] at hx; cases hx⟩]
          simp; omega
        · have : b.F n = false := by
            cases hF : b.F n
            · rfl
            · have := ((h.fr n).1 hF).1; omega
          rw [this]; simp; omega
    rw [hg]
    have := key b.n (Nat.le_refl _)
    simp [Bud.left, this]
  | succ L ih =>
    cases hg : b.gave with
    | nil => rw [hg] at hL; cases hL
    | cons x r =>
      have hx : x ∈ b.gave := by rw [hg]; simp
      have e : (b.take x).gave = r := by show b.gave.erase x = r; rw [hg]; simp
      have h1 := ih (h.take hx) (by rw [e]; rw [hg] at hL; simpa using hL)
      rw [left_take h hx, e] at h1
      have h2 : (b.take x).n = b.n ∧ (b.take x).res = b.res := ⟨rfl, rfl⟩
      rw [h2.1, h2.2] at h1
      simp only [List.map_cons, List.sum_cons]
      omega
/-- how many frames the blocks have that the loop has met -/
def metSum (g : List (Nat × Nat)) (left : Lit → Bool) : Nat := (g.map fun x => cond (left (kf x.1)) 0 (2 ^ x.2)).sum
theorem metSum_none {g : List (Nat × Nat)} {left : Lit → Bool} (h : ∀ x, x ∈ g → left (kf x.1) = true) : metSum g left = 0 := by
  unfold metSum
  induction g with
  | nil => rfl
  | cons x r ih => rw [List.map_cons, List.sum_cons, h x (by simp), ih fun y hy => h y (by simp [hy])]; simp
theorem metSum_all {g : List (Nat × Nat)} {left : Lit → Bool} (h : ∀ kl, left kl = false) : metSum g left = (g.map fun x => 2 ^ x.2).sum := by
  unfold metSum
  simp [h]
theorem metSum_step {g : List (Nat × Nat)} (left : Lit → Bool) {x : Nat × Nat} (hn : g.Nodup) (hk : ∀ y, y ∈ g → y.1 = x.1 → y = x) (hx : x ∈ g) (hl : left (kf x.1) = true) : metSum g (fun z => left z && !z.sameKey (kf x.1)) = metSum g left + 2 ^ x.2 := by
  have other : ∀ y, y ≠ x → (∀ z, z ∈ g → z.1 = x.1 → z = x) → y ∈ g → (left (kf y.1) && !(kf y.1).sameKey (kf x.1)) = left (kf y.1) := by
    intro y hy hk hyg
    rw [kf_same, decide_eq_false fun e => hy (hk y hyg e)]
    simp
  unfold metSum
  induction g with
  | nil => cases hx
  | cons y r ih =>
    rw [List.nodup_cons] at hn
    simp only [List.map_cons, List.sum_cons]
    rcases List.mem_cons.1 hx with e | hx'
    · subst e
      have e1 : (left (kf x.1) && !(kf x.1).sameKey (kf x.1)) = false := by rw [kf_same]; simp
      rw [e1, hl]
      have e2 : (r.map fun y => cond (left (kf y.1) && !(kf y.1).sameKey (kf x.1)) 0 (2 ^ y.2)) = r.map fun y => cond (left (kf y.1)) 0 (2 ^ y.2) := by
        refine List.map_congr_left fun z hz => ?_
        rw [other z (fun e => hn.1 (e ▸ hz)) hk (by simp [hz])]
      rw [e2]; simp; omega
    · have hne : y ≠ x := fun e => hn.1 (e ▸ hx')
      rw [other y hne hk (by simp), ih hn.2 (fun z hz => hk z (by simp [hz])) hx' (fun z hz hk' hzg => other z hz hk (by simp [hzg]))]
      omega
theorem metSum_le {b : Bud} (h : b.Ok) (left : Lit → Bool) : metSum b.gave left ≤ b.n - b.res := by
  have h1 := left_sum h
  have h2 : ∀ g : List (Nat × Nat), metSum g left ≤ (g.map fun x => 2 ^ x.2).sum := by
    intro g
    unfold metSum
    induction g with
    | nil => simp
    | cons x r ih => simp only [List.map_cons, List.sum_cons]; have := Nat.two_pow_pos x.2; cases left (kf x.1) <;> simp only [cond_true, cond_false] <;> omega
  have := h2 b.gave
  omega
theorem MapOf.entry {D : DataW Unit} {g : List (Nat × Nat)} (h : MapOf D g) {x c : Int} (hat : ∀ zd, D.atKey (.int .i64 x) zd = .lit (.int .i64 c)) : ∃ y, y ∈ g ∧ x = y.1 ∧ c = y.2 := by
  obtain ⟨y, hy, e⟩ := h.has _ (has_true_of_atKey hat)
  have e1 := h.get y hy (.lit (.int .i64 0))
  rw [← e, hat] at e1
  unfold kf at e
  injection e with _ e
  injection e1 with e1
  injection e1 with _ e1
  exact ⟨y, hy, e, e1⟩
set_option maxRecDepth 100000 in
set_option maxHeartbeats 1000000 in
theorem bLeft_any (A MA GB : Nat) (m : Mem) (b : Bud) (w : World) (h : BudAt w A MA GB b) (hm : MemAt w MA m) (hn : m.n = b.n) :
    Calls Tryz.prog 22 #[.pointer (some ⟨A, 0, none⟩)] w fun e w' => e = .returned (.int .i64 b.left) ∧ Upd (fun _ => False) w w' := by
  have hc0 := h.c0
  have hc1 := h.c1
  have hc2 := h.c2
  obtain ⟨D, hD, hM⟩ := h.mp
  have hF := Lib.hid (show ∀ q, Calls Tryz.prog 51 #[.pointer (some ⟨MA, 0, none⟩)] (w.drewN q) fun e w'' => e = .returned (.int .i64 m.n) ∧ ∃ p, w'' = w.drewN p from fun q => still0 (frames_any _ _ _ (hm.kept ((Upd.refl (fun _ => False) _).drewN q) (fun h => h) (fun h => h))))
  rw [hn] at hF
  have h1 := h.ok.rs
  have h2 := h.ok.hi
  have hok := Lib.hid h.ok
  have hGB := hD.lt
  obtain ⟨N, hN⟩ : ∃ N, w.heap.size = N := ⟨_, rfl⟩
  go_enter Tryz.func22, Tryz.ntmps22
  go_wp2
  go_quiet ((go_at_call 51; exact hF.out _))
  have hD2 : ∀ q, (w.drewN q).ownsMap Tryz.prog 3 (plainElem Tryz.prog 3) GB 256 D := fun q => map_kept hD ((Upd.refl (fun _ => False) w).drewN q) (fun h => h)
  go_wp2_with (first
    | (at_range; refine wpList_range_own _ rfl _ 102 rfl 3 3 keyLaw Tryz.underlying102 _ GB 256 D rfl (hD2 _) ?_; intro w0 hrg0 hg0 hs0)
    | go_in)
  go_frame
  rw [show (w.drewN nq).heap.size = N from hN]
  have hU0 : Upd (fun _ => False) w w0 := (((Upd.refl (fun _ => False) w).drewN _).trans (upd_grown0 hg0))
  have hs0' : w0.heap.size = N + 1 := by rw [hs0, ← hN]; rfl
  have hrg0' : w0.ranges Tryz.prog 3 (plainElem Tryz.prog 3) GB N 256 D (Maps.has D) (Maps.size D) := by rw [← hN]; exact hrg0
  clear hrg0 hg0 hs0 hD2
  go_loopw [3, 5] (fun t _ wr => ∃ (left : Lit → Bool) (cnt : Nat), t = .int .i64 ((b.n - b.res - metSum b.gave left : Nat) : Int) ∧ wr.ranges Tryz.prog 3 (plainElem Tryz.prog 3) GB N 256 D left cnt ∧ Upd (fun _ => False) w wr) (fun _ _ wr => wr.rangeLeft GB N)
  case atStart => exact ⟨_, _, by rw [metSum_none fun x hx => hM.mem hx]; congr 1; omega, hrg0', hU0⟩
  case round =>
    obtain ⟨left, cnt, rfl, hrg, hU⟩ := hrel
    go_wp2_with (first
      | (at_next; refine wpList_next_ranges_ii _ rfl _ rfl 3 3 .i64 .i64 keyLaw Tryz.underlying3 Tryz.underlying3 GB N 256 _ _ _ rfl hrg ?_ ?_)
      | go_in)
    · intro _ hl0
      have hv := Lib.hid (show b.n - b.res - metSum b.gave left = b.left from by rw [metSum_all hl0]; have := left_sum hok.out; omega)
      rw [hv.out]
      go_wp2
      go_ret
      exact ⟨rfl, hU⟩
    · intro x c w1 cnt1 hwx hwc hlx hat hrg1 hlt hg1 hs1 hen
      obtain ⟨y, hy, rfl, rfl⟩ := hM.entry hat
      have hy8 := (hok.out.blk y hy).1
      have hst := Lib.hid (metSum_step left hok.out.nodup (fun z hz e => hok.out.key hz hy e) hy hlx)
      have hle := metSum_le hok.out (fun z => left z && !z.sameKey (kf y.1))
      have hpw := Lib.hid (show pw y.2 = ((2 ^ y.2 : Nat) : Int) from rfl)
      have hbd := pw_bd y.2 hy8
      have hU1 : Upd (fun _ => False) w w1 := ⟨hg1.os.trans hU.os, hg1.tape.trans hU.tape, hg1.output.trans hU.output, Nat.le_trans hU.size hg1.size, fun k hk hs => (hg1.block k (Nat.lt_of_lt_of_le hk hU.size) (by intro e; injection e with e; omega)).trans (hU.block k hk hs)⟩
      have Hrg1 := Lib.hid hrg1
      clear hrg1 hwx hwc hlx hat hg1 hs1
      rw [hst.out] at hle
      have hle' : (b.n - b.res - metSum b.gave left : Nat) ≥ 0 := Nat.zero_le _
      have e1 := Lib.hid (show (((b.n - b.res - metSum b.gave left : Nat) : Int) - pw y.2) = ((b.n - b.res - metSum b.gave (fun z => left z && !z.sameKey (kf y.1)) : Nat) : Int) from by rw [hst.out, hpw.out]; have hp := Nat.two_pow_pos y.2; generalize 2 ^ y.2 = p at hp hle ⊢; omega)
      have hbd2 : b.n - b.res - metSum b.gave left ≤ 256 := by omega
      clear hle hle' hst hpw
      generalize b.n - b.res - metSum b.gave left = S at e1 hbd2 ⊢
      go_wp2_with (first
        | (with_reducible refine wpList_shl1 rfl _ _ _ _ rfl rfl y.2 hy8 rfl ?_)
        | go_in)
      exact ⟨⟨fun z => left z && !z.sameKey (kf y.1), cnt1, by rw [e1.out], Hrg1.out, hU1⟩, by rw [Hrg1.out.left_eq, hrg.left_eq]; exact hlt⟩
end Go.Proofs.YtdapmcclplfpfaaGreatDoor
