/-
  Package buddy, in plain numbers: an allocator's state, Alloc, Free, Held, and what always holds of it.
-/
import Derived.Test.YtmobhojblclmjaaBuM
namespace Go.Proofs.Ytmobhojblclmjaa

/-- does frame j lie in the block? -/
def inBlk (x : Nat × Nat) (j : Nat) : Bool := decide (x.1 ≤ j) && decide (j < x.1 + 2 ^ x.2)
theorem inBlk_iff {x : Nat × Nat} {j : Nat} : inBlk x j = true ↔ x.1 ≤ j ∧ j < x.1 + 2 ^ x.2 := by simp [inBlk]
theorem inBlk_no {x : Nat × Nat} {j : Nat} : inBlk x j = false ↔ ¬ (x.1 ≤ j ∧ j < x.1 + 2 ^ x.2) := by rw [← inBlk_iff]; simp
/-- an allocator: how many frames, how many of them reserved, which are free, the blocks that were given, one by one -/
structure Bud where
  n : Nat
  res : Nat
  F : Nat → Bool
  gave : List (Nat × Nat)
def bud0 (n res : Nat) : Bud := ⟨n, res, fun j => decide (res ≤ j) && decide (j < n), []⟩
structure Bud.Ok (b : Bud) : Prop where
  lo : 1 ≤ b.n
  hi : b.n ≤ 256
  rs : b.res ≤ b.n
  blk : ∀ x, x ∈ b.gave → x.2 ≤ 8 ∧ x.1 % 2 ^ x.2 = 0 ∧ b.res ≤ x.1 ∧ x.1 + 2 ^ x.2 ≤ b.n
  apart : b.gave.Pairwise fun x y => ∀ j, inBlk x j = true → inBlk y j = false
  fr : ∀ j, b.F j = true ↔ b.res ≤ j ∧ j < b.n ∧ ∀ x, x ∈ b.gave → inBlk x j = false
theorem bud0_ok {n res : Nat} (h1 : 1 ≤ n) (h2 : n ≤ 256) (h3 : res ≤ n) : (bud0 n res).Ok :=
  ⟨h1, h2, h3, fun x hx => by simp [bud0] at hx, by simp [bud0], fun j => by simp [bud0]⟩
theorem Bud.Ok.ext {b c : Bud} (h : b.Ok) (h' : c.Ok) (e1 : b.n = c.n) (e2 : b.res = c.res) (e3 : ∀ x, x ∈ b.gave ↔ x ∈ c.gave) : b.F = c.F := by
  funext j
  have e : b.F j = true ↔ c.F j = true := by
    rw [h.fr, h'.fr, e1, e2]
    constructor
    · rintro ⟨a1, a2, a3⟩; exact ⟨a1, a2, fun x hx => a3 x ((e3 x).2 hx)⟩
    · rintro ⟨a1, a2, a3⟩; exact ⟨a1, a2, fun x hx => a3 x ((e3 x).1 hx)⟩
  cases hb : b.F j <;> cases hc : c.F j <;> simp_all

/-! Alloc -/
/-- the best block so far, one more looked at -/
def better (o : Nat) (b : Option (Nat × Nat)) (x : Nat × Nat) : Option (Nat × Nat) :=
  match b with
  | none => if o ≤ x.2 then some x else none
  | some y => if o ≤ x.2 ∧ x.2 < y.2 then some x else some y
def pick (o : Nat) (l : List (Nat × Nat)) : Option (Nat × Nat) := l.foldl (better o) none
theorem pick_snoc (o : Nat) (l : List (Nat × Nat)) (x : Nat × Nat) : pick o (l ++ [x]) = better o (pick o l) x := by simp [pick]
theorem snoc_induction {α : Type} {P : List α → Prop} (h0 : P []) (h1 : ∀ l x, P l → P (l ++ [x])) (l : List α) : P l := by
  have : ∀ r : List α, P r.reverse := by
    intro r
    induction r with
    | nil => exact h0
    | cons x r ih => rw [List.reverse_cons]; exact h1 _ _ ih
  have h := this l.reverse
  rwa [List.reverse_reverse] at h
theorem pick_spec (o : Nat) (l : List (Nat × Nat)) : match pick o l with
    | none => ∀ y, y ∈ l → y.2 < o
    | some x => x ∈ l ∧ o ≤ x.2 ∧ ∀ y, y ∈ l → o ≤ y.2 → x.2 ≤ y.2 := by
  induction l using snoc_induction with
  | h0 => simp [pick]
  | h1 l x ih =>
    rw [pick_snoc]
    cases hp : pick o l with
    | none =>
      rw [hp] at ih
      unfold better
      by_cases hx : o ≤ x.2
      · simp only [hx, if_true]
        refine ⟨by simp, trivial, fun y hy ho => ?_⟩
        rcases List.mem_append.1 hy with h | h
        · have := ih y h; omega
        · simp at h; subst h; exact Nat.le_refl _
      · simp only [hx, if_false]
        intro y hy
        rcases List.mem_append.1 hy with h | h
        · exact ih y h
        · simp at h; subst h; omega
    | some y =>
      rw [hp] at ih
      obtain ⟨i1, i2, i3⟩ := ih
      unfold better
      by_cases hx : o ≤ x.2 ∧ x.2 < y.2
      · simp only [hx, and_self, if_true]
        refine ⟨by simp, trivial, fun z hz ho => ?_⟩
        rcases List.mem_append.1 hz with h | h
        · have := i3 z h ho; omega
        · simp at h; subst h; exact Nat.le_refl _
      · simp only [hx, if_false]
        refine ⟨by simp [i1], i2, fun z hz ho => ?_⟩
        rcases List.mem_append.1 hz with h | h
        · exact i3 z h ho
        · simp at h; subst h; omega
theorem pick_none {o : Nat} {l : List (Nat × Nat)} (h : pick o l = none) : ∀ y, y ∈ l → y.2 < o := by have := pick_spec o l; rw [h] at this; exact this
theorem pick_some {o : Nat} {l : List (Nat × Nat)} {x : Nat × Nat} (h : pick o l = some x) : x ∈ l ∧ o ≤ x.2 ∧ ∀ y, y ∈ l → o ≤ y.2 → x.2 ≤ y.2 := by have := pick_spec o l; rw [h] at this; exact this

def cutF (F : Nat → Bool) (x : Nat × Nat) : Nat → Bool := fun j => F j && !inBlk x j
def addF (F : Nat → Bool) (x : Nat × Nat) : Nat → Bool := fun j => F j || inBlk x j
/-- the block that Alloc chooses -/
def Bud.sel (b : Bud) (o : Nat) : Option (Nat × Nat) := pick o (blocks b.F b.n)
def Bud.give (b : Bud) (x : Nat × Nat) : Bud := { b with F := cutF b.F x, gave := b.gave ++ [x] }
def Bud.take (b : Bud) (x : Nat × Nat) : Bud := { b with F := addF b.F x, gave := b.gave.erase x }

theorem sel_blk {b : Bud} {o : Nat} {x : Nat × Nat} (h : b.sel o = some x) : Mx b.F b.n x.1 x.2 ∧ o ≤ x.2 := by
  have := pick_some h
  exact ⟨mem_blocks.1 this.1, this.2.1⟩
theorem pow_mono {o k : Nat} (h : o ≤ k) : 2 ^ o ≤ 2 ^ k := Nat.pow_le_pow_right (by decide) h
theorem mod_pow_of {i o k : Nat} (h : o ≤ k) (hi : i % 2 ^ k = 0) : i % 2 ^ o = 0 := by
  obtain ⟨d, rfl⟩ := Nat.le.dest h
  rw [Nat.pow_add] at hi
  exact Nat.mod_eq_zero_of_dvd (Nat.dvd_trans (Nat.dvd_mul_right _ _) (Nat.dvd_of_mod_eq_zero hi))
/-- a block of order o at the beginning of a free one -/
theorem Blk.head {F : Nat → Bool} {n i k o : Nat} (h : Blk F n i k) (ho : o ≤ k) : Blk F n i o := by
  have := pow_mono ho
  have h2 := h.le
  exact ⟨mod_pow_of ho h.al, by omega, fun j h1 h2 => h.fr j h1 (by omega)⟩
theorem Bud.Ok.give {b : Bud} (h : b.Ok) {f o : Nat} (ho : o ≤ 8) (hb : Blk b.F b.n f o) : (b.give (f, o)).Ok := by
  have hp := Nat.two_pow_pos o
  have hf := (h.fr f).1 (hb.fr f (Nat.le_refl _) (by omega))
  refine ⟨h.lo, h.hi, h.rs, fun x hx => ?_, ?_, fun j => ?_⟩
  · rcases List.mem_append.1 hx with hx | hx
    · exact h.blk x hx
    · simp at hx; subst hx; exact ⟨ho, hb.al, hf.1, hb.le⟩
  · show (b.gave ++ [(f, o)]).Pairwise _
    rw [List.pairwise_append]
    refine ⟨h.apart, by simp, fun x hx y hy j hj => ?_⟩
    simp at hy; subst hy
    rw [inBlk_no]
    intro hj2
    have := ((h.fr j).1 (hb.fr j hj2.1 hj2.2)).2.2 x hx
    rw [hj] at this; cases this
  · show (b.F j && !inBlk (f, o) j) = true ↔ _
    simp only [Bool.and_eq_true, Bool.not_eq_true']
    rw [h.fr]
    show _ ↔ b.res ≤ j ∧ j < b.n ∧ ∀ x, x ∈ b.gave ++ [(f, o)] → _
    simp only [List.mem_append, List.mem_singleton]
    constructor
    · rintro ⟨⟨a1, a2, a3⟩, a4⟩
      exact ⟨a1, a2, fun x hx => by rcases hx with hx | hx; exact a3 x hx; rw [hx]; exact a4⟩
    · rintro ⟨a1, a2, a3⟩
      exact ⟨⟨a1, a2, fun x hx => a3 x (.inl hx)⟩, a3 _ (.inr rfl)⟩
theorem Bud.Ok.nodup {b : Bud} (h : b.Ok) : b.gave.Nodup := by
  refine List.Pairwise.imp (fun {x y} hxy e => ?_) h.apart
  subst e
  have hx : inBlk x x.1 = true := by rw [inBlk_iff]; have := Nat.two_pow_pos x.2; omega
  have := hxy x.1 hx
  rw [hx] at this; cases this
theorem Bud.Ok.two {b : Bud} (h : b.Ok) {x y : Nat × Nat} (hx : x ∈ b.gave) (hy : y ∈ b.gave) (hne : x ≠ y) (j : Nat) (hj : inBlk x j = true) : inBlk y j = false := by
  have key : ∀ l : List (Nat × Nat), l.Pairwise (fun x y => ∀ j, inBlk x j = true → inBlk y j = false) → x ∈ l → y ∈ l → inBlk y j = false := by
    intro l hl
    induction l with
    | nil => intro hx; cases hx
    | cons z r ih =>
      intro hx hy
      rw [List.pairwise_cons] at hl
      rcases List.mem_cons.1 hx with e | hx'
      · rcases List.mem_cons.1 hy with e' | hy'
        · exact absurd (e.trans e'.symm) hne
        · subst e; exact hl.1 y hy' j hj
      · rcases List.mem_cons.1 hy with e' | hy'
        · subst e'
          cases hb : inBlk y j
          · rfl
          · have := hl.1 x hx' j hb
            rw [hj] at this; cases this
        · exact ih hl.2 hx' hy'
  exact key b.gave h.apart hx hy
theorem Bud.Ok.take {b : Bud} (h : b.Ok) {x : Nat × Nat} (hx : x ∈ b.gave) : (b.take x).Ok := by
  have hmem : ∀ y, y ∈ b.gave.erase x ↔ y ≠ x ∧ y ∈ b.gave := fun y => h.nodup.mem_erase_iff
  refine ⟨h.lo, h.hi, h.rs, fun y hy => h.blk y ((hmem y).1 hy).2, h.apart.sublist List.erase_sublist, fun j => ?_⟩
  show (b.F j || inBlk x j) = true ↔ b.res ≤ j ∧ j < b.n ∧ ∀ y, y ∈ b.gave.erase x → _
  rw [Bool.or_eq_true, h.fr]
  obtain ⟨b1, b2, b3, b4⟩ := h.blk x hx
  constructor
  · rintro (⟨a1, a2, a3⟩ | hj)
    · exact ⟨a1, a2, fun y hy => a3 y ((hmem y).1 hy).2⟩
    · have hj' := inBlk_iff.1 hj
      exact ⟨by omega, by omega, fun y hy => h.two hx ((hmem y).1 hy).2 (fun e => ((hmem y).1 hy).1 e.symm) j hj⟩
  · rintro ⟨a1, a2, a3⟩
    cases hj : inBlk x j
    · refine .inl ⟨a1, a2, fun y hy => ?_⟩
      by_cases e : y = x
      · rw [e]; exact hj
      · exact a3 y ((hmem y).2 ⟨e, hy⟩)
    · exact .inr rfl
theorem sel_give {b : Bud} (h : b.Ok) {o : Nat} {x : Nat × Nat} (ho : o ≤ 8) (hs : b.sel o = some x) : (b.give (x.1, o)).Ok ∧ Blk b.F b.n x.1 o := by
  obtain ⟨h1, h2⟩ := sel_blk hs
  exact ⟨h.give ho (h1.b.head h2), h1.b.head h2⟩

/-! Left -/
def cnt (F : Nat → Bool) (n : Nat) : Nat := ((List.range n).filter F).length
theorem cnt_succ (F : Nat → Bool) (n : Nat) : cnt F (n + 1) = cnt F n + (F n).toNat := by
  unfold cnt
  rw [List.range_succ, List.filter_append, List.length_append]
  cases h : F n <;> simp [h]
theorem cnt_le (F : Nat → Bool) (n : Nat) : cnt F n ≤ n := by
  have := List.length_filter_le F (List.range n)
  simpa [cnt] using this
theorem cnt_cut (F : Nat → Bool) (f k : Nat) (hf : ∀ j, f ≤ j → j < f + 2 ^ k → F j = true) : ∀ n, cnt (cutF F (f, k)) n + (min n (f + 2 ^ k) - min n f) = cnt F n
  | 0 => by simp [cnt]
  | n + 1 => by
    rw [cnt_succ, cnt_succ]
    have ih := cnt_cut F f k hf n
    have hp := Nat.two_pow_pos k
    by_cases h1 : f ≤ n ∧ n < f + 2 ^ k
    · have e1 : cutF F (f, k) n = false := by unfold cutF; rw [inBlk_iff.2 h1]; simp
      rw [e1, hf n h1.1 h1.2]
      simp only [Bool.toNat_false, Bool.toNat_true]
      omega
    · have e1 : cutF F (f, k) n = F n := by unfold cutF; rw [inBlk_no.2 h1]; simp
      rw [e1]
      omega
def Bud.left (b : Bud) : Nat := cnt b.F b.n
theorem left_give {b : Bud} {f o : Nat} (hb : Blk b.F b.n f o) : (b.give (f, o)).left + 2 ^ o = b.left := by
  have h := cnt_cut b.F f o hb.fr b.n
  have := hb.le
  have hp := Nat.two_pow_pos o
  show cnt (cutF b.F (f, o)) b.n + 2 ^ o = cnt b.F b.n
  rw [Nat.min_eq_right (by omega), Nat.min_eq_right (by omega)] at h
  omega
theorem left_take {b : Bud} (h : b.Ok) {x : Nat × Nat} (hx : x ∈ b.gave) : (b.take x).left = b.left + 2 ^ x.2 := by
  obtain ⟨b1, b2, b3, b4⟩ := h.blk x hx
  have hfull : ∀ j, x.1 ≤ j → j < x.1 + 2 ^ x.2 → addF b.F x j = true := fun j h1 h2 => by unfold addF; rw [inBlk_iff.2 ⟨h1, h2⟩]; simp
  have hc := cnt_cut (addF b.F x) x.1 x.2 hfull b.n
  have e : cutF (addF b.F x) (x.1, x.2) = b.F := by
    funext j
    unfold cutF addF
    cases hj : inBlk x j
    · simp
    · have : b.F j = false := by
        cases hF : b.F j
        · rfl
        · have := ((h.fr j).1 hF).2.2 x hx
          rw [hj] at this; cases this
      simp [this]
  have hp := Nat.two_pow_pos x.2
  rw [e, Nat.min_eq_right (by omega), Nat.min_eq_right (by omega)] at hc
  show cnt (addF b.F x) b.n = cnt b.F b.n + 2 ^ x.2
  omega

theorem nodup_len : ∀ (n : Nat) (l : List Nat), l.Nodup → (∀ x, x ∈ l → x < n) → l.length ≤ n
  | 0, l, _, h => by
    cases l with
    | nil => exact Nat.le_refl _
    | cons x r => have := h x (by simp); omega
  | n + 1, l, hn, h => by
    have ih := nodup_len n (l.erase n) (hn.erase n) fun x hx => by
      have h1 := hn.mem_erase_iff.1 hx
      have := h x h1.2
      have := h1.1
      omega
    have := List.length_erase (a := n) (l := l)
    rw [this] at ih
    split at ih <;> omega
/-- blocks that lie apart below n are at most n -/
theorem apart_len : ∀ (l : List (Nat × Nat)) (n : Nat), l.Pairwise (fun x y => ∀ j, inBlk x j = true → inBlk y j = false) → (∀ x, x ∈ l → x.1 + 2 ^ x.2 ≤ n) → l.length ≤ n := by
  intro l n hp hb
  have hnd : (l.map Prod.fst).Nodup := by
    rw [List.Nodup, List.pairwise_map]
    refine hp.imp fun {x y} hxy e => ?_
    have h1 := Nat.two_pow_pos x.2
    have h2 := Nat.two_pow_pos y.2
    have := hxy x.1 (inBlk_iff.2 ⟨Nat.le_refl _, by omega⟩)
    rw [inBlk_iff.2 ⟨by omega, by omega⟩] at this
    cases this
  have := nodup_len n _ hnd fun j hj => by
    obtain ⟨x, hx, rfl⟩ := List.mem_map.1 hj
    have := hb x hx
    have := Nat.two_pow_pos x.2
    omega
  simpa using this
theorem Bud.Ok.gave_len {b : Bud} (h : b.Ok) : b.gave.length ≤ 256 :=
  Nat.le_trans (apart_len b.gave b.n h.apart fun x hx => (h.blk x hx).2.2.2) h.hi
end Go.Proofs.Ytmobhojblclmjaa
