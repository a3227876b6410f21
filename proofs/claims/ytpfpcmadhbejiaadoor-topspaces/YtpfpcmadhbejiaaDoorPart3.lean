/-
  Texts that the laws stand on, joined: BuS, TbM, BuR, BuT, BuU, BgA, BgB, BgC, BgD, BgE, BuL.
-/
import Derived.Deep.CutBlock
import Derived.Deep.DeepCutAuto
import Derived.Deep.LoopGhost
import Derived.Deep.RegionHeld3
import Derived.Maps.AppendAt
import Derived.Maps.OwnOps
import Derived.Maps.OwnSet
import Derived.Maps.RangeWalk
import Derived.RangeFuncBox
import Derived.WalkMore
import Derived.Test.YtpfpcmadhbejiaaDoorPart2

/-
  Package buddy, in plain numbers: an allocator's state, Alloc, Free, Held, and what always holds of it.
-/
namespace Go.Proofs.YtpfpcmadhbejiaaDoor

/-- does frame j lie in the block? -/
def inBlk (x : Nat × Nat) (j : Nat) : Bool := decide (x.1 ≤ j) && decide (j < x.1 + 2 ^ x.2)
theorem inBlk_iff {x : Nat × Nat} {j : Nat} : inBlk x j = true ↔ x.1 ≤ j ∧ j < x.1 + 2 ^ x.2 := by simp [inBlk]
theorem inBlk_no {x : Nat × Nat} {j : Nat} : inBlk x j = false ↔ ¬ (x.1 ≤ j ∧ j < x.1 + 2 ^ x.2) := by rw [← inBlk_iff]; simp
/-- an allocator: how many frames, how many of them reserved, which are free, the blocks that were given, one by one -/
structure Bud where
  n : Nat
  res : Nat
  F : Nat → Bool
  gave : List (Nat × Nat)
def bud0 (n res : Nat) : Bud := ⟨n, res, fun j => decide (res ≤ j) && decide (j < n), []⟩
structure Bud.Ok (b : Bud) : Prop where
  lo : 1 ≤ b.n
  hi : b.n ≤ 256
  rs : b.res ≤ b.n
  blk : ∀ x, x ∈ b.gave → x.2 ≤ 8 ∧ x.1 % 2 ^ x.2 = 0 ∧ b.res ≤ x.1 ∧ x.1 + 2 ^ x.2 ≤ b.n
  apart : b.gave.Pairwise fun x y => ∀ j, inBlk x j = true → inBlk y j = false
  fr : ∀ j, b.F j = true ↔ b.res ≤ j ∧ j < b.n ∧ ∀ x, x ∈ b.gave → inBlk x j = false
theorem bud0_ok {n res : Nat} (h1 : 1 ≤ n) (h2 : n ≤ 256) (h3 : res ≤ n) : (bud0 n res).Ok :=
  ⟨h1, h2, h3, fun x hx => by simp [bud0] at hx, by simp [bud0], fun j => by simp [bud0]⟩
theorem Bud.Ok.ext {b c : Bud} (h : b.Ok) (h' : c.Ok) (e1 : b.n = c.n) (e2 : b.res = c.res) (e3 : ∀ x, x ∈ b.gave ↔ x ∈ c.gave) : b.F = c.F := by
  funext j
  have e : b.F j = true ↔ c.F j = true := by
    rw [h.fr, h'.fr, e1, e2]
    constructor
    · rintro ⟨a1, a2, a3⟩; exact ⟨a1, a2, fun x hx => a3 x ((e3 x).2 hx)⟩
    · rintro ⟨a1, a2, a3⟩; exact ⟨a1, a2, fun x hx => a3 x ((e3 x).1 hx)⟩
  cases hb : b.F j <;> cases hc : c.F j <;> simp_all

/-! Alloc -/
/-- the best block so far, one more looked at -/
def better (o : Nat) (b : Option (Nat × Nat)) (x : Nat × Nat) : Option (Nat × Nat) :=
  match b with
  | none => if o ≤ x.2 then some x else none
  | some y => if o ≤ x.2 ∧ x.2 < y.2 then some x else some y
def pick (o : Nat) (l : List (Nat × Nat)) : Option (Nat × Nat) := l.foldl (better o) none
theorem pick_snoc (o : Nat) (l : List (Nat × Nat)) (x : Nat × Nat) : pick o (l ++ [x]) = better o (pick o l) x := by simp [pick]
theorem snoc_induction {α : Type} {P : List α → Prop} (h0 : P []) (h1 : ∀ l x, P l → P (l ++ [x])) (l : List α) : P l := by
  have : ∀ r : List α, P r.reverse := by
    intro r
    induction r with
    | nil => exact h0
    | cons x r ih => rw [List.reverse_cons]; exact h1 _ _ ih
  have h := this l.reverse
  rwa [List.reverse_reverse] at h
theorem pick_spec (o : Nat) (l : List (Nat × Nat)) : match pick o l with
    | none => ∀ y, y ∈ l → y.2 < o
    | some x => x ∈ l ∧ o ≤ x.2 ∧ ∀ y, y ∈ l → o ≤ y.2 → x.2 ≤ y.2 := by
  induction l using snoc_induction with
  | h0 => simp [pick]
  | h1 l x ih =>
    rw [pick_snoc]
    cases hp : pick o l with
    | none =>
      rw [hp] at ih
      unfold better
      by_cases hx : o ≤ x.2
      · simp only [hx, if_true]
        refine ⟨by simp, trivial, fun y hy ho => ?_⟩
        rcases List.mem_append.1 hy with h | h
        · have := ih y h; omega
        · simp at h; subst h; exact Nat.le_refl _
      · simp only [hx, if_false]
        intro y hy
        rcases List.mem_append.1 hy with h | h
        · exact ih y h
        · simp at h; subst h; omega
    | some y =>
      rw [hp] at ih
      obtain ⟨i1, i2, i3⟩ := ih
      unfold better
      by_cases hx : o ≤ x.2 ∧ x.2 < y.2
      · simp only [hx, and_self, if_true]
        refine ⟨by simp, trivial, fun z hz ho => ?_⟩
        rcases List.mem_append.1 hz with h | h
        · have := i3 z h ho; omega
        · simp at h; subst h; exact Nat.le_refl _
      · simp only [hx, if_false]
        refine ⟨by simp [i1], i2, fun z hz ho => ?_⟩
        rcases List.mem_append.1 hz with h | h
        · exact i3 z h ho
        · simp at h; subst h; omega
theorem pick_none {o : Nat} {l : List (Nat × Nat)} (h : pick o l = none) : ∀ y, y ∈ l → y.2 < o := by have := pick_spec o l; rw [h] at this; exact this
theorem pick_some {o : Nat} {l : List (Nat × Nat)} {x : Nat × Nat} (h : pick o l = some x) : x ∈ l ∧ o ≤ x.2 ∧ ∀ y, y ∈ l → o ≤ y.2 → x.2 ≤ y.2 := by have := pick_spec o l; rw [h] at this; exact this

def cutF (F : Nat → Bool) (x : Nat × Nat) : Nat → Bool := fun j => F j && !inBlk x j
def addF (F : Nat → Bool) (x : Nat × Nat) : Nat → Bool := fun j => F j || inBlk x j
/-- the block that Alloc chooses -/
def Bud.sel (b : Bud) (o : Nat) : Option (Nat × Nat) := pick o (blocks b.F b.n)
def Bud.give (b : Bud) (x : Nat × Nat) : Bud := { b with F := cutF b.F x, gave := b.gave ++ [x] }
def Bud.take (b : Bud) (x : Nat × Nat) : Bud := { b with F := addF b.F x, gave := b.gave.erase x }

theorem sel_blk {b : Bud} {o : Nat} {x : Nat × Nat} (h : b.sel o = some x) : Mx b.F b.n x.1 x.2 ∧ o ≤ x.2 := by
  have := pick_some h
  exact ⟨mem_blocks.1 this.1, this.2.1⟩
theorem pow_mono {o k : Nat} (h : o ≤ k) : 2 ^ o ≤ 2 ^ k := Nat.pow_le_pow_right (by decide) h
theorem mod_pow_of {i o k : Nat} (h : o ≤ k) (hi : i % 2 ^ k = 0) : i % 2 ^ o = 0 := by
  obtain ⟨d, rfl⟩ := Nat.le.dest h
  rw [Nat.pow_add] at hi
  exact Nat.mod_eq_zero_of_dvd (Nat.dvd_trans (Nat.dvd_mul_right _ _) (Nat.dvd_of_mod_eq_zero hi))
/-- a block of order o at the beginning of a free one -/
theorem Blk.head {F : Nat → Bool} {n i k o : Nat} (h : Blk F n i k) (ho : o ≤ k) : Blk F n i o := by
  have := pow_mono ho
  have h2 := h.le
  exact ⟨mod_pow_of ho h.al, by omega, fun j h1 h2 => h.fr j h1 (by omega)⟩
theorem Bud.Ok.give {b : Bud} (h : b.Ok) {f o : Nat} (ho : o ≤ 8) (hb : Blk b.F b.n f o) : (b.give (f, o)).Ok := by
  have hp := Nat.two_pow_pos o
  have hf := (h.fr f).1 (hb.fr f (Nat.le_refl _) (by omega))
  refine ⟨h.lo, h.hi, h.rs, fun x hx => ?_, ?_, fun j => ?_⟩
  · rcases List.mem_append.1 hx with hx | hx
    · exact h.blk x hx
    · simp at hx; subst hx; exact ⟨ho, hb.al, hf.1, hb.le⟩
  · show (b.gave ++ [(f, o)]).Pairwise _
    rw [List.pairwise_append]
    refine ⟨h.apart, by simp, fun x hx y hy j hj => ?_⟩
    simp at hy; subst hy
    rw [inBlk_no]
    intro hj2
    have := ((h.fr j).1 (hb.fr j hj2.1 hj2.2)).2.2 x hx
    rw [hj] at this; cases this
  · show (b.F j && !inBlk (f, o) j) = true ↔ _
    simp only [Bool.and_eq_true, Bool.not_eq_true']
    rw [h.fr]
    show _ ↔ b.res ≤ j ∧ j < b.n ∧ ∀ x, x ∈ b.gave ++ [(f, o)] → _
    simp only [List.mem_append, List.mem_singleton]
    constructor
    · rintro ⟨⟨a1, a2, a3⟩, a4⟩
      exact ⟨a1, a2, fun x hx => by rcases hx with hx | hx; exact a3 x hx; rw [hx]; exact a4⟩
    · rintro ⟨a1, a2, a3⟩
      exact ⟨⟨a1, a2, fun x hx => a3 x (.inl hx)⟩, a3 _ (.inr rfl)⟩
theorem Bud.Ok.nodup {b : Bud} (h : b.Ok) : b.gave.Nodup := by
  refine List.Pairwise.imp (fun {x y} hxy e => ?_) h.apart
  subst e
  have hx : inBlk x x.1 = true := by rw [inBlk_iff]; have := Nat.two_pow_pos x.2; omega
  have := hxy x.1 hx
  rw [hx] at this; cases this
theorem Bud.Ok.two {b : Bud} (h : b.Ok) {x y : Nat × Nat} (hx : x ∈ b.gave) (hy : y ∈ b.gave) (hne : x ≠ y) (j : Nat) (hj : inBlk x j = true) : inBlk y j = false := by
  have key : ∀ l : List (Nat × Nat), l.Pairwise (fun x y => ∀ j, inBlk x j = true → inBlk y j = false) → x ∈ l → y ∈ l → inBlk y j = false := by
    intro l hl
    induction l with
    | nil => intro hx; cases hx
    | cons z r ih =>
      intro hx hy
      rw [List.pairwise_cons] at hl
      rcases List.mem_cons.1 hx with e | hx'
      · rcases List.mem_cons.1 hy with e' | hy'
        · exact absurd (e.trans e'.symm) hne
        · subst e; exact hl.1 y hy' j hj
      · rcases List.mem_cons.1 hy with e' | hy'
        · subst e'
          cases hb : inBlk y j
          · rfl
          · have := hl.1 x hx' j hb
            rw [hj] at this; cases this
        · exact ih hl.2 hx' hy'
  exact key b.gave h.apart hx hy
theorem Bud.Ok.take {b : Bud} (h : b.Ok) {x : Nat × Nat} (hx : x ∈ b.gave) : (b.take x).Ok := by
  have hmem : ∀ y, y ∈ b.gave.erase x ↔ y ≠ x ∧ y ∈ b.gave := fun y => h.nodup.mem_erase_iff
  refine ⟨h.lo, h.hi, h.rs, fun y hy => h.blk y ((hmem y).1 hy).2, h.apart.sublist List.erase_sublist, fun j => ?_⟩
  show (b.F j || inBlk x j) = true ↔ b.res ≤ j ∧ j < b.n ∧ ∀ y, y ∈ b.gave.erase x → _
  rw [Bool.or_eq_true, h.fr]
  obtain ⟨b1, b2, b3, b4⟩ := h.blk x hx
  constructor
  · rintro (⟨a1, a2, a3⟩ | hj)
    · exact ⟨a1, a2, fun y hy => a3 y ((hmem y).1 hy).2⟩
    · have hj' := inBlk_iff.1 hj
      exact ⟨by omega, by omega, fun y hy => h.two hx ((hmem y).1 hy).2 (fun e => ((hmem y).1 hy).1 e.symm) j hj⟩
  · rintro ⟨a1, a2, a3⟩
    cases hj : inBlk x j
    · refine .inl ⟨a1, a2, fun y hy => ?_⟩
      by_cases e : y = x
      · rw [e]; exact hj
      · exact a3 y ((hmem y).2 ⟨e, hy⟩)
    · exact .inr rfl
theorem sel_give {b : Bud} (h : b.Ok) {o : Nat} {x : Nat × Nat} (ho : o ≤ 8) (hs : b.sel o = some x) : (b.give (x.1, o)).Ok ∧ Blk b.F b.n x.1 o := by
  obtain ⟨h1, h2⟩ := sel_blk hs
  exact ⟨h.give ho (h1.b.head h2), h1.b.head h2⟩

/-! Left -/
def cnt (F : Nat → Bool) (n : Nat) : Nat := ((List.range n).filter F).length
theorem cnt_succ (F : Nat → Bool) (n : Nat) : cnt F (n + 1) = cnt F n + (F n).toNat := by
  unfold cnt
  rw [List.range_succ, List.filter_append, List.length_append]
  cases h : F n <;> simp [h]
theorem cnt_le (F : Nat → Bool) (n : Nat) : cnt F n ≤ n := by
  have := List.length_filter_le F (List.range n)
  simpa [cnt] using this
theorem cnt_cut (F : Nat → Bool) (f k : Nat) (hf : ∀ j, f ≤ j → j < f + 2 ^ k → F j = true) : ∀ n, cnt (cutF F (f, k)) n + (min n (f + 2 ^ k) - min n f) = cnt F n
  | 0 => by simp [cnt]
  | n + 1 => by
    rw [cnt_succ, cnt_succ]
    have ih := cnt_cut F f k hf n
    have hp := Nat.two_pow_pos k
    by_cases h1 : f ≤ n ∧ n < f + 2 ^ k
    · have e1 : cutF F (f, k) n = false := by unfold cutF; rw [inBlk_iff.2 h1]; simp
      rw [e1, hf n h1.1 h1.2]
      simp only [Bool.toNat_false, Bool.toNat_true]
      omega
    · have e1 : cutF F (f, k) n = F n := by unfold cutF; rw [inBlk_no.2 h1]; simp
      rw [e1]
      omega
def Bud.left (b : Bud) : Nat := cnt b.F b.n
theorem left_give {b : Bud} {f o : Nat} (hb : Blk b.F b.n f o) : (b.give (f, o)).left + 2 ^ o = b.left := by
  have h := cnt_cut b.F f o hb.fr b.n
  have := hb.le
  have hp := Nat.two_pow_pos o
  show cnt (cutF b.F (f, o)) b.n + 2 ^ o = cnt b.F b.n
  rw [Nat.min_eq_right (by omega), Nat.min_eq_right (by omega)] at h
  omega
theorem left_take {b : Bud} (h : b.Ok) {x : Nat × Nat} (hx : x ∈ b.gave) : (b.take x).left = b.left + 2 ^ x.2 := by
  obtain ⟨b1, b2, b3, b4⟩ := h.blk x hx
  have hfull : ∀ j, x.1 ≤ j → j < x.1 + 2 ^ x.2 → addF b.F x j = true := fun j h1 h2 => by unfold addF; rw [inBlk_iff.2 ⟨h1, h2⟩]; simp
  have hc := cnt_cut (addF b.F x) x.1 x.2 hfull b.n
  have e : cutF (addF b.F x) (x.1, x.2) = b.F := by
    funext j
    unfold cutF addF
    cases hj : inBlk x j
    · simp
    · have : b.F j = false := by
        cases hF : b.F j
        · rfl
        · have := ((h.fr j).1 hF).2.2 x hx
          rw [hj] at this; cases this
      simp [this]
  have hp := Nat.two_pow_pos x.2
  rw [e, Nat.min_eq_right (by omega), Nat.min_eq_right (by omega)] at hc
  show cnt (addF b.F x) b.n = cnt b.F b.n + 2 ^ x.2
  omega

theorem nodup_len : ∀ (n : Nat) (l : List Nat), l.Nodup → (∀ x, x ∈ l → x < n) → l.length ≤ n
  | 0, l, _, h => by
    cases l with
    | nil => exact Nat.le_refl _
    | cons x r => have := h x (by simp); omega
  | n + 1, l, hn, h => by
    have ih := nodup_len n (l.erase n) (hn.erase n) fun x hx => by
      have h1 := hn.mem_erase_iff.1 hx
      have := h x h1.2
      have := h1.1
      omega
    have := List.length_erase (a := n) (l := l)
    rw [this] at ih
    split at ih <;> omega
/-- blocks that lie apart below n are at most n -/
theorem apart_len : ∀ (l : List (Nat × Nat)) (n : Nat), l.Pairwise (fun x y => ∀ j, inBlk x j = true → inBlk y j = false) → (∀ x, x ∈ l → x.1 + 2 ^ x.2 ≤ n) → l.length ≤ n := by
  intro l n hp hb
  have hnd : (l.map Prod.fst).Nodup := by
    rw [List.Nodup, List.pairwise_map]
    refine hp.imp fun {x y} hxy e => ?_
    have h1 := Nat.two_pow_pos x.2
    have h2 := Nat.two_pow_pos y.2
    have := hxy x.1 (inBlk_iff.2 ⟨Nat.le_refl _, by omega⟩)
    rw [inBlk_iff.2 ⟨by omega, by omega⟩] at this
    cases this
  have := nodup_len n _ hnd fun j hj => by
    obtain ⟨x, hx, rfl⟩ := List.mem_map.1 hj
    have := hb x hx
    have := Nat.two_pow_pos x.2
    omega
  simpa using this
theorem Bud.Ok.gave_len {b : Bud} (h : b.Ok) : b.gave.length ≤ 256 :=
  Nat.le_trans (apart_len b.gave b.n h.apart fun x hx => (h.blk x hx).2.2.2) h.hi
end Go.Proofs.YtpfpcmadhbejiaaDoor

/-
  Package tables, in plain numbers: a space as a tree of entries, the words of its tables, what a walk finds there.
-/
namespace Go.Proofs.YtpfpcmadhbejiaaDoor

/-- the node of a level on the way to page q: its upper digits -/
def nd (q l : Nat) : Nat := q / 16 ^ (3 - l)
theorem nd0 {q : Nat} (h : q < 4096) : nd q 0 = 0 := Nat.div_eq_of_lt (by simpa using h)
theorem nd1 (q : Nat) : nd q 1 = q / 256 := rfl
theorem nd2 (q : Nat) : nd q 2 = q / 16 := rfl
theorem nd3 (q : Nat) : nd q 3 = q := by simp [nd]
theorem idx_nat (q k : Nat) (hq : q < 4096) (hk : k < 3) : idxI q k = ((nd q (k + 1) % 16 : Nat) : Int) := by
  have hb : idxB q k = true := decide_eq_true (by omega)
  unfold idxI
  rw [if_pos hb]
  match k, hk with
  | 0, _ => simp [nd1]; omega
  | 1, _ => simp [nd2]
  | 2, _ => simp [nd3]
theorem nd_up (q k : Nat) (hk : k < 3) : nd q (k + 1) / 16 = nd q k := by
  match k, hk with
  | 0, _ => rw [nd1]; unfold nd; simp; omega
  | 1, _ => rw [nd1, nd2]; omega
  | 2, _ => rw [nd2, nd3]
theorem nd_step (q k : Nat) (hk : k < 3) : 16 * nd q k + nd q (k + 1) % 16 = nd q (k + 1) := by
  have := nd_up q k hk
  omega
theorem nd_lt (q k : Nat) (hq : q < 4096) (hk : k ≤ 3) : nd q k < 16 ^ k := by
  match k, hk with
  | 0, _ => rw [nd0 hq]; decide
  | 1, _ => rw [nd1]; omega
  | 2, _ => rw [nd2]; omega
  | 3, _ => rw [nd3]; omega

/-- a space: its root, and the entry of each node in the table above it (levels 1 to 3) -/
structure Sp where
  root : Int
  E : Nat → Nat → En
def Sp.on (s : Sp) (l d : Nat) : Bool := if l = 0 then decide (d = 0) else (s.E l d).v
def Sp.fr (s : Sp) (l d : Nat) : Int := if l = 0 then s.root else (s.E l d).f
theorem Sp.on0 (s : Sp) : s.on 0 0 = true := rfl
theorem Sp.fr0 (s : Sp) (d : Nat) : s.fr 0 d = s.root := rfl
theorem Sp.onS (s : Sp) (l d : Nat) : s.on (l + 1) d = (s.E (l + 1) d).v := by simp [Sp.on]
theorem Sp.frS (s : Sp) (l d : Nat) : s.fr (l + 1) d = (s.E (l + 1) d).f := by simp [Sp.fr]
structure Sp.Ok (s : Sp) (n : Nat) : Prop where
  rlo : 0 ≤ s.root
  rhi : s.root < n
  none : ∀ l d, (s.E l d).v = false → s.E l d = En.zero
  lv : ∀ l d, (s.E l d).v = true → 1 ≤ l ∧ l ≤ 3 ∧ d < 16 ^ l ∧ s.on (l - 1) (d / 16) = true
  tb : ∀ l d, (s.E l d).v = true → l ≤ 2 → (s.E l d).t = true ∧ (s.E l d).r = false
  pg : ∀ d, (s.E 3 d).v = true → (s.E 3 d).t = false
  f : ∀ l d, (s.E l d).v = true → 0 ≤ (s.E l d).f ∧ (s.E l d).f < n
  inj : ∀ l d l' d', l ≤ 2 → l' ≤ 2 → s.on l d = true → s.on l' d' = true → s.fr l d = s.fr l' d' → l = l' ∧ d = d'
/-- no table is there for nothing -/
def Sp.need (s : Sp) : Prop := ∀ l d, 1 ≤ l → l ≤ 2 → s.on l d = true → ∃ p, p < 16 ∧ (s.E (l + 1) (16 * d + p)).v = true
/-- the words of its tables -/
def Sp.In (s : Sp) (m : Mem) : Prop := ∀ l d p, l ≤ 2 → s.on l d = true → p < 16 → m.word (s.fr l d) (p : Nat) = (s.E (l + 1) (16 * d + p)).word
theorem En.zero_ok : En.zero.ok = true := rfl
theorem En.zero_word : En.zero.word = 0 := rfl
theorem Sp.Ok.frb {s : Sp} {n : Nat} (h : s.Ok n) {l d : Nat} (ho : s.on l d = true) : 0 ≤ s.fr l d ∧ s.fr l d < n := by
  cases l with
  | zero => exact ⟨h.rlo, h.rhi⟩
  | succ l => rw [s.onS] at ho; rw [s.frS]; exact h.f _ _ ho
theorem Sp.Ok.eok {s : Sp} {n : Nat} (h : s.Ok n) (hn : n ≤ 256) (l d : Nat) : (s.E l d).ok = true := by
  cases hv : (s.E l d).v
  · rw [h.none l d hv]; rfl
  · have hf := h.f l d hv
    have hl := h.lv l d hv
    by_cases h3 : l = 3
    · subst h3
      have := h.pg d hv
      unfold En.ok rightB
      rw [hv, this]
      simp; omega
    · have := h.tb l d hv (by omega)
      unfold En.ok rightB
      rw [hv, this.1, this.2]
      simp; omega
theorem Sp.Ok.ond {s : Sp} {n : Nat} (h : s.Ok n) {l d : Nat} (hl : l ≤ 3) (ho : s.on l d = true) : d < 16 ^ l := by
  cases l with
  | zero => have : d = 0 := by simpa [Sp.on] using ho
            subst this; decide
  | succ l => rw [s.onS] at ho; exact (h.lv _ _ ho).2.2.1
theorem Sp.In.get {s : Sp} {m : Mem} (h : s.In m) (hk : s.Ok m.n) (hn : m.n ≤ 256) {l d p : Nat} (hl : l ≤ 2) (ho : s.on l d = true) (hp : p < 16) :
    m.slot (s.fr l d) (p : Nat) = true ∧ m.getX (s.fr l d) (p : Nat) = 0 ∧ m.getE (s.fr l d) (p : Nat) = s.E (l + 1) (16 * d + p) := by
  have hs : m.slot (s.fr l d) (p : Nat) = true := by
    rw [Mem.slot_iff]
    have := hk.frb ho
    omega
  have hw := h l d p hl ho hp
  have := of_word _ (hk.eok hn (l + 1) (16 * d + p))
  refine ⟨hs, ?_, ?_⟩
  · unfold Mem.getX; rw [if_pos hs, hw, this.1]; rfl
  · unfold Mem.getE; rw [if_pos hs, hw, this.2]

/-- how many tables lead towards a page -/
def Sp.dep (s : Sp) (q : Nat) : Nat := if (s.E 1 (nd q 1)).v = false then 1 else if (s.E 2 (nd q 2)).v = false then 2 else 3
theorem Sp.dep_on {s : Sp} {q : Nat} (hq : q < 4096) : ∀ k, k < s.dep q → s.on k (nd q k) = true := by
  intro k hk
  match k with
  | 0 => rw [nd0 hq]; rfl
  | 1 =>
    unfold Sp.dep at hk
    rw [s.onS]
    cases hv : (s.E 1 (nd q 1)).v
    · rw [hv] at hk; simp at hk
    · rfl
  | 2 =>
    unfold Sp.dep at hk
    rw [s.onS]
    cases hv : (s.E 2 (nd q 2)).v
    · rw [hv] at hk; split at hk <;> simp at hk
    · rfl
  | k + 3 => unfold Sp.dep at hk; split at hk; omega; split at hk <;> omega
theorem Sp.dep_bd (s : Sp) (q : Nat) : 1 ≤ s.dep q ∧ s.dep q ≤ 3 := by unfold Sp.dep; split; omega; split <;> omega
theorem Sp.dep_off {s : Sp} {n q : Nat} (hk : s.Ok n) : ∀ k, s.dep q ≤ k → k ≤ 2 → s.on k (nd q k) = false := by
  intro k h1 h2
  have hb := s.dep_bd q
  match k, h2 with
  | 0, _ => omega
  | 1, _ =>
    rw [s.onS]
    cases hv : (s.E 1 (nd q 1)).v
    · rfl
    · unfold Sp.dep at h1; rw [hv] at h1; simp at h1; split at h1 <;> omega
  | 2, _ =>
    rw [s.onS]
    cases hv : (s.E 2 (nd q 2)).v
    · rfl
    · have := (hk.lv _ _ hv).2.2.2
      rw [show nd q 2 / 16 = nd q 1 from nd_up q 1 (by omega)] at this
      rw [show (2 : Nat) - 1 = 0 + 1 from rfl, s.onS] at this
      unfold Sp.dep at h1
      rw [this, hv] at h1
      simp at h1
theorem Sp.page_dep {s : Sp} {n q : Nat} (hk : s.Ok n) (hv : (s.E 3 q).v = true) : s.dep q = 3 ∧ q < 4096 := by
  have h3 := hk.lv _ _ hv
  have h2 : (s.E 2 (nd q 2)).v = true := by
    have := h3.2.2.2
    rw [show (3 : Nat) - 1 = 1 + 1 from rfl, s.onS] at this
    exact this
  have h1 : (s.E 1 (nd q 1)).v = true := by
    have := (hk.lv _ _ h2).2.2.2
    rw [show nd q 2 / 16 = nd q 1 from nd_up q 1 (by omega)] at this
    rw [show (2 : Nat) - 1 = 0 + 1 from rfl, s.onS] at this
    exact this
  refine ⟨?_, by simpa using h3.2.2.1⟩
  unfold Sp.dep
  rw [h1, h2]
  simp
/-- what a walk from the root finds -/
theorem Sp.walk {s : Sp} {m : Mem} (h : s.In m) (hk : s.Ok m.n) (hn : m.n ≤ 256) {q : Nat} (hq : q < 4096) :
    m.wN s.root q = s.dep q ∧ m.wX s.root q = (if (s.E 3 q).v = true then 0 else 10) ∧ m.wE s.root q = s.E 3 q ∧ (∀ k, k < s.dep q → m.wF s.root q k = s.fr k (nd q k)) := by
  have hB : m.wB s.root q = true := by
    unfold Mem.wB
    have h1 : m.ex s.root 1 = true := decide_eq_true (by have := hk.rlo; have := hk.rhi; omega)
    have h2 : pageB q = true := decide_eq_true (by omega)
    rw [h1, h2]; rfl
  have key : ∀ k, k < 3 → m.wF s.root q k = s.fr k (nd q k) → s.on k (nd q k) = true → m.getE (m.wF s.root q k) (idxI q k) = s.E (k + 1) (nd q (k + 1)) ∧ m.getX (m.wF s.root q k) (idxI q k) = 0 := by
    intro k hk3 e ho
    have := h.get hk hn (p := nd q (k + 1) % 16) (by omega) ho (Nat.mod_lt _ (by decide))
    rw [nd_step q k hk3] at this
    rw [e, idx_nat q k hq hk3]
    exact ⟨this.2.2, this.2.1⟩
  have hC : ∀ k, k < 3 → m.wF s.root q k = s.fr k (nd q k) → s.on k (nd q k) = true → m.wC s.root q k = if (s.E (k + 1) (nd q (k + 1))).v = true then 0 else 10 := by
    intro k hk3 e ho
    obtain ⟨k1, k2⟩ := key k hk3 e ho
    unfold Mem.wC
    rw [k1, k2]
    unfold codeI
    cases hv : (s.E (k + 1) (nd q (k + 1))).v
    · simp
    · by_cases h2 : k < 2
      · have := (hk.tb _ _ hv (by omega)).1
        simp [this, h2]
      · obtain rfl : k = 2 := by omega
        have := hk.pg _ hv
        simp [this]
  have f0 : m.wF s.root q 0 = s.fr 0 (nd q 0) := rfl
  have o0 : s.on 0 (nd q 0) = true := by rw [nd0 hq]; rfl
  have c0 := hC 0 (by omega) f0 o0
  cases h1 : (s.E 1 (nd q 1)).v
  · have hd : s.dep q = 1 := by unfold Sp.dep; rw [h1]; rfl
    rw [h1] at c0
    have := m.walk_stop s.root q hB 0 (by omega) (by omega) (by rw [c0]; simp)
    have h3 : (s.E 3 q).v = false := by
      cases hv : (s.E 3 q).v
      · rfl
      · have := (Sp.page_dep hk hv).1; omega
    rw [hd, h3, hk.none _ _ h3]
    refine ⟨this.1, by rw [this.2.1, c0], this.2.2, fun k hk => ?_⟩
    obtain rfl : k = 0 := by omega
    exact f0
  · rw [h1] at c0
    have f1 : m.wF s.root q 1 = s.fr 1 (nd q 1) := by rw [Mem.wF, (key 0 (by omega) f0 o0).1, s.frS]
    have o1 : s.on 1 (nd q 1) = true := by rw [s.onS]; exact h1
    have c1 := hC 1 (by omega) f1 o1
    cases h2 : (s.E 2 (nd q 2)).v
    · have hd : s.dep q = 2 := by unfold Sp.dep; rw [h1, h2]; rfl
      rw [h2] at c1
      have := m.walk_stop s.root q hB 1 (by omega) (fun j hj => by obtain rfl : j = 0 := by omega
                                                                   exact c0) (by rw [c1]; simp)
      have h3 : (s.E 3 q).v = false := by
        cases hv : (s.E 3 q).v
        · rfl
        · have := (Sp.page_dep hk hv).1; omega
      rw [hd, h3, hk.none _ _ h3]
      refine ⟨this.1, by rw [this.2.1, c1], this.2.2, fun k hk => ?_⟩
      match k, hk with
      | 0, _ => exact f0
      | 1, _ => exact f1
    · have hd : s.dep q = 3 := by unfold Sp.dep; rw [h1, h2]; rfl
      rw [h2] at c1
      have f2 : m.wF s.root q 2 = s.fr 2 (nd q 2) := by rw [Mem.wF, (key 1 (by omega) f1 o1).1, s.frS]
      have o2 : s.on 2 (nd q 2) = true := by rw [s.onS]; exact h2
      have c2 := hC 2 (by omega) f2 o2
      rw [show (2 : Nat) + 1 = 3 from rfl, nd3] at c2
      have hF : ∀ k, k < s.dep q → m.wF s.root q k = s.fr k (nd q k) := by
        intro k hk
        rw [hd] at hk
        match k, hk with
        | 0, _ => exact f0
        | 1, _ => exact f1
        | 2, _ => exact f2
      cases h3 : (s.E 3 q).v
      · rw [h3] at c2
        have := m.walk_stop s.root q hB 2 (by omega) (fun j hj => by
          match j, hj with
          | 0, _ => exact c0
          | 1, _ => exact c1) (by rw [c2]; simp)
        rw [hk.none _ _ h3]
        exact ⟨by rw [this.1, hd], by rw [this.2.1, c2], this.2.2, hF⟩
      · rw [h3] at c2
        have := m.walk_end s.root q hB (fun j hj => by
          match j, hj with
          | 0, _ => exact c0
          | 1, _ => exact c1
          | 2, _ => exact c2)
        refine ⟨by rw [this.1, hd], this.2.1, ?_, hF⟩
        have k2 := (key 2 (by omega) f2 o2).1
        rw [nd3] at k2
        rw [this.2.2]
        exact k2

/-! one entry set -/
def Sp.set (s : Sp) (l d : Nat) (e : En) : Sp := { s with E := fun l' d' => if l' = l ∧ d' = d then e else s.E l' d' }
theorem Sp.set_same (s : Sp) (l d : Nat) (e : En) : (s.set l d e).E l d = e := by simp [Sp.set]
theorem Sp.set_ne (s : Sp) {l d l' d' : Nat} (e : En) (h : ¬ (l' = l ∧ d' = d)) : (s.set l d e).E l' d' = s.E l' d' := by simp only [Sp.set]; rw [if_neg h]
theorem Sp.set_root (s : Sp) (l d : Nat) (e : En) : (s.set l d e).root = s.root := rfl
theorem Sp.set_on_same (s : Sp) (l d : Nat) (e : En) : (s.set (l + 1) d e).on (l + 1) d = e.v := by rw [Sp.onS, Sp.set_same]
theorem Sp.set_fr_same (s : Sp) (l d : Nat) (e : En) : (s.set (l + 1) d e).fr (l + 1) d = e.f := by rw [Sp.frS, Sp.set_same]
theorem Sp.set_on (s : Sp) {l d l' d' : Nat} (e : En) (h : ¬ (l' = l + 1 ∧ d' = d)) : (s.set (l + 1) d e).on l' d' = s.on l' d' := by
  cases l' with
  | zero => rfl
  | succ l' => rw [Sp.onS, Sp.onS, s.set_ne e h]
theorem Sp.set_fr (s : Sp) {l d l' d' : Nat} (e : En) (h : ¬ (l' = l + 1 ∧ d' = d)) : (s.set (l + 1) d e).fr l' d' = s.fr l' d' := by
  cases l' with
  | zero => rfl
  | succ l' => rw [Sp.frS, Sp.frS, s.set_ne e h]
theorem Mem.word_put (m : Mem) (hk : m.ok) (f p : Int) (e : En) (g q : Int) (hs : m.slot f p = true) (hq : m.slot g q = true) (he : e.ok = true) : (m.put f p e).word g q = if g = f ∧ q = p then e.word else m.word g q := by
  unfold Mem.put Mem.putB
  rw [hs, he]
  simp only [Bool.and_true, if_true]
  exact m.word_wr hk f p g q _ hs hq
/-- the words behind a Put -/
theorem Sp.In.set {s : Sp} {m : Mem} (h : s.In m) (hk : s.Ok m.n) (hm : m.ok) {l d p : Nat} (hl : l ≤ 2) (ho : s.on l d = true) (hp : p < 16) (e : En) (he : e.ok = true)
    (hnew : l + 1 ≤ 2 → e.v = true → 0 ≤ e.f ∧ e.f < m.n ∧ (∀ p' : Nat, p' < 16 → m.word e.f p' = 0 ∧ (s.E (l + 2) (16 * (16 * d + p) + p')).v = false) ∧ e.f ≠ s.fr l d) :
    (s.set (l + 1) (16 * d + p) e).In (m.put (s.fr l d) (p : Nat) e) := by
  have hs : m.slot (s.fr l d) (p : Nat) = true := by rw [Mem.slot_iff]; have := hk.frb ho; omega
  intro l' d' p' hl' ho' hp'
  by_cases hx : l' = l + 1 ∧ d' = 16 * d + p
  · obtain ⟨rfl, rfl⟩ := hx
    rw [Sp.set_on_same] at ho'
    rw [Sp.set_fr_same]
    obtain ⟨n1, n2, n3, n4⟩ := hnew hl' ho'
    rw [m.word_put hm _ _ _ _ _ hs (by rw [Mem.slot_iff]; omega) he, if_neg (fun x => n4 x.1), (n3 p' hp').1, s.set_ne e (by omega), hk.none _ _ (n3 p' hp').2]
    rfl
  · rw [s.set_on e hx] at ho'
    rw [s.set_fr e hx]
    rw [m.word_put hm _ _ _ _ _ hs (by rw [Mem.slot_iff]; have := hk.frb ho'; omega) he]
    by_cases hy : s.fr l' d' = s.fr l d ∧ (p' : Int) = p
    · obtain ⟨rfl, rfl⟩ := hk.inj _ _ _ _ hl' hl ho' ho hy.1
      obtain rfl : p' = p := by omega
      rw [if_pos hy, s.set_same]
    · rw [if_neg hy, h l' d' p' hl' ho' hp', s.set_ne e]
      rintro ⟨a, b⟩
      obtain rfl : l' = l := by omega
      have : d' = d ∧ p' = p := by omega
      exact hy ⟨by rw [this.1], by rw [this.2]⟩
/-- a table more -/
def tbE (c : Int) : En := ⟨true, false, true, c⟩
theorem Sp.Ok.table {s : Sp} {n : Nat} (hk : s.Ok n) {l d p : Nat} (hl : l ≤ 1) (ho : s.on l d = true) (hp : p < 16) (hoff : (s.E (l + 1) (16 * d + p)).v = false) {c : Int} (h0 : 0 ≤ c) (h1 : c < n)
    (hfr : ∀ l' d', l' ≤ 2 → s.on l' d' = true → s.fr l' d' ≠ c) : (s.set (l + 1) (16 * d + p) (tbE c)).Ok n := by
  have hd := hk.ond (by omega) ho
  have hon : ∀ l' d', s.on l' d' = true → (s.set (l + 1) (16 * d + p) (tbE c)).on l' d' = true := by
    intro l' d' h
    by_cases hx : l' = l + 1 ∧ d' = 16 * d + p
    · rw [hx.1, hx.2, Sp.set_on_same]; rfl
    · rw [s.set_on _ hx]; exact h
  refine ⟨hk.rlo, hk.rhi, ?_, ?_, ?_, ?_, ?_, ?_⟩
  · intro l' d' hv
    by_cases hx : l' = l + 1 ∧ d' = 16 * d + p
    · rw [hx.1, hx.2, Sp.set_same] at hv; cases hv
    · rw [s.set_ne _ hx] at hv ⊢; exact hk.none _ _ hv
  · intro l' d' hv
    by_cases hx : l' = l + 1 ∧ d' = 16 * d + p
    · obtain ⟨rfl, rfl⟩ := hx
      refine ⟨by omega, by omega, ?_, ?_⟩
      · rw [Nat.pow_succ]; omega
      · rw [show l + 1 - 1 = l from rfl, show (16 * d + p) / 16 = d from by omega]
        exact hon _ _ ho
    · rw [s.set_ne _ hx] at hv
      obtain ⟨a, b, c', e⟩ := hk.lv _ _ hv
      exact ⟨a, b, c', hon _ _ e⟩
  · intro l' d' hv h2
    by_cases hx : l' = l + 1 ∧ d' = 16 * d + p
    · rw [hx.1, hx.2, Sp.set_same]; exact ⟨rfl, rfl⟩
    · rw [s.set_ne _ hx] at hv ⊢; exact hk.tb _ _ hv h2
  · intro d' hv
    rw [s.set_ne _ (by omega)] at hv ⊢
    exact hk.pg _ hv
  · intro l' d' hv
    by_cases hx : l' = l + 1 ∧ d' = 16 * d + p
    · rw [hx.1, hx.2, Sp.set_same]; exact ⟨h0, h1⟩
    · rw [s.set_ne _ hx] at hv ⊢; exact hk.f _ _ hv
  · intro l1 d1 l2 d2 a1 a2 o1 o2 e
    by_cases hx : l1 = l + 1 ∧ d1 = 16 * d + p
    · by_cases hy : l2 = l + 1 ∧ d2 = 16 * d + p
      · exact ⟨hx.1.trans hy.1.symm, hx.2.trans hy.2.symm⟩
      · exfalso
        rw [s.set_on _ hy] at o2
        rw [s.set_fr _ hy, hx.1, hx.2, Sp.set_fr_same] at e
        exact hfr _ _ a2 o2 e.symm
    · by_cases hy : l2 = l + 1 ∧ d2 = 16 * d + p
      · exfalso
        rw [s.set_on _ hx] at o1
        rw [s.set_fr _ hx, hy.1, hy.2, Sp.set_fr_same] at e
        exact hfr _ _ a1 o1 e
      · rw [s.set_on _ hx] at o1
        rw [s.set_on _ hy] at o2
        rw [s.set_fr _ hx, s.set_fr _ hy] at e
        exact hk.inj _ _ _ _ a1 a2 o1 o2 e
/-- a page -/
theorem Sp.Ok.page {s : Sp} {n : Nat} (hk : s.Ok n) {d p : Nat} (ho : s.on 2 d = true) (hp : p < 16) (e : En) (hv : e.v = true) (ht : e.t = false) (h0 : 0 ≤ e.f) (h1 : e.f < n) :
    (s.set 3 (16 * d + p) e).Ok n := by
  have hd := hk.ond (by omega) ho
  have hon : ∀ l' d', l' ≤ 2 → (s.set 3 (16 * d + p) e).on l' d' = s.on l' d' := fun l' d' h => s.set_on e (by omega)
  refine ⟨hk.rlo, hk.rhi, ?_, ?_, ?_, ?_, ?_, ?_⟩
  · intro l' d' hv'
    by_cases hx : l' = 3 ∧ d' = 16 * d + p
    · rw [hx.1, hx.2, Sp.set_same, hv] at hv'; cases hv'
    · rw [s.set_ne _ hx] at hv' ⊢; exact hk.none _ _ hv'
  · intro l' d' hv'
    by_cases hx : l' = 3 ∧ d' = 16 * d + p
    · obtain ⟨rfl, rfl⟩ := hx
      refine ⟨by omega, by omega, ?_, ?_⟩
      · rw [Nat.pow_succ]; omega
      · rw [hon _ _ (by omega), show (16 * d + p) / 16 = d from by omega]
        exact ho
    · rw [s.set_ne _ hx] at hv'
      obtain ⟨a, b, c', e'⟩ := hk.lv _ _ hv'
      exact ⟨a, b, c', by rw [hon _ _ (by omega)]; exact e'⟩
  · intro l' d' hv' h2
    rw [s.set_ne _ (by omega)] at hv' ⊢
    exact hk.tb _ _ hv' h2
  · intro d' hv'
    by_cases hx : 3 = 3 ∧ d' = 16 * d + p
    · rw [hx.2, Sp.set_same]; exact ht
    · rw [s.set_ne _ hx] at hv' ⊢; exact hk.pg _ hv'
  · intro l' d' hv'
    by_cases hx : l' = 3 ∧ d' = 16 * d + p
    · rw [hx.1, hx.2, Sp.set_same]; exact ⟨h0, h1⟩
    · rw [s.set_ne _ hx] at hv' ⊢; exact hk.f _ _ hv'
  · intro l1 d1 l2 d2 a1 a2 o1 o2 e'
    rw [hon _ _ a1] at o1
    rw [hon _ _ a2] at o2
    rw [s.set_fr _ (by omega), s.set_fr _ (by omega)] at e'
    exact hk.inj _ _ _ _ a1 a2 o1 o2 e'
/-- an entry that goes -/
theorem Sp.Ok.drop {s : Sp} {n : Nat} (hk : s.Ok n) {l d : Nat} (hch : l + 1 ≤ 2 → ∀ p, p < 16 → (s.E (l + 2) (16 * d + p)).v = false) : (s.set (l + 1) d En.zero).Ok n := by
  have hv0 : ∀ l' d', ((s.set (l + 1) d En.zero).E l' d').v = true → ¬ (l' = l + 1 ∧ d' = d) ∧ (s.E l' d').v = true := by
    intro l' d' hv
    by_cases hx : l' = l + 1 ∧ d' = d
    · rw [hx.1, hx.2, Sp.set_same] at hv; cases hv
    · rw [s.set_ne _ hx] at hv; exact ⟨hx, hv⟩
  have hon0 : ∀ l' d', (s.set (l + 1) d En.zero).on l' d' = true → ¬ (l' = l + 1 ∧ d' = d) ∧ s.on l' d' = true := by
    intro l' d' hv
    by_cases hx : l' = l + 1 ∧ d' = d
    · rw [hx.1, hx.2, Sp.set_on_same] at hv; cases hv
    · rw [s.set_on _ hx] at hv; exact ⟨hx, hv⟩
  refine ⟨hk.rlo, hk.rhi, ?_, ?_, ?_, ?_, ?_, ?_⟩
  · intro l' d' hv
    by_cases hx : l' = l + 1 ∧ d' = d
    · rw [hx.1, hx.2, Sp.set_same]
    · rw [s.set_ne _ hx] at hv ⊢; exact hk.none _ _ hv
  · intro l' d' hv
    obtain ⟨hx, hv'⟩ := hv0 _ _ hv
    obtain ⟨a, b, c', e'⟩ := hk.lv _ _ hv'
    refine ⟨a, b, c', ?_⟩
    rw [s.set_on _ ?_]
    · exact e'
    · rintro ⟨h1, h2⟩
      obtain rfl : l' = l + 2 := by omega
      have := hch (by omega) (d' % 16) (Nat.mod_lt _ (by decide))
      rw [show 16 * d + d' % 16 = d' from by omega, hv'] at this
      cases this
  · intro l' d' hv h2
    obtain ⟨hx, hv'⟩ := hv0 _ _ hv
    rw [s.set_ne _ hx]; exact hk.tb _ _ hv' h2
  · intro d' hv
    obtain ⟨hx, hv'⟩ := hv0 _ _ hv
    rw [s.set_ne _ hx]; exact hk.pg _ hv'
  · intro l' d' hv
    obtain ⟨hx, hv'⟩ := hv0 _ _ hv
    rw [s.set_ne _ hx]; exact hk.f _ _ hv'
  · intro l1 d1 l2 d2 a1 a2 o1 o2 e
    obtain ⟨x1, o1'⟩ := hon0 _ _ o1
    obtain ⟨x2, o2'⟩ := hon0 _ _ o2
    rw [s.set_fr _ x1, s.set_fr _ x2] at e
    exact hk.inj _ _ _ _ a1 a2 o1' o2' e
end Go.Proofs.YtpfpcmadhbejiaaDoor

/-
  The document's own allocator: where it lies, and the contracts of its power, free, Blocks, Left.
-/
namespace Go.Proofs.YtpfpcmadhbejiaaDoor
open Go.ChangeShapes Go.WideShapes Go.ChangeAt Go.RowKit

/-- the cells of blocks -/
def bcells (l : List (Nat × Nat)) : List Value := l.flatMap fun x => [.int .i64 (x.1 : Int), .int .i64 (x.2 : Int)]
theorem bcells_app (l l' : List (Nat × Nat)) : bcells (l ++ l') = bcells l ++ bcells l' := List.flatMap_append
theorem bcells_length (l : List (Nat × Nat)) : (bcells l).length = l.length * 2 := by
  induction l with
  | nil => rfl
  | cons x r ih => rw [show x :: r = [x] ++ r from rfl, bcells_app, List.length_append, ih]; simp [bcells]; omega
def fcells (n : Nat) (F : Nat → Bool) : List Value := (List.range n).map fun i => .bool (F i)
theorem fcell {w : World} {FB n : Nat} {F : Nat → Bool} {t : TypeId} (h : w.heap[FB]? = some (.cells (fcells n F).toArray t (0, 0))) (i : Nat) (hi : i < n) : w.cell? ⟨FB, i, none⟩ = some (.bool (F i)) := by
  rw [cell_of_row w FB i _ _ _ h, List.getElem?_toArray]
  simp [fcells, hi]

theorem row_kept {S : Nat → Prop} {w w' : World} {base sz k : Nat} {e : TypeId} {v : Value} {xs : List Value} (h : w.ownsRow base e sz v k xs) (u : Upd S w w') (hg : ∀ j, v.ownBlock = some j → ¬ S j) : w'.ownsRow base e sz v k xs := by
  refine ⟨h.1, ?_⟩
  rcases h.2 with hn | ⟨g, cap, cur, rfl, hb, hgg, rest⟩
  · exact .inl hn
  · exact .inr ⟨g, cap, cur, rfl, hb, u.at hgg (hg g rfl), rest⟩
theorem upd_of_below {B : Nat} {w w' : World} (h : Below B w w') (hB : w.heap.size ≤ B) : Upd (fun _ => False) w w' := ⟨h.os, h.tape, h.output, h.size, fun k hk _ => h.block k (by omega)⟩
/-- two to the power of k, as a number that the walk leaves alone -/
def pw (k : Nat) : Int := ((2 ^ k : Nat) : Int)
theorem pw_succ (k : Nat) : pw (k + 1) = pw k * 2 := by unfold pw; rw [Nat.pow_succ]; omega
theorem pw_bd (k : Nat) (h : k ≤ 8) : 1 ≤ pw k ∧ pw k ≤ 256 := by
  have h1 : 2 ^ k ≤ 2 ^ 8 := pow_mono h
  have h2 := Nat.two_pow_pos k
  unfold pw
  omega
def freeAll (F : Nat → Bool) (n i q : Nat) : Bool := decide (i + q ≤ n) && (List.range q).all fun j => F (i + j)
theorem blkB_free (F : Nat → Bool) (n i k : Nat) : blkB F n i k = (decide (i % 2 ^ k = 0) && freeAll F n i (2 ^ k)) := by
  unfold blkB freeAll
  rw [Bool.and_assoc]
theorem freeAll_no {F : Nat → Bool} {n i q : Nat} (h : ¬ i + q ≤ n) : freeAll F n i q = false := by unfold freeAll; simp [h]
theorem freeAll_hit {F : Nat → Bool} {n i q j : Nat} (h1 : i ≤ j) (h2 : j < i + q) (hF : F j = false) : freeAll F n i q = false := by
  cases hb : freeAll F n i q
  · rfl
  · unfold freeAll at hb
    rw [Bool.and_eq_true, List.all_eq_true] at hb
    have := hb.2 (j - i) (by simp; omega)
    rw [show i + (j - i) = j from by omega, hF] at this
    cases this
theorem freeAll_yes {F : Nat → Bool} {n i q : Nat} (h : i + q ≤ n) (hF : ∀ j, i ≤ j → j < i + q → F j = true) : freeAll F n i q = true := by
  unfold freeAll
  rw [Bool.and_eq_true, List.all_eq_true]
  exact ⟨decide_eq_true h, fun j hj => hF (i + j) (by omega) (by simp at hj; omega)⟩

/-- the greatest order below k of a free block at i, as Blocks looks for it -/
def bestTo (F : Nat → Bool) (n i : Nat) : Nat → Int
  | 0 => -1
  | k + 1 => if blkB F n i k = true then (k : Int) else bestTo F n i k
theorem bestTo_none {F : Nat → Bool} {n i : Nat} (h : F i = false) : ∀ k, bestTo F n i k = -1
  | 0 => rfl
  | k + 1 => by
    rw [bestTo, if_neg, bestTo_none h k]
    intro hb
    have := (blkB_iff.1 hb).fr i (Nat.le_refl _) (by have := Nat.two_pow_pos k; omega)
    rw [h] at this; cases this
theorem bestTo_is {F : Nat → Bool} {n i k : Nat} (h : Blk F n i k) (hk : k ≤ 8) (hu : ∀ l, l ≤ 8 → Blk F n i l → l ≤ k) : ∀ d, k < d → d ≤ 9 → bestTo F n i d = k
  | 0, h1, _ => by omega
  | d + 1, h1, h2 => by
    rw [bestTo]
    by_cases hd : d = k
    · subst hd; rw [if_pos (blkB_iff.2 h)]
    · rw [if_neg, bestTo_is h hk hu d (by omega) (by omega)]
      intro hb
      have := hu d (by omega) (blkB_iff.1 hb)
      omega
theorem bestTo_bd (F : Nat → Bool) (n i : Nat) : ∀ k, -1 ≤ bestTo F n i k ∧ bestTo F n i k < k
  | 0 => by simp [bestTo]
  | k + 1 => by
    have := bestTo_bd F n i k
    rw [bestTo]
    split <;> omega

theorem mxTo_len (F : Nat → Bool) (n : Nat) : ∀ m, (mxTo F n m).length ≤ m
  | 0 => by simp [mxTo]
  | m + 1 => by
    rw [mxTo_succ, List.length_append]
    have := mxTo_len F n m
    by_cases h : ∃ k, Mx F n m k
    · obtain ⟨k, hk⟩ := h
      rw [mxAt_one hk]; simp; omega
    · rw [mxAt_none fun k hk => h ⟨k, hk⟩]; simp; omega
theorem slice2 {w : World} {base : Nat} {e : TypeId} {v : Value} {k : Nat} {xs : List Value} (h : w.ownsRow base e 2 v k xs) : ∃ o cap, v = .slice o k cap := by
  rcases h.2 with ⟨rfl, rfl⟩ | ⟨g, cap, cur, rfl, _⟩
  · exact ⟨none, 0, rfl⟩
  · exact ⟨_, _, rfl⟩
theorem cell_two (w : World) (x y : Value) (t : TypeId) : ∀ j u, [x, y][j]? = some u → (w.alloc (.cells #[x, y] t)).cell? ((⟨w.heap.size, 0, none⟩ : Addr).add j) = some u := by
  intro j u hj
  have hadd : (⟨w.heap.size, 0, none⟩ : Addr).add j = ⟨w.heap.size, j, none⟩ := by unfold Addr.add; split <;> simp_all
  rw [hadd, cell_of_row _ _ j _ _ _ (heap_alloc_last w (.cells #[x, y] t))]
  simpa using hj

end Go.Proofs.YtpfpcmadhbejiaaDoor

/-
  The document's own allocator: New, and marks that are set.
-/
namespace Go.Proofs.YtpfpcmadhbejiaaDoor
open Go.ChangeShapes Go.WideShapes Go.ChangeAt Go.RowKit

def updF (F : Nat → Bool) (i : Nat) (v : Bool) : Nat → Bool := fun j => if j = i then v else F j
theorem fcells_set (n : Nat) (F : Nat → Bool) (i : Nat) (v : Bool) : (fcells n F).set i (.bool v) = fcells n (updF F i v) := by
  apply List.ext_getElem
  · simp [fcells]
  · intro j h1 h2
    simp only [fcells, List.getElem_set, List.getElem_map, List.getElem_range, updF]
    by_cases e : i = j
    · subst e; simp
    · rw [if_neg e, if_neg (fun e' => e e'.symm)]
theorem fcells_congr {n : Nat} {F G : Nat → Bool} (h : ∀ j, j < n → F j = G j) : fcells n F = fcells n G := by
  unfold fcells
  exact List.map_congr_left fun j hj => by rw [h j (List.mem_range.1 hj)]
theorem fcells_none (n : Nat) (F : Nat → Bool) (h : ∀ j, j < n → F j = false) : fcells n F = List.replicate n (.bool false) := by
  apply List.ext_getElem
  · simp [fcells]
  · intro j h1 h2
    simp [fcells] at h1 ⊢
    exact h j h1
/-- from a to b -/
def betw (a b : Nat) : Nat → Bool := fun j => decide (a ≤ j) && decide (j < b)
theorem betw_step (n a i : Nat) (h : a ≤ i) : fcells n (updF (betw a i) i true) = fcells n (betw a (i + 1)) := fcells_congr fun j _ => by
  unfold updF betw
  by_cases e : j = i
  · rw [if_pos e]; simp; omega
  · rw [if_neg e]
    by_cases h1 : a ≤ j
    · by_cases h2 : j < i
      · simp [h1, h2]; omega
      · simp [h1, h2]; omega
    · simp [h1]

theorem info_bool : (Tryd.prog.info? 4).map (fun i => (i.zero, i.size, i.bytes)) = some (some (.bool false), 1, 1) := by kernel_rfl

end Go.Proofs.YtpfpcmadhbejiaaDoor

/-
  The document's own allocator: Alloc.
-/
namespace Go.Proofs.YtpfpcmadhbejiaaDoor
open Go.ChangeShapes Go.WideShapes Go.ChangeAt Go.RowKit

theorem bcells_get (l : List (Nat × Nat)) : ∀ i, i < l.length → (bcells l)[i * 2]? = some (.int .i64 ((l.getD i (0, 0)).1 : Int)) ∧ (bcells l)[i * 2 + 1]? = some (.int .i64 ((l.getD i (0, 0)).2 : Int)) := by
  induction l with
  | nil => intro i hi; simp at hi
  | cons x r ih =>
    intro i hi
    rw [show x :: r = [x] ++ r from rfl, bcells_app]
    have e : bcells [x] = [.int .i64 (x.1 : Int), .int .i64 (x.2 : Int)] := rfl
    rw [e]
    cases i with
    | zero => exact ⟨rfl, rfl⟩
    | succ i =>
      have := ih i (by simpa using hi)
      rw [show (i + 1) * 2 = i * 2 + 2 from by omega]
      exact ⟨by simpa using this.1, by simpa using this.2⟩
theorem bcells_one (l : List (Nat × Nat)) : ∀ u ∈ bcells l, u.oneCell' = true := by
  intro u hu
  simp only [bcells, List.mem_flatMap] at hu
  obtain ⟨x, _, hx⟩ := hu
  simp at hx
  rcases hx with rfl | rfl <;> rfl
/-- a slice of blocks that can be read -/
def BRow (w : World) (v : Value) (l : List (Nat × Nat)) : Prop := ∃ o cap, v = .slice o l.length cap ∧ ∀ i, i < l.length → ∃ g, o = some ⟨g, 0, none⟩ ∧ w.cell? ⟨g, i * 2, none⟩ = some (.int .i64 ((l.getD i (0, 0)).1 : Int)) ∧ w.cell? ⟨g, i * 2 + 1, none⟩ = some (.int .i64 ((l.getD i (0, 0)).2 : Int))
theorem brow_of {w : World} {base : Nat} {e : TypeId} {v : Value} {l : List (Nat × Nat)} (h : w.ownsRow base e 2 v l.length (bcells l)) : BRow w v l := by
  rcases h.2 with ⟨rfl, h0⟩ | ⟨g, cap, cur, rfl, hb, hg, _⟩
  · exact ⟨none, 0, by rw [h0], fun i hi => by omega⟩
  · refine ⟨_, cap, rfl, fun i hi => ⟨g, rfl, ?_, ?_⟩⟩
    · have := h.cells (g := g) rfl (i * 2) _ (bcells_get l i hi).1
      rwa [add_mid0, Nat.zero_add] at this
    · have := h.cells (g := g) rfl (i * 2 + 1) _ (bcells_get l i hi).2
      rwa [add_mid0, Nat.zero_add] at this
theorem BRow.drewN {w : World} {v : Value} {l : List (Nat × Nat)} (h : BRow w v l) (n : Nat) : BRow (w.drewN n) v l := h

/-- where the scan stands: bi the best one's place, or -1 -/
def Best (o : Nat) (L : List (Nat × Nat)) (i : Nat) (bi : Int) : Prop := (bi = -1 ∧ pick o (L.take i) = none) ∨ ∃ j : Nat, bi = j ∧ j < i ∧ pick o (L.take i) = some (L.getD j (0, 0))
theorem take_snoc (L : List (Nat × Nat)) (i : Nat) (h : i < L.length) : L.take (i + 1) = L.take i ++ [L.getD i (0, 0)] := by
  rw [List.take_add_one, List.getElem?_eq_getElem h]
  simp [List.getElem?_eq_getElem h]
theorem Best.low {o : Nat} {L : List (Nat × Nat)} {i : Nat} {bi : Int} (h : Best o L i bi) (hi : i < L.length) (hx : ¬ o ≤ (L.getD i (0, 0)).2) : Best o L (i + 1) bi := by
  unfold Best
  rw [take_snoc L i hi, pick_snoc]
  rcases h with ⟨h1, h2⟩ | ⟨j, h1, h2, h3⟩
  · left; rw [h2]; unfold better; exact ⟨h1, if_neg hx⟩
  · right; refine ⟨j, h1, by omega, ?_⟩; rw [h3]; unfold better; simp only [hx, false_and, if_false]
theorem Best.first {o : Nat} {L : List (Nat × Nat)} {i : Nat} (h : Best o L i (-1)) (hi : i < L.length) (hx : o ≤ (L.getD i (0, 0)).2) : Best o L (i + 1) i := by
  unfold Best
  rw [take_snoc L i hi, pick_snoc]
  rcases h with ⟨h1, h2⟩ | ⟨j, h1, h2, h3⟩
  · right; refine ⟨i, rfl, by omega, ?_⟩; rw [h2]; unfold better; simp only [hx, if_true]
  · omega
theorem Best.more {o : Nat} {L : List (Nat × Nat)} {i j : Nat} (h : Best o L i j) (hi : i < L.length) (hx : o ≤ (L.getD i (0, 0)).2) (hl : (L.getD i (0, 0)).2 < (L.getD j (0, 0)).2) : Best o L (i + 1) i := by
  unfold Best
  rw [take_snoc L i hi, pick_snoc]
  rcases h with ⟨h1, h2⟩ | ⟨j', h1, h2, h3⟩
  · omega
  · right; refine ⟨i, rfl, by omega, ?_⟩
    rw [h3, show j' = j from by omega]; unfold better; simp only [hx, hl, and_self, if_true]
theorem Best.stay {o : Nat} {L : List (Nat × Nat)} {i j : Nat} (h : Best o L i j) (hi : i < L.length) (hl : ¬ (L.getD i (0, 0)).2 < (L.getD j (0, 0)).2) : Best o L (i + 1) j := by
  unfold Best
  rw [take_snoc L i hi, pick_snoc]
  rcases h with ⟨h1, h2⟩ | ⟨j', h1, h2, h3⟩
  · omega
  · right; refine ⟨j, rfl, by omega, ?_⟩
    rw [h3, show j' = j from by omega]; unfold better; simp only [hl, and_false, if_false]
theorem src_new (w : World) (x y : Value) (t : TypeId) : Src (w.alloc (.cells #[x, y] t)) (.slice (some ⟨w.heap.size, 0, none⟩) 1 1) 1 2 [x, y] :=
  .inr ⟨w.heap.size, 0, 1, rfl, rfl, fun j u hu => by have := cell_two w x y t j u hu; rwa [add_mid0] at this⟩
/-- a new slice out of an empty one: nothing that was there has turned -/
theorem gave_upd {wr w4 w5 : World} {e t : TypeId} {c : Array Value} {og4 : Option Addr} {n4 cap4 : Nat} {sz n base : Nat} {v : Value} {xs : List Value} (_ : wr.ownsRow base e sz v n xs)
    (g4 : (wr.alloc (.cells #[] e)).grownBy w4 (Value.slice (some ⟨wr.heap.size, 0, none⟩) 0 0).ownBlock) (g5 : (w4.alloc (.cells c t)).grownBy w5 (Value.slice og4 n4 cap4).ownBlock) (h4 : ∀ k, (Value.slice og4 n4 cap4).ownBlock = some k → wr.heap.size ≤ k) :
    Upd (fun _ => False) wr w5 := by
  refine ⟨by rw [g5.os]; exact g4.os, by rw [g5.tape]; exact g4.tape, by rw [g5.output]; exact g4.output, ?_, fun k hk _ => ?_⟩
  · have a := g4.size
    have b := g5.size
    simp at a b
    omega
  · have a := g4.size
    simp at a
    rw [g5.block k (by simp; omega) (fun e' => by have := h4 k e'.symm; omega), Below.heap_alloc _ _ _ (by omega), g4.block k (by simp; omega) (fun e' => by simp [Value.ownBlock] at e'; omega), Below.heap_alloc _ _ _ hk]
theorem row_base {w : World} {base base' sz k : Nat} {e : TypeId} {v : Value} {xs : List Value} (h : w.ownsRow base e sz v k xs) (hb : base' ≤ base) : w.ownsRow base' e sz v k xs := by
  refine ⟨h.1, ?_⟩
  rcases h.2 with hn | ⟨g, cap, cur, rfl, h1, rest⟩
  · exact .inl hn
  · exact .inr ⟨g, cap, cur, rfl, by omega, rest⟩
/-- taken from f up to i -/
def cutTo (F : Nat → Bool) (f i : Nat) : Nat → Bool := fun j => F j && !(decide (f ≤ j) && decide (j < i))
theorem cutTo_start (F : Nat → Bool) (f : Nat) : cutTo F f f = F := by
  funext j
  unfold cutTo
  rw [show (decide (f ≤ j) && decide (j < f)) = false from by simp]
  simp
theorem cutTo_step (n : Nat) (F : Nat → Bool) (f i : Nat) (h : f ≤ i) : fcells n (updF (cutTo F f i) i false) = fcells n (cutTo F f (i + 1)) := fcells_congr fun j _ => by
  unfold updF cutTo
  by_cases e : j = i
  · rw [if_pos e, e]; simp [h]
  · rw [if_neg e]
    by_cases h2 : j < i
    · simp [h2, Nat.lt_succ_of_lt h2]
    · simp [h2, show ¬ j < i + 1 from by omega]
theorem ty_ne {w : World} {base sz k : Nat} {e t : TypeId} {v : Value} {xs : List Value} {X : Nat} {c : Array Value} (h : w.ownsRow base e sz v k xs) (hX : w.heap[X]? = some (.cells c t (0, 0))) (ht : t ≠ e) : ∀ j, v.ownBlock = some j → ¬ j = X := by
  intro j hj e'
  rcases h.2 with ⟨rfl, _⟩ | ⟨g, cap, cur, rfl, _, hgg, _⟩
  · simp [Value.ownBlock] at hj
  · simp [Value.ownBlock] at hj
    subst hj e'
    rw [hX] at hgg
    simp at hgg
    exact ht hgg.2
end Go.Proofs.YtpfpcmadhbejiaaDoor

/-
  Package buddy: where an allocator lies; its map of given blocks as a plain list.
-/
namespace Go.Proofs.YtpfpcmadhbejiaaDoor
open Go.ChangeShapes Go.WideShapes Go.ChangeAt Go.RowKit Go.Maps

/-- a frame as a key of the map -/
def kf (f : Nat) : Lit := .int .i64 f
theorem kf_inj {f g : Nat} (h : kf f = kf g) : f = g := by unfold kf at h; injection h with _ h; omega
theorem isKey (f : Nat) : WideAt.IsKeyLit (kf f) := trivial
theorem kf_same (f g : Nat) : (kf f).sameKey (kf g) = decide (f = g) := by
  by_cases h : f = g
  · subst h; rw [decide_eq_true rfl]; exact WideAt.sameKey_self trivial
  · rw [decide_eq_false h]; exact sameKey_ne fun e => h (kf_inj e)
/-- the map holds just the given blocks: by the frame the order -/
structure MapOf (D : DataW Unit) (g : List (Nat × Nat)) : Prop where
  get : ∀ x, x ∈ g → ∀ z, D.atKey (kf x.1) z = .lit (.int .i64 (x.2 : Int))
  has : ∀ kl, Maps.has D kl = true → ∃ x, x ∈ g ∧ kl = kf x.1
  sz : Maps.size D = g.length
theorem MapOf.mem {D : DataW Unit} {g : List (Nat × Nat)} (h : MapOf D g) {x : Nat × Nat} (hx : x ∈ g) : Maps.has D (kf x.1) = true := has_true_of_atKey (h.get x hx)
theorem MapOf.no {D : DataW Unit} {g : List (Nat × Nat)} (h : MapOf D g) {kl : Lit} (hx : ∀ x, x ∈ g → kl ≠ kf x.1) : Maps.has D kl = false := by
  cases hb : Maps.has D kl
  · rfl
  · obtain ⟨x, hx', e⟩ := h.has kl hb
    exact absurd e (hx x hx')
theorem mapOf_nil : MapOf (.map []) [] := ⟨fun x hx => absurd hx (List.not_mem_nil), fun kl h => by exact absurd h (by simp [has_eq]), rfl⟩
theorem MapOf.put {D : DataW Unit} {g : List (Nat × Nat)} (h : MapOf D g) (hD : Tidy D) (f o : Nat) (hf : ∀ x, x ∈ g → x.1 ≠ f) : MapOf (D.put (kf f) (.lit (.int .i64 (o : Int)))) (g ++ [(f, o)]) := by
  have hno : Maps.has D (kf f) = false := h.no fun x hx e => hf x hx (kf_inj e).symm
  refine ⟨fun x hx z => ?_, fun kl hk => ?_, ?_⟩
  · rcases List.mem_append.1 hx with hx | hx
    · rw [atKey_put_other fun e => hf x hx (kf_inj e)]; exact h.get x hx z
    · simp at hx; subst hx; exact atKey_put_same hD.isMap (isKey f) _ _
  · by_cases e : kl = kf f
    · exact ⟨(f, o), by simp, e⟩
    · rw [has_put_other e] at hk
      obtain ⟨x, hx, e2⟩ := h.has kl hk
      exact ⟨x, by simp [hx], e2⟩
  · rw [size_put hD, hno, h.sz]; simp
theorem MapOf.del {D : DataW Unit} {g : List (Nat × Nat)} (h : MapOf D g) (hD : Tidy D) {x : Nat × Nat} (hx : x ∈ g) (hn : g.Nodup) (hk : ∀ y, y ∈ g → y.1 = x.1 → y = x) : MapOf (D.del (kf x.1)) (g.erase x) := by
  refine ⟨fun y hy z => ?_, fun kl hkl => ?_, ?_⟩
  · obtain ⟨h1, h2⟩ := hn.mem_erase_iff.1 hy
    rw [atKey_del_other fun e => h1 (hk y h2 (kf_inj e))]; exact h.get y h2 z
  · by_cases e : kl = kf x.1
    · subst e; rw [has_del_same] at hkl; cases hkl
    · rw [has_del_other e] at hkl
      obtain ⟨y, hy, e2⟩ := h.has kl hkl
      exact ⟨y, hn.mem_erase_iff.2 ⟨fun e3 => e (by rw [e2, e3]), hy⟩, e2⟩
  · have := size_del (k := kf x.1) hD
    rw [h.mem hx, h.sz] at this
    rw [List.length_erase_of_mem hx]
    simp at this
    omega
theorem Bud.Ok.key {b : Bud} (h : b.Ok) {x y : Nat × Nat} (hx : x ∈ b.gave) (hy : y ∈ b.gave) (e : x.1 = y.1) : x = y := by
  refine Decidable.byContradiction fun hne => ?_
  have p1 := Nat.two_pow_pos x.2
  have p2 := Nat.two_pow_pos y.2
  have := h.two hx hy hne x.1 (inBlk_iff.2 ⟨Nat.le_refl _, by omega⟩)
  rw [inBlk_iff.2 ⟨by omega, by omega⟩] at this
  cases this

theorem keyLaw : Keyed Tryd.prog 3 := int_keyed Tryd.underlying3
/-- an allocator lies at A: over the memory at MA, its map at GB -/
structure BudAt (w : World) (A MA GB : Nat) (b : Bud) : Prop where
  head : w.heap[A]? = some (.cells #[.pointer (some ⟨MA, 0, none⟩), .int .i64 b.res, .map (some GB)] 83 (0, 0))
  mp : ∃ D : DataW Unit, w.ownsMap Tryd.prog 3 (plainElem Tryd.prog 3) GB 256 D ∧ MapOf D b.gave
  ok : b.Ok
theorem BudAt.c0 {w : World} {A MA GB : Nat} {b : Bud} (h : BudAt w A MA GB b) : w.cell? ⟨A, 0, none⟩ = some (.pointer (some ⟨MA, 0, none⟩)) := by rw [cell_of_row w A 0 _ _ _ h.head]; rfl
theorem BudAt.c1 {w : World} {A MA GB : Nat} {b : Bud} (h : BudAt w A MA GB b) : w.cell? ⟨A, 1, none⟩ = some (.int .i64 b.res) := by rw [cell_of_row w A 1 _ _ _ h.head]; rfl
theorem BudAt.c2 {w : World} {A MA GB : Nat} {b : Bud} (h : BudAt w A MA GB b) : w.cell? ⟨A, 2, none⟩ = some (.map (some GB)) := by rw [cell_of_row w A 2 _ _ _ h.head]; rfl
theorem BudAt.lts {w : World} {A MA GB : Nat} {b : Bud} (h : BudAt w A MA GB b) : A < w.heap.size ∧ GB < w.heap.size := by
  obtain ⟨D, h1, _⟩ := h.mp
  exact ⟨lt_of_heap h.head, h1.lt⟩
theorem BudAt.ne {w : World} {A MA GB : Nat} {b : Bud} (h : BudAt w A MA GB b) : A ≠ GB := by
  obtain ⟨D, ⟨es, c, hb, _⟩, _⟩ := h.mp
  intro e
  have := h.head
  rw [e, hb] at this
  cases this
theorem map_kept {S : Nat → Prop} {w w' : World} {k : TypeId} {R : Value → Option (DataW Unit × List MemPlace)} {b n : Nat} {D : DataW Unit} (h : w.ownsMap Tryd.prog k R b n D) (u : Upd S w w') (hb : ¬ S b) : w'.ownsMap Tryd.prog k R b n D := by
  obtain ⟨es, clock, hx, F, hs, hD⟩ := h
  exact ⟨es, clock, u.at hx hb, F, hs, hD⟩
theorem map_tight {w : World} {k : TypeId} {R : Value → Option (DataW Unit × List MemPlace)} {b n : Nat} {D : DataW Unit} (h : w.ownsMap Tryd.prog k R b n D) (m : Nat) (hm : Maps.size D ≤ m) : w.ownsMap Tryd.prog k R b m D := by
  obtain ⟨es, clock, hx, F, hs, rfl⟩ := h
  refine ⟨es, clock, hx, F, ?_, rfl⟩
  rw [size_eq, length_sorted, List.length_map, Array.length_toList] at hm
  exact hm
theorem BudAt.kept {S : Nat → Prop} {w w' : World} {A MA GB : Nat} {b : Bud} (h : BudAt w A MA GB b) (u : Upd S w w') (h1 : ¬ S A) (h2 : ¬ S GB) : BudAt w' A MA GB b := by
  obtain ⟨D, h3, h4⟩ := h.mp
  exact ⟨u.at h.head h1, ⟨D, map_kept h3 u h2, h4⟩, h.ok⟩
theorem BudAt.below {w w' : World} {A MA GB : Nat} {b : Bud} (h : BudAt w A MA GB b) (u : Below w.heap.size w w') : BudAt w' A MA GB b := h.kept (Upd.of_below (S := fun _ => False) u) (fun h => h) (fun h => h)
theorem upd_grown {a c : World} {j : Nat} (h : a.grownBy c (some j)) : Upd (· = j) a c := ⟨h.os, h.tape, h.output, h.size, fun k hk hs => h.block k hk fun e => hs (by injection e)⟩
theorem upd_grown0 {S : Nat → Prop} {a c : World} (h : a.grownBy c none) : Upd S a c := ⟨h.os, h.tape, h.output, h.size, fun k hk _ => h.block k hk (by simp)⟩

theorem shl_pw (k : Nat) (hk : k ≤ 8) : IntKind.i64.wrap (1 * 2 ^ min ((k : Int)).toNat IntKind.i64.bits) = pw k := by
  unfold pw
  match k, hk with
  | 0, _ | 1, _ | 2, _ | 3, _ | 4, _ | 5, _ | 6, _ | 7, _ | 8, _ => rfl
/-- 1 << k -/
theorem wpList_shl1 {P : Program} {ops : Array Oper} {rest : List Oper} {op : Oper} {a : Act} {w : World} {Q : Exit → Act → World → Prop} (hgd : op.guard = none) (t u : TypeId) (x y : Operand) (ho : op.op = .binOp .shl t x y u)
    (hx : a.eval x = .int .i64 1) (k : Nat) (hk : k ≤ 8) (hy : a.eval y = .int .i64 k) (h : wpList P ops Q rest (a.put op.dst (.int .i64 (pw k))) w) : wpList P ops Q (op :: rest) a w := by
  refine wpList_plain hgd fun K hK => ?_
  unfold Oper.wp execOp
  simp only [ho, hx, hy, eqGuard_shl, binOp_shl, shift_shl_any _ _ _ _ (Int.natCast_nonneg k), Sem.run_bind, Sem.run_pure, Result.andThen_ok, shl_pw k hk]
  exact hK _ _ h
end Go.Proofs.YtpfpcmadhbejiaaDoor

/-
  Package buddy: New and Left.
-/
namespace Go.Proofs.YtpfpcmadhbejiaaDoor
open Go.ChangeShapes Go.WideShapes Go.ChangeAt Go.RowKit Go.Maps

set_option maxHeartbeats 400000 in
theorem bNew_nil (r : Int) (w : World) :
    Calls Tryd.prog 24 #[.pointer none, .int .i64 r] w fun e w' => e = .returned (.tuple #[.pointer none, .int .i64 1]) ∧ w = w' := by
  go_enter Tryd.func24, Tryd.ntmps24
  go_wp2
  go_ret2
  exact ⟨rfl, rfl⟩
set_option maxHeartbeats 400000 in
theorem bNew_no (MA : Nat) (m : Mem) (r : Int) (w : World) (h : MemAt w MA m) (hr : r < 0 ∨ (m.n : Int) < r) :
    Calls Tryd.prog 24 #[.pointer (some ⟨MA, 0, none⟩), .int .i64 r] w fun e w' => e = .returned (.tuple #[.pointer none, .int .i64 1]) ∧ w = w' := by
  by_cases h0 : r < 0
  · clear hr
    go_enter Tryd.func24, Tryd.ntmps24
    go_wp2
    go_ret2
    exact ⟨rfl, rfl⟩
  · have h1 : (m.n : Int) < r := by omega
    clear hr
    go_enter Tryd.func24, Tryd.ntmps24
    go_wp2_with fail
    refine (frames_any MA m _ h).mono ?_
    rintro e w' ⟨rfl, rfl⟩
    go_wp2
    go_ret2
    exact ⟨rfl, rfl⟩
set_option maxHeartbeats 400000 in
theorem bNew_yes (MA : Nat) (m : Mem) (r : Nat) (w : World) (h : MemAt w MA m) (hr : r ≤ m.n) :
    Calls Tryd.prog 24 #[.pointer (some ⟨MA, 0, none⟩), .int .i64 r] w fun e w' => e = .returned (.tuple #[.pointer (some ⟨w.heap.size + 1, 0, none⟩), .int .i64 0]) ∧ BudAt w' (w.heap.size + 1) MA w.heap.size (bud0 m.n r) ∧ Upd (fun _ => False) w w' ∧ w'.heap.size = w.heap.size + 2 := by
  have hmk := run_makeMap (P := Tryd.prog) 81 w
  go_enter Tryd.func24, Tryd.ntmps24
  go_wp2_with fail
  refine (frames_any MA m _ h).mono ?_
  rintro e w' ⟨rfl, rfl⟩
  go_wp2
  go_ret2
  have hm0 : (w.alloc (.map #[] 0)).ownsMap Tryd.prog 3 (plainElem (H := Unit) Tryd.prog 3) w.heap.size 0 (.map []) := World.ownsMap_made w _ _ _
  refine ⟨rfl, ⟨?_, ⟨_, (hm0.alloc _).mono (by omega), mapOf_nil⟩, bud0_ok h.lo h.hi hr⟩, ((Upd.refl _ _).alloc _).alloc _, by simp⟩
  have := heap_alloc_last (w.alloc (.map #[] 0)) (.cells #[.pointer (some ⟨MA, 0, none⟩), .int .i64 r, .map (some w.heap.size)] 83)
  rw [show (w.alloc (.map #[] 0)).heap.size = w.heap.size + 1 from by simp] at this
  exact this

theorem left_sum {b : Bud} (h : b.Ok) : b.left + (b.gave.map fun x => 2 ^ x.2).sum = b.n - b.res := by
  obtain ⟨L, hL⟩ : ∃ L, b.gave.length = L := ⟨_, rfl⟩
  induction L generalizing b with
  | zero =>
    have hg : b.gave = [] := List.length_eq_zero_iff.1 hL
    have key : ∀ n, n ≤ b.n → cnt b.F n = n - b.res := by
      intro n
      induction n with
      | zero => intro _; simp [cnt]
      | succ n ih =>
        intro hn
        rw [cnt_succ, ih (by omega)]
        by_cases h1 : b.res ≤ n
        · rw [(h.fr n).2 ⟨h1, by omega, fun x hx => by rw [hg] at hx; cases hx⟩]
          simp; omega
        · have : b.F n = false := by
            cases hF : b.F n
            · rfl
            · have := ((h.fr n).1 hF).1; omega
          rw [this]; simp; omega
    rw [hg]
    have := key b.n (Nat.le_refl _)
    simp [Bud.left, this]
  | succ L ih =>
    cases hg : b.gave with
    | nil => rw [hg] at hL; cases hL
    | cons x r =>
      have hx : x ∈ b.gave := by rw [hg]; simp
      have e : (b.take x).gave = r := by show b.gave.erase x = r; rw [hg]; simp
      have h1 := ih (h.take hx) (by rw [e]; rw [hg] at hL; simpa using hL)
      rw [left_take h hx, e] at h1
      have h2 : (b.take x).n = b.n ∧ (b.take x).res = b.res := ⟨rfl, rfl⟩
      rw [h2.1, h2.2] at h1
      simp only [List.map_cons, List.sum_cons]
      omega
/-- how many frames the blocks have that the loop has met -/
def metSum (g : List (Nat × Nat)) (left : Lit → Bool) : Nat := (g.map fun x => cond (left (kf x.1)) 0 (2 ^ x.2)).sum
theorem metSum_none {g : List (Nat × Nat)} {left : Lit → Bool} (h : ∀ x, x ∈ g → left (kf x.1) = true) : metSum g left = 0 := by
  unfold metSum
  induction g with
  | nil => rfl
  | cons x r ih => rw [List.map_cons, List.sum_cons, h x (by simp), ih fun y hy => h y (by simp [hy])]; simp
theorem metSum_all {g : List (Nat × Nat)} {left : Lit → Bool} (h : ∀ kl, left kl = false) : metSum g left = (g.map fun x => 2 ^ x.2).sum := by
  unfold metSum
  simp [h]
theorem metSum_step {g : List (Nat × Nat)} (left : Lit → Bool) {x : Nat × Nat} (hn : g.Nodup) (hk : ∀ y, y ∈ g → y.1 = x.1 → y = x) (hx : x ∈ g) (hl : left (kf x.1) = true) : metSum g (fun z => left z && !z.sameKey (kf x.1)) = metSum g left + 2 ^ x.2 := by
  have other : ∀ y, y ≠ x → (∀ z, z ∈ g → z.1 = x.1 → z = x) → y ∈ g → (left (kf y.1) && !(kf y.1).sameKey (kf x.1)) = left (kf y.1) := by
    intro y hy hk hyg
    rw [kf_same, decide_eq_false fun e => hy (hk y hyg e)]
    simp
  unfold metSum
  induction g with
  | nil => cases hx
  | cons y r ih =>
    rw [List.nodup_cons] at hn
    simp only [List.map_cons, List.sum_cons]
    rcases List.mem_cons.1 hx with e | hx'
    · subst e
      have e1 : (left (kf x.1) && !(kf x.1).sameKey (kf x.1)) = false := by rw [kf_same]; simp
      rw [e1, hl]
      have e2 : (r.map fun y => cond (left (kf y.1) && !(kf y.1).sameKey (kf x.1)) 0 (2 ^ y.2)) = r.map fun y => cond (left (kf y.1)) 0 (2 ^ y.2) := by
        refine List.map_congr_left fun z hz => ?_
        rw [other z (fun e => hn.1 (e ▸ hz)) hk (by simp [hz])]
      rw [e2]; simp; omega
    · have hne : y ≠ x := fun e => hn.1 (e ▸ hx')
      rw [other y hne hk (by simp), ih hn.2 (fun z hz => hk z (by simp [hz])) hx' (fun z hz hk' hzg => other z hz hk (by simp [hzg]))]
      omega
theorem metSum_le {b : Bud} (h : b.Ok) (left : Lit → Bool) : metSum b.gave left ≤ b.n - b.res := by
  have h1 := left_sum h
  have h2 : ∀ g : List (Nat × Nat), metSum g left ≤ (g.map fun x => 2 ^ x.2).sum := by
    intro g
    unfold metSum
    induction g with
    | nil => simp
    | cons x r ih => simp only [List.map_cons, List.sum_cons]; have := Nat.two_pow_pos x.2; cases left (kf x.1) <;> simp only [cond_true, cond_false] <;> omega
  have := h2 b.gave
  omega
theorem MapOf.entry {D : DataW Unit} {g : List (Nat × Nat)} (h : MapOf D g) {x c : Int} (hat : ∀ zd, D.atKey (.int .i64 x) zd = .lit (.int .i64 c)) : ∃ y, y ∈ g ∧ x = y.1 ∧ c = y.2 := by
  obtain ⟨y, hy, e⟩ := h.has _ (has_true_of_atKey hat)
  have e1 := h.get y hy (.lit (.int .i64 0))
  rw [← e, hat] at e1
  unfold kf at e
  injection e with _ e
  injection e1 with e1
  injection e1 with _ e1
  exact ⟨y, hy, e, e1⟩
set_option maxRecDepth 100000 in
set_option maxHeartbeats 1000000 in
theorem bLeft_any (A MA GB : Nat) (m : Mem) (b : Bud) (w : World) (h : BudAt w A MA GB b) (hm : MemAt w MA m) (hn : m.n = b.n) :
    Calls Tryd.prog 17 #[.pointer (some ⟨A, 0, none⟩)] w fun e w' => e = .returned (.int .i64 b.left) ∧ Upd (fun _ => False) w w' := by
  have hc0 := h.c0
  have hc1 := h.c1
  have hc2 := h.c2
  obtain ⟨D, hD, hM⟩ := h.mp
  have hF := Lib.hid (show ∀ q, Calls Tryd.prog 19 #[.pointer (some ⟨MA, 0, none⟩)] (w.drewN q) fun e w'' => e = .returned (.int .i64 m.n) ∧ ∃ p, w'' = w.drewN p from fun q => still0 (frames_any _ _ _ (hm.kept ((Upd.refl (fun _ => False) _).drewN q) (fun h => h) (fun h => h))))
  rw [hn] at hF
  have h1 := h.ok.rs
  have h2 := h.ok.hi
  have hok := Lib.hid h.ok
  have hGB := hD.lt
  obtain ⟨N, hN⟩ : ∃ N, w.heap.size = N := ⟨_, rfl⟩
  go_enter Tryd.func17, Tryd.ntmps17
  go_wp2
  go_quiet ((go_at_call 19; exact hF.out _))
  have hD2 : ∀ q, (w.drewN q).ownsMap Tryd.prog 3 (plainElem Tryd.prog 3) GB 256 D := fun q => map_kept hD ((Upd.refl (fun _ => False) w).drewN q) (fun h => h)
  go_wp2_with (first
    | (at_range; refine wpList_range_own _ rfl _ 81 rfl 3 3 keyLaw Tryd.underlying81 _ GB 256 D rfl (hD2 _) ?_; intro w0 hrg0 hg0 hs0)
    | go_in)
  go_frame
  rw [show (w.drewN nq).heap.size = N from hN]
  have hU0 : Upd (fun _ => False) w w0 := (((Upd.refl (fun _ => False) w).drewN _).trans (upd_grown0 hg0))
  have hs0' : w0.heap.size = N + 1 := by rw [hs0, ← hN]; rfl
  have hrg0' : w0.ranges Tryd.prog 3 (plainElem Tryd.prog 3) GB N 256 D (Maps.has D) (Maps.size D) := by rw [← hN]; exact hrg0
  clear hrg0 hg0 hs0 hD2
  go_loopw [3, 5] (fun t _ wr => ∃ (left : Lit → Bool) (cnt : Nat), t = .int .i64 ((b.n - b.res - metSum b.gave left : Nat) : Int) ∧ wr.ranges Tryd.prog 3 (plainElem Tryd.prog 3) GB N 256 D left cnt ∧ Upd (fun _ => False) w wr) (fun _ _ wr => wr.rangeLeft GB N)
  case atStart => exact ⟨_, _, by rw [metSum_none fun x hx => hM.mem hx]; congr 1; omega, hrg0', hU0⟩
  case round =>
    obtain ⟨left, cnt, rfl, hrg, hU⟩ := hrel
    go_wp2_with (first
      | (at_next; refine wpList_next_ranges_ii _ rfl _ rfl 3 3 .i64 .i64 keyLaw Tryd.underlying3 Tryd.underlying3 GB N 256 _ _ _ rfl hrg ?_ ?_)
      | go_in)
    · intro _ hl0
      have hv := Lib.hid (show b.n - b.res - metSum b.gave left = b.left from by rw [metSum_all hl0]; have := left_sum hok.out; omega)
      rw [hv.out]
      go_wp2
      go_ret
      exact ⟨rfl, hU⟩
    · intro x c w1 cnt1 hwx hwc hlx hat hrg1 hlt hg1 hs1 hen
      obtain ⟨y, hy, rfl, rfl⟩ := hM.entry hat
      have hy8 := (hok.out.blk y hy).1
      have hst := Lib.hid (metSum_step left hok.out.nodup (fun z hz e => hok.out.key hz hy e) hy hlx)
      have hle := metSum_le hok.out (fun z => left z && !z.sameKey (kf y.1))
      have hpw := Lib.hid (show pw y.2 = ((2 ^ y.2 : Nat) : Int) from rfl)
      have hbd := pw_bd y.2 hy8
      have hU1 : Upd (fun _ => False) w w1 := ⟨hg1.os.trans hU.os, hg1.tape.trans hU.tape, hg1.output.trans hU.output, Nat.le_trans hU.size hg1.size, fun k hk hs => (hg1.block k (Nat.lt_of_lt_of_le hk hU.size) (by intro e; injection e with e; omega)).trans (hU.block k hk hs)⟩
      have Hrg1 := Lib.hid hrg1
      clear hrg1 hwx hwc hlx hat hg1 hs1
      rw [hst.out] at hle
      have hle' : (b.n - b.res - metSum b.gave left : Nat) ≥ 0 := Nat.zero_le _
      have e1 := Lib.hid (show (((b.n - b.res - metSum b.gave left : Nat) : Int) - pw y.2) = ((b.n - b.res - metSum b.gave (fun z => left z && !z.sameKey (kf y.1)) : Nat) : Int) from by rw [hst.out, hpw.out]; have hp := Nat.two_pow_pos y.2; generalize 2 ^ y.2 = p at hp hle ⊢; omega)
      have hbd2 : b.n - b.res - metSum b.gave left ≤ 256 := by omega
      clear hle hle' hst hpw
      generalize b.n - b.res - metSum b.gave left = S at e1 hbd2 ⊢
      go_wp2_with (first
        | (with_reducible refine wpList_shl1 rfl _ _ _ _ rfl rfl y.2 hy8 rfl ?_)
        | go_in)
      exact ⟨⟨fun z => left z && !z.sameKey (kf y.1), cnt1, by rw [e1.out], Hrg1.out, hU1⟩, by rw [Hrg1.out.left_eq, hrg.left_eq]; exact hlt⟩
end Go.Proofs.YtpfpcmadhbejiaaDoor

/-
  Package buddy: free, which tells of each frame whether it is free.
-/
namespace Go.Proofs.YtpfpcmadhbejiaaDoor
open Go.ChangeShapes Go.WideShapes Go.ChangeAt Go.RowKit Go.Maps

/-! a block that is a row of whatever cells -/
theorem row_range {w : World} {b t : Nat} {C : List Value} (h : w.heap[b]? = some (.cells C.toArray t (0, 0))) : w.rangeAt b 0 C := by
  intro j v hv
  rw [Nat.zero_add, cell_of_row w b j _ _ _ h, List.getElem?_toArray]
  exact hv
theorem row_there {w : World} {b t : Nat} {C : List Value} (h : w.heap[b]? = some (.cells C.toArray t (0, 0))) (n : Nat) (hn : n ≤ C.length) : w.there b 0 n := fun j hj => by
  refine ⟨?_, frozen_block h _⟩
  rw [Nat.zero_add, cell_of_row w b j _ _ _ h, List.getElem?_toArray, List.getElem?_eq_getElem (by omega)]
  rfl
theorem fcells_len (n : Nat) (F : Nat → Bool) : (fcells n F).length = n := by simp [fcells]
theorem fcells_one (n : Nat) (F : Nat → Bool) : (fcells n F).toArray.all (·.oneCell') = true := all_oneCell_toArray fun v hv => by
  simp only [fcells, List.mem_map] at hv
  obtain ⟨i, _, rfl⟩ := hv
  rfl
theorem Upd.trans' {S : Nat → Prop} {a c d : World} {j : Nat} (h : Upd S a c) (k : Upd (· = j) c d) (hj : a.heap.size ≤ j) : Upd S a d :=
  ⟨k.os.trans h.os, k.tape.trans h.tape, k.output.trans h.output, Nat.le_trans h.size k.size, fun i hi hs => (k.block i (Nat.lt_of_lt_of_le hi h.size) (by omega)).trans (h.block i hi hs)⟩
theorem grown_setCell (w : World) (p : Addr) (u : Value) : w.grownBy (w.setCell p u) (some p.block) := ⟨rfl, rfl, rfl, by simp [World.setCell], fun k _ hne => Below.heap_setCell _ _ _ _ fun e => hne (by rw [e])⟩
/-- which frames are free, of the blocks that the loop has met -/
def metF (b : Bud) (left : Lit → Bool) : Nat → Bool := fun j => betw b.res b.n j && b.gave.all fun x => left (kf x.1) || !inBlk x j
theorem metF_start {b : Bud} {left : Lit → Bool} (h : ∀ x, x ∈ b.gave → left (kf x.1) = true) : metF b left = betw b.res b.n := by
  funext j
  unfold metF
  rw [List.all_eq_true.2 fun x hx => by rw [h x hx]; rfl, Bool.and_true]
theorem metF_end {b : Bud} (hb : b.Ok) {left : Lit → Bool} (h : ∀ kl, left kl = false) : metF b left = b.F := by
  funext j
  have e : metF b left j = true ↔ b.F j = true := by
    rw [hb.fr]
    unfold metF betw
    simp only [h, Bool.false_or, Bool.and_eq_true, decide_eq_true_eq, List.all_eq_true, Bool.not_eq_true', and_assoc]
  cases h1 : metF b left j <;> cases h2 : b.F j <;> simp_all
theorem metF_step {b : Bud} (hb : b.Ok) (left : Lit → Bool) {x : Nat × Nat} (hx : x ∈ b.gave) : cutTo (metF b left) x.1 (x.1 + 2 ^ x.2) = metF b (fun z => left z && !z.sameKey (kf x.1)) := by
  funext j
  have e : cutTo (metF b left) x.1 (x.1 + 2 ^ x.2) j = true ↔ metF b (fun z => left z && !z.sameKey (kf x.1)) j = true := by
    show (metF b left j && !inBlk x j) = true ↔ _
    unfold metF
    simp only [Bool.and_eq_true, List.all_eq_true, Bool.or_eq_true, Bool.not_eq_true', kf_same, decide_eq_false_iff_not]
    constructor
    · rintro ⟨⟨a1, a2⟩, a3⟩
      refine ⟨a1, fun y hy => ?_⟩
      by_cases hxy : y.1 = x.1
      · rw [hb.key hy hx hxy]; exact .inr a3
      · rcases a2 y hy with h | h
        · exact .inl ⟨h, hxy⟩
        · exact .inr h
    · rintro ⟨a1, a2⟩
      refine ⟨⟨a1, fun y hy => ?_⟩, ?_⟩
      · rcases a2 y hy with h | h
        · exact .inl h.1
        · exact .inr h
      · rcases a2 x hx with h | h
        · exact absurd rfl h.2
        · exact h
  cases h1 : cutTo (metF b left) x.1 (x.1 + 2 ^ x.2) j <;> cases h2 : metF b (fun z => left z && !z.sameKey (kf x.1)) j <;> simp_all

theorem zero_bools (w : World) : (zeroValue 88).run Tryd.prog w = .ok (.agg (fcells 256 fun _ => false).toArray) w := by kernel_rfl
theorem size_bools : (Tryd.prog.info? 88).map (·.size) = some 256 := by kernel_rfl

set_option maxRecDepth 100000 in
set_option maxHeartbeats 2000000 in
theorem bfree_any (A MA GB : Nat) (m : Mem) (b : Bud) (w : World) (h : BudAt w A MA GB b) (hm : MemAt w MA m) (hn : m.n = b.n) :
    Calls Tryd.prog 42 #[.pointer (some ⟨A, 0, none⟩)] w fun e w' => e = .returned (.agg (fcells 256 b.F).toArray) ∧ Upd (fun _ => False) w w' := by
  obtain ⟨N, hN⟩ : ∃ N, w.heap.size = N := ⟨_, rfl⟩
  have hz := zero_bools
  obtain ⟨Z, hZ⟩ : ∃ Z, (fcells 256 fun _ => false).toArray = Z := ⟨_, rfl⟩
  rw [hZ] at hz
  have HZ := Lib.hid hZ
  clear hZ
  go_enter Tryd.func42, Tryd.ntmps42
  go_upto_region 2 with fail
  obtain ⟨W, hWe⟩ : ∃ W, (w.alloc (.cells Z 88)).alloc (.cells Z 88) = W := ⟨_, rfl⟩
  have hU0 : Upd (fun _ => False) w W := by rw [← hWe]; exact ((Upd.refl _ _).alloc _).alloc _
  have hW0 : W.heap[N]? = some (.cells Z 88 (0, 0)) := by
    rw [← hWe, ← hN, Below.heap_alloc _ _ _ (by simp)]
    exact heap_alloc_last w _
  have hW1 : W.heap[N + 1]? = some (.cells (fcells 256 (betw b.res b.res)).toArray 88 (0, 0)) := by
    have := heap_alloc_last (w.alloc (.cells Z 88)) (.cells Z 88)
    rw [World.size_alloc, hN, hWe] at this
    rw [this, ← HZ.out, fcells_congr (F := betw b.res b.res) (G := fun _ => false) fun j _ => by unfold betw; simp]
  have hWs : W.heap.size = N + 2 := by rw [← hWe, ← hN]; simp
  rw [hWe]
  have hB0 := h.kept hU0 (fun h => h) (fun h => h)
  have hM0 := hm.kept hU0 (fun h => h) (fun h => h)
  have hc0 := hB0.c0
  have hc1 := hB0.c1
  have hb1 := h.ok.rs
  have hb2 := h.ok.hi
  have hl := h.lts
  clear hWe hz
  try rw [hN]
  go_wp2
  go_loopw [4] (fun t wr => ∃ i : Nat, b.res ≤ i ∧ i ≤ b.n ∧ t = .int .i64 i ∧ Hid (wr.heap[N]? = some (.cells Z 88 (0, 0))) ∧ Hid (wr.heap[N + 1]? = some (.cells (fcells 256 (betw b.res i)).toArray 88 (0, 0))) ∧ Upd (fun _ => False) w wr ∧ wr.heap.size = N + 2) (fun t _ => 256 - (intOf t).toNat)
  case atStart => exact ⟨b.res, Nat.le_refl _, hb1, rfl, Lib.hid hW0, Lib.hid hW1, hU0, hWs⟩
  case round =>
    obtain ⟨i, i1, i2, rfl, f0, f1, hU, hs⟩ := hrel
    have hB := h.kept hU (fun h => h) (fun h => h)
    have hM := hm.kept hU (fun h => h) (fun h => h)
    have hc0 := hB.c0
    have hc2 := hB.c2
    by_cases hlt : i < b.n
    · have hci := fcell f1.out i (by omega)
      have hfz := frozen_block f1.out i
      have hset := Lib.hid (show (wr.setCell ⟨N + 1, i, none⟩ (.bool true)).heap[N + 1]? = some (.cells (fcells 256 (betw b.res (i + 1))).toArray 88 (0, 0)) from by rw [heap_setCell_same f1.out i (.bool true), fcells_set, betw_step 256 b.res i i1])
      have hoth := Lib.hid (show (wr.setCell ⟨N + 1, i, none⟩ (.bool true)).heap[N]? = _ from (Below.heap_setCell _ _ _ _ (by simp)).trans f0.out)
      have hU' := hU.setCell (p := ⟨N + 1, i, none⟩) (by right; show w.heap.size ≤ N + 1; omega) (.bool true)
      have hs' := Lib.hid (show (wr.setCell ⟨N + 1, i, none⟩ (.bool true)).heap.size = N + 2 from by simp [World.setCell, hs])
      generalize betw b.res i i = bi at hci
      clear f0 f1 hU hB
      go_wp2_with fail
      refine (frames_any MA m _ hM).mono ?_
      rintro e w' ⟨rfl, rfl⟩
      rw [hn]
      go_wp2
      go_roundw
      case rel => exact ⟨i + 1, by omega, by omega, by go_num, hoth, hset, hU', hs'.out⟩
      case measure => simp [intOf]; omega
    · have e : i = b.n := by omega
      subst e
      obtain ⟨D, hD, hMp⟩ := hB.mp
      have hok := Lib.hid h.ok
      clear hB hlt
      go_wp2_with fail
      refine (frames_any MA m _ hM).mono ?_
      rintro e w' ⟨rfl, rfl⟩
      rw [hn]
      go_wp2_with (first
        | (at_range; refine wpList_range_own _ rfl _ 81 rfl 3 3 keyLaw Tryd.underlying81 _ GB 256 D rfl hD ?_; intro w0 hrg0 hg0 hs0)
        | go_in)
      go_frame
      rw [hs] at hrg0 ⊢
      have V1 : Upd (fun _ => False) w w0 := hU.trans (upd_grown0 hg0)
      have V2 := Lib.hid ((upd_grown0 (S := fun _ => False) hg0).at f0.out (fun h => h))
      have V3 := Lib.hid ((upd_grown0 (S := fun _ => False) hg0).at f1.out (fun h => h))
      have hst := Lib.hid (metF_start (b := b) (left := Maps.has D) fun x hx => hMp.mem hx)
      clear hg0 f0 f1 hU hs hs0 hD hc0 hc2 hM
      go_loopw [5, 6] (fun _ _ wr => ∃ (left : Lit → Bool) (cnt : Nat), Hid (wr.heap[N]? = some (.cells Z 88 (0, 0))) ∧ Hid (wr.heap[N + 1]? = some (.cells (fcells 256 (metF b left)).toArray 88 (0, 0))) ∧ wr.ranges Tryd.prog 3 (plainElem Tryd.prog 3) GB (N + 2) 256 D left cnt ∧ Upd (fun _ => False) w wr) (fun _ _ wr => wr.rangeLeft GB (N + 2))
      case atStart => exact ⟨_, _, V2, by rw [hst.out]; exact V3, hrg0, V1⟩
      case round =>
        obtain ⟨left, cnt, g0, g1, hrg, hU⟩ := hrel
        go_wp2_with (first
          | (at_next; refine wpList_next_ranges_ii _ rfl _ rfl 3 3 .i64 .i64 keyLaw Tryd.underlying3 Tryd.underlying3 GB (N + 2) 256 _ _ _ rfl hrg ?_ ?_)
          | go_in)
        · intro _ hl0
          obtain ⟨L, hL⟩ : ∃ L, fcells 256 b.F = L := ⟨_, rfl⟩
          have HL := Lib.hid (show L.length = 256 from by rw [← hL]; exact fcells_len _ _)
          have R1 := Lib.hid (show wr.rangeAt (N + 1) 0 L from row_range (t := 88) (by rw [← hL, ← metF_end hok.out hl0]; exact g1.out))
          have Z0 := Lib.hid (show wr.heap[N]? = some (.cells (fcells 256 fun _ => false).toArray 88 (0, 0)) from by rw [HZ.out]; exact g0.out)
          have T1 := Lib.hid (row_there Z0.out 256 (by rw [fcells_len]; exact Nat.le_refl _))
          have O1 := Lib.hid (show L.toArray.all (·.oneCell') = true from by rw [← hL]; exact fcells_one _ _)
          have hNN : w.heap.size ≤ N := by omega
          have HL0 := Lib.hid hL
          clear hL g0 g1 hrg hl0 hst V1 V2 V3 hrg0
          go_wp2_with (first
            | (with_reducible refine wpList_load_sz rfl 88 (.tmp 3) rfl (N + 1) 0 rfl L _ R1.out Tryd.underlying88 rfl 256 HL.out size_bools ?_)
            | (with_reducible refine wpList_store_sz rfl 88 (.tmp 2) (.tmp 43) rfl N 0 L.toArray rfl rfl 256 (by simpa using HL.out) T1.out size_bools O1.out _ rfl ?_))
          have hld := heap_setCells_same N 88 L 0 wr _ Z0.out (by rw [fcells_len, HL.out]; exact Nat.le_refl _)
          rw [splice_all _ _ (by rw [fcells_len, HL.out])] at hld
          have hU2 : Upd (fun _ => False) w (wr.setCells N 0 L) := Upd.setCells (by right; exact hNN) _ _ hU
          exact bodyPost_ret (results_cell_row rfl _ _ N _ L.toArray _ _ rfl hld Tryd.underlying88 rfl (by rw [size_bools]; simp [HL.out])) rfl ⟨by rw [HL0.out], hU2⟩
        · intro x c w1 cnt1 hwx hwc hlx hat hrg1 hlt hg1 hs1 hen
          obtain ⟨y, hy, rfl, rfl⟩ := hMp.entry hat
          obtain ⟨y8, yal, yr, yn⟩ := hok.out.blk y hy
          have V4 : Upd (fun _ => False) w w1 := hU.trans' (upd_grown hg1) (by omega)
          have V5 := Lib.hid ((upd_grown hg1).at g0.out (by show ¬ N = N + 2; omega))
          have V6 := Lib.hid ((upd_grown hg1).at g1.out (by show ¬ N + 1 = N + 2; omega))
          have hst2 := Lib.hid (metF_step hok.out left hy)
          have hpw := Lib.hid (show pw y.2 = ((2 ^ y.2 : Nat) : Int) from rfl)
          have hbd := pw_bd y.2 y8
          have hyn : (y.1 : Int) + pw y.2 ≤ 256 := by have := hpw.out; omega
          have Hrg1 := Lib.hid (show w1.ranges Tryd.prog 3 (plainElem Tryd.prog 3) GB (N + 2) 256 D (fun z => left z && !z.sameKey (kf y.1)) cnt1 from hrg1)
          have hcnt : Hid (wr.rangeLeft GB (N + 2) = cnt) := Lib.hid hrg.left_eq
          have hGB := hrg.ne
          have hG2 := h.lts.2
          clear hrg1 hwx hwc hlx hat hg1 hs1 g0 g1 hU hrg hst V1 V2 V3 hrg0 yal yr yn
          go_wp2_with (first
            | (with_reducible refine wpList_shl1 rfl _ _ _ _ rfl rfl y.2 y8 rfl ?_)
            | go_in)
          go_loopw [35, 7] (fun t _ wr => ∃ k : Nat, (k : Int) ≤ pw y.2 ∧ t = .int .i64 k ∧ Hid (wr.heap[N]? = some (.cells Z 88 (0, 0))) ∧ Hid (wr.heap[N + 1]? = some (.cells (fcells 256 (cutTo (metF b left) y.1 (y.1 + k))).toArray 88 (0, 0))) ∧ Hid (wr.ranges Tryd.prog 3 (plainElem Tryd.prog 3) GB (N + 2) 256 D (fun z => left z && !z.sameKey (kf y.1)) cnt1) ∧ Upd (fun _ => False) w wr) (fun t _ _ => 256 - (intOf t).toNat)
          case atStart => exact ⟨0, by omega, rfl, V5, Lib.hid (by have := V6.out; rw [← cutTo_start (metF b left) y.1] at this; exact this), Hrg1, V4⟩
          case round =>
            obtain ⟨k, hk, rfl, k0, k1, hrg, hU⟩ := hrel
            by_cases hkl : (k : Int) < pw y.2
            · have hci := fcell k1.out (y.1 + k) (by omega)
              have hfz := frozen_block k1.out (y.1 + k)
              have hset := Lib.hid (show (wr.setCell ⟨N + 1, y.1 + k, none⟩ (.bool false)).heap[N + 1]? = some (.cells (fcells 256 (cutTo (metF b left) y.1 (y.1 + (k + 1)))).toArray 88 (0, 0)) from by rw [heap_setCell_same k1.out (y.1 + k) (.bool false), fcells_set, cutTo_step 256 _ y.1 (y.1 + k) (by omega)]; rfl)
              have hoth := Lib.hid (show (wr.setCell ⟨N + 1, y.1 + k, none⟩ (.bool false)).heap[N]? = _ from (Below.heap_setCell _ _ _ _ (by simp)).trans k0.out)
              have hrg' := Lib.hid (hrg.out.kept (grown_setCell wr ⟨N + 1, y.1 + k, none⟩ (.bool false)) (by intro e; injection e with e; simp only at e; omega) (by intro e; injection e with e; simp only at e; omega))
              have hU' := hU.setCell (p := ⟨N + 1, y.1 + k, none⟩) (by right; show w.heap.size ≤ N + 1; omega) (.bool false)
              generalize cutTo (metF b left) y.1 (y.1 + k) (y.1 + k) = bi at hci
              clear k0 k1 hrg hU
              go_wp2
              exact ⟨⟨k + 1, by omega, by go_num, hoth, hset, hrg', hU'⟩, by simp [intOf]; omega⟩
            · have e : (k : Int) = pw y.2 := by omega
              have hfin := Lib.hid (show wr.heap[N + 1]? = some (.cells (fcells 256 (metF b fun z => left z && !z.sameKey (kf y.1))).toArray 88 (0, 0)) from by rw [← hst2.out, show 2 ^ y.2 = k from by have := hpw.out; omega]; exact k1.out)
              clear k1 hst2 hpw
              go_wp2
              exact ⟨⟨_, cnt1, k0, hfin, hrg.out, hU⟩, by rw [hrg.out.left_eq, hcnt.out]; exact hlt⟩
end Go.Proofs.YtpfpcmadhbejiaaDoor

/-
  Package buddy: longest, the greatest free block that begins at a frame.
-/
namespace Go.Proofs.YtpfpcmadhbejiaaDoor
open Go.ChangeShapes Go.WideShapes Go.ChangeAt Go.RowKit Go.Maps

/-- what longest tells where the greatest order is bt, or none -/
def lres (i : Nat) (bt : Int) : Value := if bt < 0 then .tuple #[.agg #[.int .i64 0, .int .i64 0], .bool false] else .tuple #[.agg #[.int .i64 i, .int .i64 bt], .bool true]
theorem size_block : (Tryd.prog.info? 91).map (·.size) = some 2 := by kernel_rfl
theorem mul_fit {i k : Nat} (hi : i < 256) (hk : k ≤ 8) (h : i % 2 ^ k = 0) : i + 2 ^ k ≤ 256 := by
  obtain ⟨d, hd⟩ := Nat.le.dest hk
  have e : 256 = 2 ^ k * 2 ^ d := by rw [← Nat.pow_add, hd]
  obtain ⟨c, hc⟩ := Nat.dvd_of_mod_eq_zero h
  have hp := Nat.two_pow_pos k
  rw [hc, e] at hi
  have := Nat.lt_of_mul_lt_mul_left hi
  have h2 : 2 ^ k * (c + 1) ≤ 2 ^ k * 2 ^ d := Nat.mul_le_mul_left _ (by omega)
  rw [hc]
  rw [Nat.mul_succ] at h2
  omega
theorem two_sz (x y : Int) : (#[.int .i64 x, .int .i64 y] : Array Value).size = 2 := rfl
theorem two_one (x y : Int) : (#[.int .i64 x, .int .i64 y] : Array Value).all (·.oneCell') = true := all_oneCell_toArray (cs := [.int .i64 x, .int .i64 y]) fun v hv => by
  simp at hv
  rcases hv with rfl | rfl <;> rfl
theorem two_ls (x y : Int) : (#[.int .i64 x, .int .i64 y] : Array Value).toList = [.int .i64 x, .int .i64 y] := rfl
set_option maxRecDepth 100000 in
set_option maxHeartbeats 2000000 in
theorem blong_any (F : Nat → Bool) (n i : Nat) (w : World) (hi : i < 256) (hn : n ≤ 256) (hF : ∀ j, F j = true → j < n) :
    Calls Tryd.prog 43 #[.agg (fcells 256 F).toArray, .int .i64 i] w fun e w' => e = .returned (lres i (bestTo F n i 9)) ∧ Upd (fun _ => False) w w' := by
  obtain ⟨N, hN⟩ : ∃ N, w.heap.size = N := ⟨_, rfl⟩
  obtain ⟨L, hL⟩ : ∃ L, fcells 256 F = L := ⟨_, rfl⟩
  rw [hL]
  obtain ⟨W, hWe⟩ : ∃ W, (w.alloc (.cells L.toArray 88)).alloc (.cells #[.int .i64 0, .int .i64 0] 91) = W := ⟨_, rfl⟩
  have hU0 : Upd (fun _ => False) w W := by rw [← hWe]; exact ((Upd.refl _ _).alloc _).alloc _
  have hW0 := Lib.hid (show W.heap[N]? = some (.cells (fcells 256 F).toArray 88 (0, 0)) from by
    rw [← hWe, ← hN, Below.heap_alloc _ _ _ (by simp), hL]
    exact heap_alloc_last w _)
  have hW1 := Lib.hid (show W.heap[N + 1]? = some (.cells #[.int .i64 0, .int .i64 0] 91 (0, 0)) from by
    have := heap_alloc_last (w.alloc (.cells L.toArray 88)) (.cells #[.int .i64 0, .int .i64 0] 91)
    rwa [World.size_alloc, hN, hWe] at this)
  clear hL
  go_enter Tryd.func43, Tryd.ntmps43
  go_upto_region 1 with fail
  clear hWe
  go_wp2
  go_step3
  go_wp2
  go_step3
  go_wp2
  go_loopg [6] 9 (fun g t wr => g ≤ 9 ∧ t = .int .i64 ((g : Int) - 1) ∧ wr = W ∧ Hid (bestTo F n i 9 = bestTo F n i g))
  case atStart => exact ⟨Nat.le_refl _, rfl, rfl, Lib.hid rfl⟩
  case round =>
    obtain ⟨hg, rfl, rfl, hbt⟩ := hrel
    cases gk with
    | zero =>
      have hv := Lib.hid (show lres i (bestTo F n i 9) = .tuple #[.agg #[.int .i64 0, .int .i64 0], .bool false] from by rw [hbt.out]; rfl)
      have hT1 := Lib.hid (row_there (C := [.int .i64 0, .int .i64 0]) hW1.out 2 (Nat.le_refl _))
      have hNN : w.heap.size ≤ N + 1 := by omega
      clear hF hbt
      go_wp2_with (first
        | (with_reducible refine wpList_store_sz rfl 91 (.tmp 4) (.tmp 33) rfl (N + 1) 0 #[.int .i64 0, .int .i64 0] rfl rfl 2 (two_sz _ _) hT1.out size_block (two_one _ _) [.int .i64 0, .int .i64 0] (two_ls _ _) ?_))
      have hfin := heap_setCells_same (N + 1) 91 [.int .i64 0, .int .i64 0] 0 wr [.int .i64 0, .int .i64 0] hW1.out (Nat.le_refl _)
      rw [splice_all _ _ rfl] at hfin
      have hU2 : Upd (fun _ => False) w (wr.setCells (N + 1) 0 [.int .i64 0, .int .i64 0]) := Upd.setCells (by right; exact hNN) _ _ hU0
      generalize wr.setCells (N + 1) 0 [.int .i64 0, .int .i64 0] = W2 at hfin hU2 ⊢
      try rw [Exit.noGoto_ret]
      refine bodyPost_ret (v := .tuple #[.agg #[.int .i64 0, .int .i64 0], .bool false]) ?_ rfl ⟨by rw [hv.out], hU2⟩
      have := run_loadVar_mid (P := Tryd.prog) W2 (N + 1) 0 91 [.int .i64 0, .int .i64 0] _ (row_range hfin) Tryd.underlying91 rfl size_block
      simp [results, Tryd.results43, asAddr, this]
    | succ k =>
      have hk8 : k ≤ 8 := by omega
      have hbd := pw_bd k hk8
      have hst := Lib.hid (show bestTo F n i (k + 1) = if (decide (i % 2 ^ k = 0) && freeAll F n i (2 ^ k)) = true then (k : Int) else bestTo F n i k from by rw [bestTo, blkB_free])
      have hmod : (i : Int) % pw k = 0 ↔ i % 2 ^ k = 0 := by
        unfold pw
        rw [← Int.natCast_emod]
        omega
      have hne : ¬ pw k = 0 := by omega
      have hk1 : ((k + 1 : Nat) : Int) - 1 = (k : Int) := by omega
      rw [hk1]
      by_cases hal : i % 2 ^ k = 0
      · have hm := hmod.2 hal
        have hfit := mul_fit hi hk8 hal
        have hpw := Lib.hid (show pw k = ((2 ^ k : Nat) : Int) from rfl)
        have hyes := Lib.hid (show (∀ y, y < 2 ^ k → F (i + y) = true) → bestTo F n i 9 = (k : Int) from fun ha => by
          have hp := Nat.two_pow_pos k
          have hlast := hF _ (ha (2 ^ k - 1) (by omega))
          rw [hbt.out, hst.out, decide_eq_true hal, freeAll_yes (by omega) fun j h1 h2 => by have := ha (j - i) (by omega); rwa [show i + (j - i) = j from by omega] at this]
          rfl)
        have hno := Lib.hid (show ∀ y, y < 2 ^ k → F (i + y) = false → bestTo F n i 9 = bestTo F n i k from fun y hy hf => by
          rw [hbt.out, hst.out, freeAll_hit (j := i + y) (by omega) (by omega) hf, Bool.and_false]
          rfl)
        have hfit2 : (i : Int) + pw k ≤ 256 := by have := hpw.out; omega
        clear hmod hst hbt hal hF hfit
        go_wp2_with (first
          | (with_reducible refine wpList_shl1 rfl _ _ _ _ rfl rfl k hk8 rfl ?_)
          | go_in)
        go_loopg [20] 256 (fun g t wr' => ∃ x : Nat, (x : Int) ≤ pw k ∧ x + g = 256 ∧ t = .int .i64 x ∧ wr' = wr ∧ Hid (∀ y, y < x → F (i + y) = true))
        case atStart => exact ⟨0, by omega, by omega, rfl, rfl, Lib.hid fun y hy => by omega⟩
        case round =>
          obtain ⟨x, hx, hxg, rfl, rfl, hall⟩ := hrel
          by_cases hxl : (x : Int) < pw k
          · have hci := fcell hW0.out (i + x) (by omega)
            cases hFx : F (i + x)
            · have hnx := Lib.hid (hno.out x (by have := hpw.out; omega) hFx)
              rw [hFx] at hci
              clear hyes hno hpw hall hFx
              go_wp2
              go_roundg k
              case measure => omega
              case rel => exact ⟨by omega, by go_num, rfl, hnx⟩
            · rw [hFx] at hci
              have hall' := Lib.hid (show ∀ y, y < x + 1 → F (i + y) = true from fun y hy => by
                rcases Nat.lt_or_ge y x with h1 | h1
                · exact hall.out y h1
                · rw [show y = x from by omega]; exact hFx)
              clear hyes hno hpw hall hFx
              go_wp2
              go_roundg (gk - 1)
              case measure => omega
              case rel => exact ⟨x + 1, by omega, by omega, by go_num, rfl, hall'⟩
          · have e := Lib.hid (hyes.out fun y hy => hall.out y (by have := hpw.out; omega))
            have hv := Lib.hid (show lres i (bestTo F n i 9) = .tuple #[.agg #[.int .i64 i, .int .i64 k], .bool true] from by rw [e.out]; unfold lres; rw [if_neg (by omega)])
            have hT1 := Lib.hid (row_there (C := [.int .i64 0, .int .i64 0]) hW1.out 2 (Nat.le_refl _))
            have hNN : w.heap.size ≤ N + 1 := by omega
            clear hyes hno hpw hall e
            go_wp2_with (first
              | (with_reducible refine wpList_store_sz rfl 91 (.tmp 4) (.tmp 32) rfl (N + 1) 0 #[.int .i64 i, .int .i64 k] rfl rfl 2 (two_sz _ _) hT1.out size_block (two_one _ _) [.int .i64 i, .int .i64 k] (two_ls _ _) ?_))
            have hfin := heap_setCells_same (N + 1) 91 [.int .i64 i, .int .i64 k] 0 wr [.int .i64 0, .int .i64 0] hW1.out (Nat.le_refl _)
            rw [splice_all ([.int .i64 0, .int .i64 0] : List Value) [.int .i64 i, .int .i64 k] rfl] at hfin
            have hU2 : Upd (fun _ => False) w (wr.setCells (N + 1) 0 [.int .i64 i, .int .i64 k]) := Upd.setCells (by right; exact hNN) _ _ hU0
            generalize wr.setCells (N + 1) 0 [.int .i64 i, .int .i64 k] = W2 at hfin hU2 ⊢
            refine bodyPost_ret (v := .tuple #[.agg #[.int .i64 i, .int .i64 k], .bool true]) ?_ rfl ⟨by rw [hv.out], hU2⟩
            have := run_loadVar_mid (P := Tryd.prog) W2 (N + 1) 0 91 [.int .i64 i, .int .i64 k] _ (row_range hfin) Tryd.underlying91 rfl size_block
            simp [results, Tryd.results43, asAddr, this]
      · have hm : ¬ (i : Int) % pw k = 0 := fun h => hal (hmod.1 h)
        have hnx := Lib.hid (show bestTo F n i 9 = bestTo F n i k from by rw [hbt.out, hst.out, decide_eq_false hal]; rfl)
        clear hmod hst hbt hal hF
        go_wp2_with (first
          | (with_reducible refine wpList_shl1 rfl _ _ _ _ rfl rfl k hk8 rfl ?_)
          | go_in)
        go_roundg k
        case measure => omega
        case rel => exact ⟨by omega, by go_num, rfl, hnx⟩
end Go.Proofs.YtpfpcmadhbejiaaDoor

/-
  Package buddy: Blocks.
-/
namespace Go.Proofs.YtpfpcmadhbejiaaDoor
open Go.ChangeShapes Go.WideShapes Go.ChangeAt Go.RowKit Go.Maps

theorem mxTo_over {F : Nat → Bool} {n : Nat} (hF : ∀ j, F j = true → j < n) : ∀ d, mxTo F n (n + d) = mxTo F n n
  | 0 => rfl
  | d + 1 => by
    have : F (n + d) = false := by
      cases h : F (n + d)
      · rfl
      · have := hF _ h; omega
    rw [← Nat.add_assoc, mxTo_skip this, mxTo_over hF d]
theorem Bud.Ok.low {b : Bud} (h : b.Ok) (j : Nat) (hj : b.F j = true) : j < b.n := ((h.fr j).1 hj).2.1
theorem info_block : (Tryd.prog.info? 91).map (fun i => (i.zero, i.size, i.bytes)) = some (some (.agg #[.int .i64 0, .int .i64 0]), 2, 16) := by kernel_rfl
theorem alloc_two (w : World) (x y : Int) (t : TypeId) :
    ((w.alloc (.cells #[.int .i64 0, .int .i64 0] t)).setCells w.heap.size 0 [.int .i64 x, .int .i64 y]).heap[w.heap.size]? = some (.cells #[.int .i64 x, .int .i64 y] t (0, 0)) ∧
    Upd (fun _ => False) w ((w.alloc (.cells #[.int .i64 0, .int .i64 0] t)).setCells w.heap.size 0 [.int .i64 x, .int .i64 y]) ∧ (w.alloc (.cells #[.int .i64 0, .int .i64 0] t)).there w.heap.size 0 2 :=
  alloc_store w .i64 [0, 0] [x, y] t rfl

set_option maxRecDepth 100000 in
set_option maxHeartbeats 2000000 in
theorem bBlocks_any (A MA GB : Nat) (m : Mem) (b : Bud) (w : World) (h : BudAt w A MA GB b) (hm : MemAt w MA m) (hn : m.n = b.n) :
    Calls Tryd.prog 21 #[.pointer (some ⟨A, 0, none⟩)] w fun e w' => ∃ v, e = .returned v ∧ w'.ownsRow w.heap.size 91 2 v (blocks b.F b.n).length (bcells (blocks b.F b.n)) ∧ Upd (fun _ => False) w w' := by
  obtain ⟨i0, hi, hz0, hz1, hz2⟩ := info_parts info_block
  have hb2 := h.ok.hi
  have hz := zero_bools
  obtain ⟨Z, hZ⟩ : ∃ Z, (fcells 256 fun _ => false) = Z := ⟨_, rfl⟩
  rw [hZ] at hz
  have HZ := Lib.hid (show Z.length = 256 from by rw [← hZ]; exact fcells_len _ _)
  clear hZ
  obtain ⟨L, hL⟩ : ∃ L, fcells 256 b.F = L := ⟨_, rfl⟩
  have HL := Lib.hid (show L.length = 256 from by rw [← hL]; exact fcells_len _ _)
  have O1 := Lib.hid (show L.toArray.all (·.oneCell') = true from by rw [← hL]; exact fcells_one _ _)
  have hok := Lib.hid h.ok
  have hfree := Lib.hid (bfree_any A MA GB m b w h hm hn)
  have hlong := Lib.hid (fun i W hi' => blong_any b.F b.n i W hi' h.ok.hi h.ok.low)
  rw [hL] at hfree hlong
  clear hL
  obtain ⟨N, hN⟩ : ∃ N, w.heap.size = N := ⟨_, rfl⟩
  rw [hN]
  go_enter Tryd.func21, Tryd.ntmps21
  go_wp2_with fail
  refine hfree.out.mono ?_
  rintro e w1 ⟨rfl, U1⟩
  clear hfree
  have hal := heap_alloc_last w1 (.cells Z.toArray 88)
  have T1 := Lib.hid (row_there hal 256 (by rw [HZ.out]; exact Nat.le_refl _))
  have hld := heap_setCells_same w1.heap.size 88 L 0 (w1.alloc (.cells Z.toArray 88)) _ hal (by rw [HZ.out, HL.out]; exact Nat.le_refl _)
  rw [splice_all _ _ (by rw [HZ.out, HL.out])] at hld
  have U2 : Upd (fun _ => False) w ((w1.alloc (.cells Z.toArray 88)).setCells w1.heap.size 0 L) := U1.trans (Upd.setCells (by right; exact Nat.le_refl _) _ _ ((Upd.refl _ _).alloc _))
  have U1s := U1.size
  have HLd := Lib.hid hld
  clear hal hld U1
  go_upto_region 3 with ((with_reducible refine wpList_store_sz rfl 88 (.tmp 4) (.tmp 9) rfl w1.heap.size 0 L.toArray rfl rfl 256 (by simpa using HL.out) T1.out size_bools O1.out _ rfl ?_))
  generalize (w1.alloc (.cells Z.toArray 88)).setCells w1.heap.size 0 L = W at HLd U2 ⊢
  generalize w1.heap.size = K at HLd U1s ⊢
  clear T1 hz HZ O1
  go_wp2
  go_loopw [3, 5] (fun v t wr => ∃ i : Nat, i ≤ 256 ∧ t = .int .i64 i ∧ wr.ownsRow N 91 2 v (mxTo b.F b.n i).length (bcells (mxTo b.F b.n i)) ∧ Upd (fun _ => False) w wr ∧ Hid (wr.heap[K]? = some (.cells L.toArray 88 (0, 0))) ∧ Hid (Edge b.F b.n i)) (fun _ t _ => 256 - (intOf t).toNat)
  case atStart => exact ⟨0, by omega, rfl, World.ownsRow_nil _ _ _ _, U2, HLd, Lib.hid (edge_zero _ _)⟩
  case round =>
    obtain ⟨i, hi', rfl, hrow, hU, hK, hE⟩ := hrel
    have hsize := hU.size
    by_cases hlt : i < 256
    · have R1 := Lib.hid (row_range hK.out)
      have hlg := Lib.hid (fun W => hlong.out i W hlt)
      cases hF : b.F i
      · have hv := Lib.hid (show lres i (bestTo b.F b.n i 9) = .tuple #[.agg #[.int .i64 0, .int .i64 0], .bool false] from by rw [bestTo_none hF 9]; rfl)
        have hE' := Lib.hid (edge_skip hF hE.out)
        have hm' := Lib.hid (mxTo_skip (n := b.n) hF)
        go_wp2_with (with_reducible refine wpList_load_sz rfl 88 (.tmp 4) rfl K 0 rfl L _ R1.out Tryd.underlying88 rfl 256 HL.out size_bools ?_)
        refine (hlg.out _).mono ?_
        rintro e w3 ⟨rfl, U3⟩
        rw [hv.out]
        obtain ⟨a1, a2, a3⟩ := alloc_two w3 0 0 91
        have A3 := Lib.hid a3
        have hrow3 := row_kept hrow (U3.trans a2) (fun _ _ h => h)
        have hK3 := Lib.hid ((U3.trans a2).at hK.out (fun h => h))
        have hU3 := hU.trans (U3.trans a2)
        clear a1 a3 a2 U3 hlong hlg R1 hK hU hE hrow hF
        go_upto_region 6 with ((with_reducible refine wpList_store_sz rfl 91 (.tmp 6) (.tmp 16) rfl w3.heap.size 0 #[.int .i64 0, .int .i64 0] rfl rfl 2 (two_sz _ _) A3.out size_block (two_one _ _) [.int .i64 0, .int .i64 0] (two_ls _ _) ?_))
        generalize (w3.alloc (.cells #[.int .i64 0, .int .i64 0] 91)).setCells w3.heap.size 0 [.int .i64 0, .int .i64 0] = W3 at hrow3 hK3 hU3 ⊢
        clear A3
        go_wp2
        exact ⟨⟨i + 1, by omega, by go_num, by rw [hm'.out]; exact hrow3, hU3, hK3, hE'⟩, by simp [intOf]; omega⟩
      · have hin := hok.out.low i hF
        obtain ⟨q, hq, hmax⟩ := edge_mx hE.out hF hin
        have hv := Lib.hid (show lres i (bestTo b.F b.n i 9) = .tuple #[.agg #[.int .i64 i, .int .i64 q], .bool true] from by
          rw [bestTo_is hq.b hq.hi hmax 9 (by have := hq.hi; omega) (by omega)]
          unfold lres
          rw [if_neg (by omega)])
        have hE' := Lib.hid (edge_jump hq hE.out)
        have hm' := Lib.hid (mxTo_jump hq)
        have hql := hq.b.le
        have hq8 := hq.hi
        have hbd := pw_bd q hq8
        have hpw := Lib.hid (show pw q = ((2 ^ q : Nat) : Int) from rfl)
        have hfit : (i : Int) + pw q ≤ 256 := by have := hpw.out; omega
        have hml : (mxTo b.F b.n i).length ≤ i := mxTo_len _ _ _
        obtain ⟨o, cap, rfl⟩ := slice2 hrow
        clear hmax hq
        go_wp2_with (with_reducible refine wpList_load_sz rfl 88 (.tmp 4) rfl K 0 rfl L _ R1.out Tryd.underlying88 rfl 256 HL.out size_bools ?_)
        refine (hlg.out _).mono ?_
        rintro e w3 ⟨rfl, U3⟩
        rw [hv.out]
        have hlo := fun j ej => ((row_kept hrow U3 (fun _ _ h => h)).lt j ej).2
        obtain ⟨a1, a2, a3⟩ := alloc_two w3 i q 91
        have A3 := Lib.hid a3
        have hrow3 := row_kept hrow (U3.trans a2) (fun _ _ h => h)
        have hK3 := Lib.hid ((U3.trans a2).at hK.out (fun h => h))
        have hU3 := hU.trans (U3.trans a2)
        clear a3 a2 U3 hlong hlg R1 hK hU hE hrow hF
        go_upto_region 6 with ((with_reducible refine wpList_store_sz rfl 91 (.tmp 6) (.tmp 16) rfl w3.heap.size 0 #[.int .i64 i, .int .i64 q] rfl rfl 2 (two_sz _ _) A3.out size_block (two_one _ _) [.int .i64 i, .int .i64 q] (two_ls _ _) ?_))
        generalize (w3.alloc (.cells #[.int .i64 0, .int .i64 0] 91)).setCells w3.heap.size 0 [.int .i64 i, .int .i64 q] = W3 at hrow3 hK3 hU3 a1 ⊢
        obtain ⟨b0, b1⟩ := box2 a1
        generalize w3.heap.size = M at a1 b0 b1 hlo ⊢
        clear A3
        have hs3 := hU3.size
        have hNe := ty_ne hrow3 hK3.out (by decide)
        go_upto_region 9 with ((at_builtin; refine wpList_append_own _ rfl _ _ 48 rfl N 91 i0 (.agg #[.int .i64 0, .int .i64 0]) 2 16 Tryd.underlying48 hi hz0 hz1 hz2 rfl (by decide) _ _ _ rfl (hrow3.alloc _) ⟨W3.heap.size, 0, none⟩ 1 1 [.int .i64 i, .int .i64 q] rfl rfl (cell_two _ _ _ _) (by simp [Value.oneCell']) (by simp [maxLen]; omega) (by omega) (by simp; omega) ?_; intro v' w4 hown' hgrow _; obtain ⟨g', cap', rfl⟩ := ownsRow_succ hown'))
        rename_i hnl
        have hgr : (W3.alloc (.cells #[.int .i64 i, .int .i64 q] 91)).grownBy w4 (Value.slice o (mxTo b.F b.n i).length cap).ownBlock := hgrow
        have hM3 := lt_of_heap a1
        have hat : ∀ (k : Nat) (ob : Obj), W3.heap[k]? = some ob → (∀ j, (Value.slice o (mxTo b.F b.n i).length cap).ownBlock = some j → ¬ j = k) → w4.heap[k]? = some ob := fun k ob hk hne => by
          have hlt := lt_of_heap hk
          rw [hgr.block k (by simp; omega) (fun e => hne k e.symm rfl), Below.heap_alloc _ _ _ hlt]
          exact hk
        have a4 := hat M _ a1 (fun j ej => by have := hlo j ej; omega)
        have hK4 := Lib.hid (hat K _ hK3.out hNe)
        have hU4 : Upd (fun _ => False) w w4 := ⟨hgr.os.trans hU3.os, hgr.tape.trans hU3.tape, hgr.output.trans hU3.output, by have := hgr.size; simp at this; omega, fun k hk hs => by
          rw [hgr.block k (by simp; omega) (fun e => by have := (hrow3.lt k e.symm).1; omega), Below.heap_alloc _ _ _ (by omega)]
          exact hU3.block k hk hs⟩
        obtain ⟨b40, b41⟩ := box2 a4
        have hown4 := Lib.hid hown'
        clear hnl hgrow hgr hat hown' hK3 hU3 a1 a4 b0 b1 hrow3 hlo hNe
        go_wp2_with (first
          | (with_reducible refine wpList_shl1 rfl _ _ _ _ rfl rfl q hq8 rfl ?_)
          | go_in)
        have hp2 := Nat.two_pow_pos q
        exact ⟨⟨i + 2 ^ q, by omega, by rw [hpw.out]; congr 1, by rw [hm'.out, bcells_app, List.length_append]; exact hown4.out, hU4, hK4, hE'⟩, by rw [hpw.out]; simp only [intOf]; omega⟩
    · have e : i = 256 := by omega
      subst e
      obtain ⟨o, cap, rfl⟩ := slice2 hrow
      have Hrow := Lib.hid (show wr.ownsRow N 91 2 (.slice o (mxTo b.F b.n 256).length cap) (blocks b.F b.n).length (bcells (blocks b.F b.n)) from by
        have e : mxTo b.F b.n 256 = blocks b.F b.n := by
          have := mxTo_over hok.out.low (256 - b.n)
          rwa [show b.n + (256 - b.n) = 256 from by omega] at this
        rw [e] at hrow ⊢
        exact hrow)
      clear hrow
      go_wp2
      go_ret
      exact ⟨_, rfl, Hrow.out, hU⟩
end Go.Proofs.YtpfpcmadhbejiaaDoor

/-
  Package buddy, in plain numbers: what the laws ask of an allocator's state.
-/
namespace Go.Proofs.YtpfpcmadhbejiaaDoor

theorem mxAt_le (F : Nat → Bool) (n m : Nat) : (mxAt F n m).Pairwise fun x y => x.1 < y.1 := by
  by_cases h : ∃ k, Mx F n m k
  · obtain ⟨k, hk⟩ := h
    rw [mxAt_one hk]; simp
  · rw [mxAt_none fun k hk => h ⟨k, hk⟩]; simp
theorem mxTo_rises (F : Nat → Bool) (n : Nat) : ∀ m, (mxTo F n m).Pairwise fun x y => x.1 < y.1
  | 0 => by simp [mxTo]
  | m + 1 => by
    rw [mxTo_succ, List.pairwise_append]
    refine ⟨mxTo_rises F n m, mxAt_le F n m, fun x hx y hy => ?_⟩
    have h1 := (mem_mxTo.1 hx).1
    have h2 := (mem_mxAt.1 hy).1
    omega
theorem blocks_rises (F : Nat → Bool) (n : Nat) : (blocks F n).Pairwise fun x y => x.1 < y.1 := mxTo_rises F n n
theorem blocks_nodup (F : Nat → Bool) (n : Nat) : (blocks F n).Nodup := (blocks_rises F n).imp fun {x y} h e => by subst e; omega

/-! each frame once -/
def hits (l : List (Nat × Nat)) (j : Nat) : Nat := (l.filter fun x => inBlk x j).length
theorem hits_app (l l' : List (Nat × Nat)) (j : Nat) : hits (l ++ l') j = hits l j + hits l' j := by simp [hits]
theorem hits_none {l : List (Nat × Nat)} {j : Nat} (h : ∀ x, x ∈ l → inBlk x j = false) : hits l j = 0 := by
  unfold hits
  rw [List.filter_eq_nil_iff.2 fun x hx => by rw [h x hx]; decide]
  rfl
theorem hits_one {l : List (Nat × Nat)} {j : Nat} {x : Nat × Nat} (hn : l.Nodup) (hx : x ∈ l) (hj : inBlk x j = true) (hu : ∀ y, y ∈ l → inBlk y j = true → y = x) : hits l j = 1 := by
  unfold hits
  rw [filter_one l _ x hn hx hj hu]
  rfl
theorem blocks_free {b : Bud} (h : b.Ok) {j : Nat} (hF : b.F j = true) : hits (blocks b.F b.n) j = 1 ∧ hits b.gave j = 0 := by
  have hj := (h.fr j).1 hF
  obtain ⟨k, hk⟩ := exists_mx hF hj.2.1
  have h1 := st_le j k
  have h2 := st_lt j k
  refine ⟨hits_one (blocks_nodup _ _) (x := (st j k, k)) (mem_blocks.2 hk) (inBlk_iff.2 ⟨h1, h2⟩) fun y hy hyj => ?_, hits_none hj.2.2⟩
  have hy' := inBlk_iff.1 hyj
  have := (mem_blocks.1 hy).unique hk hy'.1 hy'.2 h1 h2
  exact Prod.ext this.1 this.2
theorem blocks_not {b : Bud} {j : Nat} (hF : b.F j = false) : hits (blocks b.F b.n) j = 0 := hits_none fun x hx => by
  rw [inBlk_no]
  intro hj
  have := (mem_blocks.1 hx).b.fr j hj.1 hj.2
  rw [hF] at this; cases this
theorem each_once {b : Bud} (h : b.Ok) (j : Nat) : hits (blocks b.F b.n ++ b.gave) j = if b.res ≤ j ∧ j < b.n then 1 else 0 := by
  rw [hits_app]
  by_cases hr : b.res ≤ j ∧ j < b.n
  · rw [if_pos hr]
    cases hF : b.F j
    · have hex : ∃ x, x ∈ b.gave ∧ inBlk x j = true := by
        refine Classical.byContradiction fun hno => ?_
        have : b.F j = true := (h.fr j).2 ⟨hr.1, hr.2, fun x hx => by
          cases hb : inBlk x j
          · rfl
          · exact absurd ⟨x, hx, hb⟩ hno⟩
        rw [hF] at this; cases this
      obtain ⟨x, hx, hj⟩ := hex
      rw [blocks_not hF, hits_one h.nodup hx hj fun y hy hyj => by
        refine Classical.byContradiction fun hne => ?_
        have := h.two hx hy (fun e => hne e.symm) j hj
        rw [hyj] at this; cases this]
    · rw [(blocks_free h hF).1, (blocks_free h hF).2]
  · rw [if_neg hr]
    have hF : b.F j = false := by
      cases hF : b.F j
      · rfl
      · have := (h.fr j).1 hF; exact absurd ⟨this.1, this.2.1⟩ hr
    rw [blocks_not hF, hits_none fun x hx => by
      rw [inBlk_no]
      intro hj
      obtain ⟨_, _, h3, h4⟩ := h.blk x hx
      exact hr ⟨by omega, by omega⟩]
/-- what a free block is like -/
theorem blocks_blk {b : Bud} (h : b.Ok) {x : Nat × Nat} (hx : x ∈ blocks b.F b.n) : x.2 ≤ 8 ∧ x.1 % 2 ^ x.2 = 0 ∧ b.res ≤ x.1 ∧ x.1 + 2 ^ x.2 ≤ b.n := by
  have hm := mem_blocks.1 hx
  have hp := Nat.two_pow_pos x.2
  exact ⟨hm.hi, hm.b.al, ((h.fr x.1).1 (hm.b.fr x.1 (Nat.le_refl _) (by omega))).1, hm.b.le⟩

/-! a free block is as great as it can be -/
theorem halves {F : Nat → Bool} {n : Nat} {x y : Nat × Nat} (hx : Mx F n x.1 x.2) (hy : Mx F n y.1 y.2) (hk : x.2 = y.2) (h8 : x.2 < 8) (hp : x.1 / (2 * 2 ^ x.2) = y.1 / (2 * 2 ^ x.2)) (hlt : x.1 < y.1) : False := by
  obtain ⟨a, k⟩ := x
  obtain ⟨c, k'⟩ := y
  simp only at hx hy hk h8 hp hlt
  subst hk
  have hpos := Nat.two_pow_pos k
  have e2 : 2 * 2 ^ k = 2 ^ (k + 1) := by rw [Nat.pow_succ, Nat.mul_comm]
  rw [e2] at hp
  have hs : st a (k + 1) = st c (k + 1) := by unfold st; rw [hp]
  have h1 := st_le a (k + 1)
  have h2 := st_lt c (k + 1)
  have h3 := st_nest a (show k ≤ k + 1 by omega)
  have h4 := st_nest c (show k ≤ k + 1 by omega)
  rw [st_self hx.b.al] at h3
  rw [st_self hy.b.al] at h4
  obtain ⟨qa, ha⟩ := Nat.dvd_of_mod_eq_zero hx.b.al
  obtain ⟨qc, hc⟩ := Nat.dvd_of_mod_eq_zero hy.b.al
  have hge : a + 2 ^ k ≤ c := by
    have : qa < qc := by
      refine Nat.lt_of_not_le fun h => ?_
      have := Nat.mul_le_mul_left (2 ^ k) h
      omega
    have := Nat.mul_le_mul_left (2 ^ k) this
    rw [Nat.mul_succ] at this
    omega
  have e3 : 2 ^ (k + 1) = 2 ^ k + 2 ^ k := by rw [Nat.pow_succ]; omega
  have ea : st a (k + 1) = a := by omega
  have ec : c = a + 2 ^ k := by omega
  refine hx.top h8 ⟨st_mod _ _, by rw [ea, e3]; have := hy.b.le; omega, fun j j1 j2 => ?_⟩
  rw [ea] at j1 j2
  rcases Nat.lt_or_ge j (a + 2 ^ k) with h | h
  · exact hx.b.fr j j1 h
  · exact hy.b.fr j (by omega) (by omega)

/-! as many blocks as fit -/
theorem covers_len : ∀ (N : Nat) (l : List Nat), (∀ q, q < N → q ∈ l) → N ≤ l.length
  | 0, _, _ => Nat.zero_le _
  | N + 1, l, h => by
    have hN := h N (by omega)
    have := covers_len N (l.erase N) fun q hq => (List.mem_erase_of_ne (by omega)).2 (h q (by omega))
    rw [List.length_erase_of_mem hN] at this
    have : 0 < l.length := List.length_pos_of_mem hN
    omega
theorem many_some {b : Bud} (h : b.Ok) (h0 : b.res = 0) {k : Nat} (hk : k ≤ 8) (hall : ∀ x, x ∈ b.gave → x.2 = k) (hlt : b.gave.length < b.n / 2 ^ k) : ∃ x, b.sel k = some x := by
  have hp := Nat.two_pow_pos k
  have hex : ∃ q, q < b.n / 2 ^ k ∧ q ∉ b.gave.map fun x => x.1 / 2 ^ k := by
    refine Classical.byContradiction fun hno => ?_
    have := covers_len (b.n / 2 ^ k) (b.gave.map fun x => x.1 / 2 ^ k) fun q hq => Classical.byContradiction fun hn => hno ⟨q, hq, hn⟩
    rw [List.length_map] at this
    omega
  obtain ⟨q, hq, hno⟩ := hex
  have hle : (q + 1) * 2 ^ k ≤ b.n := Nat.le_trans (Nat.mul_le_mul_right _ hq) (Nat.div_mul_le_self _ _)
  rw [Nat.add_mul, Nat.one_mul] at hle
  have hb : Blk b.F b.n (q * 2 ^ k) k := ⟨Nat.mul_mod_left _ _, hle, fun j j1 j2 => (h.fr j).2 ⟨by omega, by omega, fun x hx => by
    rw [inBlk_no]
    intro hj
    obtain ⟨_, hal, _, _⟩ := h.blk x hx
    rw [hall x hx] at hal hj
    have e1 := st_of hal hj.1 hj.2
    have e2 := st_of (Nat.mul_mod_left q (2 ^ k)) j1 j2
    apply hno
    rw [List.mem_map]
    refine ⟨x, hx, ?_⟩
    rw [← e1, e2]
    exact Nat.mul_div_cancel _ hp⟩⟩
  obtain ⟨l, hl, hm⟩ := hb.in_mx hk
  cases hs : b.sel k with
  | some x => exact ⟨x, rfl⟩
  | none =>
    have := pick_none hs (st (q * 2 ^ k) l, l) (mem_blocks.2 hm)
    simp only at this
    omega
theorem many_none {b : Bud} {k : Nat} (hk : b.left < 2 ^ k) : b.sel k = none := by
  cases hs : b.sel k with
  | none => rfl
  | some x =>
    obtain ⟨h1, h2⟩ := sel_blk hs
    have := left_give (h1.b.head h2)
    omega
end Go.Proofs.YtpfpcmadhbejiaaDoor
