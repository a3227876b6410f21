/-
  Texts that the laws stand on, joined: Kit, TlM, Upd, Arr, App, TlA, TlB, TlC, TlD, Row.
-/
import Derived.BigFrame
import Derived.BigQuiet
import Derived.Deep.CutBlock
import Derived.Deep.MidRow
import Derived.Deep.QuietTactic
import Derived.Deep.RegionHeld3
import Derived.Deep.WholeRow
import Derived.Laws.CopyOwn
import Derived.Laws.OwnMore
import Derived.Laws.ResultCell
import Derived.Laws.StructEq
import Derived.Lib.Hide
import Derived.Maps.AppendAt
import Derived.OpenShut
import Derived.OwnWalk
import Derived.ProofKit
import Derived.RangeFuncBox
import Derived.Shelf.Abstract
import Derived.StillTailTactics
import Derived.Test.YtjkomkcjoooiiaaRows
import Derived.WalkKit

/-
  Small helpers that all of this seat's texts import: the kit's walk and row modules under one name, and quiet calls inside regions that draw.
-/
namespace Go.Proofs.Ytjkomkcjoooiiaa
open Go.RowKit

/-- a call that leaves the world alone, inside a region that draws -/
theorem still0 {P : Program} {f : FuncId} {args : Array Value} {w : World} {n : Nat} {v : Value}
    (h : Calls P f args (w.drewN n) fun e w' => e = .returned v ∧ w.drewN n = w') :
    Calls P f args (w.drewN n) fun e w'' => e = .returned v ∧ ∃ m, w'' = w.drewN m := by
  refine h.mono ?_
  rintro e w' ⟨he, hw⟩
  exact ⟨he, n, hw.symm⟩
/-- the same behind other draws -/
theorem still1 {P : Program} {f : FuncId} {args : Array Value} {w : World} {a n : Nat} {v : Value}
    (h : Calls P f args (w.drewN (a + n)) fun e w' => e = .returned v ∧ w.drewN (a + n) = w') :
    Calls P f args (w.drewN (a + n)) fun e w'' => e = .returned v ∧ ∃ m, w'' = w.drewN (a + m) := by
  refine h.mono ?_
  rintro e w' ⟨he, hw⟩
  exact ⟨he, n, hw.symm⟩
/-- a call that draws, inside a region that draws -/
theorem draws0 {P : Program} {f : FuncId} {args : Array Value} {w : World} {n : Nat} {v : Value}
    (h : Calls P f args (w.drewN n) fun e w' => e = .returned v ∧ ∃ m, w' = (w.drewN n).drewN m) :
    Calls P f args (w.drewN n) fun e w'' => e = .returned v ∧ ∃ m, w'' = w.drewN m := by
  refine h.mono ?_
  rintro e w' ⟨he, m, rfl⟩
  exact ⟨he, n + m, by rw [World.drewN_drewN]⟩
theorem draws1 {P : Program} {f : FuncId} {args : Array Value} {w : World} {a n : Nat} {v : Value}
    (h : Calls P f args (w.drewN (a + n)) fun e w' => e = .returned v ∧ ∃ m, w' = (w.drewN (a + n)).drewN m) :
    Calls P f args (w.drewN (a + n)) fun e w'' => e = .returned v ∧ ∃ m, w'' = w.drewN (a + m) := by
  refine h.mono ?_
  rintro e w' ⟨he, m, rfl⟩
  exact ⟨he, n + m, by rw [World.drewN_drewN, Nat.add_assoc]⟩
theorem below_drewN {B : Nat} {a w : World} (h : Below B a w) (n : Nat) : Below B a (w.drewN n) := ⟨h.os, h.tape, h.output, h.size, h.block⟩
end Go.Proofs.Ytjkomkcjoooiiaa

/-
  Package tlb, in plain numbers: a buffer of eight places, what is found there, Put, Drop, Flush, Lines.
-/
namespace Go.Proofs.Ytjkomkcjoooiiaa

/-- a line -/
structure Ln where
  a : Int
  p : Int
  f : Int
  w : Bool
deriving DecidableEq
/-- a buffer: what lies in each of the eight places -/
abbrev Buf := Nat → Option Ln
def Buf.hit (B : Buf) (a p : Int) (i : Nat) : Bool := match B i with
  | some l => decide (l.a = a) && decide (l.p = p)
  | none => false
/-- the first place of the first k with that line; k if there is none -/
def Buf.first (q : Nat → Bool) : Nat → Nat
  | 0 => 0
  | k + 1 => if Buf.first q k < k then Buf.first q k else if q k then k else k + 1
theorem first_le (q : Nat → Bool) : ∀ k, Buf.first q k ≤ k
  | 0 => Nat.le_refl _
  | k + 1 => by
    have := first_le q k
    rw [Buf.first]
    split
    · omega
    · split <;> omega
theorem first_none {q : Nat → Bool} : ∀ {k : Nat}, Buf.first q k = k → ∀ j, j < k → q j = false
  | 0, _, j, hj => absurd hj (by omega)
  | k + 1, h, j, hj => by
    rw [Buf.first] at h
    by_cases h1 : Buf.first q k < k
    · rw [if_pos h1] at h; omega
    · rw [if_neg h1] at h
      have hk : Buf.first q k = k := by have := first_le q k; omega
      cases hq : q k
      · by_cases e : j = k
        · rw [e]; exact hq
        · exact first_none hk j (by omega)
      · rw [hq] at h; simp at h
theorem first_lt {q : Nat → Bool} : ∀ {k : Nat}, Buf.first q k < k → q (Buf.first q k) = true ∧ ∀ j, j < Buf.first q k → q j = false
  | 0, h => absurd h (by omega)
  | k + 1, h => by
    rw [Buf.first] at h ⊢
    by_cases h1 : Buf.first q k < k
    · rw [if_pos h1]; exact first_lt h1
    · rw [if_neg h1] at h ⊢
      have hk : Buf.first q k = k := by have := first_le q k; omega
      have hall : ∀ j, j < k → q j = false := first_none hk
      cases hq : q k
      · rw [hq] at h; simp at h
      · simp only [if_true]; exact ⟨hq, hall⟩
theorem first_of {q : Nat → Bool} {k i : Nat} (hi : i < k) (hq : q i = true) (hb : ∀ j, j < i → q j = false) : Buf.first q k = i := by
  have hlt : Buf.first q k < k := by
    have := first_le q k
    by_cases e : Buf.first q k = k
    · have := first_none e i hi; rw [hq] at this; cases this
    · omega
  obtain ⟨h1, h2⟩ := first_lt hlt
  by_cases c : i < Buf.first q k
  · have := h2 i c; rw [hq] at this; cases this
  · by_cases c2 : Buf.first q k < i
    · have := hb _ c2; rw [h1] at this; cases this
    · omega
theorem first_all {q : Nat → Bool} {k : Nat} (h : ∀ j, j < k → q j = false) : Buf.first q k = k := by
  have := first_le q k
  by_cases e : Buf.first q k < k
  · have := (first_lt e).1; rw [h _ e] at this; cases this
  · omega
/-- the place of a line; 8 if there is none -/
def Buf.at (B : Buf) (a p : Int) : Nat := Buf.first (B.hit a p) 8
/-- the first empty place; 8 if there is none -/
def Buf.gap (B : Buf) : Nat := Buf.first (fun i => (B i).isNone) 8
def Buf.find (B : Buf) (a p : Int) : Option Ln := if B.at a p < 8 then B (B.at a p) else none
def Buf.set (B : Buf) (i : Nat) (x : Option Ln) : Buf := fun j => if j = i then x else B j
/-- may it be put? -/
def putOk (l : Ln) (at' : Int) : Bool := decide (1 ≤ l.a ∧ l.a ≤ 8 ∧ 0 ≤ l.p ∧ l.p ≤ 4095 ∧ 0 ≤ l.f ∧ l.f ≤ 255 ∧ 0 ≤ at' ∧ at' ≤ 7)
def Buf.place (B : Buf) (l : Ln) (at' : Int) : Nat := if B.at l.a l.p < 8 then B.at l.a l.p else if B.gap < 8 then B.gap else at'.toNat
def Buf.put (B : Buf) (l : Ln) (at' : Int) : Buf := if putOk l at' = true then B.set (B.place l at') (some l) else B
def Buf.drop (B : Buf) (a p : Int) : Buf := if B.at a p < 8 then B.set (B.at a p) none else B
def Buf.flush (B : Buf) (a : Int) : Buf := fun j => match B j with
  | some l => if l.a = a then none else some l
  | none => none
def Buf.linesTo (B : Buf) (k : Nat) : List Ln := (List.range k).filterMap B
def Buf.lines (B : Buf) : List Ln := B.linesTo 8
def Buf.many (B : Buf) (a : Int) (k : Nat) : Nat := ((List.range k).filter fun j => match B j with
  | some l => decide (l.a = a)
  | none => false).length
/-- no two lines of the same; nothing behind the eighth place; all lines right -/
structure Buf.Ok (B : Buf) : Prop where
  one : ∀ i j l l', B i = some l → B j = some l' → l.a = l'.a → l.p = l'.p → i = j
  lt : ∀ i l, B i = some l → i < 8
  r : ∀ i l, B i = some l → 1 ≤ l.a ∧ l.a ≤ 8 ∧ 0 ≤ l.p ∧ l.p ≤ 4095 ∧ 0 ≤ l.f ∧ l.f ≤ 255
theorem Buf.hit_iff {B : Buf} {a p : Int} {i : Nat} : B.hit a p i = true ↔ ∃ l, B i = some l ∧ l.a = a ∧ l.p = p := by
  unfold Buf.hit
  cases h : B i with
  | none => simp
  | some l => simp
theorem Buf.Ok.at_of {B : Buf} (h : B.Ok) {i : Nat} {l : Ln} (hi : B i = some l) : B.at l.a l.p = i := by
  refine first_of (h.lt i l hi) (Buf.hit_iff.2 ⟨l, hi, rfl, rfl⟩) fun j hj => ?_
  cases hh : B.hit l.a l.p j
  · rfl
  · obtain ⟨l', e, e1, e2⟩ := Buf.hit_iff.1 hh
    have := h.one _ _ _ _ e hi e1 e2
    omega
theorem Buf.Ok.find_of {B : Buf} (h : B.Ok) {i : Nat} {l : Ln} (hi : B i = some l) : B.find l.a l.p = some l := by
  unfold Buf.find
  rw [h.at_of hi, if_pos (h.lt i l hi)]
  exact hi
theorem Buf.find_some {B : Buf} {a p : Int} {l : Ln} (h : B.find a p = some l) : ∃ i, i < 8 ∧ B i = some l ∧ l.a = a ∧ l.p = p := by
  unfold Buf.find at h
  split at h
  · rename_i hlt
    obtain ⟨h1, _⟩ := first_lt (q := B.hit a p) hlt
    obtain ⟨l', e, e1, e2⟩ := Buf.hit_iff.1 h1
    have : l' = l := by
      have e3 : B (B.at a p) = some l' := e
      rw [e3] at h
      exact Option.some.inj h
    subst this
    exact ⟨_, hlt, e, e1, e2⟩
  · cases h
theorem Buf.find_none {B : Buf} {a p : Int} (h : B.find a p = none) : ∀ i l, i < 8 → B i = some l → ¬ (l.a = a ∧ l.p = p) := by
  rintro i l hi e ⟨e1, e2⟩
  unfold Buf.find at h
  have hlt : B.at a p < 8 := by
    have := first_le (B.hit a p) 8
    by_cases c : Buf.first (B.hit a p) 8 = 8
    · have := first_none c i hi
      rw [Buf.hit_iff.2 ⟨l, e, e1, e2⟩] at this
      cases this
    · show Buf.first (B.hit a p) 8 < 8
      omega
  rw [if_pos hlt] at h
  obtain ⟨h1, _⟩ := first_lt (q := B.hit a p) hlt
  obtain ⟨l', e', _⟩ := Buf.hit_iff.1 h1
  have e3 : B (B.at a p) = some l' := e'
  rw [e3] at h
  cases h
theorem Buf.at_ge {B : Buf} {a p : Int} (h : ¬ B.at a p < 8) : B.at a p = 8 := by have := first_le (B.hit a p) 8; show Buf.first (B.hit a p) 8 = 8; unfold Buf.at at h; omega
theorem Buf.place_lt {B : Buf} {l : Ln} {at' : Int} (h : putOk l at' = true) : B.place l at' < 8 := by
  have := of_decide_eq_true h
  unfold Buf.place
  split
  · assumption
  · split
    · assumption
    · omega
/-- Put keeps a buffer right -/
theorem Buf.Ok.put {B : Buf} (h : B.Ok) (l : Ln) (at' : Int) : (B.put l at').Ok := by
  unfold Buf.put
  split
  · rename_i hp
    have hpl := Buf.place_lt (B := B) hp
    have hr := of_decide_eq_true hp
    have other : ∀ j l', j ≠ B.place l at' → B j = some l' → ¬ (l'.a = l.a ∧ l'.p = l.p) := by
      rintro j l' hj e ⟨e1, e2⟩
      have hat := h.at_of e
      rw [e1, e2] at hat
      have hlt := h.lt j l' e
      refine hj ?_
      unfold Buf.place
      rw [if_pos (by omega)]
      exact hat.symm
    refine ⟨?_, ?_, ?_⟩
    · intro i j x y hi hj ea ep
      unfold Buf.set at hi hj
      by_cases ci : i = B.place l at'
      · by_cases cj : j = B.place l at'
        · omega
        · rw [if_pos ci] at hi
          rw [if_neg cj] at hj
          obtain rfl := Option.some.inj hi
          exact absurd ⟨ea.symm, ep.symm⟩ (other j y cj hj)
      · rw [if_neg ci] at hi
        by_cases cj : j = B.place l at'
        · rw [if_pos cj] at hj
          obtain rfl := Option.some.inj hj
          exact absurd ⟨ea, ep⟩ (other i x ci hi)
        · rw [if_neg cj] at hj
          exact h.one _ _ _ _ hi hj ea ep
    · intro i x hi
      unfold Buf.set at hi
      by_cases ci : i = B.place l at'
      · omega
      · rw [if_neg ci] at hi; exact h.lt i x hi
    · intro i x hi
      unfold Buf.set at hi
      by_cases ci : i = B.place l at'
      · rw [if_pos ci] at hi
        obtain rfl := Option.some.inj hi
        omega
      · rw [if_neg ci] at hi; exact h.r i x hi
  · exact h
theorem Buf.Ok.set_none {B : Buf} (h : B.Ok) (i : Nat) : (B.set i none).Ok := by
  have hs : ∀ j x, B.set i none j = some x → B j = some x := by
    intro j x hj
    unfold Buf.set at hj
    split at hj
    · cases hj
    · exact hj
  exact ⟨fun a b x y h1 h2 => h.one _ _ _ _ (hs _ _ h1) (hs _ _ h2), fun a x h1 => h.lt _ _ (hs _ _ h1), fun a x h1 => h.r _ _ (hs _ _ h1)⟩
theorem Buf.Ok.drop {B : Buf} (h : B.Ok) (a p : Int) : (B.drop a p).Ok := by
  unfold Buf.drop
  split
  · exact h.set_none _
  · exact h
theorem Buf.flush_some {B : Buf} {a : Int} {j : Nat} {x : Ln} : B.flush a j = some x ↔ B j = some x ∧ x.a ≠ a := by
  unfold Buf.flush
  cases h : B j with
  | none => simp
  | some l =>
    by_cases e : l.a = a
    · simp only [e, if_true]
      constructor
      · intro c; cases c
      · rintro ⟨c, d⟩
        obtain rfl := Option.some.inj c
        exact absurd e d
    · simp only [e, if_false]
      constructor
      · intro c; exact ⟨c, by obtain rfl := Option.some.inj c; exact e⟩
      · exact fun c => c.1
theorem Buf.Ok.flush {B : Buf} (h : B.Ok) (a : Int) : (B.flush a).Ok :=
  ⟨fun _ _ _ _ h1 h2 => h.one _ _ _ _ (Buf.flush_some.1 h1).1 (Buf.flush_some.1 h2).1, fun _ _ h1 => h.lt _ _ (Buf.flush_some.1 h1).1, fun _ _ h1 => h.r _ _ (Buf.flush_some.1 h1).1⟩
def buf0 : Buf := fun _ => none
theorem buf0_ok : buf0.Ok := ⟨fun i j l l' h => (by cases h), fun i l h => (by cases h), fun i l h => (by cases h)⟩
theorem Buf.mem_lines {B : Buf} (h : B.Ok) {l : Ln} : l ∈ B.lines ↔ ∃ i, B i = some l := by
  unfold Buf.lines Buf.linesTo
  rw [List.mem_filterMap]
  constructor
  · rintro ⟨i, _, e⟩; exact ⟨i, e⟩
  · rintro ⟨i, e⟩; exact ⟨i, List.mem_range.2 (h.lt i l e), e⟩
theorem Buf.linesTo_succ (B : Buf) (k : Nat) : B.linesTo (k + 1) = B.linesTo k ++ (B k).toList := by
  unfold Buf.linesTo
  rw [List.range_succ, List.filterMap_append]
  cases h : B k <;> simp [h]
theorem Buf.linesTo_len (B : Buf) : ∀ k, (B.linesTo k).length ≤ k
  | 0 => by simp [Buf.linesTo]
  | k + 1 => by
    have := B.linesTo_len k
    rw [B.linesTo_succ, List.length_append]
    cases h : B k <;> simp <;> omega
end Go.Proofs.Ytjkomkcjoooiiaa

/-
  The frame word of this project's contracts: 'Upd S w w'': behind the call every block that was there and is not in S is as it was.
-/
namespace Go.Proofs.Ytjkomkcjoooiiaa
open Go.RowKit

/-- nothing that was there has turned but the blocks in S -/
structure Upd (S : Nat → Prop) (w w' : World) : Prop where
  os : w'.os = w.os
  tape : w'.tape = w.tape
  output : w'.output = w.output
  size : w.heap.size ≤ w'.heap.size
  block : ∀ k, k < w.heap.size → ¬ S k → w'.heap[k]? = w.heap[k]?

theorem Upd.refl (S : Nat → Prop) (w : World) : Upd S w w := ⟨rfl, rfl, rfl, Nat.le_refl _, fun _ _ _ => rfl⟩
theorem Upd.trans {S : Nat → Prop} {a b c : World} (h : Upd S a b) (k : Upd S b c) : Upd S a c :=
  ⟨k.os.trans h.os, k.tape.trans h.tape, k.output.trans h.output, Nat.le_trans h.size k.size, fun i hi hs => (k.block i (Nat.lt_of_lt_of_le hi h.size) hs).trans (h.block i hi hs)⟩
theorem Upd.mono {S T : Nat → Prop} {a b : World} (h : Upd S a b) (hs : ∀ k, k < a.heap.size → S k → T k) : Upd T a b :=
  ⟨h.os, h.tape, h.output, h.size, fun i hi ht => h.block i hi fun x => ht (hs i hi x)⟩
theorem Upd.drewN {S : Nat → Prop} {a b : World} (h : Upd S a b) (n : Nat) : Upd S a (b.drewN n) := ⟨h.os, h.tape, h.output, h.size, h.block⟩
theorem Upd.drew {S : Nat → Prop} {a b : World} (h : Upd S a b) : Upd S a b.drew := ⟨h.os, h.tape, h.output, h.size, h.block⟩
theorem Upd.alloc {S : Nat → Prop} {a b : World} (h : Upd S a b) (o : Obj) : Upd S a (b.alloc o) :=
  h.trans ⟨rfl, rfl, rfl, by simp, fun k hk _ => Below.heap_alloc _ _ _ hk⟩
theorem Upd.setCell {S : Nat → Prop} {a b : World} (h : Upd S a b) {p : Addr} (hp : S p.block ∨ a.heap.size ≤ p.block) (u : Value) : Upd S a (b.setCell p u) :=
  ⟨h.os, h.tape, h.output, by have := h.size; simpa [World.setCell] using this, fun k hk hs => by
    rw [Below.heap_setCell _ _ _ _ (by rintro rfl; rcases hp with hp | hp; exact hs hp; omega)]; exact h.block k hk hs⟩
theorem Upd.setCells {S : Nat → Prop} {a : World} {p : Nat} (hp : S p ∨ a.heap.size ≤ p) : ∀ (vs : List Value) (o : Nat) {b : World}, Upd S a b → Upd S a (b.setCells p o vs)
  | [], _, _, h => h
  | v :: r, o, b, h => by
    rw [World.setCells]
    exact Upd.setCells hp r (o + 1) (h.setCell (p := ⟨p, o, none⟩) hp v)
theorem Upd.below {S : Nat → Prop} {a b : World} {B : Nat} (h : Upd S a b) (hB : B ≤ a.heap.size) (hs : ∀ k, k < B → ¬ S k) : Below B a b :=
  ⟨h.os, h.tape, h.output, h.size, fun k hk => h.block k (by omega) (hs k hk)⟩
theorem Upd.of_below {S : Nat → Prop} {a b : World} (h : Below a.heap.size a b) : Upd S a b :=
  ⟨h.os, h.tape, h.output, h.size, fun k hk _ => h.block k hk⟩
theorem lt_of_heap {w : World} {k : Nat} {o : Obj} (h : w.heap[k]? = some o) : k < w.heap.size := by
  rcases Nat.lt_or_ge k w.heap.size with h1 | h1
  · exact h1
  · rw [Array.getElem?_eq_none h1] at h; cases h
theorem Upd.at {S : Nat → Prop} {a b : World} (h : Upd S a b) {k : Nat} {o : Obj} (hk : a.heap[k]? = some o) (hs : ¬ S k) : b.heap[k]? = some o := by
  rw [h.block k (lt_of_heap hk) hs]; exact hk
theorem Upd.cell {S : Nat → Prop} {a b : World} (u : Upd S a b) {p : Addr} {v : Value} (h : a.cell? p = some v) (hs : ¬ S p.block) : b.cell? p = some v := by
  rw [World.cell?_of_block (w := a) (u.block p.block (World.block_lt_of_cell? a p h) hs)]; exact h
theorem Upd.rangeAt {S : Nat → Prop} {a b : World} (u : Upd S a b) {p o : Nat} {cs : List Value} (h : a.rangeAt p o cs) (hs : ¬ S p) : b.rangeAt p o cs := fun j v hv => u.cell (h j v hv) hs
/-- a whole array stored: its number of cells named apart -/
theorem wpList_store_sz {P : Program} {ops : Array Oper} {rest : List Oper} {op : Oper} {a : Act} {w : World} {Q : Exit → Act → World → Prop} (hgd : op.guard = none) (ty : TypeId) (x y : Operand) (ho : op.op = .store ty x y)
    (b o : Nat) (cells : Array Value) (hx : a.eval x = .pointer (some ⟨b, o, none⟩)) (hy : a.eval y = .agg cells) (k : Nat) (hk : cells.size = k)
    (ht : w.there b o k) (hi : (P.info? ty).map (·.size) = some k) (h1 : cells.all (·.oneCell') = true) (cs : List Value) (hcs : cells.toList = cs)
    (h : wpList P ops Q rest (a.put op.dst undef) (w.setCells b o cs)) : wpList P ops Q (op :: rest) a w := by
  subst hk hcs
  exact wpList_store_mid hgd ty x y ho b o cells hx hy ht hi h1 h
/-- 'make([]T, n)': the very world behind it -/
theorem wpList_make_exact {P : Program} {w : World} {ops : Array Oper} {rest : List Oper} {o : Oper} {a : Act} {Q : Exit → Act → World → Prop}
    (hg : o.guard = none) (l c : Operand) (t : TypeId) (hop : o.op = Op.makeSlice t l c) (e : TypeId) (z : Value) (size bytes : Nat) (h1 : P.underlying t = some (.slice e))
    (hi : (P.info? e).map (fun i => (i.zero, i.size, i.bytes)) = some (some z, size, bytes)) (kl kc : IntKind) (n : Nat) (hl : a.eval l = .int kl n) (hc : a.eval c = .int kc n)
    (b2 : bytes * n ≤ 281474976710656) (b3 : n ≤ 9223372036854775807) (C : Array Value) (hC : madeCells z.cells (n * size) = C)
    (hK : wpList P ops Q rest (a.put o.dst (.slice (some ⟨w.heap.size, 0, none⟩) n n)) (w.alloc (.cells C e))) :
    wpList P ops Q (o :: rest) a w := by
  obtain ⟨i, hj, hz, hs, hb⟩ := info_parts hi
  subst hs hb hC
  refine wpList_plain hg fun K hK' => ?_
  have hb' : (i.bytes : Int) * (n : Int) ≤ 281474976710656 := by
    have h : ((i.bytes * n : Nat) : Int) ≤ 281474976710656 := by omega
    rwa [Int.natCast_mul] at h
  have hrun := run_make (P := P) w t e i z h1 hj hz kl kc n n (by omega) (Int.le_refl _) hb' (by omega)
  simp only [Int.toNat_natCast] at hrun
  unfold Oper.wp
  simp [execOp, hop, hl, hc, hrun, Result.andThen]
  exact hK' _ _ hK
/-- a new row of one value over and over -/
theorem madeCells_same (v : Value) (k n : Nat) (hk : 0 < k) : madeCells (List.replicate k v).toArray n = (List.replicate n v).toArray := by
  apply Array.ext
  · simp [madeCells]
  · intro i h1 h2
    have : i % k < k := Nat.mod_lt _ hk
    simp [madeCells, this]
end Go.Proofs.Ytjkomkcjoooiiaa

/-
  Rows of integers: their cells, words laid over them, arrays of integers compared.
-/
namespace Go.Proofs.Ytjkomkcjoooiiaa
open Go.RowKit

/-- the cells of numbers -/
def ints (k : IntKind) (l : List Int) : List Value := l.map (Value.int k)
theorem ints_length (k : IntKind) (l : List Int) : (ints k l).length = l.length := by simp [ints]
theorem ints_getElem? (k : IntKind) (l : List Int) (i : Nat) (h : i < l.length) : (ints k l)[i]? = some (.int k (l.getD i 0)) := by
  simp [ints, List.getElem?_eq_getElem h]
theorem ints_one (k : IntKind) (l : List Int) : (ints k l).toArray.all (·.oneCell') = true := all_oneCell_toArray fun v hv => by
  obtain ⟨z, _, rfl⟩ := List.mem_map.1 hv; rfl
theorem splice_ints (k : IntKind) (ws : List Int) (o : Nat) (vs : List Int) : splice (ints k ws) o (ints k vs) = ints k (splice ws o vs) := by
  simp [splice, ints, List.map_append, List.map_take, List.map_drop]
theorem splice_splice {α : Type} (L : List α) (o : Nat) (a b : List α) (h : o + a.length + b.length ≤ L.length) : splice (splice L o a) (o + a.length) b = splice L o (a ++ b) := by
  unfold splice
  have e1 : (L.take o ++ (a ++ L.drop (o + a.length))).take (o + a.length) = L.take o ++ a := by
    rw [← List.append_assoc, List.take_append_of_le_length (by simp; omega)]
    exact List.take_of_length_le (by simp; omega)
  have e2 : (L.take o ++ (a ++ L.drop (o + a.length))).drop (o + a.length + b.length) = L.drop (o + a.length + b.length) := by
    rw [← List.append_assoc, List.drop_append, List.drop_eq_nil_of_le (by simp; omega), List.nil_append, List.drop_drop]
    congr 1
    simp; omega
  rw [e1, e2]
  simp [Nat.add_assoc]
theorem heap_setCells_other (b : Nat) : ∀ (vs : List Value) (o : Nat) (w : World) (k : Nat), k ≠ b → (w.setCells b o vs).heap[k]? = w.heap[k]?
  | [], _, _, _, _ => rfl
  | v :: r, o, w, k, h => by
    rw [World.setCells, heap_setCells_other b r (o + 1) _ k h, Below.heap_setCell _ _ _ _ h]
theorem heap_setCell_same {w : World} {b : Nat} {C : List Value} {t : TypeId} (h : w.heap[b]? = some (.cells C.toArray t (0, 0))) (o : Nat) (v : Value) :
    (w.setCell ⟨b, o, none⟩ v).heap[b]? = some (.cells (C.set o v).toArray t (0, 0)) := by
  simp only [World.setCell, Array.getElem?_modify, if_true, h, Option.map_some]
  simp
theorem heap_setCells_same (b t : Nat) : ∀ (vs : List Value) (o : Nat) (w : World) (C : List Value), w.heap[b]? = some (.cells C.toArray t (0, 0)) → o + vs.length ≤ C.length →
    (w.setCells b o vs).heap[b]? = some (.cells (splice C o vs).toArray t (0, 0))
  | [], o, w, C, h, _ => by simpa [World.setCells, splice] using h
  | v :: r, o, w, C, h, hl => by
    rw [World.setCells, heap_setCells_same b t r (o + 1) _ _ (heap_setCell_same h o v) (by simp at hl ⊢; omega)]
    simp only [Option.some.injEq, Obj.cells.injEq, and_true, Array.mk.injEq]
    simp at hl
    unfold splice
    rw [List.take_set, List.drop_set, if_pos (by omega)]
    rw [List.take_add_one, List.getElem?_eq_getElem (by omega)]
    rw [List.set_append]
    simp
    rw [show min o C.length = o from by omega]
    simp
    omega
/-- a block that is known whole -/
theorem rangeAt_block {w : World} {b t : Nat} {k : IntKind} {l : List Int} (h : w.heap[b]? = some (.cells (ints k l).toArray t (0, 0))) : w.rangeAt b 0 (ints k l) := by
  have := World.rangeAt_of_block h 0 l.length
  have e : ((ints k l).toArray.extract 0 (0 + l.length)).toList = ints k l := by
    simp [List.extract, List.take_of_length_le, ints_length]
  rwa [e] at this
theorem frozen_block {w : World} {b t : Nat} {c : Array Value} (h : w.heap[b]? = some (.cells c t (0, 0))) (i : Nat) : w.frozen? ⟨b, i, none⟩ = false := by
  unfold World.frozen?
  rw [h]
  simp
theorem there_block {w : World} {b t : Nat} {k : IntKind} {l : List Int} (h : w.heap[b]? = some (.cells (ints k l).toArray t (0, 0))) (o n : Nat) (hn : o + n ≤ l.length) : w.there b o n := fun j hj =>
  ⟨by rw [cell_of_row w b _ _ _ _ h, List.getElem?_toArray, ints_getElem? _ _ _ (by omega)]; rfl, frozen_block h _⟩
theorem splice_all {α : Type} (l vs : List α) (h : vs.length = l.length) : splice l 0 vs = vs := by
  unfold splice
  rw [List.drop_eq_nil_of_le (by omega)]
  simp
theorem cell_block {w : World} {b t : Nat} {k : IntKind} {l : List Int} (h : w.heap[b]? = some (.cells (ints k l).toArray t (0, 0))) (i : Nat) (hi : i < l.length) : w.cell? ⟨b, i, none⟩ = some (.int k (l.getD i 0)) := by
  rw [cell_of_row w b _ _ _ _ h, List.getElem?_toArray, ints_getElem? _ _ _ hi]
/-! arrays of integers compared -/
theorem run_part_ints {P : Program} {w : World} {e : TypeId} {k : IntKind} (he : P.underlying e = some (.int k)) (l : List Int) (i : Nat) (h : i < l.length) :
    (part e (ints k l).toArray i).run P w = .ok (.int k (l.getD i 0)) w := by
  have hagg : (isAgg e).run P w = .ok false w := by
    unfold isAgg
    rw [Sem.run_bind, run_underlying he w]
    rfl
  unfold part
  rw [Sem.run_bind, hagg]
  simp only [Result.andThen_ok, Bool.false_eq_true, if_false, List.getElem?_toArray, ints_getElem? _ _ _ h]
  rfl
theorem run_eq_from {P : Program} {w : World} {e : TypeId} {k : IntKind} (d : Nat) (he : P.underlying e = some (.int k)) (l l' : List Int) :
    ∀ (m i : Nat), i + m ≤ l.length → i + m ≤ l'.length →
      (forIn (m := Sem) (List.range' i m) ((none, ()) : Option Bool × Unit) fun j _ => do
        if !(← Op.equalIn (d + 1) e (← part e (ints k l).toArray (j * 1)) (← part e (ints k l').toArray (j * 1))) then pure (.done (some false, ())) else pure (.yield (none, ()))).run P w
      = .ok (if (l.drop i).take m = (l'.drop i).take m then (none, ()) else (some false, ())) w
  | 0, i, _, _ => by simp
  | m + 1, i, h1, h2 => by
    have ih := run_eq_from (w := w) d he l l' m (i + 1) (by omega) (by omega)
    rw [List.range'_succ, List.forIn_cons]
    simp only [Nat.mul_one] at ih ⊢
    simp only [Sem.run_bind, run_part_ints he l i (by omega), run_part_ints he l' i (by omega), Result.andThen_ok, run_equalIn_int w d e k k _ _ he]
    rw [List.drop_eq_getElem_cons (by omega : i < l.length), List.drop_eq_getElem_cons (by omega : i < l'.length), List.take_succ_cons, List.take_succ_cons]
    by_cases hq : l[i] = l'[i]
    · simp only [List.getD_eq_getElem?_getD, List.getElem?_eq_getElem (by omega : i < l.length), List.getElem?_eq_getElem (by omega : i < l'.length), Option.getD_some, hq, beq_self_eq_true, Bool.not_true, Bool.false_eq_true, if_false, Sem.run_pure, Result.andThen_ok]
      rw [ih]
      simp
    · simp only [List.getD_eq_getElem?_getD, List.getElem?_eq_getElem (by omega : i < l.length), List.getElem?_eq_getElem (by omega : i < l'.length), Option.getD_some, beq_eq_false_iff_ne.2 hq, Bool.not_false, if_true, Sem.run_pure, Result.andThen_ok]
      rw [if_neg (by simp [hq])]
theorem run_equalIn_ints {P : Program} {w : World} {t e : TypeId} {k : IntKind} {n : Nat} (d : Nat) (ht : P.underlying t = some (.array n e)) (he : P.underlying e = some (.int k)) (hs : (P.info? e).map (·.size) = some 1)
    (l l' : List Int) (h : l.length = n) (h' : l'.length = n) :
    (Op.equalIn (d + 2) t (.agg (ints k l).toArray) (.agg (ints k l').toArray)).run P w = .ok (decide (l = l')) w := by
  have hz : (sizeOf e).run P w = .ok 1 w := by
    cases hq : P.info? e with
    | none => simp [hq] at hs
    | some i => simp [hq] at hs; simp [sizeOf, typeInfo, hq, hs]
  have hf := run_eq_from (w := w) d he l l' n 0 (by omega) (by omega)
  have e1 : l.take n = l := List.take_of_length_le (by omega)
  have e2 : l'.take n = l' := List.take_of_length_le (by omega)
  simp only [List.drop_zero, e1, e2] at hf
  rw [Op.equalIn, Sem.run_bind, run_underlying ht, Result.andThen_ok]
  simp only [Sem.run_bind, hz, Result.andThen_ok]
  simp only [Std.Legacy.Range.forIn_eq_forIn_range', Std.Legacy.Range.size, Nat.sub_zero, Nat.add_sub_cancel, Nat.div_one]
  rw [hf]
  by_cases hq : l = l'
  · simp [hq]
  · simp [hq]
/-- the same as the walk spells it -/
theorem run_equal_ints {P : Program} {t e : TypeId} {k : IntKind} {n : Nat} (ht : P.underlying t = some (.array n e)) (he : P.underlying e = some (.int k)) (hs : (P.info? e).map (·.size) = some 1)
    (l l' : List Int) (h : l.length = n) (h' : l'.length = n) (b : Bool) (hb : decide (l = l') = b) (w : World) :
    (Op.equalIn 10000 t (.agg (ints k l).toArray) (.agg (ints k l').toArray)).run P w = .ok b w := by
  subst hb
  exact run_equalIn_ints (w := w) 9998 ht he hs l l' h h'
/-- 'a[i]' of an array of integers by value -/
theorem run_index_ints {P : Program} {t e : TypeId} {k : IntKind} {n : Nat} (ht : P.underlying t = some (.array n e)) (he : P.underlying e = some (.int k)) (hs : (P.info? e).map (·.size) = some 1)
    (l : List Int) (h : l.length = n) (kk : IntKind) (i : Nat) (hi : i < n) (x : Int) (hx : l.getD i 0 = x) (w : World) :
    (Instr.index t (.agg (ints k l).toArray) (.int kk i)).run P w = .ok (.int k x) w := by
  subst hx
  have hz : (sizeOf e).run P w = .ok 1 w := by
    cases hq : P.info? e with
    | none => simp [hq] at hs
    | some i => simp [hq] at hs; simp [sizeOf, typeInfo, hq, hs]
  unfold Instr.index
  rw [Sem.run_bind, show (asIntOf (.int kk (i : Int))).run P w = .ok (kk, (i : Int)) w from rfl, Result.andThen_ok]
  simp only [Sem.run_bind, run_underlying ht, Result.andThen_ok]
  rw [if_pos (by omega)]
  simp only [Sem.run_bind, hz, Result.andThen_ok, Int.toNat_natCast, Nat.mul_one]
  exact run_part_ints he l i (by omega)
theorem run_eqGuard_agg {P : Program} {w : World} {t : TypeId} (hg : P.eqGuardType P.depth t = false) (op : BinOp) (x y : Operand) (a b : Array Value) :
    (eqGuard op t x y (.agg a) (.agg b)).run P w = .ok () w := by
  unfold eqGuard
  split <;> simp [Sem.run_bind, run_program, hg]
theorem run_eql_ints {P : Program} {w : World} {t e : TypeId} {k : IntKind} {n : Nat} (ht : P.underlying t = some (.array n e)) (he : P.underlying e = some (.int k)) (hs : (P.info? e).map (·.size) = some 1)
    (hg : P.eqGuardType P.depth t = false) (x y : Operand) (l l' : List Int) (h : l.length = n) (h' : l'.length = n) :
    (do eqGuard .eql t x y (.agg (ints k l).toArray) (.agg (ints k l').toArray); binOp .eql t (.agg (ints k l).toArray) (.agg (ints k l').toArray) : Sem Value).run P w = .ok (.bool (decide (l = l'))) w := by
  rw [Sem.run_bind, run_eqGuard_agg hg, Result.andThen_ok]
  show (do pure (.bool (← Op.equal t (.agg (ints k l).toArray) (.agg (ints k l').toArray))) : Sem Value).run P w = _
  unfold Op.equal
  rw [Sem.run_bind, show Op.maxDepth = 9998 + 2 from rfl, run_equalIn_ints _ ht he hs l l' h h']
  rfl
/-- '==' of two arrays of integers -/
theorem wpList_eql_ints {P : Program} {ops : Array Oper} {Q : Exit → Act → World → Prop} {a : Act} {w : World} {rest : List Oper} {o : Oper} (hw : Region.wanted o (yielded ops a.tmps) = true)
    (t t' : TypeId) (x y : Operand) (ho : o.op = .binOp .eql t x y t') (k : IntKind) (l l' : List Int) (X Y : Array Value) (hx : a.eval x = .agg X) (hy : a.eval y = .agg Y) (eX : X = (ints k l).toArray) (eY : Y = (ints k l').toArray) (n : Nat) (e : TypeId)
    (ht : P.underlying t = some (.array n e)) (he : P.underlying e = some (.int k)) (hs : (P.info? e).map (·.size) = some 1) (hg : P.eqGuardType P.depth t = false) (h1 : l.length = n) (h2 : l'.length = n)
    (b : Bool) (hb : decide (l = l') = b) (h : wpList P ops Q rest (a.put o.dst (.bool b)) w) : wpList P ops Q (o :: rest) a w := by
  subst hb eX eY
  refine BigFrame.wpList_want hw fun K hK => ?_
  have hr := run_eql_ints (P := P) (w := w) ht he hs hg x y l l' h1 h2
  unfold Oper.wp
  simp only [execOp, ho, hx, hy]
  rw [Sem.run_bind, hr]
  exact hK _ _ h
theorem run_neq_ints {P : Program} {w : World} {t e : TypeId} {k : IntKind} {n : Nat} (ht : P.underlying t = some (.array n e)) (he : P.underlying e = some (.int k)) (hs : (P.info? e).map (·.size) = some 1)
    (hg : P.eqGuardType P.depth t = false) (x y : Operand) (l l' : List Int) (h : l.length = n) (h' : l'.length = n) :
    (do eqGuard .neq t x y (.agg (ints k l).toArray) (.agg (ints k l').toArray); binOp .neq t (.agg (ints k l).toArray) (.agg (ints k l').toArray) : Sem Value).run P w = .ok (.bool (!decide (l = l'))) w := by
  rw [Sem.run_bind, run_eqGuard_agg hg, Result.andThen_ok]
  show (do pure (.bool (!(← Op.equal t (.agg (ints k l).toArray) (.agg (ints k l').toArray)))) : Sem Value).run P w = _
  unfold Op.equal
  rw [Sem.run_bind, show Op.maxDepth = 9998 + 2 from rfl, run_equalIn_ints _ ht he hs l l' h h']
  rfl
/-- '!=' of two arrays of integers -/
theorem wpList_neq_ints {P : Program} {ops : Array Oper} {Q : Exit → Act → World → Prop} {a : Act} {w : World} {rest : List Oper} {o : Oper} (hw : Region.wanted o (yielded ops a.tmps) = true)
    (t t' : TypeId) (x y : Operand) (ho : o.op = .binOp .neq t x y t') (k : IntKind) (l l' : List Int) (X Y : Array Value) (hx : a.eval x = .agg X) (hy : a.eval y = .agg Y) (eX : X = (ints k l).toArray) (eY : Y = (ints k l').toArray) (n : Nat) (e : TypeId)
    (ht : P.underlying t = some (.array n e)) (he : P.underlying e = some (.int k)) (hs : (P.info? e).map (·.size) = some 1) (hg : P.eqGuardType P.depth t = false) (h1 : l.length = n) (h2 : l'.length = n)
    (b : Bool) (hb : (!decide (l = l')) = b) (h : wpList P ops Q rest (a.put o.dst (.bool b)) w) : wpList P ops Q (o :: rest) a w := by
  subst hb eX eY
  refine BigFrame.wpList_want hw fun K hK => ?_
  have hr := run_neq_ints (P := P) (w := w) ht he hs hg x y l l' h1 h2
  unfold Oper.wp
  simp only [execOp, ho, hx, hy]
  rw [Sem.run_bind, hr]
  exact hK _ _ h
/-- '!=' of two arrays of integers, as a step of a region that draws -/
theorem step_neq_ints {P : Program} {ops : Array Oper} {o : Oper} {a : Act} {w : World} {K : Act → World → Prop} {Q : Exit → Act → World → Prop} {E : Prop} (hw : Region.wanted o (yielded ops a.tmps) = true)
    (t t' : TypeId) (x y : Operand) (ho : o.op = .binOp .neq t x y t') (k : IntKind) (l l' : List Int) (X Y : Array Value) (hx : a.eval x = .agg X) (hy : a.eval y = .agg Y) (eX : X = (ints k l).toArray) (eY : Y = (ints k l').toArray) (n : Nat) (e : TypeId)
    (ht : P.underlying t = some (.array n e)) (he : P.underlying e = some (.int k)) (hs : (P.info? e).map (·.size) = some 1) (hg : P.eqGuardType P.depth t = false) (h1 : l.length = n) (h2 : l'.length = n)
    (b : Bool) (hb : (!decide (l = l')) = b) (h : K (a.put o.dst (.bool b)) w) : if Region.wanted o (yielded ops a.tmps) = true then Oper.wp P o a w K Q else E := by
  subst hb eX eY
  rw [if_pos hw]
  have hr := run_neq_ints (P := P) (w := w) ht he hs hg x y l l' h1 h2
  unfold Oper.wp
  simp only [execOp, ho, hx, hy]
  rw [Sem.run_bind, hr]
  exact h
/-- a new block into which a row is laid at once -/
theorem alloc_store (w : World) (k : IntKind) (Z L : List Int) (t : TypeId) (h : L.length = Z.length) :
    ((w.alloc (.cells (ints k Z).toArray t)).setCells w.heap.size 0 (ints k L)).heap[w.heap.size]? = some (.cells (ints k L).toArray t (0, 0)) ∧
    Upd (fun _ => False) w ((w.alloc (.cells (ints k Z).toArray t)).setCells w.heap.size 0 (ints k L)) ∧ (w.alloc (.cells (ints k Z).toArray t)).there w.heap.size 0 L.length := by
  have h0 := heap_alloc_last w (.cells (ints k Z).toArray t)
  refine ⟨?_, Upd.setCells (by right; exact Nat.le_refl _) _ _ ((Upd.refl _ _).alloc _), there_block h0 0 L.length (by omega)⟩
  rw [heap_setCells_same _ _ (ints k L) 0 _ (ints k Z) h0 (by rw [ints_length, ints_length, h]; omega), splice_ints, splice_all _ _ h]
/-- 'copy' over a whole block of integers -/
theorem wpList_copy_ints {P : Program} {w : World} {ops : Array Oper} {rest : List Oper} {o : Oper} {a : Act} {Q : Exit → Act → World → Prop} (hgd : o.guard = none) (d s : Operand) (dT sT : TypeId)
    (ho : o.op = .call { callee := .builtin .copy, args := #[d, s], argTypes := #[dT, sT] }) (elem : TypeId) (hu : P.underlying dT = some (.slice elem)) (hsz : (P.info? elem).map (·.size) = some 1)
    (g dLen dCap b off sLen sCap : Nat) (hd : a.eval d = .slice (some ⟨g, 0, none⟩) dLen dCap) (hs : a.eval s = .slice (some ⟨b, off, none⟩) sLen sCap)
    (k : IntKind) (cur l : List Int) (t : TypeId) (hg : w.heap[g]? = some (.cells (ints k cur).toArray t (0, 0))) (hc : cur.length = dLen) (hl : l.length = dLen) (hsl : sLen = dLen)
    (hsrc : w.rangeAt b off (ints k l))
    (h : ∀ w', Hid (w'.heap[g]? = some (.cells (ints k l).toArray t (0, 0))) → Upd (· = g) w w' → wpList P ops Q rest (a.put o.dst (goInt dLen)) w') : wpList P ops Q (o :: rest) a w := by
  subst hsl
  refine wpList_copy_own hgd d s dT sT ho elem hu hsz g 0 _ dCap ⟨b, off, none⟩ _ sCap hd hs (ints k cur).toArray t hg (ints k l) (by rw [ints_length, hl]; simp) (fun j v hv => by rw [Addr.add_mid]; exact hsrc j v hv) (by simp [ints_length]; omega)
    (fun v hv => by obtain ⟨z, _, rfl⟩ := List.mem_map.1 hv; rfl) ?_
  rw [ints_length, hl]
  refine h _ (show _ = _ from ?_) ⟨rfl, rfl, rfl, by simp [World.setRow], fun i _ hi => setRow_other w g i _ hi⟩
  rw [setRow_heap w g _ _ t _ hg]
  simp [ints_length, hc, List.drop_eq_nil_of_le]
/-- a region that draws, of which all but a tail in one order only reads: the world behind the draw under a name -/
theorem wp_region_tail {P : Program} {id : Nat} {Q : Exit → Act → World → Prop} {a : Act} {w : World} {l : List Oper} (n : Nat) (hm : P.follows .mixedOrders = true) (hB : Region.lexTailB .any l.toArray n = true)
    (h : ∀ w2, w2 = w.drew → wpStill P l.toArray w2 (fun a' => wpList P l.toArray Q (l.drop n) a' w2) (l.take n) a) : (Code.region id l.toArray true).wp P Q a w :=
  wp_region_still_tail n hm hB (h _ rfl)
/-- a whole array loaded in a region that draws, ahead of its tail -/
theorem wpStill_load_sz {P : Program} {ops : Array Oper} {rest : List Oper} {op : Oper} {a : Act} {w : World} {Q : Act → Prop} (hw : Region.wanted op (yielded ops a.tmps) = true) (ty : TypeId) (x : Operand) (ho : op.op = .load ty x)
    (b o : Nat) (hx : a.eval x = .pointer (some ⟨b, o, none⟩)) (cs : List Value) (d : TypeDesc) (hc : w.rangeAt b o cs)
    (hu : P.underlying ty = some d) (hd : d.isRow = true) (k : Nat) (hk : cs.length = k) (hi : (P.info? ty).map (·.size) = some k)
    (h : wpStill P ops w Q rest (a.put op.dst (.agg cs.toArray))) : wpStill P ops w Q (op :: rest) a := by
  subst hk
  refine wpStill_step fun K hK => ?_
  rw [if_pos hw]
  unfold Oper.still execOp
  simp only [ho, hx, Instr.loadAt, Instr.sureAddr, Sem.run_bind, Sem.run_pure, Result.andThen_ok, run_loadVar_mid w b o ty cs d hc hu hd hi]
  exact ⟨rfl, hK _ h⟩
/-- a whole array loaded, guarded or not -/
theorem wpList_load_sz {P : Program} {ops : Array Oper} {rest : List Oper} {op : Oper} {a : Act} {w : World} {Q : Exit → Act → World → Prop} (hw : Region.wanted op (yielded ops a.tmps) = true) (ty : TypeId) (x : Operand) (ho : op.op = .load ty x)
    (b o : Nat) (hx : a.eval x = .pointer (some ⟨b, o, none⟩)) (cs : List Value) (d : TypeDesc) (hc : w.rangeAt b o cs)
    (hu : P.underlying ty = some d) (hd : d.isRow = true) (k : Nat) (hk : cs.length = k) (hi : (P.info? ty).map (·.size) = some k)
    (h : wpList P ops Q rest (a.put op.dst (.agg cs.toArray)) w) : wpList P ops Q (op :: rest) a w := by
  subst hk
  exact BigFrame.wpList_want hw fun _ hK => wp_load_mid ty x ho b o hx cs d hc hu hd hi (hK _ _ h)
end Go.Proofs.Ytjkomkcjoooiiaa

/-
  append onto one's own slice of whatever slice, nil and empty ones too: in plain regions and in ones that draw.
-/
namespace Go.Proofs.Ytjkomkcjoooiiaa
open Go.RowKit

/-- a slice of m elements whose cells are news -/
def Src (w : World) (x : Value) (m size : Nat) (news : List Value) : Prop :=
  (x = .slice none 0 0 ∧ m = 0 ∧ news = []) ∨ ∃ b off c, x = .slice (some ⟨b, off, none⟩) m c ∧ news.length = m * size ∧ (∀ j u, news[j]? = some u → w.cell? ⟨b, off + j, none⟩ = some u)
theorem add_mid0 (b off j : Nat) : (⟨b, off, none⟩ : Addr).add j = ⟨b, off + j, none⟩ := by unfold Addr.add; split <;> simp_all
theorem Src.of_row {w : World} {base m size : Nat} {e : TypeId} {v : Value} {xs : List Value} (h : w.ownsRow base e size v m xs) : Src w v m size xs := by
  rcases h.2 with ⟨rfl, rfl⟩ | ⟨g, cap, cur, rfl, _⟩
  · exact .inl ⟨rfl, rfl, List.length_eq_zero_iff.1 (by have := h.1; omega)⟩
  · exact .inr ⟨g, 0, cap, rfl, h.1, fun j u hu => by have := h.cells (g := g) rfl j u hu; rwa [add_mid0] at this⟩
theorem Src.kept {w w' : World} {x : Value} {m size : Nat} {news : List Value} (h : Src w x m size news) (hg : ∀ b : Nat, x.ownBlock = some b → w'.heap[b]? = w.heap[b]?) : Src w' x m size news := by
  rcases h with h | ⟨b, off, c, rfl, h1, h2⟩
  · exact .inl h
  · refine .inr ⟨b, off, c, rfl, h1, fun j u hu => ?_⟩
    rw [World.cell?_of_block (w := w) (hg b rfl)]
    exact h2 j u hu
theorem run_append_src {P : Program} (w : World) (base : Nat) (t ty e : TypeId) (i : TypeInfo) (z : Value) (size bytes : Nat) (ht : P.underlying t = some (.slice e)) (hi : P.info? e = some i) (hz : i.zero = some z)
    (hsize : i.size = size) (hby : i.bytes = bytes) (hzs : z.cells.size = size) (hsz : 0 < size)
    (v : Value) (n : Nat) (xs : List Value) (hown : w.ownsRow base e size v n xs) (x : Value) (m : Nat) (news : List Value) (hx : Src w x m size news) (h1 : ∀ u ∈ news, u.oneCell' = true)
    (h63 : n + m ≤ maxLen) (hbytes : (n + m) * bytes ≤ 140737488355328) (hbase : base ≤ w.heap.size) :
    ∃ v' w', (Builtin.append_ #[t, t] ty #[v, x]).run P w = .ok v' w' ∧ w'.ownsRow base e size v' (n + m) (xs ++ news) ∧ w.grownBy w' v.ownBlock := by
  rcases hx with ⟨rfl, rfl, rfl⟩ | ⟨b, off, c, rfl, h2, h3⟩
  · exact ⟨v, w, run_append_owned_none w base t ty e i size ht hi v n xs hown, by simpa using hown, ⟨rfl, rfl, rfl, Nat.le_refl _, fun _ _ _ => rfl⟩⟩
  · obtain ⟨v', w', hr, r1, r2, _⟩ := run_append_own (P := P) w base t ty e i z size bytes ht hi hz hsize hby hzs hsz v n xs hown ⟨b, off, none⟩ m c news h2 (fun j u hu => by rw [add_mid0]; exact h3 j u hu) h1 h63 hbytes hbase
    exact ⟨v', w', hr, r1, r2⟩
theorem wp_append_src {P : Program} (w : World) {o : Oper} {a : Act} {K : Act → World → Prop} {Q : Exit → Act → World → Prop} (s x : Operand) (t : TypeId)
    (ho : o.op = .call { callee := .builtin .append, args := #[s, x], argTypes := #[t, t] })
    (base : Nat) (e : TypeId) (i : TypeInfo) (z : Value) (size bytes : Nat) (ht : P.underlying t = some (.slice e)) (hi : P.info? e = some i) (hz : i.zero = some z)
    (hsize : i.size = size) (hby : i.bytes = bytes) (hzs : z.cells.size = size) (hsz : 0 < size)
    (v : Value) (n : Nat) (xs : List Value) (hs : a.eval s = v) (hown : w.ownsRow base e size v n xs) (y : Value) (m : Nat) (news : List Value) (hy : a.eval x = y) (hx : Src w y m size news) (h1 : ∀ u ∈ news, u.oneCell' = true)
    (h63 : n + m ≤ maxLen) (hbytes : (n + m) * bytes ≤ 140737488355328) (hbase : base ≤ w.heap.size)
    (h : ∀ v' w', w'.ownsRow base e size v' (n + m) (xs ++ news) → w.grownBy w' v.ownBlock → K (a.put o.dst v') w') : o.wp P a w K Q := by
  obtain ⟨v', w', hr, h2, h3⟩ := run_append_src (P := P) w base t o.type e i z size bytes ht hi hz hsize hby hzs hsz v n xs hown y m news hx h1 h63 hbytes hbase
  unfold Oper.wp execOp
  simp only [ho, resolve, invoke, builtin, Sem.run_bind, Sem.run_pure, Result.andThen_ok, List.map_toArray, List.map_cons, List.map_nil, hs, hy, hr]
  exact h v' w' h2 h3
/-- in a plain region -/
theorem wpList_append_src {P : Program} (w : World) {ops : Array Oper} {rest : List Oper} {o : Oper} {a : Act} {Q : Exit → Act → World → Prop} (hgd : o.guard = none) (s x : Operand) (t : TypeId)
    (ho : o.op = .call { callee := .builtin .append, args := #[s, x], argTypes := #[t, t] })
    (base : Nat) (e : TypeId) (i : TypeInfo) (z : Value) (size bytes : Nat) (ht : P.underlying t = some (.slice e)) (hi : P.info? e = some i) (hz : i.zero = some z)
    (hsize : i.size = size) (hby : i.bytes = bytes) (hzs : z.cells.size = size) (hsz : 0 < size)
    (v : Value) (n : Nat) (xs : List Value) (hs : a.eval s = v) (hown : w.ownsRow base e size v n xs) (y : Value) (m : Nat) (news : List Value) (hy : a.eval x = y) (hx : Src w y m size news) (h1 : ∀ u ∈ news, u.oneCell' = true)
    (h63 : n + m ≤ maxLen) (hbytes : (n + m) * bytes ≤ 140737488355328) (hbase : base ≤ w.heap.size)
    (h : ∀ v' w', w'.ownsRow base e size v' (n + m) (xs ++ news) → w.grownBy w' v.ownBlock → wpList P ops Q rest (a.put o.dst v') w') : wpList P ops Q (o :: rest) a w :=
  wpList_plain hgd fun _ hK => wp_append_src w s x t ho base e i z size bytes ht hi hz hsize hby hzs hsz v n xs hs hown y m news hy hx h1 h63 hbytes hbase fun v' w' h2 h3 => hK _ _ (h v' w' h2 h3)
/-- at a step of a region that draws -/
theorem step_append_src {P : Program} (w : World) {ops : Array Oper} {o : Oper} {a : Act} {K : Act → World → Prop} {Q : Exit → Act → World → Prop} {E : Prop} (hgd : o.guard = none) (s x : Operand) (t : TypeId)
    (ho : o.op = .call { callee := .builtin .append, args := #[s, x], argTypes := #[t, t] })
    (base : Nat) (e : TypeId) (i : TypeInfo) (z : Value) (size bytes : Nat) (ht : P.underlying t = some (.slice e)) (hi : P.info? e = some i) (hz : i.zero = some z)
    (hsize : i.size = size) (hby : i.bytes = bytes) (hzs : z.cells.size = size) (hsz : 0 < size)
    (v : Value) (n : Nat) (xs : List Value) (hs : a.eval s = v) (hown : w.ownsRow base e size v n xs) (y : Value) (m : Nat) (news : List Value) (hy : a.eval x = y) (hx : Src w y m size news) (h1 : ∀ u ∈ news, u.oneCell' = true)
    (h63 : n + m ≤ maxLen) (hbytes : (n + m) * bytes ≤ 140737488355328) (hbase : base ≤ w.heap.size)
    (h : ∀ v' w', w'.ownsRow base e size v' (n + m) (xs ++ news) → w.grownBy w' v.ownBlock → K (a.put o.dst v') w') :
    if Region.wanted o (yielded ops a.tmps) = true then Oper.wp P o a w K Q else E := by
  have hw : Region.wanted o (yielded ops a.tmps) = true := by simp [Region.wanted, hgd]
  rw [if_pos hw]
  exact wp_append_src w s x t ho base e i z size bytes ht hi hz hsize hby hzs hsz v n xs hs hown y m news hy hx h1 h63 hbytes hbase h
end Go.Proofs.Ytjkomkcjoooiiaa

/-
  Package tlb: lines and buffers in memory; isEmpty, below, isLine, sameAs, the closures.
-/
namespace Go.Proofs.Ytjkomkcjoooiiaa
open Go.ChangeShapes Go.WideShapes Go.ChangeAt Go.RowKit Go.Shelf

/-! rows of structs -/
/-- cells of a row: k of them, each of n cells -/
def rowC {α : Type} (c : α → List Value) (S : Nat → α) (k : Nat) : List Value := (List.range k).flatMap fun i => c (S i)
theorem rowC_succ {α : Type} (c : α → List Value) (S : Nat → α) (k : Nat) : rowC c S (k + 1) = rowC c S k ++ c (S k) := by
  unfold rowC; rw [List.range_succ, List.flatMap_append]; simp
theorem rowC_len {α : Type} {c : α → List Value} {n : Nat} (hc : ∀ x, (c x).length = n) (S : Nat → α) : ∀ k, (rowC c S k).length = k * n
  | 0 => by simp [rowC]
  | k + 1 => by rw [rowC_succ, List.length_append, rowC_len hc S k, hc, Nat.succ_mul]
theorem rowC_at {α : Type} {c : α → List Value} {n : Nat} (hc : ∀ x, (c x).length = n) (S : Nat → α) : ∀ (k i j : Nat), i < k → j < n → (rowC c S k)[i * n + j]? = (c (S i))[j]?
  | 0, _, _, h, _ => absurd h (by omega)
  | k + 1, i, j, h, hj => by
    have hl := rowC_len hc S k
    rw [rowC_succ]
    by_cases e : i = k
    · subst e
      rw [List.getElem?_append_right (by omega), hl]
      congr 1; omega
    · have : i * n + n ≤ k * n := by rw [← Nat.succ_mul]; exact Nat.mul_le_mul_right _ (by omega)
      rw [List.getElem?_append_left (by omega), rowC_at hc S k i j (by omega) hj]
theorem splice_at {α : Type} (L : List α) (o : Nat) (vs : List α) (m : Nat) (h : o + vs.length ≤ L.length) :
    (splice L o vs)[m]? = if m < o then L[m]? else if m < o + vs.length then vs[m - o]? else L[m]? := by
  unfold splice
  by_cases h1 : m < o
  · rw [if_pos h1, List.getElem?_append_left (by simp; omega), List.getElem?_take_of_lt h1]
  · rw [if_neg h1, List.getElem?_append_right (by simp; omega)]
    by_cases h2 : m < o + vs.length
    · rw [if_pos h2, List.getElem?_append_left (by simp; omega)]
      congr 1; simp; omega
    · rw [if_neg h2, List.getElem?_append_right (by simp; omega), List.getElem?_drop]
      congr 1; simp; omega
theorem rowC_set {α : Type} {c : α → List Value} {n : Nat} (hc : ∀ x, (c x).length = n) (hn : 0 < n) (S : Nat → α) (k i : Nat) (x : α) (h : i < k) :
    splice (rowC c S k) (i * n) (c x) = rowC c (fun j => if j = i then x else S j) k := by
  have hb : i * n + n ≤ k * n := by rw [← Nat.succ_mul]; exact Nat.mul_le_mul_right _ (by omega)
  apply List.ext_getElem?
  intro m
  rw [splice_at _ _ _ _ (by rw [rowC_len hc, hc]; omega), hc]
  have hd : m = m / n * n + m % n := by rw [Nat.mul_comm]; exact (Nat.div_add_mod m n).symm
  have hm : m % n < n := Nat.mod_lt _ hn
  by_cases hk : m < k * n
  · have hq : m / n < k := (Nat.div_lt_iff_lt_mul hn).2 hk
    have e1 := rowC_at hc S k (m / n) (m % n) hq hm
    have e2 := rowC_at hc (fun j => if j = i then x else S j) k (m / n) (m % n) hq hm
    rw [← hd] at e1 e2
    rw [e1, e2]
    by_cases hi : m / n = i
    · rw [hi] at hd
      rw [if_neg (by omega), if_pos (by omega), if_pos hi]
      congr 1; omega
    · rw [if_neg hi]
      rcases Nat.lt_or_gt_of_ne hi with c1 | c1
      · have : m / n * n + n ≤ i * n := by rw [← Nat.succ_mul]; exact Nat.mul_le_mul_right _ (by omega)
        rw [if_pos (by omega)]
      · have : i * n + n ≤ m / n * n := by rw [← Nat.succ_mul]; exact Nat.mul_le_mul_right _ (by omega)
        rw [if_neg (by omega), if_neg (by omega)]
  · rw [if_neg (by omega), if_neg (by omega), List.getElem?_eq_none (by rw [rowC_len hc]; omega), List.getElem?_eq_none (by rw [rowC_len hc]; omega)]

/-! lines -/
def Ln.c (l : Ln) : List Value := [.int .i64 l.a, .int .i64 l.p, .int .i64 l.f, .bool l.w]
abbrev Ln.val (l : Ln) : Value := .agg #[.int .i64 l.a, .int .i64 l.p, .int .i64 l.f, .bool l.w]
theorem Ln.c_len (l : Ln) : l.c.length = 4 := rfl
def ln0 : Ln := ⟨0, 0, 0, false⟩
def lnOf : Option Ln → Ln
  | none => ln0
  | some l => l
/-- what lies in a place -/
def Buf.ln (B : Buf) (i : Nat) : Ln := lnOf (B i)
theorem Buf.ln_set (B : Buf) (i : Nat) (x : Option Ln) : (B.set i x).ln = fun j => if j = i then lnOf x else B.ln j := by
  funext j; unfold Buf.ln Buf.set; split <;> rfl
theorem Buf.Ok.empty {B : Buf} (h : B.Ok) (i : Nat) : decide ((B.ln i).a = 0) = (B i).isNone := by
  unfold Buf.ln
  cases e : B i with
  | none => rfl
  | some l =>
    have := h.r i l e
    have e : ¬ (lnOf (some l)).a = 0 := by show ¬ l.a = 0; omega
    rw [decide_eq_false e]; rfl
theorem Buf.Ok.hits {B : Buf} (h : B.Ok) (a p : Int) (i : Nat) : (!decide ((B.ln i).a = 0) && decide ((B.ln i).a = a) && decide ((B.ln i).p = p)) = B.hit a p i := by
  rw [h.empty i]
  unfold Buf.ln Buf.hit
  cases e : B i with
  | none => rfl
  | some l =>
    show (true && decide (l.a = a) && decide (l.p = p)) = (decide (l.a = a) && decide (l.p = p))
    rw [Bool.true_and]
def BufAt (w : World) (A : Nat) (B : Buf) : Prop := w.heap[A]? = some (.cells (rowC Ln.c B.ln 8).toArray 49 (0, 0))
theorem BufAt.kept {S : Nat → Prop} {w w' : World} {A : Nat} {B : Buf} (h : BufAt w A B) (u : Upd S w w') (hs : ¬ S A) : BufAt w' A B := u.at h hs
theorem BufAt.alloc {w : World} {A : Nat} {B : Buf} (h : BufAt w A B) (o : Obj) : BufAt (w.alloc o) A B := h.kept ((Upd.refl (fun _ => False) w).alloc o) id
theorem size_ln : (Try.prog.info? 28).map (·.size) = some 4 := by kernel_rfl
theorem size_lns : (Try.prog.info? 29).map (·.size) = some 32 := by kernel_rfl
theorem ln_sz (a p f : Int) (b : Bool) : (#[.int .i64 a, .int .i64 p, .int .i64 f, .bool b] : Array Value).size = 4 := rfl
theorem ln_one (a p f : Int) (b : Bool) : (#[.int .i64 a, .int .i64 p, .int .i64 f, .bool b] : Array Value).all (·.oneCell') = true := by simp [Value.oneCell']
theorem ln_ls (a p f : Int) (b : Bool) : (#[.int .i64 a, .int .i64 p, .int .i64 f, .bool b] : Array Value).toList = [.int .i64 a, .int .i64 p, .int .i64 f, .bool b] := rfl
theorem ln_len (a p f : Int) (b : Bool) : ([.int .i64 a, .int .i64 p, .int .i64 f, .bool b] : List Value).length = 4 := rfl
theorem rangeAt_of {w : World} {A t : Nat} {C : List Value} (h : w.heap[A]? = some (.cells C.toArray t (0, 0))) (o : Nat) (cs : List Value) (hc : ∀ j, j < cs.length → C[o + j]? = cs[j]?) : w.rangeAt A o cs := by
  intro j v hv
  have hj : j < cs.length := (List.getElem?_eq_some_iff.1 hv).1
  rw [cell_of_row w A _ _ _ _ h, List.getElem?_toArray, hc j hj, hv]
theorem there_of {w : World} {A t : Nat} {C : List Value} (h : w.heap[A]? = some (.cells C.toArray t (0, 0))) (o n : Nat) (hn : o + n ≤ C.length) : w.there A o n := fun j hj =>
  ⟨by rw [cell_of_row w A _ _ _ _ h, List.getElem?_toArray, List.getElem?_eq_getElem (by omega)]; rfl, frozen_block h _⟩
theorem BufAt.range {w : World} {A : Nat} {B : Buf} (h : BufAt w A B) (i : Nat) (hi : i < 8) : w.rangeAt A (i * 4) [.int .i64 (B.ln i).a, .int .i64 (B.ln i).p, .int .i64 (B.ln i).f, .bool (B.ln i).w] :=
  rangeAt_of h _ (B.ln i).c fun j hj => rowC_at Ln.c_len _ 8 i j hi hj
theorem BufAt.rangeAll {w : World} {A : Nat} {B : Buf} (h : BufAt w A B) : w.rangeAt A 0 (rowC Ln.c B.ln 8) := rangeAt_of h 0 _ fun j _ => by rw [Nat.zero_add]
theorem BufAt.there {w : World} {A : Nat} {B : Buf} (h : BufAt w A B) (i : Nat) (hi : i < 8) : w.there A (i * 4) 4 := there_of h _ _ (by rw [rowC_len Ln.c_len]; omega)
theorem BufAt.set {w : World} {A : Nat} {B : Buf} (h : BufAt w A B) (i : Nat) (hi : i < 8) (x : Option Ln) :
    BufAt (w.setCells A (i * 4) [.int .i64 (lnOf x).a, .int .i64 (lnOf x).p, .int .i64 (lnOf x).f, .bool (lnOf x).w]) A (B.set i x) := by
  unfold BufAt
  rw [heap_setCells_same A _ [.int .i64 (lnOf x).a, .int .i64 (lnOf x).p, .int .i64 (lnOf x).f, .bool (lnOf x).w] (i * 4) w _ h (by rw [rowC_len Ln.c_len]; simp; omega), show [Value.int .i64 (lnOf x).a, .int .i64 (lnOf x).p, .int .i64 (lnOf x).f, .bool (lnOf x).w] = (lnOf x).c from rfl, rowC_set Ln.c_len (by omega) _ _ _ _ hi, Buf.ln_set]
/-- a line in a box of its own -/
def LnAt (w : World) (b : Nat) (a p f : Int) (r : Bool) : Prop := w.heap[b]? = some (.cells ([.int .i64 a, .int .i64 p, .int .i64 f, .bool r] : List Value).toArray 28 (0, 0))
theorem LnAt.range {w : World} {b : Nat} {a p f : Int} {r : Bool} (h : LnAt w b a p f r) : w.rangeAt b 0 [.int .i64 a, .int .i64 p, .int .i64 f, .bool r] := World.rangeAt_of_block h 0 4
theorem LnAt.there {w : World} {b : Nat} {a p f : Int} {r : Bool} (h : LnAt w b a p f r) : w.there b 0 4 := there_of h 0 4 (by simp)
theorem LnAt.set {w : World} {b : Nat} {a p f : Int} {r : Bool} (h : LnAt w b a p f r) (a' p' f' : Int) (r' : Bool) : LnAt (w.setCells b 0 [.int .i64 a', .int .i64 p', .int .i64 f', .bool r']) b a' p' f' r' := by
  unfold LnAt
  rw [heap_setCells_same b _ [.int .i64 a', .int .i64 p', .int .i64 f', .bool r'] 0 w _ h (by simp), splice_all _ _ (by simp)]
theorem LnAt.kept {S : Nat → Prop} {w w' : World} {b : Nat} {a p f : Int} {r : Bool} (h : LnAt w b a p f r) (u : Upd S w w') (hs : ¬ S b) : LnAt w' b a p f r := u.at h hs
/-- a line that is a result in a cell -/
theorem ret_ln {fn : Func} {p u : Tmp} (h : fn.results = #[.cell p 28, .tmp u]) (tmps : Array Value) (w : World) (b : Nat) (x y z : Int) (r : Bool) (hp : tmps.getD p undef = .pointer (some ⟨b, 0, none⟩)) (he : LnAt w b x y z r) :
    (results fn tmps).run Try.prog w = .ok (.tuple #[.agg #[.int .i64 x, .int .i64 y, .int .i64 z, .bool r], tmps.getD u undef]) w := by
  rw [results_cell_tmp h, hp]
  have := run_loadVar_mid w b 0 28 [.int .i64 x, .int .i64 y, .int .i64 z, .bool r] _ he.range Try.underlying28 rfl size_ln
  simp only [asAddr, Sem.run_pure, Result.andThen_ok]
  rw [this]
  rfl
/-- two lines compared -/
theorem run_eqLd (d : Nat) (a p f : Int) (r : Bool) (a' p' f' : Int) (r' : Bool) (w : World) :
    (Op.equalIn (d + 2) 28 (.agg #[.int .i64 a, .int .i64 p, .int .i64 f, .bool r]) (.agg #[.int .i64 a', .int .i64 p', .int .i64 f', .bool r'])).run Try.prog w = .ok (decide ((⟨a, p, f, r⟩ : Ln) = ⟨a', p', f', r'⟩)) w := by
  have hF : (Try.prog.fieldsOf 28).toList.map (fun f => (f.name == "_", f.type, f.offset)) = [(false, 3, 0), (false, 3, 1), (false, 3, 2), (false, 4, 3)] := by kernel_rfl
  rw [run_equalIn_struct w (d + 1) _ _ _ (by kernel_rfl) (by kernel_rfl)]
  have hag : ∀ (e : TypeId) (d : TypeDesc), Try.prog.underlying e = some d → d.isRow = false → (isAgg e).run Try.prog w = .ok false w := by
    intro e d he hd
    unfold isAgg
    rw [Sem.run_bind, run_underlying he w]
    cases d <;> first | rfl | cases hd
  have hpart : ∀ (e : TypeId) (d : TypeDesc), Try.prog.underlying e = some d → d.isRow = false → ∀ (cs : Array Value) (i : Nat) (x : Value), cs[i]? = some x → (part e cs i).run Try.prog w = .ok x w := by
    intro e d he hd cs i x hx
    unfold part
    rw [Sem.run_bind, hag e d he hd]
    simp only [Result.andThen_ok, Bool.false_eq_true, if_false, hx]
    rfl
  have hlen := congrArg List.length hF
  rw [List.length_map] at hlen
  generalize (Try.prog.fieldsOf 28).toList = L at hF hlen ⊢
  match L, hlen with
  | [g0, g1, g2, g3], _ =>
    simp only [List.map_cons, List.map_nil, List.cons.injEq, Prod.mk.injEq, and_true] at hF
    obtain ⟨⟨n0, t0, o0⟩, ⟨n1, t1, o1⟩, ⟨n2, t2, o2⟩, ⟨n3, t3, o3⟩⟩ := hF
    have n0 : g0.name ≠ "_" := by simpa using n0
    have n1 : g1.name ≠ "_" := by simpa using n1
    have n2 : g2.name ≠ "_" := by simpa using n2
    have n3 : g3.name ≠ "_" := by simpa using n3
    have ub := Try.underlying4
    have ui := Try.underlying3
    have step : ∀ (X Y : Array Value) (g : Field) (fs : List Field) (x y : Value) (q : Bool), g.name ≠ "_" → (part g.type X g.offset).run Try.prog w = .ok x w → (part g.type Y g.offset).run Try.prog w = .ok y w →
        (Op.equalIn (d + 1) g.type x y).run Try.prog w = .ok q w → (Op.eqFields (d + 1) X Y (g :: fs)).run Try.prog w = if q = true then (Op.eqFields (d + 1) X Y fs).run Try.prog w else .ok false w := by
      intro X Y g fs x y q hn hx hy hq
      rw [Op.eqFields, if_pos hn, Sem.run_bind, hx, Result.andThen_ok, Sem.run_bind, hy, Result.andThen_ok, Sem.run_bind, hq, Result.andThen_ok]
      cases q
      · rfl
      · rfl
    rw [step _ _ g0 _ (.int .i64 a) (.int .i64 a') (a == a') n0 (by rw [t0, o0]; exact hpart _ _ ui rfl _ _ _ rfl) (by rw [t0, o0]; exact hpart _ _ ui rfl _ _ _ rfl) (by rw [t0]; exact run_equalIn_int w d _ .i64 .i64 _ _ ui),
      step _ _ g1 _ (.int .i64 p) (.int .i64 p') (p == p') n1 (by rw [t1, o1]; exact hpart _ _ ui rfl _ _ _ rfl) (by rw [t1, o1]; exact hpart _ _ ui rfl _ _ _ rfl) (by rw [t1]; exact run_equalIn_int w d _ .i64 .i64 _ _ ui),
      step _ _ g2 _ (.int .i64 f) (.int .i64 f') (f == f') n2 (by rw [t2, o2]; exact hpart _ _ ui rfl _ _ _ rfl) (by rw [t2, o2]; exact hpart _ _ ui rfl _ _ _ rfl) (by rw [t2]; exact run_equalIn_int w d _ .i64 .i64 _ _ ui),
      step _ _ g3 _ (.bool r) (.bool r') (r == r') n3 (by rw [t3, o3]; exact hpart _ _ ub rfl _ _ _ rfl) (by rw [t3, o3]; exact hpart _ _ ub rfl _ _ _ rfl) (by rw [t3]; exact run_equalIn_bool' w d _ _ _ ub)]
    by_cases e1 : a = a'
    · by_cases e2 : p = p'
      · by_cases e3 : f = f'
        · by_cases e4 : r = r'
          · simp [e1, e2, e3, e4, Op.eqFields]
          · simp [e1, e2, e3, e4]
        · simp [e1, e2, e3]
      · simp [e1, e2]
    · simp [e1]
theorem run_eqL (a p f : Int) (r : Bool) (a' p' f' : Int) (r' : Bool) (b : Bool) (hb : decide ((⟨a, p, f, r⟩ : Ln) = ⟨a', p', f', r'⟩) = b) (w : World) :
    (Op.equalIn 10000 28 (.agg #[.int .i64 a, .int .i64 p, .int .i64 f, .bool r]) (.agg #[.int .i64 a', .int .i64 p', .int .i64 f', .bool r'])).run Try.prog w = .ok b w := by
  subst hb
  exact run_eqLd 9998 a p f r a' p' f' r' w
/-- an array of lines, indexed -/
theorem run_index_lns (S : Nat → Ln) (n : Nat) (kk : IntKind) (i : Nat) (hi : i < 8) (hn : n = 8) (w : World) :
    (Instr.index 29 (.agg (rowC Ln.c S n).toArray) (.int kk i)).run Try.prog w = .ok (.agg #[.int .i64 (S i).a, .int .i64 (S i).p, .int .i64 (S i).f, .bool (S i).w]) w := by
  subst hn
  have hz : (sizeOf 28).run Try.prog w = .ok 4 w := by kernel_rfl
  have hag : (isAgg 28).run Try.prog w = .ok true w := by kernel_rfl
  unfold Instr.index
  rw [Sem.run_bind, show (asIntOf (.int kk (i : Int))).run Try.prog w = .ok (kk, (i : Int)) w from rfl, Result.andThen_ok]
  simp only [Sem.run_bind, run_underlying Try.underlying29, Result.andThen_ok]
  rw [if_pos (by omega)]
  simp only [Sem.run_bind, hz, Result.andThen_ok, Int.toNat_natCast]
  unfold part
  rw [Sem.run_bind, hag]
  simp only [Result.andThen_ok, if_true, Sem.run_bind, hz]
  rw [Sem.run_pure]
  have e : ((rowC Ln.c S 8).toArray.extract (i * 4) (i * 4 + 4)) = #[.int .i64 (S i).a, .int .i64 (S i).p, .int .i64 (S i).f, .bool (S i).w] := by
    apply Array.ext'
    apply List.ext_getElem?
    intro j
    have hl := rowC_len Ln.c_len S 8
    by_cases hj : j < 4
    · have := rowC_at Ln.c_len S 8 i j hi hj
      simp only [List.extract_toArray, List.extract_eq_take_drop, Nat.add_sub_cancel_left]
      rw [List.getElem?_take_of_lt hj, List.getElem?_drop, this]
      rfl
    · rw [List.getElem?_eq_none (by simp; omega), List.getElem?_eq_none (by simp; omega)]
  rw [e]
/-! small functions -/
set_option maxHeartbeats 400000 in
theorem tempty_any (a p f : Int) (r : Bool) (w : World) :
    Calls Try.prog 30 #[.agg #[.int .i64 a, .int .i64 p, .int .i64 f, .bool r]] w fun e w' => e = .returned (.bool (decide (a = 0))) ∧ Upd (fun _ => False) w w' := by
  have U := Lib.hid (fun o => (Upd.refl (fun _ => False) w).alloc o)
  go_enter Try.func30, Try.ntmps30
  go_wp2
  go_ret
  exact ⟨rfl, U.out _⟩
set_option maxHeartbeats 400000 in
theorem tbelow_any (n k : Int) (w : World) : Calls Try.prog 22 #[.int .i64 n, .int .i64 k] w fun e w' => e = .returned (.bool (decide (0 ≤ n ∧ n < k))) ∧ w = w' := by
  by_cases h : 0 ≤ n
  · have hv := Lib.hid (show decide (0 ≤ n ∧ n < k) = decide (n < k) from by rw [Bool.eq_iff_iff]; simp [h])
    go_enter Try.func22, Try.ntmps22
    go_wp2
    go_ret
    exact ⟨by rw [hv.out]; rfl, rfl⟩
  · go_enter Try.func22, Try.ntmps22
    go_wp2
    go_ret
    exact ⟨by simp; omega, rfl⟩
/-- may it be put, but for the place? -/
def lineB (a p f : Int) : Bool := decide (1 ≤ a ∧ a ≤ 8 ∧ (0 ≤ p ∧ p < 4096) ∧ (0 ≤ f ∧ f < 256))
set_option maxHeartbeats 400000 in
theorem tline_any (a p f : Int) (r : Bool) (w : World) :
    Calls Try.prog 21 #[.agg #[.int .i64 a, .int .i64 p, .int .i64 f, .bool r]] w fun e w' => e = .returned (.bool (lineB a p f)) ∧ Upd (fun _ => False) w w' := by
  have U := Lib.hid (fun o => (Upd.refl (fun _ => False) w).alloc o)
  have c1 := Lib.hid (fun W => tbelow_any p 4096 W)
  have c2 := Lib.hid (fun W => tbelow_any f 256 W)
  have hv : Hid (lineB a p f = (decide (1 ≤ a) && (decide (a ≤ 8) && (decide (0 ≤ p ∧ p < 4096) && decide (0 ≤ f ∧ f < 256))))) := Lib.hid (by unfold lineB; rw [Bool.eq_iff_iff]; simp)
  generalize lineB a p f = x at hv ⊢
  generalize decide (0 ≤ p ∧ p < 4096) = y at hv c1
  generalize decide (0 ≤ f ∧ f < 256) = z at hv c2
  have hb := hv.out
  clear hv
  by_cases h1 : 1 ≤ a
  · by_cases h2 : a ≤ 8
    · have : x = (y && z) := by rw [hb]; simp [h1, h2]
      clear hb
      cases y
      · obtain rfl : x = false := this
        go_enter Try.func21, Try.ntmps21
        go_wp2_with (go_at_call 22; refine (c1.out _).mono ?_; rintro e w1 ⟨rfl, rfl⟩)
        go_ret
        exact ⟨rfl, U.out _⟩
      · obtain rfl : x = z := this
        go_enter Try.func21, Try.ntmps21
        go_wp2_with fail
        refine (c1.out _).mono ?_
        rintro e w1 ⟨rfl, rfl⟩
        go_wp2_with fail
        refine (c2.out _).mono ?_
        rintro e w1 ⟨rfl, rfl⟩
        go_wp2
        go_ret
        exact ⟨rfl, U.out _⟩
    · obtain rfl : x = false := by rw [hb]; simp [h1, h2]
      clear hb
      go_enter Try.func21, Try.ntmps21
      go_wp2
      go_ret
      exact ⟨rfl, U.out _⟩
  · obtain rfl : x = false := by rw [hb]; simp [h1]
    clear hb
    go_enter Try.func21, Try.ntmps21
    go_wp2
    go_ret
    exact ⟨rfl, U.out _⟩
/-- a number in a box of its own -/
def NumAt (w : World) (b : Nat) (x : Int) : Prop := w.heap[b]? = some (.cells #[.int .i64 x] 3 (0, 0))
theorem NumAt.kept {S : Nat → Prop} {w w' : World} {b : Nat} {x : Int} (h : NumAt w b x) (u : Upd S w w') (hs : ¬ S b) : NumAt w' b x := u.at h hs
theorem NumAt.cell {w : World} {b : Nat} {x : Int} (h : NumAt w b x) : w.cell? ⟨b, 0, none⟩ = some (.int .i64 x) := by rw [cell_of_row w b _ _ _ _ h]; rfl
set_option maxHeartbeats 400000 in
theorem tsame_any (a p : Int) (w : World) :
    Calls Try.prog 26 #[.int .i64 a, .int .i64 p] w fun e w' => ∃ B1 B2, e = .returned (.func (.func 31) #[] #[.pointer (some ⟨B1, 0, none⟩), .pointer (some ⟨B2, 0, none⟩)]) ∧ w.heap.size ≤ B1 ∧ w.heap.size ≤ B2 ∧ NumAt w' B1 a ∧ NumAt w' B2 p ∧ Upd (fun _ => False) w w' := by
  have U := Lib.hid (fun o o' => ((Upd.refl (fun _ => False) w).alloc o).alloc o')
  have h1 : Hid (NumAt ((w.alloc (.cells #[.int .i64 a] 3)).alloc (.cells #[.int .i64 p] 3)) w.heap.size a) := Lib.hid (by unfold NumAt; rw [Below.heap_alloc _ _ _ (by simp)]; exact heap_alloc_last _ _)
  have h2 : Hid (NumAt ((w.alloc (.cells #[.int .i64 a] 3)).alloc (.cells #[.int .i64 p] 3)) (w.heap.size + 1) p) := Lib.hid (by
    have := heap_alloc_last (w.alloc (.cells #[.int .i64 a] 3)) (.cells #[.int .i64 p] 3)
    rwa [World.size_alloc] at this)
  go_enter Try.func26, Try.ntmps26
  go_wp2
  go_ret
  exact ⟨_, _, rfl, Nat.le_refl _, by omega, h1.out, h2.out, U.out _ _⟩
set_option maxHeartbeats 400000 in
theorem tsame1_any (a p f : Int) (r : Bool) (x y : Int) (B1 B2 : Nat) (w : World) (h1 : NumAt w B1 x) (h2 : NumAt w B2 y) :
    Calls Try.prog 31 #[.agg #[.int .i64 a, .int .i64 p, .int .i64 f, .bool r], .pointer (some ⟨B1, 0, none⟩), .pointer (some ⟨B2, 0, none⟩)] w fun e w' => e = .returned (.bool (!decide (a = 0) && decide (a = x) && decide (p = y))) ∧ Upd (fun _ => False) w w' := by
  have U := Lib.hid (fun o => (Upd.refl (fun _ => False) w).alloc o)
  have c1 := Lib.hid (fun W => tempty_any a p f r W)
  have k1 := Lib.hid (fun W (u : Upd (fun _ => False) w W) => (h1.kept u id).cell)
  have k2 := Lib.hid (fun W (u : Upd (fun _ => False) w W) => (h2.kept u id).cell)
  have k0 : Hid (LnAt (w.alloc (.cells #[.int .i64 a, .int .i64 p, .int .i64 f, .bool r] 28)) w.heap.size a p f r) := Lib.hid (heap_alloc_last w _)
  clear h1 h2
  go_enter Try.func31, Try.ntmps31
  go_wp2_with fail
  refine (c1.out _).mono ?_
  rintro e w1 ⟨rfl, u⟩
  have U1 := Lib.hid ((U.out _).trans u)
  have K1 := k1.out _ U1.out
  have K2 := k2.out _ U1.out
  have K0 : LnAt w1 w.heap.size a p f r := k0.out.kept u id
  have q0 := K0.range 0 _ rfl
  have q1 := K0.range 1 _ rfl
  clear k1 k2 k0 K0 u c1
  generalize w.heap.size = C at q0 q1 ⊢
  go_wp2
  all_goals go_ret
  all_goals exact ⟨by first | (simp_all; done) | (simp_all; rw [Bool.eq_iff_iff]; simp), U1.out⟩
set_option maxHeartbeats 400000 in
theorem tflush1_any (a p f : Int) (r : Bool) (x : Int) (B1 : Nat) (w : World) (h1 : NumAt w B1 x) :
    Calls Try.prog 27 #[.agg #[.int .i64 a, .int .i64 p, .int .i64 f, .bool r], .pointer (some ⟨B1, 0, none⟩)] w fun e w' => e = .returned (.bool (decide (a = x))) ∧ Upd (fun _ => False) w w' := by
  have U := Lib.hid (fun o => (Upd.refl (fun _ => False) w).alloc o)
  have k1 := Lib.hid (fun W (u : Upd (fun _ => False) w W) => (h1.kept u id).cell)
  have k2 := k1.out _ (U.out (.cells #[.int .i64 a, .int .i64 p, .int .i64 f, .bool r] 28))
  clear k1 h1
  go_enter Try.func27, Try.ntmps27
  go_wp2
  go_ret
  exact ⟨rfl, U.out _⟩
set_option maxHeartbeats 400000 in
theorem tclear1_any (v : Value) (a p f : Int) (r : Bool) (hv : v = .agg #[.int .i64 a, .int .i64 p, .int .i64 f, .bool r]) (w : World) :
    Calls Try.prog 28 #[v] w fun e w' => e = .returned (.bool true) ∧ Upd (fun _ => False) w w' := by
  subst hv
  have U := Lib.hid (fun o => (Upd.refl (fun _ => False) w).alloc o)
  go_enter Try.func28, Try.ntmps28
  go_wp2
  go_ret
  exact ⟨rfl, U.out _⟩
end Go.Proofs.Ytjkomkcjoooiiaa

/-
  Package tlb: the library's search over the places of a buffer; place, remove.
-/
namespace Go.Proofs.Ytjkomkcjoooiiaa
open Go.ChangeShapes Go.WideShapes Go.ChangeAt Go.RowKit Go.Shelf

/-- what is asked of a function that is asked about lines -/
structure Asks (A g : Nat) (caps : Array Value) (J : World → Prop) (q : Ln → Bool) : Prop where
  kept : ∀ W W', J W → Upd (· = A) W W' → J W'
  ask : ∀ (a p f : Int) (r : Bool) W, J W → Calls Try.prog g (#[.agg #[.int .i64 a, .int .i64 p, .int .i64 f, .bool r]] ++ caps) W fun e W' => e = .returned (.bool (q ⟨a, p, f, r⟩)) ∧ Upd (fun _ => False) W W'
def ixI (k : Nat) : Int := if k < 8 then k else -1
set_option maxHeartbeats 400000 in
theorem tindex_any (A g : Nat) (eg : Enters Try.prog g) (caps : Array Value) (J : World → Prop) (q : Ln → Bool) (hq : Asks A g caps J q) (B : Buf) (w : World) (hA : BufAt w A B) (hJ : J w) :
    Calls Try.prog 29 #[.slice (some ⟨A, 0, none⟩) 8 8, .func (.func g) #[] caps] w fun e W' => e = .returned (.int .i64 (ixI (Buf.first (fun i => q (B.ln i)) 8))) ∧ Upd (fun _ => False) w W' := by
  have eg2 : ∀ args w, Sem.run Try.prog (callFunc g args) w = .ok (.enter g args) w := eg
  go_enter Try.func29, Try.ntmps29
  go_wp2_with fail
  go_loopw [8, 5] (fun t u wr => ∃ k : Nat, k ≤ 8 ∧ t = .int .i64 k ∧ Upd (fun _ => False) w wr ∧ Hid (∀ j, j < k → q (B.ln j) = false)) (fun t _ _ => 8 - (intOf t).toNat)
  case atStart => exact ⟨0, by omega, rfl, Upd.refl _ _, Lib.hid (by omega)⟩
  case round =>
    obtain ⟨k, hk, rfl, u, hno⟩ := hrel
    by_cases hlt : k < 8
    · have hs := fun W (U : Upd (fun _ => False) w W) => hq.ask (B.ln k).a (B.ln k).p (B.ln k).f (B.ln k).w W (hq.kept _ _ hJ (U.mono fun _ _ h => h.elim))
      have hr := (hA.kept u id).range k hlt
      have hs1 := Lib.hid (hs _ u)
      clear hs
      obtain ⟨Q, hQ⟩ : ∃ Q, Q = q (B.ln k) := ⟨_, rfl⟩
      have hQ' := Lib.hid hQ
      rw [show q ⟨(B.ln k).a, (B.ln k).p, (B.ln k).f, (B.ln k).w⟩ = q (B.ln k) from rfl, ← hQ] at hs1
      clear hQ
      generalize (B.ln k).a = la at hr hs1
      generalize (B.ln k).p = lp at hr hs1
      generalize (B.ln k).f = lf at hr hs1
      generalize (B.ln k).w = lw at hr hs1
      cases Q
      · go_wp2_with (first
          | (with_reducible refine wpList_load_sz rfl 28 (.tmp 14) rfl A (k * 4) rfl [.int .i64 la, .int .i64 lp, .int .i64 lf, .bool lw] _ hr Try.underlying28 rfl 4 (ln_len _ _ _ _) size_ln ?_)
          | (go_at_fn g; refine hs1.out.mono ?_; rintro e W' ⟨rfl, u'⟩))
        go_roundw
        case rel => exact ⟨k + 1, by omega, by go_num, u.trans u', Lib.hid fun j hj => by
          by_cases e : j = k
          · rw [e]; exact hQ'.out.symm
          · exact hno.out j (by omega)⟩
        case measure => simp [intOf]; omega
      · go_wp2_with (first
          | (with_reducible refine wpList_load_sz rfl 28 (.tmp 14) rfl A (k * 4) rfl [.int .i64 la, .int .i64 lp, .int .i64 lf, .bool lw] _ hr Try.underlying28 rfl 4 (ln_len _ _ _ _) size_ln ?_)
          | (go_at_fn g; refine hs1.out.mono ?_; rintro e W' ⟨rfl, u'⟩))
        go_ret
        refine ⟨?_, u.trans u'⟩
        rw [first_of hlt hQ'.out.symm hno.out]
        unfold ixI
        rw [if_pos hlt]
        rfl
    · obtain rfl : k = 8 := by omega
      go_wp2
      go_ret
      refine ⟨?_, u⟩
      rw [first_all hno.out]
      rfl
/-! a new box -/
theorem ln_box (w : World) (a p f : Int) (r : Bool) :
    LnAt ((w.alloc (.cells #[.int .i64 0, .int .i64 0, .int .i64 0, .bool false] 28)).setCells w.heap.size 0 [.int .i64 a, .int .i64 p, .int .i64 f, .bool r]) w.heap.size a p f r ∧
    Upd (fun _ => False) w ((w.alloc (.cells #[.int .i64 0, .int .i64 0, .int .i64 0, .bool false] 28)).setCells w.heap.size 0 [.int .i64 a, .int .i64 p, .int .i64 f, .bool r]) ∧
    (w.alloc (.cells #[.int .i64 0, .int .i64 0, .int .i64 0, .bool false] 28)).there w.heap.size 0 4 := by
  have h0 : LnAt (w.alloc (.cells #[.int .i64 0, .int .i64 0, .int .i64 0, .bool false] 28)) w.heap.size 0 0 0 false := heap_alloc_last w _
  exact ⟨h0.set a p f r, Upd.setCells (.inr (Nat.le_refl _)) _ _ ((Upd.refl _ _).alloc _), h0.there⟩
/-! what is removed -/
def Buf.sel (B : Buf) (q : Ln → Bool) (j : Nat) : Bool := match B j with
  | some l => q l
  | none => false
def Buf.wipeTo (B : Buf) (q : Ln → Bool) (k : Nat) : Buf := fun j => if j < k ∧ B.sel q j = true then none else B j
def Buf.cntTo (B : Buf) (q : Ln → Bool) (k : Nat) : Nat := ((List.range k).filter (B.sel q)).length
theorem Buf.wipeTo_zero (B : Buf) (q : Ln → Bool) : B.wipeTo q 0 = B := by
  funext j; unfold Buf.wipeTo; rw [if_neg (by omega)]
theorem Buf.wipeTo_no {B : Buf} {q : Ln → Bool} {k : Nat} (h : B.sel q k = false) : B.wipeTo q (k + 1) = B.wipeTo q k := by
  funext j
  unfold Buf.wipeTo
  by_cases e : j = k
  · subst e; rw [if_neg (by rw [h]; simp), if_neg (by omega)]
  · by_cases c : j < k ∧ B.sel q j = true
    · rw [if_pos ⟨by omega, c.2⟩, if_pos c]
    · rw [if_neg (fun d => c ⟨by omega, d.2⟩), if_neg c]
theorem Buf.wipeTo_yes {B : Buf} {q : Ln → Bool} {k : Nat} (h : B.sel q k = true) : B.wipeTo q (k + 1) = (B.wipeTo q k).set k none := by
  funext j
  show (if j < k + 1 ∧ B.sel q j = true then none else B j) = if j = k then none else if j < k ∧ B.sel q j = true then none else B j
  by_cases e : j = k
  · subst e; rw [if_pos ⟨by omega, h⟩, if_pos rfl]
  · rw [if_neg e]
    by_cases c : j < k ∧ B.sel q j = true
    · rw [if_pos ⟨by omega, c.2⟩, if_pos c]
    · rw [if_neg (fun d => c ⟨by omega, d.2⟩), if_neg c]
theorem Buf.cntTo_no {B : Buf} {q : Ln → Bool} {k : Nat} (h : B.sel q k = false) : B.cntTo q (k + 1) = B.cntTo q k := by
  unfold Buf.cntTo; rw [List.range_succ, List.filter_append]; simp [h]
theorem Buf.cntTo_yes {B : Buf} {q : Ln → Bool} {k : Nat} (h : B.sel q k = true) : B.cntTo q (k + 1) = B.cntTo q k + 1 := by
  unfold Buf.cntTo; rw [List.range_succ, List.filter_append]; simp [h]
theorem Buf.cntTo_le (B : Buf) (q : Ln → Bool) (k : Nat) : B.cntTo q k ≤ k := by
  unfold Buf.cntTo; exact Nat.le_trans (List.length_filter_le _ _) (by simp)
set_option maxHeartbeats 1000000 in
theorem tremove_any (A g : Nat) (eg : Enters Try.prog g) (caps : Array Value) (J : World → Prop) (q : Ln → Bool) (hq : Asks A g caps J q) (B : Buf) (hB : B.Ok) (w : World) (hA : BufAt w A B) (hJ : J w) :
    Calls Try.prog 25 #[.pointer (some ⟨A, 0, none⟩), .func (.func g) #[] caps] w fun e W' => e = .returned (.int .i64 (B.cntTo q 8 : Nat)) ∧ BufAt W' A (B.wipeTo q 8) ∧ Upd (· = A) w W' := by
  have eg2 : ∀ args w, Sem.run Try.prog (callFunc g args) w = .ok (.enter g args) w := eg
  obtain ⟨X, hX⟩ : ∃ X, X = rowC Ln.c B.ln 8 := ⟨_, rfl⟩
  have hr := hA.rangeAll
  rw [← hX] at hr
  have hl : X.length = 32 := by rw [hX, rowC_len Ln.c_len]
  have hix := Lib.hid (fun (i : Nat) (hi : i < 8) (W : World) => run_index_lns B.ln 8 .i64 i hi rfl W)
  rw [← hX] at hix
  clear hX
  have h0 : BufAt w A (B.wipeTo q 0) := by rw [B.wipeTo_zero]; exact hA
  clear hA
  go_enter Try.func25, Try.ntmps25
  go_wp2_with (with_reducible refine wpList_load_sz rfl 29 (.tmp 10) rfl A 0 rfl X _ hr Try.underlying29 rfl 32 hl size_lns ?_)
  clear hr hl
  go_loopw [12, 5] (fun t u wr => ∃ k : Nat, k ≤ 8 ∧ t = .int .i64 k ∧ u = .int .i64 (B.cntTo q k : Nat) ∧ BufAt wr A (B.wipeTo q k) ∧ Upd (· = A) w wr) (fun t _ _ => 8 - (intOf t).toNat)
  case atStart => exact ⟨0, by omega, rfl, rfl, h0, Upd.refl _ _⟩
  case round =>
    obtain ⟨k, hk, rfl, rfl, hA, u⟩ := hrel
    by_cases hlt : k < 8
    · have hi := hix.out k hlt
      have hc := B.cntTo_le q k
      have hq1 := Lib.hid (fun W (U : Upd (· = A) w W) => hq.ask (B.ln k).a (B.ln k).p (B.ln k).f (B.ln k).w W (hq.kept _ _ hJ U))
      have hem := Lib.hid (hB.empty k)
      have hsel : Hid (B k ≠ none → B.sel q k = q (B.ln k)) := Lib.hid (by unfold Buf.sel Buf.ln; cases B k with | none => intro h; exact absurd rfl h | some l => intro _; rfl)
      have hsel0 : Hid (B k = none → B.sel q k = false) := Lib.hid (by unfold Buf.sel; intro h; rw [h])
      obtain ⟨Q, hQ⟩ : ∃ Q, Q = q (B.ln k) := ⟨_, rfl⟩
      rw [show q ⟨(B.ln k).a, (B.ln k).p, (B.ln k).f, (B.ln k).w⟩ = q (B.ln k) from rfl, ← hQ] at hq1
      rw [← hQ] at hsel
      clear hQ hix
      obtain ⟨b1, b2, b3⟩ := ln_box wr (B.ln k).a (B.ln k).p (B.ln k).f (B.ln k).w
      have e1 := Lib.hid (fun W => tempty_any (B.ln k).a (B.ln k).p (B.ln k).f (B.ln k).w W)
      generalize (B.ln k).a = la at hi hq1 hem b1 b2 b3 e1
      generalize (B.ln k).p = lp at hi hq1 b1 b2 b3 e1
      generalize (B.ln k).f = lf at hi hq1 b1 b2 b3 e1
      generalize (B.ln k).w = lw at hi hq1 b1 b2 b3 e1
      obtain ⟨V, hV⟩ : ∃ V, V = decide (la = 0) := ⟨_, rfl⟩
      rw [← hV] at hem e1
      clear hV
      have A1 : Hid (BufAt _ A (B.wipeTo q k)) := Lib.hid (hA.kept b2 id)
      have U1 : Hid (Upd (· = A) w _) := Lib.hid (u.trans (b2.mono fun _ _ h => h.elim))
      have B1 := Lib.hid b1
      have B3 := Lib.hid b3
      clear b1 b2 b3
      go_upto_region 5 with (first
        | (with_reducible refine wpList_store_sz rfl 28 (.tmp 7) (.tmp 15) rfl wr.heap.size 0 #[.int .i64 la, .int .i64 lp, .int .i64 lf, .bool lw] rfl rfl 4 (ln_sz _ _ _ _) B3.out size_ln (ln_one _ _ _ _) [.int .i64 la, .int .i64 lp, .int .i64 lf, .bool lw] (ln_ls _ _ _ _) ?_))
      clear B3 hi u hA h0
      generalize (wr.alloc (.cells #[.int .i64 0, .int .i64 0, .int .i64 0, .bool false] 28)).setCells wr.heap.size 0 [.int .i64 la, .int .i64 lp, .int .i64 lf, .bool lw] = w1 at A1 U1 B1 ⊢
      generalize wr.heap.size = C at B1 ⊢
      have r1 := B1.out.range
      go_wp2_with (with_reducible refine wpList_load_sz rfl 28 (.tmp 7) rfl C 0 rfl [.int .i64 la, .int .i64 lp, .int .i64 lf, .bool lw] _ r1 Try.underlying28 rfl 4 (ln_len _ _ _ _) size_ln ?_)
      refine (e1.out _).mono ?_
      rintro e w2 ⟨rfl, u2⟩
      have A2 : Hid (BufAt w2 A (B.wipeTo q k)) := Lib.hid (A1.out.kept u2 id)
      have U2 : Hid (Upd (· = A) w w2) := Lib.hid (U1.out.trans (u2.mono fun _ _ h => h.elim))
      have r2 := (B1.out.kept u2 id).range
      clear A1 U1 r1 B1 e1 u2
      cases V
      · have hne : B k ≠ none := fun h => by have := hem.out; rw [h] at this; cases this
        have hs : Hid (B.sel q k = Q) := Lib.hid (hsel.out hne)
        have q1 := Lib.hid (hq1.out _ U2.out)
        clear hq1 hsel hsel0 hne hem
        cases Q
        · go_wp2_with (first
            | (with_reducible refine wpList_load_sz rfl 28 (.tmp 7) rfl C 0 rfl [.int .i64 la, .int .i64 lp, .int .i64 lf, .bool lw] _ r2 Try.underlying28 rfl 4 (ln_len _ _ _ _) size_ln ?_)
            | (go_at_fn g; refine q1.out.mono ?_; rintro e w3 ⟨rfl, u3⟩))
          go_roundw
          case rel => exact ⟨k + 1, by omega, by go_num, by rw [Buf.cntTo_no hs.out], by rw [Buf.wipeTo_no hs.out]; exact A2.out.kept u3 id, U2.out.trans (u3.mono fun _ _ h => h.elim)⟩
          case measure => simp [intOf]; omega
        · go_upto_region 6 with (first
            | (with_reducible refine wpList_load_sz rfl 28 (.tmp 7) rfl C 0 rfl [.int .i64 la, .int .i64 lp, .int .i64 lf, .bool lw] _ r2 Try.underlying28 rfl 4 (ln_len _ _ _ _) size_ln ?_)
            | (go_at_fn g; refine q1.out.mono ?_; rintro e w3 ⟨rfl, u3⟩))
          have A3 : Hid (BufAt w3 A (B.wipeTo q k)) := Lib.hid (A2.out.kept u3 id)
          have U3 : Hid (Upd (· = A) w w3) := Lib.hid (U2.out.trans (u3.mono fun _ _ h => h.elim))
          clear A2 U2 r2 q1 u3
          have T3 := A3.out.there k hlt
          go_upto_region 7 with (first
            | (with_reducible refine wpList_store_sz rfl 28 (.tmp 29) (.tmp 26) rfl A (k * 4) #[.int .i64 0, .int .i64 0, .int .i64 0, .bool false] rfl rfl 4 (ln_sz _ _ _ _) T3 size_ln (ln_one _ _ _ _) [.int .i64 0, .int .i64 0, .int .i64 0, .bool false] (ln_ls _ _ _ _) ?_))
          have A4 : Hid (BufAt (w3.setCells A (k * 4) [.int .i64 0, .int .i64 0, .int .i64 0, .bool false]) A ((B.wipeTo q k).set k none)) := Lib.hid (A3.out.set k hlt none)
          have U4 : Hid (Upd (· = A) w (w3.setCells A (k * 4) [.int .i64 0, .int .i64 0, .int .i64 0, .bool false])) := Lib.hid (Upd.setCells (S := (· = A)) (.inl rfl) _ _ U3.out)
          clear A3 U3 T3
          generalize w3.setCells A (k * 4) [.int .i64 0, .int .i64 0, .int .i64 0, .bool false] = w4 at A4 U4 ⊢
          go_wp2
          go_roundw
          case rel => exact ⟨k + 1, by omega, by go_num, by rw [Buf.cntTo_yes hs.out]; go_num, by rw [Buf.wipeTo_yes hs.out]; exact A4.out, U4.out⟩
          case measure => simp [intOf]; omega
      · have hs : Hid (B.sel q k = false) := Lib.hid (hsel0.out (by have := hem.out; cases h : B k with | none => rfl | some l => rw [h] at this; cases this))
        clear hq1 hsel hsel0 hem
        go_wp2
        go_roundw
        case rel => exact ⟨k + 1, by omega, by go_num, by rw [Buf.cntTo_no hs.out], by rw [Buf.wipeTo_no hs.out]; exact A2.out, U2.out⟩
        case measure => simp [intOf]; omega
    · obtain rfl : k = 8 := by omega
      go_wp2
      go_ret
      exact ⟨rfl, hA, u⟩
end Go.Proofs.Ytjkomkcjoooiiaa

/-
  Package tlb: place, Find, Put, Drop, Flush, Clear.
-/
namespace Go.Proofs.Ytjkomkcjoooiiaa
open Go.ChangeShapes Go.WideShapes Go.ChangeAt Go.RowKit Go.Shelf

def qSame (a p : Int) (l : Ln) : Bool := !decide (l.a = 0) && decide (l.a = a) && decide (l.p = p)
theorem asks_same (A : Nat) (a p : Int) (B1 B2 : Nat) (h1 : B1 ≠ A) (h2 : B2 ≠ A) : Asks A 31 #[.pointer (some ⟨B1, 0, none⟩), .pointer (some ⟨B2, 0, none⟩)] (fun W => NumAt W B1 a ∧ NumAt W B2 p) (qSame a p) where
  kept := fun _ _ h u => ⟨h.1.kept u h1, h.2.kept u h2⟩
  ask := fun x y z r W h => tsame1_any x y z r a p B1 B2 W h.1 h.2
theorem asks_empty (A : Nat) : Asks A 30 #[] (fun _ => True) (fun l => decide (l.a = 0)) where
  kept := fun _ _ _ _ => trivial
  ask := fun x y z r W _ => tempty_any x y z r W
theorem asks_flush (A : Nat) (a : Int) (B1 : Nat) (h1 : B1 ≠ A) : Asks A 27 #[.pointer (some ⟨B1, 0, none⟩)] (fun W => NumAt W B1 a) (fun l => decide (l.a = a)) where
  kept := fun _ _ h u => h.kept u h1
  ask := fun x y z r W h => tflush1_any x y z r a B1 W h
theorem asks_clear (A : Nat) : Asks A 28 #[] (fun _ => True) (fun _ => true) where
  kept := fun _ _ _ _ => trivial
  ask := fun x y z r W _ => tclear1_any _ x y z r rfl W
theorem Buf.Ok.first_same {B : Buf} (h : B.Ok) (a p : Int) : Buf.first (fun i => qSame a p (B.ln i)) 8 = B.at a p := by
  unfold Buf.at
  congr 1
  funext i
  exact h.hits a p i
theorem Buf.Ok.first_empty {B : Buf} (h : B.Ok) : Buf.first (fun i => decide ((B.ln i).a = 0)) 8 = B.gap := by
  unfold Buf.gap
  congr 1
  funext i
  exact h.empty i
theorem Upd.sub {S : Nat → Prop} {a b : World} (h : Upd (fun _ => False) a b) : Upd S a b := h.mono fun _ _ h => h.elim
/-- the search for a line, from a world in which the function was made -/
theorem tfind_ix (A : Nat) (B : Buf) (hB : B.Ok) (a p : Int) (B1 B2 : Nat) (w : World) (hA : BufAt w A B) (h1 : B1 ≠ A) (h2 : B2 ≠ A) (n1 : NumAt w B1 a) (n2 : NumAt w B2 p) :
    Calls Try.prog 29 #[.slice (some ⟨A, 0, none⟩) 8 8, .func (.func 31) #[] #[.pointer (some ⟨B1, 0, none⟩), .pointer (some ⟨B2, 0, none⟩)]] w fun e W' => e = .returned (.int .i64 (ixI (B.at a p))) ∧ Upd (fun _ => False) w W' := by
  have := tindex_any A 31 (enters_of Try.func31 (by kernel_rfl) rfl) _ _ _ (asks_same A a p B1 B2 h1 h2) B w hA ⟨n1, n2⟩
  rwa [hB.first_same] at this
theorem tgap_ix (A : Nat) (B : Buf) (hB : B.Ok) (w : World) (hA : BufAt w A B) :
    Calls Try.prog 29 #[.slice (some ⟨A, 0, none⟩) 8 8, .func (.func 30) #[] #[]] w fun e W' => e = .returned (.int .i64 (ixI B.gap)) ∧ Upd (fun _ => False) w W' := by
  have := tindex_any A 30 (enters_of Try.func30 (by kernel_rfl) rfl) _ _ _ (asks_empty A) B w hA trivial
  rwa [hB.first_empty] at this
theorem BufAt.lt {w : World} {A : Nat} {B : Buf} (h : BufAt w A B) : A < w.heap.size := lt_of_heap h
set_option maxHeartbeats 1000000 in
theorem tplace_any (A : Nat) (B : Buf) (hB : B.Ok) (la lp lf : Int) (lw : Bool) (at' : Int) (w : World) (hA : BufAt w A B) (hp : putOk ⟨la, lp, lf, lw⟩ at' = true) :
    Calls Try.prog 23 #[.pointer (some ⟨A, 0, none⟩), .agg #[.int .i64 la, .int .i64 lp, .int .i64 lf, .bool lw], .int .i64 at'] w fun e w' => e = .returned (.int .i64 (B.place ⟨la, lp, lf, lw⟩ at' : Nat)) ∧ Upd (fun _ => False) w w' := by
  have hpl : Hid (B.place ⟨la, lp, lf, lw⟩ at' = if B.at la lp < 8 then B.at la lp else if B.gap < 8 then B.gap else at'.toNat) := Lib.hid rfl
  have hat := Lib.hid (show ((at'.toNat : Nat) : Int) = at' from by have := of_decide_eq_true hp; omega)
  clear hp
  generalize B.place ⟨la, lp, lf, lw⟩ at' = R at hpl ⊢
  have k0 : Hid (LnAt (w.alloc (.cells #[.int .i64 la, .int .i64 lp, .int .i64 lf, .bool lw] 28)) w.heap.size la lp lf lw) := Lib.hid (heap_alloc_last w _)
  have U0 := Lib.hid ((Upd.refl (fun _ => False) w).alloc (.cells #[.int .i64 la, .int .i64 lp, .int .i64 lf, .bool lw] 28))
  have HA := Lib.hid hA
  have cS := Lib.hid (fun W => tsame_any la lp W)
  have cI := Lib.hid (fun B1 B2 W (hA : BufAt W A B) h1 h2 n1 n2 => tfind_ix A B hB la lp B1 B2 W hA h1 h2 n1 n2)
  have cG := Lib.hid (fun W (hA : BufAt W A B) => tgap_ix A B hB W hA)
  have hlt := hA.lt
  clear hA
  generalize B.at la lp = I at hpl cI
  generalize B.gap = G at hpl cG
  go_enter Try.func23, Try.ntmps23
  go_upto_region 1 with fail
  obtain ⟨w0, hw0⟩ : ∃ w0, w0 = w.alloc (.cells #[.int .i64 la, .int .i64 lp, .int .i64 lf, .bool lw] 28) := ⟨_, rfl⟩
  rw [← hw0] at k0 U0 ⊢
  clear hw0
  have hA0 := Lib.hid (HA.out.kept U0.out id)
  generalize w.heap.size = C at k0 ⊢
  have c0 := k0.out.range 0 _ rfl
  have c1 := k0.out.range 1 _ rfl
  have hS := Lib.hid (show ∀ (W' : World), Upd (fun _ => False) w0 W' → W'.cell? ⟨C, 0, none⟩ = some (.int .i64 la) ∧ W'.cell? ⟨C, 1, none⟩ = some (.int .i64 lp) ∧ Upd (fun _ => False) w0 W' from fun W' u => ⟨u.cell c0 id, u.cell c1 id, u⟩)
  go_cut [7] from 7 to 18 (fun s7 wx => s7 = .int .i64 (ixI I) ∧ Upd (fun _ => False) w0 wx)
  case first =>
    go_region_held3 (fun w' => w'.cell? ⟨C, 0, none⟩ = some (.int .i64 la) ∧ w'.cell? ⟨C, 1, none⟩ = some (.int .i64 lp) ∧ Upd (fun _ => False) w0 w')
      (first
        | assumption
        | exact hS.out _ (Upd.refl _ _).drew
        | exact hS.out _ u7
        | exact hS.out _ u8)
      (first
        | (go_at_call 26; go_split_ands; rename_i s1 s2 s3; refine (cS.out _).mono ?_; rintro e w2 ⟨B1, B2, rfl, g1, g2, n1, n2, u2⟩; have u7 := s3.trans u2; have l1 := Nat.ne_of_gt (Nat.lt_of_lt_of_le hA0.out.lt (Nat.le_trans s3.size g1)); have l2 := Nat.ne_of_gt (Nat.lt_of_lt_of_le hA0.out.lt (Nat.le_trans s3.size g2)))
        | (go_at_call 29; refine (cI.out _ _ _ (hA0.out.kept u7 id) l1 l2 n1 n2).mono ?_; rintro e w3 ⟨rfl, u3⟩; have u8 := u7.trans u3))
    all_goals (go_wp2_with fail)
    all_goals go_meet
    all_goals exact ⟨rfl, u8⟩
  case rest =>
    obtain ⟨rfl, u1⟩ := hcut
    have U1 := Lib.hid (U0.out.trans u1)
    have hA1 := Lib.hid (hA0.out.kept u1 id)
    clear u1 hS c0 c1 cS cI k0 U0 hA0 HA
    by_cases hI : I < 8
    · have hx : ixI I = (I : Int) := by unfold ixI; rw [if_pos hI]
      rw [hx]
      obtain rfl : R = I := by rw [hpl.out, if_pos hI]
      clear hpl cG hx
      go_wp2
      go_ret
      exact ⟨rfl, U1.out⟩
    · have hx : ixI I = -1 := by unfold ixI; rw [if_neg hI]
      rw [hx]
      have hp2 : Hid (R = if G < 8 then G else at'.toNat) := Lib.hid (by rw [hpl.out, if_neg hI])
      clear hpl hx hI
      go_wp2_with fail
      refine (cG.out _ hA1.out).mono ?_
      rintro e w2 ⟨rfl, u2⟩
      have U2 := Lib.hid (U1.out.trans u2)
      clear u2 U1 cG hA1
      by_cases hG : G < 8
      · have hx : ixI G = (G : Int) := by unfold ixI; rw [if_pos hG]
        rw [hx]
        obtain rfl : R = G := by rw [hp2.out, if_pos hG]
        clear hp2 hx hat
        go_wp2
        go_ret
        exact ⟨rfl, U2.out⟩
      · have hx : ixI G = -1 := by unfold ixI; rw [if_neg hG]
        rw [hx]
        have hR : Hid ((R : Int) = at') := Lib.hid (by rw [hp2.out, if_neg hG]; exact hat.out)
        clear hp2 hx hG hat
        go_wp2
        go_ret
        exact ⟨by rw [hR.out]; rfl, U2.out⟩
set_option maxHeartbeats 1000000 in
theorem tfind_any (A : Nat) (B : Buf) (hB : B.Ok) (a p : Int) (w : World) (hA : BufAt w A B) :
    Calls Try.prog 16 #[.pointer (some ⟨A, 0, none⟩), .int .i64 a, .int .i64 p] w fun e w' => e = .returned (.tuple #[(lnOf (B.find a p)).val, .bool (B.find a p).isSome]) ∧ Upd (fun _ => False) w w' := by
  have hfd : Hid (B.find a p = if B.at a p < 8 then B (B.at a p) else none) := Lib.hid rfl
  have hno : Hid (B.at a p < 8 → ∃ l, B (B.at a p) = some l) := Lib.hid (fun h => by
    obtain ⟨l, e, _⟩ := Buf.hit_iff.1 (first_lt (q := B.hit a p) h).1
    exact ⟨l, e⟩)
  generalize B.find a p = F at hfd ⊢
  have k0 : Hid (LnAt (w.alloc (.cells #[.int .i64 0, .int .i64 0, .int .i64 0, .bool false] 28)) w.heap.size 0 0 0 false) := Lib.hid (heap_alloc_last w _)
  have U0 := Lib.hid ((Upd.refl (fun _ => False) w).alloc (.cells #[.int .i64 0, .int .i64 0, .int .i64 0, .bool false] 28))
  have HA := Lib.hid hA
  have cS := Lib.hid (fun W => tsame_any a p W)
  have cI := Lib.hid (fun B1 B2 W (hA : BufAt W A B) h1 h2 n1 n2 => tfind_ix A B hB a p B1 B2 W hA h1 h2 n1 n2)
  clear hA
  generalize B.at a p = I at hfd hno cI
  go_enter Try.func16, Try.ntmps16
  go_upto_region 1 with fail
  obtain ⟨w0, hw0⟩ : ∃ w0, w0 = w.alloc (.cells #[.int .i64 0, .int .i64 0, .int .i64 0, .bool false] 28) := ⟨_, rfl⟩
  rw [← hw0] at k0 U0 ⊢
  clear hw0
  have hA0 := Lib.hid (HA.out.kept U0.out id)
  have hC : Hid (w.heap.size ≤ w.heap.size) := Lib.hid (Nat.le_refl _)
  obtain ⟨C, hCe⟩ : ∃ C, C = w.heap.size := ⟨_, rfl⟩
  rw [← hCe] at k0 ⊢
  have hC : Hid (w.heap.size ≤ C) := Lib.hid (Nat.le_of_eq hCe.symm)
  clear hCe
  go_cut [8] from 8 to 16 (fun s7 wx => s7 = .int .i64 (ixI I) ∧ Upd (fun _ => False) w0 wx)
  case first =>
    go_region_held3 (fun w' => True ∧ Upd (fun _ => False) w0 w')
      (first
        | assumption
        | exact ⟨trivial, (Upd.refl _ _).drew⟩
        | exact ⟨trivial, u7⟩
        | exact ⟨trivial, u8⟩)
      (first
        | (go_at_call 26; go_split_ands; rename_i s3; refine (cS.out _).mono ?_; rintro e w2 ⟨B1, B2, rfl, g1, g2, n1, n2, u2⟩; have u7 := s3.trans u2; have l1 := Nat.ne_of_gt (Nat.lt_of_lt_of_le hA0.out.lt (Nat.le_trans s3.size g1)); have l2 := Nat.ne_of_gt (Nat.lt_of_lt_of_le hA0.out.lt (Nat.le_trans s3.size g2)))
        | (go_at_call 29; refine (cI.out _ _ _ (hA0.out.kept u7 id) l1 l2 n1 n2).mono ?_; rintro e w3 ⟨rfl, u3⟩; have u8 := u7.trans u3))
    all_goals (go_wp2_with fail)
    all_goals go_meet
    all_goals exact ⟨rfl, u8⟩
  case rest =>
    obtain ⟨rfl, u1⟩ := hcut
    have U1 := Lib.hid (U0.out.trans u1)
    have hA1 := Lib.hid (hA0.out.kept u1 id)
    have k1 := Lib.hid (k0.out.kept u1 id)
    clear u1 cS cI k0 U0 hA0 HA
    by_cases hI : I < 8
    · have hx : ixI I = (I : Int) := by unfold ixI; rw [if_pos hI]
      rw [hx]
      obtain ⟨l, hl⟩ := hno.out hI
      have hr := hA1.out.range I hI
      rw [show B.ln I = l from by unfold Buf.ln; rw [hl]; rfl] at hr
      have hF := Lib.hid (show F = some l from by rw [hfd.out, if_pos hI, hl])
      clear hfd hx hno hl hA1
      obtain ⟨la, lp, lf, lw⟩ := l
      simp only at hr
      have K := k1.out.there
      go_wp2_with (first
        | (with_reducible refine wpList_load_sz rfl 28 (.tmp 24) rfl A (I * 4) rfl [.int .i64 la, .int .i64 lp, .int .i64 lf, .bool lw] _ hr Try.underlying28 rfl 4 (ln_len _ _ _ _) size_ln ?_)
        | (with_reducible refine wpList_store_sz rfl 28 (.tmp 6) (.tmp 25) rfl C 0 #[.int .i64 la, .int .i64 lp, .int .i64 lf, .bool lw] rfl rfl 4 (ln_sz _ _ _ _) K size_ln (ln_one _ _ _ _) [.int .i64 la, .int .i64 lp, .int .i64 lf, .bool lw] (ln_ls _ _ _ _) ?_))
      (try simp only [Exit.inBlock, Exit.then])
      refine bodyPost_ret (ret_ln rfl _ _ C la lp lf lw rfl (k1.out.set la lp lf lw)) rfl ⟨?_, ?_⟩
      · rw [hF.out]; rfl
      · exact Upd.setCells (.inr hC.out) _ _ U1.out
    · have hx : ixI I = -1 := by unfold ixI; rw [if_neg hI]
      rw [hx]
      have hF := Lib.hid (show F = none from by rw [hfd.out, if_neg hI])
      clear hfd hx hno hA1
      have K := k1.out.there
      go_wp2_with (with_reducible refine wpList_store_sz rfl 28 (.tmp 6) (.tmp 19) rfl C 0 #[.int .i64 0, .int .i64 0, .int .i64 0, .bool false] rfl rfl 4 (ln_sz _ _ _ _) K size_ln (ln_one _ _ _ _) [.int .i64 0, .int .i64 0, .int .i64 0, .bool false] (ln_ls _ _ _ _) ?_)
      (try simp only [Exit.inBlock, Exit.then])
      refine bodyPost_ret (ret_ln rfl _ _ C 0 0 0 false rfl (k1.out.set 0 0 0 false)) rfl ⟨?_, ?_⟩
      · rw [hF.out]; rfl
      · exact Upd.setCells (.inr hC.out) _ _ U1.out
end Go.Proofs.Ytjkomkcjoooiiaa

/-
  Package tlb: New, Drop, Flush, Clear, Put, Lines.
-/
namespace Go.Proofs.Ytjkomkcjoooiiaa
open Go.ChangeShapes Go.WideShapes Go.ChangeAt Go.RowKit Go.Shelf

theorem Buf.Ok.sel_same {B : Buf} (a p : Int) (h : B.Ok) (j : Nat) : B.sel (qSame a p) j = B.hit a p j := by
  rw [← h.hits a p j]
  unfold Buf.sel Buf.ln
  cases e : B j with
  | none => rfl
  | some l => rfl
theorem Buf.at_lt {B : Buf} {a p : Int} {i : Nat} (hi : i < 8) (h : B.hit a p i = true) : B.at a p < 8 := by
  have := first_le (B.hit a p) 8
  by_cases c : Buf.first (B.hit a p) 8 = 8
  · have := first_none c i hi; rw [h] at this; cases this
  · show Buf.first (B.hit a p) 8 < 8; omega
theorem Buf.Ok.hit_one {B : Buf} (h : B.Ok) {a p : Int} {j : Nat} (hh : B.hit a p j = true) : B.at a p = j := by
  obtain ⟨l, e, rfl, rfl⟩ := Buf.hit_iff.1 hh
  exact h.at_of e
theorem Buf.Ok.wipe_drop {B : Buf} (h : B.Ok) (a p : Int) : B.wipeTo (qSame a p) 8 = B.drop a p := by
  funext j
  unfold Buf.wipeTo Buf.drop
  rw [h.sel_same a p j]
  by_cases hh : B.hit a p j = true
  · have ha := h.hit_one hh
    obtain ⟨l, e, _⟩ := Buf.hit_iff.1 hh
    have hj := h.lt j l e
    rw [if_pos ⟨hj, hh⟩, if_pos (by omega), ha]
    show none = if j = j then none else B j
    rw [if_pos rfl]
  · rw [if_neg (fun c => hh c.2)]
    split
    · rename_i hlt
      show B j = if j = B.at a p then none else B j
      rw [if_neg]
      rintro rfl
      exact hh (first_lt (q := B.hit a p) hlt).1
    · rfl
theorem Buf.Ok.cnt_drop {B : Buf} (h : B.Ok) (a p : Int) : decide (0 < B.cntTo (qSame a p) 8) = decide (B.at a p < 8) := by
  rw [Bool.eq_iff_iff, decide_eq_true_eq, decide_eq_true_eq]
  unfold Buf.cntTo
  rw [show B.sel (qSame a p) = B.hit a p from funext (h.sel_same a p)]
  constructor
  · intro hc
    obtain ⟨i, hi⟩ := List.length_pos_iff_exists_mem.1 (show 0 < ((List.range 8).filter (B.hit a p)).length by omega)
    obtain ⟨h1, h2⟩ := List.mem_filter.1 hi
    exact Buf.at_lt (List.mem_range.1 h1) h2
  · intro hc
    have := (first_lt (q := B.hit a p) hc).1
    have hm : B.at a p ∈ (List.range 8).filter (B.hit a p) := List.mem_filter.2 ⟨List.mem_range.2 hc, this⟩
    have := List.length_pos_of_mem hm
    omega
theorem Buf.Ok.wipe_flush {B : Buf} (h : B.Ok) (a : Int) : B.wipeTo (fun l => decide (l.a = a)) 8 = B.flush a := by
  funext j
  unfold Buf.wipeTo Buf.flush Buf.sel
  cases e : B j with
  | none => simp
  | some l =>
    have := h.lt j l e
    by_cases c : l.a = a
    · simp [c, this]
    · simp [c]
theorem Buf.cnt_flush (B : Buf) (a : Int) : B.cntTo (fun l => decide (l.a = a)) 8 = B.many a 8 := rfl
theorem Buf.Ok.wipe_all {B : Buf} (h : B.Ok) : B.wipeTo (fun _ => true) 8 = buf0 := by
  funext j
  unfold Buf.wipeTo Buf.sel buf0
  cases e : B j with
  | none => simp
  | some l => simp [h.lt j l e]
set_option maxHeartbeats 400000 in
theorem tnew_any (w : World) : Calls Try.prog 8 #[] w fun e w' => ∃ A, e = .returned (.pointer (some ⟨A, 0, none⟩)) ∧ w.heap.size ≤ A ∧ BufAt w' A buf0 ∧ Upd (fun _ => False) w w' := by
  have hz : ∀ w : World, (zeroValue 49).run Try.prog w = .ok (.agg (rowC Ln.c buf0.ln 8).toArray) w := fun w => by kernel_rfl
  generalize hX : (rowC Ln.c buf0.ln 8).toArray = X at hz
  have h0 : Hid (BufAt (w.alloc (.cells X 49)) w.heap.size buf0) := Lib.hid (by unfold BufAt; rw [hX]; exact heap_alloc_last _ _)
  have U := Lib.hid ((Upd.refl (fun _ => False) w).alloc (.cells X 49))
  clear hX
  go_enter Try.func8, Try.ntmps8
  go_wp2
  go_ret
  exact ⟨_, rfl, Nat.le_refl _, h0.out, U.out⟩
set_option maxHeartbeats 400000 in
theorem tdrop_any (A : Nat) (B : Buf) (hB : B.Ok) (a p : Int) (w : World) (hA : BufAt w A B) :
    Calls Try.prog 11 #[.pointer (some ⟨A, 0, none⟩), .int .i64 a, .int .i64 p] w fun e w' => e = .returned (.bool (decide (B.at a p < 8))) ∧ BufAt w' A (B.drop a p) ∧ Upd (· = A) w w' := by
  have hr := Lib.hid (fun B1 B2 W (hA : BufAt W A B) (h1 : B1 ≠ A) (h2 : B2 ≠ A) n1 n2 => tremove_any A 31 (enters_of Try.func31 (by kernel_rfl) rfl) _ _ _ (asks_same A a p B1 B2 h1 h2) B hB W hA ⟨n1, n2⟩)
  rw [hB.wipe_drop] at hr
  have hc := Lib.hid (hB.cnt_drop a p)
  generalize B.cntTo (qSame a p) 8 = k at hr hc
  generalize decide (B.at a p < 8) = R at hc ⊢
  have cS := Lib.hid (fun W => tsame_any a p W)
  go_enter Try.func11, Try.ntmps11
  go_wp2_with fail
  refine (cS.out _).mono ?_
  rintro e w2 ⟨B1, B2, rfl, g1, g2, n1, n2, u2⟩
  have l := hA.lt
  go_wp2_with fail
  refine (hr.out B1 B2 _ (hA.kept u2 id) (by omega) (by omega) n1 n2).mono ?_
  rintro e w3 ⟨rfl, hA3, u3⟩
  go_wp2
  go_ret
  exact ⟨by rw [← hc.out]; rfl, hA3, u2.sub.trans u3⟩
set_option maxHeartbeats 400000 in
theorem tflush_any (A : Nat) (B : Buf) (hB : B.Ok) (a : Int) (w : World) (hA : BufAt w A B) :
    Calls Try.prog 13 #[.pointer (some ⟨A, 0, none⟩), .int .i64 a] w fun e w' => e = .returned (.int .i64 (B.many a 8 : Nat)) ∧ BufAt w' A (B.flush a) ∧ Upd (· = A) w w' := by
  have hr := Lib.hid (fun B1 W (hA : BufAt W A B) (h1 : B1 ≠ A) n1 => tremove_any A 27 (enters_of Try.func27 (by kernel_rfl) rfl) _ _ _ (asks_flush A a B1 h1) B hB W hA n1)
  rw [hB.wipe_flush, B.cnt_flush] at hr
  generalize B.many a 8 = k at hr ⊢
  have n1 : Hid (NumAt (w.alloc (.cells #[.int .i64 a] 3)) w.heap.size a) := Lib.hid (heap_alloc_last w _)
  have U0 := Lib.hid ((Upd.refl (fun _ => False) w).alloc (.cells #[.int .i64 a] 3))
  have l := hA.lt
  go_enter Try.func13, Try.ntmps13
  go_wp2_with fail
  refine (hr.out _ _ (hA.kept U0.out id) (by omega) n1.out).mono ?_
  rintro e w3 ⟨rfl, hA3, u3⟩
  go_wp2
  go_ret
  exact ⟨rfl, hA3, U0.out.sub.trans u3⟩
set_option maxHeartbeats 400000 in
theorem tclear_any (A : Nat) (B : Buf) (hB : B.Ok) (w : World) (hA : BufAt w A B) :
    Calls Try.prog 15 #[.pointer (some ⟨A, 0, none⟩)] w fun e w' => e = .returned (.tuple #[]) ∧ BufAt w' A buf0 ∧ Upd (· = A) w w' := by
  have hr := Lib.hid (fun W (hA : BufAt W A B) => tremove_any A 28 (enters_of Try.func28 (by kernel_rfl) rfl) _ _ _ (asks_clear A) B hB W hA trivial)
  rw [hB.wipe_all] at hr
  generalize B.cntTo (fun _ => true) 8 = k at hr
  go_enter Try.func15, Try.ntmps15
  go_wp2_with fail
  refine (hr.out _ hA).mono ?_
  rintro e w3 ⟨rfl, hA3, u3⟩
  go_wp2_with fail
  go_end0
  exact ⟨rfl, hA3, u3⟩
theorem BufAt.eight {w : World} {A : Nat} {B : Buf} (h : BufAt w A B) (i : Nat) (hi : i < 8) :
    w.cell? ⟨A, i * 4, none⟩ = some (.int .i64 (B.ln i).a) ∧ w.cell? ⟨A, i * 4 + 1, none⟩ = some (.int .i64 (B.ln i).p) ∧ w.cell? ⟨A, i * 4 + 2, none⟩ = some (.int .i64 (B.ln i).f) ∧ w.cell? ⟨A, i * 4 + 3, none⟩ = some (.bool (B.ln i).w) ∧
    w.frozen? ⟨A, i * 4, none⟩ = false ∧ w.frozen? ⟨A, i * 4 + 1, none⟩ = false ∧ w.frozen? ⟨A, i * 4 + 2, none⟩ = false ∧ w.frozen? ⟨A, i * 4 + 3, none⟩ = false :=
  ⟨h.range i hi 0 _ rfl, h.range i hi 1 _ rfl, h.range i hi 2 _ rfl, h.range i hi 3 _ rfl, frozen_block h _, frozen_block h _, frozen_block h _, frozen_block h _⟩
theorem putOk_iff (l : Ln) (at' : Int) : putOk l at' = (lineB l.a l.p l.f && decide (0 ≤ at' ∧ at' < 8)) := by
  unfold putOk lineB
  rw [Bool.eq_iff_iff, Bool.and_eq_true, decide_eq_true_eq, decide_eq_true_eq, decide_eq_true_eq]
  omega
def errP (b : Bool) : Int := if b = true then 0 else 1
set_option maxHeartbeats 1000000 in
theorem tput_any (A : Nat) (B : Buf) (hB : B.Ok) (la lp lf : Int) (lw : Bool) (at' : Int) (w : World) (hA : BufAt w A B) :
    Calls Try.prog 9 #[.pointer (some ⟨A, 0, none⟩), .agg #[.int .i64 la, .int .i64 lp, .int .i64 lf, .bool lw], .int .i64 at'] w fun e w' => e = .returned (.int .i64 (errP (putOk ⟨la, lp, lf, lw⟩ at'))) ∧ BufAt w' A (B.put ⟨la, lp, lf, lw⟩ at') ∧ Upd (· = A) w w' := by
  have c1 := Lib.hid (fun W => tline_any la lp lf lw W)
  have c2 := Lib.hid (fun W => tbelow_any at' 8 W)
  have hP := Lib.hid (putOk_iff ⟨la, lp, lf, lw⟩ at')
  have k0 : Hid (LnAt (w.alloc (.cells #[.int .i64 la, .int .i64 lp, .int .i64 lf, .bool lw] 28)) w.heap.size la lp lf lw) := Lib.hid (heap_alloc_last w _)
  have U0 := Lib.hid ((Upd.refl (fun _ => False) w).alloc (.cells #[.int .i64 la, .int .i64 lp, .int .i64 lf, .bool lw] 28))
  have cP := Lib.hid (fun W hA hp => tplace_any A B hB la lp lf lw at' W hA hp)
  have hpl := Lib.hid (fun h => Buf.place_lt (B := B) (l := ⟨la, lp, lf, lw⟩) (at' := at') h)
  have hput : Hid (B.put ⟨la, lp, lf, lw⟩ at' = if putOk ⟨la, lp, lf, lw⟩ at' = true then B.set (B.place ⟨la, lp, lf, lw⟩ at') (some ⟨la, lp, lf, lw⟩) else B) := Lib.hid rfl
  have HA := Lib.hid (hA.kept U0.out id)
  have hlt := hA.lt
  clear hA
  simp only at hP
  generalize putOk ⟨la, lp, lf, lw⟩ at' = R at hP cP hpl hput ⊢
  generalize B.place ⟨la, lp, lf, lw⟩ at' = I at cP hpl hput
  generalize B.put ⟨la, lp, lf, lw⟩ at' = B' at hput ⊢
  generalize lineB la lp lf = x at hP c1
  generalize decide (0 ≤ at' ∧ at' < 8) = y at hP c2
  have hP2 := hP.out
  clear hP
  obtain ⟨w0, hw0⟩ : ∃ w0, w0 = w.alloc (.cells #[.int .i64 la, .int .i64 lp, .int .i64 lf, .bool lw] 28) := ⟨_, rfl⟩
  have hW := Lib.hid hw0
  rw [← hw0] at k0 U0 HA
  clear hw0
  obtain ⟨C, hCe⟩ : ∃ C, C = w.heap.size := ⟨_, rfl⟩
  have hC := Lib.hid hCe
  rw [← hCe] at k0 hlt
  clear hCe
  have r0 := k0.out.range
  cases x
  · obtain rfl : R = false := hP2
    obtain rfl : B' = B := by rw [hput.out, if_neg (by decide)]
    clear cP hput hpl c2
    go_enter Try.func9, Try.ntmps9
    go_upto_region 1 with fail
    rw [← hW.out, ← hC.out]
    go_wp2_with (with_reducible refine wpList_load_sz rfl 28 (.tmp 4) rfl C 0 rfl [.int .i64 la, .int .i64 lp, .int .i64 lf, .bool lw] _ r0 Try.underlying28 rfl 4 (ln_len _ _ _ _) size_ln ?_)
    refine (c1.out _).mono ?_
    rintro e w1 ⟨rfl, u1⟩
    go_wp2
    go_ret
    exact ⟨rfl, HA.out.kept u1 id, U0.out.sub.trans u1.sub⟩
  · obtain rfl : R = y := hP2
    cases R
    · obtain rfl : B' = B := by rw [hput.out, if_neg (by decide)]
      clear cP hput hpl
      go_enter Try.func9, Try.ntmps9
      go_upto_region 1 with fail
      rw [← hW.out, ← hC.out]
      go_wp2_with (with_reducible refine wpList_load_sz rfl 28 (.tmp 4) rfl C 0 rfl [.int .i64 la, .int .i64 lp, .int .i64 lf, .bool lw] _ r0 Try.underlying28 rfl 4 (ln_len _ _ _ _) size_ln ?_)
      refine (c1.out _).mono ?_
      rintro e w1 ⟨rfl, u1⟩
      go_wp2_with fail
      refine (c2.out _).mono ?_
      rintro e w1 ⟨rfl, rfl⟩
      go_wp2
      go_ret
      exact ⟨rfl, HA.out.kept u1 id, U0.out.sub.trans u1.sub⟩
    · have hB' : Hid (B' = B.set I (some ⟨la, lp, lf, lw⟩)) := Lib.hid (by rw [hput.out, if_pos rfl])
      have hI := hpl.out rfl
      clear hput hpl
      go_enter Try.func9, Try.ntmps9
      go_upto_region 1 with fail
      rw [← hW.out, ← hC.out]
      go_wp2_with (with_reducible refine wpList_load_sz rfl 28 (.tmp 4) rfl C 0 rfl [.int .i64 la, .int .i64 lp, .int .i64 lf, .bool lw] _ r0 Try.underlying28 rfl 4 (ln_len _ _ _ _) size_ln ?_)
      refine (c1.out _).mono ?_
      rintro e w1 ⟨rfl, u1⟩
      go_upto_region 3 with (go_at_call 22; refine (c2.out _).mono ?_; rintro e w2 ⟨rfl, rfl⟩)
      have HA1 := Lib.hid (HA.out.kept u1 id)
      have K1 := Lib.hid (k0.out.kept u1 id)
      have U1 := Lib.hid (U0.out.trans u1)
      have q0 := K1.out.range 0 _ rfl
      have q1 := K1.out.range 1 _ rfl
      have q2 := K1.out.range 2 _ rfl
      have q3 := K1.out.range 3 _ rfl
      clear u1 k0 HA U0 r0 hW c1 c2
      have hne : C ≠ A := by omega
      have i0 : (0 : Int) ≤ (I : Int) := by omega
      have i8 : (I : Int) < 8 := by omega
      have hS := Lib.hid (show ∀ (W' : World), Upd (· = A) w1 W' → W'.cell? ⟨C, 0, none⟩ = some (.int .i64 la) ∧ W'.cell? ⟨C, 1, none⟩ = some (.int .i64 lp) ∧ W'.cell? ⟨C, 2, none⟩ = some (.int .i64 lf) ∧ W'.cell? ⟨C, 3, none⟩ = some (.bool lw) ∧ Upd (· = A) w1 W' from fun W' u => ⟨u.cell q0 hne, u.cell q1 hne, u.cell q2 hne, u.cell q3 hne, u⟩)
      go_cut [7] from 7 to 23 (fun s7 wx => BufAt wx A (B.set I (some ⟨la, lp, lf, lw⟩)) ∧ Upd (· = A) w1 wx)
      case first =>
        go_region_held3 (fun w' => w'.cell? ⟨C, 0, none⟩ = some (.int .i64 la) ∧ w'.cell? ⟨C, 1, none⟩ = some (.int .i64 lp) ∧ w'.cell? ⟨C, 2, none⟩ = some (.int .i64 lf) ∧ w'.cell? ⟨C, 3, none⟩ = some (.bool lw) ∧ Upd (· = A) w1 w')
          (first
            | assumption
            | exact hS.out _ (Upd.refl _ _).drew
            | exact hS.out _ u7
            | exact hS.out _ ((((u7.setCell (.inl rfl) _).setCell (.inl rfl) _).setCell (.inl rfl) _).setCell (.inl rfl) _))
          (first
            | (go_at_call 23; go_split_ands; rename_i s1 s2 s3 s4 s5; refine (cP.out w1.drew HA1.out trivial).mono ?_; rintro e w2 ⟨rfl, u2⟩; have u7 := s5.trans u2.sub; have e7 := Lib.hid (BufAt.kept (w := w1.drew) HA1.out u2 id); obtain ⟨e0, e1, e2, e3, z0, z1, z2, z3⟩ := e7.out.eight I hI))
        all_goals (go_wp2_with fail)
        all_goals go_meet
        all_goals exact ⟨e7.out.set I hI (some ⟨la, lp, lf, lw⟩), (((u7.setCell (.inl rfl) _).setCell (.inl rfl) _).setCell (.inl rfl) _).setCell (.inl rfl) _⟩
      case rest =>
        obtain ⟨hA2, u2⟩ := hcut
        go_wp2
        go_ret
        exact ⟨rfl, by rw [hB'.out]; exact hA2, U1.out.sub.trans u2⟩
end Go.Proofs.Ytjkomkcjoooiiaa

/-
  Rows of the call's own: kept, as a slice, grown by append.
-/
namespace Go.Proofs.Ytjkomkcjoooiiaa
open Go.RowKit

theorem row_kept {S : Nat → Prop} {w w' : World} {base sz k : Nat} {e : TypeId} {v : Value} {xs : List Value} (h : w.ownsRow base e sz v k xs) (u : Upd S w w') (hg : ∀ j, v.ownBlock = some j → ¬ S j) : w'.ownsRow base e sz v k xs := by
  refine ⟨h.1, ?_⟩
  rcases h.2 with hn | ⟨g, cap, cur, rfl, hb, hgg, rest⟩
  · exact .inl hn
  · exact .inr ⟨g, cap, cur, rfl, hb, u.at hgg (hg g rfl), rest⟩
theorem row_still {w w' : World} {base sz k : Nat} {e : TypeId} {v : Value} {xs : List Value} (h : w.ownsRow base e sz v k xs) (u : Upd (fun _ => False) w w') : w'.ownsRow base e sz v k xs := row_kept h u fun _ _ => id
/-- blocks of before are not the row's -/
theorem row_below {S : Nat → Prop} {w w' : World} {base sz k : Nat} {e : TypeId} {v : Value} {xs : List Value} (h : w.ownsRow base e sz v k xs) (u : Upd S w w') (hS : ∀ j, S j → j < base) : w'.ownsRow base e sz v k xs :=
  row_kept h u fun j hj s => by have := (h.lt j hj).1; have := hS j s; omega
theorem row_slice {w : World} {base sz : Nat} {e : TypeId} {v : Value} {k : Nat} {xs : List Value} (h : w.ownsRow base e sz v k xs) : ∃ o cap, v = .slice o k cap := by
  rcases h.2 with ⟨rfl, rfl⟩ | ⟨g, cap, cur, rfl, _⟩
  · exact ⟨none, 0, rfl⟩
  · exact ⟨_, _, rfl⟩
theorem row_new (w : World) (base sz : Nat) (e : TypeId) : w.ownsRow base e sz (.slice none 0 0) 0 [] := ⟨by simp, .inl ⟨rfl, rfl⟩⟩
theorem row_src (w : World) (c : List Value) (t : TypeId) : ∀ (j : Nat) (u : Value), c[j]? = some u → (w.alloc (.cells c.toArray t)).cell? ((⟨w.heap.size, 0, none⟩ : Addr).add j) = some u := by
  intro j u hj
  rw [add_mid0, cell_of_row _ _ _ _ _ _ (heap_alloc_last w (.cells c.toArray t))]
  simpa using hj
theorem row_grown {w wr w4 : World} {N sz n : Nat} {e : TypeId} {v : Value} {xs : List Value} {o : Obj} {S : Nat → Prop} (hrow : wr.ownsRow N e sz v n xs) (hgr : (wr.alloc o).grownBy w4 v.ownBlock) (hU : Upd S w wr) (hN : w.heap.size ≤ N) : Upd S w w4 := by
  have hs := hU.size
  refine ⟨hgr.os.trans hU.os, hgr.tape.trans hU.tape, hgr.output.trans hU.output, by have := hgr.size; simp at this; omega, fun k hk hS => ?_⟩
  rw [hgr.block k (by simp; omega) (fun e => by have := (hrow.lt k e.symm).1; omega), Below.heap_alloc _ _ _ (by omega)]
  exact hU.block k hk hS
/-- the cells of a row of the call's own -/
theorem row_at {w : World} {base sz k cap : Nat} {e : TypeId} {o : Option Addr} {xs : List Value} (h : w.ownsRow base e sz (.slice o k cap) k xs) (hk : 0 < k) : ∃ g, o = some ⟨g, 0, none⟩ ∧ ∀ (j : Nat) (u : Value), xs[j]? = some u → w.cell? ⟨g, j, none⟩ = some u := by
  rcases h.2 with ⟨e1, e2⟩ | ⟨g, cap', cur, e1, rest⟩
  · omega
  · simp only [Value.slice.injEq] at e1
    obtain ⟨rfl, _, rfl⟩ := e1
    refine ⟨g, rfl, fun j u hu => ?_⟩
    have := h.cells (g := g) rfl j u hu
    rwa [add_mid0, Nat.zero_add] at this
/-! guarded operations whose guard is decided, in a region that draws and only reads -/
theorem still_off {P : Program} {ops : Array Oper} {w : World} {Q : Act → Prop} {a : Act} {o : Oper} {rest : List Oper} (hw : Region.wanted o (yielded ops a.tmps) = false) (h : wpStill P ops w Q rest (a.put o.dst undef)) : wpStill P ops w Q (o :: rest) a :=
  wpStill_step fun K hK => by rw [hw]; exact hK _ h
theorem still_on {P : Program} {ops : Array Oper} {w : World} {Q : Act → Prop} {a : Act} {o : Oper} {rest : List Oper} (hw : Region.wanted o (yielded ops a.tmps) = true) (h : wpStill P ops w Q ({ o with guard := none } :: rest) a) : wpStill P ops w Q (o :: rest) a := by
  unfold wpStill at h ⊢
  rw [if_pos hw]
  exact h
end Go.Proofs.Ytjkomkcjoooiiaa
