/-
  Texts that the laws stand on, joined: IsM, Kit, Upd, Arr, IsR, IsS, IsT, IsU, CpM, App, Row, Frame, CpA.
-/
import Derived.Below
import Derived.BigFrame
import Derived.BigQuiet
import Derived.Carry
import Derived.ChangeOld
import Derived.ChangeSame
import Derived.Deep.CutBlock
import Derived.Deep.DeepCutAuto
import Derived.Deep.Fields
import Derived.Deep.MidRow
import Derived.Deep.QuietTactic
import Derived.Deep.RegionHeld3
import Derived.Deep.Slices
import Derived.Deep.WholeRow
import Derived.Laws.CopyOwn
import Derived.Laws.OwnMore
import Derived.Laws.StructEq
import Derived.Lib.Hide
import Derived.Maps.AppendAt
import Derived.OpenShut
import Derived.OwnWalk
import Derived.ProofKit
import Derived.RangeFuncBox
import Derived.StillTailTactics
import Derived.Test.YtcbiangocfhhlaaDoorRows
import Derived.WalkKit

/-
  Plain mathematics of instructions: their words, their texts.
-/
namespace Go.Proofs.YtcbiangocfhhlaaDoor

/-- an instruction, in plain numbers -/
structure Ins where
  op : Int
  a : Int
  b : Int
  c : Int
  m : Int
deriving DecidableEq
/-- which operands an operation has -/
def hasA (op : Int) : Bool := decide (1 ≤ op ∧ op ≤ 7 ∨ op = 9 ∨ op = 10)
def hasB (op : Int) : Bool := decide (2 ≤ op ∧ op ≤ 7 ∨ op = 10)
def hasC (op : Int) : Bool := decide (2 ≤ op ∧ op ≤ 5 ∨ op = 10)
def hasM (op : Int) : Bool := decide (op = 1 ∨ 6 ≤ op ∧ op ≤ 9 ∨ op = 11)
def rg (h : Bool) (x k : Int) : Bool := decide (0 ≤ x ∧ x ≤ k) && (h || decide (x = 0))
def Ins.right (i : Ins) : Bool := decide (0 ≤ i.op ∧ i.op ≤ 11) && rg (hasA i.op) i.a 7 && rg (hasB i.op) i.b 7 && rg (hasC i.op) i.c 7 && rg (hasM i.op) i.m 65535
structure Ins.Ok (i : Ins) : Prop where
  o : 0 ≤ i.op ∧ i.op ≤ 11
  a : 0 ≤ i.a ∧ i.a ≤ 7
  b : 0 ≤ i.b ∧ i.b ≤ 7
  c : 0 ≤ i.c ∧ i.c ≤ 7
  m : 0 ≤ i.m ∧ i.m ≤ 65535
  na : hasA i.op = false → i.a = 0
  nb : hasB i.op = false → i.b = 0
  nc : hasC i.op = false → i.c = 0
  nm : hasM i.op = false → i.m = 0
theorem rg_iff {h : Bool} {x k : Int} : rg h x k = true ↔ (0 ≤ x ∧ x ≤ k) ∧ (h = false → x = 0) := by
  unfold rg
  cases h <;> simp
theorem Ins.right_iff (i : Ins) : i.right = true ↔ i.Ok := by
  unfold Ins.right
  simp only [Bool.and_eq_true, rg_iff, decide_eq_true_eq]
  constructor
  · rintro ⟨⟨⟨⟨h0, h1⟩, h2⟩, h3⟩, h4⟩
    exact ⟨h0, h1.1, h2.1, h3.1, h4.1, h1.2, h2.2, h3.2, h4.2⟩
  · rintro ⟨o, a, b, c, m, na, nb, nc, nm⟩
    exact ⟨⟨⟨⟨o, a, na⟩, b, nb⟩, c, nc⟩, m, nm⟩
/-- its word -/
def Ins.word (i : Ins) : Int := i.op + 256 * i.a + 2048 * i.b + 16384 * i.c + 16777216 * i.m
def Ins.of (w : Int) : Ins := ⟨w % 256, w / 256 % 8, w / 2048 % 8, w / 16384 % 8, w / 16777216 % 65536⟩
theorem Ins.of_word {i : Ins} (h : i.Ok) : Ins.of i.word = i := by
  obtain ⟨o, a, b, c, m, -, -, -, -⟩ := h
  obtain ⟨io, ia, ib, ic, im⟩ := i
  unfold Ins.of Ins.word
  simp only at *
  congr 1 <;> omega
theorem Ins.word_bd {i : Ins} (h : i.Ok) : 0 ≤ i.word ∧ i.word < 1099511627776 := by
  obtain ⟨o, a, b, c, m, -, -, -, -⟩ := h
  unfold Ins.word
  omega
/-- the instruction of a word, if there is one -/
def Ins.hit (w : Int) : Bool := (Ins.of w).right && decide ((Ins.of w).word = w)
theorem Ins.hit_iff (w : Int) : Ins.hit w = true ↔ ∃ i : Ins, i.Ok ∧ i.word = w := by
  unfold Ins.hit
  simp only [Bool.and_eq_true, decide_eq_true_eq, Ins.right_iff]
  constructor
  · exact fun h => ⟨_, h.1, h.2⟩
  · rintro ⟨i, hi, rfl⟩
    rw [Ins.of_word hi]
    exact ⟨hi, rfl⟩
theorem Ins.word_inj {i j : Ins} (hi : i.Ok) (hj : j.Ok) (h : i.word = j.word) : i = j := by
  rw [← Ins.of_word hi, h, Ins.of_word hj]

/-! texts: lists of bytes -/
def opName : Nat → List Nat
  | 0 => [104, 97, 108, 116]
  | 1 => [105, 109, 109]
  | 2 => [97, 100, 100]
  | 3 => [115, 117, 98]
  | 4 => [97, 110, 100]
  | 5 => [120, 111, 114]
  | 6 => [108, 111, 97, 100]
  | 7 => [115, 116, 111, 114, 101]
  | 8 => [106, 117, 109, 112]
  | 9 => [122, 101, 114, 111]
  | 10 => [108, 101, 115, 115]
  | 11 => [116, 114, 97, 112]
  | _ => []
theorem opName_inj : ∀ i : Nat, i < 12 → ∀ j : Nat, j < 12 → opName i = opName j → i = j := by decide
theorem opName_sp : ∀ i : Nat, i < 12 → 32 ∉ opName i := by decide
/-- the decimal digits of a number -/
def digs (n : Nat) : List Nat := if h : n < 10 then [48 + n] else digs (n / 10) ++ [48 + n % 10]
termination_by n
decreasing_by omega
theorem digs_lt {n : Nat} (h : n < 10) : digs n = [48 + n] := by rw [digs, dif_pos h]
theorem digs_ge {n : Nat} (h : ¬ n < 10) : digs n = digs (n / 10) ++ [48 + n % 10] := by rw [digs, dif_neg h]
def numOf (l : List Nat) : Nat := l.foldl (fun a x => a * 10 + (x - 48)) 0
theorem num_digs : ∀ n : Nat, numOf (digs n) = n := by
  intro n
  induction n using Nat.strongRecOn with
  | ind n ih =>
    by_cases h : n < 10
    · rw [digs_lt h]; simp [numOf]
    · rw [digs_ge h]
      unfold numOf
      rw [List.foldl_append]
      have := ih (n / 10) (by omega)
      unfold numOf at this
      rw [this]
      simp only [List.foldl_cons, List.foldl_nil]
      omega
theorem digs_inj {a b : Nat} (h : digs a = digs b) : a = b := by rw [← num_digs a, h, num_digs b]
theorem digs_mem : ∀ n : Nat, ∀ x, x ∈ digs n → 48 ≤ x ∧ x ≤ 57 := by
  intro n
  induction n using Nat.strongRecOn with
  | ind n ih =>
    intro x hx
    by_cases h : n < 10
    · rw [digs_lt h] at hx
      simp at hx
      omega
    · rw [digs_ge h, List.mem_append] at hx
      rcases hx with hx | hx
      · exact ih (n / 10) (by omega) x hx
      · simp at hx; omega
theorem digs_sp (n : Nat) : 32 ∉ digs n := fun h => by have := digs_mem n 32 h; omega
/-- words after one another, each behind a space -/
def behind (l : List (List Nat)) : List Nat := l.flatMap fun p => 32 :: p
theorem words_inj : ∀ (x y : List Nat) (xs ys : List (List Nat)), 32 ∉ x → 32 ∉ y → (∀ p, p ∈ xs → 32 ∉ p) → (∀ p, p ∈ ys → 32 ∉ p) → x ++ behind xs = y ++ behind ys → x = y ∧ xs = ys
  | [], [], [], [], _, _, _, _, _ => ⟨rfl, rfl⟩
  | [], [], p :: xs, q :: ys, _, _, hp, hq, h => by
    have h' : p ++ behind xs = q ++ behind ys := by
      have := h
      simp only [List.nil_append, behind, List.flatMap_cons, List.cons_append, List.cons.injEq, true_and] at this
      exact this
    obtain ⟨e1, e2⟩ := words_inj p q xs ys (hp p (by simp)) (hq q (by simp)) (fun r hr => hp r (by simp [hr])) (fun r hr => hq r (by simp [hr])) h'
    exact ⟨rfl, by rw [e1, e2]⟩
  | [], [], [], q :: ys, _, _, _, _, h => by simp [behind] at h
  | [], [], p :: xs, [], _, _, _, _, h => by simp [behind] at h
  | [], c :: y, [], ys, _, hy, _, _, h => by simp [behind] at h
  | [], c :: y, p :: xs, ys, _, hy, _, _, h => by
    simp only [List.nil_append, behind, List.flatMap_cons, List.cons_append, List.cons.injEq] at h
    exact absurd (by simp [h.1]) hy
  | c :: x, [], xs, [], hx, _, _, _, h => by simp [behind] at h
  | c :: x, [], xs, q :: ys, hx, _, _, _, h => by
    simp only [List.nil_append, behind, List.flatMap_cons, List.cons_append, List.cons.injEq] at h
    exact absurd (by simp [h.1]) hx
  | c :: x, e :: y, xs, ys, hx, hy, hp, hq, h => by
    simp only [List.cons_append, List.cons.injEq] at h
    obtain ⟨e1, e2⟩ := words_inj x y xs ys (fun m => hx (by simp [m])) (fun m => hy (by simp [m])) hp hq h.2
    exact ⟨by rw [h.1, e1], e2⟩
termination_by x y xs ys => x.length + y.length + (behind xs).length + (behind ys).length
decreasing_by
  all_goals simp only [behind, List.flatMap_cons, List.length_append, List.length_cons, List.length_nil]
  all_goals omega
/-- the words of its operands, in their order -/
def Ins.parts (i : Ins) : List (List Nat) :=
  (if hasA i.op = true then [114 :: digs i.a.toNat] else []) ++ (if hasB i.op = true then [114 :: digs i.b.toNat] else []) ++ (if hasC i.op = true then [114 :: digs i.c.toNat] else []) ++ (if hasM i.op = true then [digs i.m.toNat] else [])
/-- its text -/
def Ins.text (i : Ins) : List Nat := opName i.op.toNat ++ behind i.parts
theorem Ins.parts_sp (i : Ins) : ∀ p, p ∈ i.parts → 32 ∉ p := by
  intro p hp
  unfold Ins.parts at hp
  simp only [List.mem_append] at hp
  rcases hp with ((hp | hp) | hp) | hp
  all_goals
    split at hp
    · simp only [List.mem_singleton] at hp
      subst hp
      simp [digs_sp]
    · cases hp
theorem Ins.text_inj {i j : Ins} (hi : i.Ok) (hj : j.Ok) (h : i.text = j.text) : i = j := by
  have ho := hi.o
  have ho' := hj.o
  obtain ⟨e1, e2⟩ := words_inj _ _ _ _ (opName_sp _ (by omega)) (opName_sp _ (by omega)) i.parts_sp j.parts_sp h
  have eo : i.op = j.op := by have := opName_inj _ (by omega) _ (by omega) e1; omega
  unfold Ins.parts at e2
  rw [← eo] at e2
  obtain ⟨-, a, b, c, m, na, nb, nc, nm⟩ := hi
  obtain ⟨-, a', b', c', m', na', nb', nc', nm'⟩ := hj
  rw [← eo] at na' nb' nc' nm'
  obtain ⟨io, ia, ib, ic, im⟩ := i
  obtain ⟨jo, ja, jb, jc, jm⟩ := j
  simp only at *
  subst eo
  have key : ∀ {x y : Int}, 0 ≤ x → 0 ≤ y → digs x.toNat = digs y.toNat → x = y := fun hx hy e => by have := digs_inj e; omega
  have ea : ia = ja := by
    cases ha : hasA io
    · rw [na ha, na' ha]
    · rw [ha] at e2
      simp only [if_true, List.cons_append, List.cons.injEq] at e2
      exact key a.1 a'.1 e2.1.2
  subst ea
  have eb : ib = jb := by
    cases hb : hasB io
    · rw [nb hb, nb' hb]
    · rw [hb] at e2
      simp only [List.append_assoc, List.append_cancel_left_eq, if_true, List.cons_append, List.cons.injEq] at e2
      exact key b.1 b'.1 e2.1.2
  subst eb
  have ec : ic = jc := by
    cases hc : hasC io
    · rw [nc hc, nc' hc]
    · rw [hc] at e2
      simp only [List.append_assoc, List.append_cancel_left_eq, if_true, List.cons_append, List.cons.injEq] at e2
      exact key c.1 c'.1 e2.1.2
  subst ec
  have em : im = jm := by
    cases hm : hasM io
    · rw [nm hm, nm' hm]
    · rw [hm] at e2
      simp only [List.append_cancel_left_eq, if_true, List.cons.injEq] at e2
      exact key m.1 m'.1 e2.1
  subst em
  rfl
end Go.Proofs.YtcbiangocfhhlaaDoor

/-
  Small helpers that all of this seat's texts import: the kit's walk and row modules under one name, and quiet calls inside regions that draw.
-/
namespace Go.Proofs.YtcbiangocfhhlaaDoor
open Go.RowKit

/-- a call that leaves the world alone, inside a region that draws -/
theorem still0 {P : Program} {f : FuncId} {args : Array Value} {w : World} {n : Nat} {v : Value}
    (h : Calls P f args (w.drewN n) fun e w' => e = .returned v ∧ w.drewN n = w') :
    Calls P f args (w.drewN n) fun e w'' => e = .returned v ∧ ∃ m, w'' = w.drewN m := by
  refine h.mono ?_
  rintro e w' ⟨he, hw⟩
  exact ⟨he, n, hw.symm⟩
/-- the same behind other draws -/
theorem still1 {P : Program} {f : FuncId} {args : Array Value} {w : World} {a n : Nat} {v : Value}
    (h : Calls P f args (w.drewN (a + n)) fun e w' => e = .returned v ∧ w.drewN (a + n) = w') :
    Calls P f args (w.drewN (a + n)) fun e w'' => e = .returned v ∧ ∃ m, w'' = w.drewN (a + m) := by
  refine h.mono ?_
  rintro e w' ⟨he, hw⟩
  exact ⟨he, n, hw.symm⟩
/-- a call that draws, inside a region that draws -/
theorem draws0 {P : Program} {f : FuncId} {args : Array Value} {w : World} {n : Nat} {v : Value}
    (h : Calls P f args (w.drewN n) fun e w' => e = .returned v ∧ ∃ m, w' = (w.drewN n).drewN m) :
    Calls P f args (w.drewN n) fun e w'' => e = .returned v ∧ ∃ m, w'' = w.drewN m := by
  refine h.mono ?_
  rintro e w' ⟨he, m, rfl⟩
  exact ⟨he, n + m, by rw [World.drewN_drewN]⟩
theorem draws1 {P : Program} {f : FuncId} {args : Array Value} {w : World} {a n : Nat} {v : Value}
    (h : Calls P f args (w.drewN (a + n)) fun e w' => e = .returned v ∧ ∃ m, w' = (w.drewN (a + n)).drewN m) :
    Calls P f args (w.drewN (a + n)) fun e w'' => e = .returned v ∧ ∃ m, w'' = w.drewN (a + m) := by
  refine h.mono ?_
  rintro e w' ⟨he, m, rfl⟩
  exact ⟨he, n + m, by rw [World.drewN_drewN, Nat.add_assoc]⟩
theorem below_drewN {B : Nat} {a w : World} (h : Below B a w) (n : Nat) : Below B a (w.drewN n) := ⟨h.os, h.tape, h.output, h.size, h.block⟩
end Go.Proofs.YtcbiangocfhhlaaDoor

/-
  The frame word of this project's contracts: 'Upd S w w'': behind the call every block that was there and is not in S is as it was.
-/
namespace Go.Proofs.YtcbiangocfhhlaaDoor
open Go.RowKit

/-- nothing that was there has turned but the blocks in S -/
structure Upd (S : Nat → Prop) (w w' : World) : Prop where
  os : w'.os = w.os
  tape : w'.tape = w.tape
  output : w'.output = w.output
  size : w.heap.size ≤ w'.heap.size
  block : ∀ k, k < w.heap.size → ¬ S k → w'.heap[k]? = w.heap[k]?

theorem Upd.refl (S : Nat → Prop) (w : World) : Upd S w w := ⟨rfl, rfl, rfl, Nat.le_refl _, fun _ _ _ => rfl⟩
theorem Upd.trans {S : Nat → Prop} {a b c : World} (h : Upd S a b) (k : Upd S b c) : Upd S a c :=
  ⟨k.os.trans h.os, k.tape.trans h.tape, k.output.trans h.output, Nat.le_trans h.size k.size, fun i hi hs => (k.block i (Nat.lt_of_lt_of_le hi h.size) hs).trans (h.block i hi hs)⟩
theorem Upd.mono {S T : Nat → Prop} {a b : World} (h : Upd S a b) (hs : ∀ k, k < a.heap.size → S k → T k) : Upd T a b :=
  ⟨h.os, h.tape, h.output, h.size, fun i hi ht => h.block i hi fun x => ht (hs i hi x)⟩
theorem Upd.drewN {S : Nat → Prop} {a b : World} (h : Upd S a b) (n : Nat) : Upd S a (b.drewN n) := ⟨h.os, h.tape, h.output, h.size, h.block⟩
theorem Upd.drew {S : Nat → Prop} {a b : World} (h : Upd S a b) : Upd S a b.drew := ⟨h.os, h.tape, h.output, h.size, h.block⟩
theorem Upd.alloc {S : Nat → Prop} {a b : World} (h : Upd S a b) (o : Obj) : Upd S a (b.alloc o) :=
  h.trans ⟨rfl, rfl, rfl, by simp, fun k hk _ => Below.heap_alloc _ _ _ hk⟩
theorem Upd.setCell {S : Nat → Prop} {a b : World} (h : Upd S a b) {p : Addr} (hp : S p.block ∨ a.heap.size ≤ p.block) (u : Value) : Upd S a (b.setCell p u) :=
  ⟨h.os, h.tape, h.output, by have := h.size; simpa [World.setCell] using this, fun k hk hs => by
    rw [Below.heap_setCell _ _ _ _ (by rintro rfl; rcases hp with hp | hp; exact hs hp; omega)]; exact h.block k hk hs⟩
theorem Upd.setCells {S : Nat → Prop} {a : World} {p : Nat} (hp : S p ∨ a.heap.size ≤ p) : ∀ (vs : List Value) (o : Nat) {b : World}, Upd S a b → Upd S a (b.setCells p o vs)
  | [], _, _, h => h
  | v :: r, o, b, h => by
    rw [World.setCells]
    exact Upd.setCells hp r (o + 1) (h.setCell (p := ⟨p, o, none⟩) hp v)
theorem Upd.below {S : Nat → Prop} {a b : World} {B : Nat} (h : Upd S a b) (hB : B ≤ a.heap.size) (hs : ∀ k, k < B → ¬ S k) : Below B a b :=
  ⟨h.os, h.tape, h.output, h.size, fun k hk => h.block k (by omega) (hs k hk)⟩
theorem Upd.of_below {S : Nat → Prop} {a b : World} (h : Below a.heap.size a b) : Upd S a b :=
  ⟨h.os, h.tape, h.output, h.size, fun k hk _ => h.block k hk⟩
theorem lt_of_heap {w : World} {k : Nat} {o : Obj} (h : w.heap[k]? = some o) : k < w.heap.size := by
  rcases Nat.lt_or_ge k w.heap.size with h1 | h1
  · exact h1
  · rw [Array.getElem?_eq_none h1] at h; cases h
theorem Upd.at {S : Nat → Prop} {a b : World} (h : Upd S a b) {k : Nat} {o : Obj} (hk : a.heap[k]? = some o) (hs : ¬ S k) : b.heap[k]? = some o := by
  rw [h.block k (lt_of_heap hk) hs]; exact hk
theorem Upd.cell {S : Nat → Prop} {a b : World} (u : Upd S a b) {p : Addr} {v : Value} (h : a.cell? p = some v) (hs : ¬ S p.block) : b.cell? p = some v := by
  rw [World.cell?_of_block (w := a) (u.block p.block (World.block_lt_of_cell? a p h) hs)]; exact h
theorem Upd.rangeAt {S : Nat → Prop} {a b : World} (u : Upd S a b) {p o : Nat} {cs : List Value} (h : a.rangeAt p o cs) (hs : ¬ S p) : b.rangeAt p o cs := fun j v hv => u.cell (h j v hv) hs
/-- a whole array stored: its number of cells named apart -/
theorem wpList_store_sz {P : Program} {ops : Array Oper} {rest : List Oper} {op : Oper} {a : Act} {w : World} {Q : Exit → Act → World → Prop} (hgd : op.guard = none) (ty : TypeId) (x y : Operand) (ho : op.op = .store ty x y)
    (b o : Nat) (cells : Array Value) (hx : a.eval x = .pointer (some ⟨b, o, none⟩)) (hy : a.eval y = .agg cells) (k : Nat) (hk : cells.size = k)
    (ht : w.there b o k) (hi : (P.info? ty).map (·.size) = some k) (h1 : cells.all (·.oneCell') = true) (cs : List Value) (hcs : cells.toList = cs)
    (h : wpList P ops Q rest (a.put op.dst undef) (w.setCells b o cs)) : wpList P ops Q (op :: rest) a w := by
  subst hk hcs
  exact wpList_store_mid hgd ty x y ho b o cells hx hy ht hi h1 h
/-- 'make([]T, n)': the very world behind it -/
theorem wpList_make_exact {P : Program} {w : World} {ops : Array Oper} {rest : List Oper} {o : Oper} {a : Act} {Q : Exit → Act → World → Prop}
    (hg : o.guard = none) (l c : Operand) (t : TypeId) (hop : o.op = Op.makeSlice t l c) (e : TypeId) (z : Value) (size bytes : Nat) (h1 : P.underlying t = some (.slice e))
    (hi : (P.info? e).map (fun i => (i.zero, i.size, i.bytes)) = some (some z, size, bytes)) (kl kc : IntKind) (n : Nat) (hl : a.eval l = .int kl n) (hc : a.eval c = .int kc n)
    (b2 : bytes * n ≤ 281474976710656) (b3 : n ≤ 9223372036854775807) (C : Array Value) (hC : madeCells z.cells (n * size) = C)
    (hK : wpList P ops Q rest (a.put o.dst (.slice (some ⟨w.heap.size, 0, none⟩) n n)) (w.alloc (.cells C e))) :
    wpList P ops Q (o :: rest) a w := by
  obtain ⟨i, hj, hz, hs, hb⟩ := info_parts hi
  subst hs hb hC
  refine wpList_plain hg fun K hK' => ?_
  have hb' : (i.bytes : Int) * (n : Int) ≤ 281474976710656 := by
    have h : ((i.bytes * n : Nat) : Int) ≤ 281474976710656 := by omega
    rwa [Int.natCast_mul] at h
  have hrun := run_make (P := P) w t e i z h1 hj hz kl kc n n (by omega) (Int.le_refl _) hb' (by omega)
  simp only [Int.toNat_natCast] at hrun
  unfold Oper.wp
  simp [execOp, hop, hl, hc, hrun, Result.andThen]
  exact hK' _ _ hK
/-- a new row of one value over and over -/
theorem madeCells_same (v : Value) (k n : Nat) (hk : 0 < k) : madeCells (List.replicate k v).toArray n = (List.replicate n v).toArray := by
  apply Array.ext
  · simp [madeCells]
  · intro i h1 h2
    have : i % k < k := Nat.mod_lt _ hk
    simp [madeCells, this]
end Go.Proofs.YtcbiangocfhhlaaDoor

/-
  Rows of integers: their cells, words laid over them, arrays of integers compared.
-/
namespace Go.Proofs.YtcbiangocfhhlaaDoor
open Go.RowKit

/-- the cells of numbers -/
def ints (k : IntKind) (l : List Int) : List Value := l.map (Value.int k)
theorem ints_length (k : IntKind) (l : List Int) : (ints k l).length = l.length := by simp [ints]
theorem ints_getElem? (k : IntKind) (l : List Int) (i : Nat) (h : i < l.length) : (ints k l)[i]? = some (.int k (l.getD i 0)) := by
  simp [ints, List.getElem?_eq_getElem h]
theorem ints_one (k : IntKind) (l : List Int) : (ints k l).toArray.all (·.oneCell') = true := all_oneCell_toArray fun v hv => by
  obtain ⟨z, _, rfl⟩ := List.mem_map.1 hv; rfl
theorem splice_ints (k : IntKind) (ws : List Int) (o : Nat) (vs : List Int) : splice (ints k ws) o (ints k vs) = ints k (splice ws o vs) := by
  simp [splice, ints, List.map_append, List.map_take, List.map_drop]
theorem splice_splice {α : Type} (L : List α) (o : Nat) (a b : List α) (h : o + a.length + b.length ≤ L.length) : splice (splice L o a) (o + a.length) b = splice L o (a ++ b) := by
  unfold splice
  have e1 : (L.take o ++ (a ++ L.drop (o + a.length))).take (o + a.length) = L.take o ++ a := by
    rw [← List.append_assoc, List.take_append_of_le_length (by simp; omega)]
    exact List.take_of_length_le (by simp; omega)
  have e2 : (L.take o ++ (a ++ L.drop (o + a.length))).drop (o + a.length + b.length) = L.drop (o + a.length + b.length) := by
    rw [← List.append_assoc, List.drop_append, List.drop_eq_nil_of_le (by simp; omega), List.nil_append, List.drop_drop]
    congr 1
    simp; omega
  rw [e1, e2]
  simp [Nat.add_assoc]
theorem heap_setCells_other (b : Nat) : ∀ (vs : List Value) (o : Nat) (w : World) (k : Nat), k ≠ b → (w.setCells b o vs).heap[k]? = w.heap[k]?
  | [], _, _, _, _ => rfl
  | v :: r, o, w, k, h => by
    rw [World.setCells, heap_setCells_other b r (o + 1) _ k h, Below.heap_setCell _ _ _ _ h]
theorem heap_setCell_same {w : World} {b : Nat} {C : List Value} {t : TypeId} (h : w.heap[b]? = some (.cells C.toArray t (0, 0))) (o : Nat) (v : Value) :
    (w.setCell ⟨b, o, none⟩ v).heap[b]? = some (.cells (C.set o v).toArray t (0, 0)) := by
  simp only [World.setCell, Array.getElem?_modify, if_true, h, Option.map_some]
  simp
theorem heap_setCells_same (b t : Nat) : ∀ (vs : List Value) (o : Nat) (w : World) (C : List Value), w.heap[b]? = some (.cells C.toArray t (0, 0)) → o + vs.length ≤ C.length →
    (w.setCells b o vs).heap[b]? = some (.cells (splice C o vs).toArray t (0, 0))
  | [], o, w, C, h, _ => by simpa [World.setCells, splice] using h
  | v :: r, o, w, C, h, hl => by
    rw [World.setCells, heap_setCells_same b t r (o + 1) _ _ (heap_setCell_same h o v) (by simp at hl ⊢; omega)]
    simp only [Option.some.injEq, Obj.cells.injEq, and_true, Array.mk.injEq]
    simp at hl
    unfold splice
    rw [List.take_set, List.drop_set, if_pos (by omega)]
    rw [List.take_add_one, List.getElem?_eq_getElem (by omega)]
    rw [List.set_append]
    simp
    rw [show min o C.length = o from by omega]
    simp
    omega
/-- a block that is known whole -/
theorem rangeAt_block {w : World} {b t : Nat} {k : IntKind} {l : List Int} (h : w.heap[b]? = some (.cells (ints k l).toArray t (0, 0))) : w.rangeAt b 0 (ints k l) := by
  have := World.rangeAt_of_block h 0 l.length
  have e : ((ints k l).toArray.extract 0 (0 + l.length)).toList = ints k l := by
    simp [List.extract, List.take_of_length_le, ints_length]
  rwa [e] at this
theorem frozen_block {w : World} {b t : Nat} {c : Array Value} (h : w.heap[b]? = some (.cells c t (0, 0))) (i : Nat) : w.frozen? ⟨b, i, none⟩ = false := by
  unfold World.frozen?
  rw [h]
  simp
theorem there_block {w : World} {b t : Nat} {k : IntKind} {l : List Int} (h : w.heap[b]? = some (.cells (ints k l).toArray t (0, 0))) (o n : Nat) (hn : o + n ≤ l.length) : w.there b o n := fun j hj =>
  ⟨by rw [cell_of_row w b _ _ _ _ h, List.getElem?_toArray, ints_getElem? _ _ _ (by omega)]; rfl, frozen_block h _⟩
theorem splice_all {α : Type} (l vs : List α) (h : vs.length = l.length) : splice l 0 vs = vs := by
  unfold splice
  rw [List.drop_eq_nil_of_le (by omega)]
  simp
theorem cell_block {w : World} {b t : Nat} {k : IntKind} {l : List Int} (h : w.heap[b]? = some (.cells (ints k l).toArray t (0, 0))) (i : Nat) (hi : i < l.length) : w.cell? ⟨b, i, none⟩ = some (.int k (l.getD i 0)) := by
  rw [cell_of_row w b _ _ _ _ h, List.getElem?_toArray, ints_getElem? _ _ _ hi]
/-! arrays of integers compared -/
theorem run_part_ints {P : Program} {w : World} {e : TypeId} {k : IntKind} (he : P.underlying e = some (.int k)) (l : List Int) (i : Nat) (h : i < l.length) :
    (part e (ints k l).toArray i).run P w = .ok (.int k (l.getD i 0)) w := by
  have hagg : (isAgg e).run P w = .ok false w := by
    unfold isAgg
    rw [Sem.run_bind, run_underlying he w]
    rfl
  unfold part
  rw [Sem.run_bind, hagg]
  simp only [Result.andThen_ok, Bool.false_eq_true, if_false, List.getElem?_toArray, ints_getElem? _ _ _ h]
  rfl
theorem run_eq_from {P : Program} {w : World} {e : TypeId} {k : IntKind} (d : Nat) (he : P.underlying e = some (.int k)) (l l' : List Int) :
    ∀ (m i : Nat), i + m ≤ l.length → i + m ≤ l'.length →
      (forIn (m := Sem) (List.range' i m) ((none, ()) : Option Bool × Unit) fun j _ => do
        if !(← Op.equalIn (d + 1) e (← part e (ints k l).toArray (j * 1)) (← part e (ints k l').toArray (j * 1))) then pure (.done (some false, ())) else pure (.yield (none, ()))).run P w
      = .ok (if (l.drop i).take m = (l'.drop i).take m then (none, ()) else (some false, ())) w
  | 0, i, _, _ => by simp
  | m + 1, i, h1, h2 => by
    have ih := run_eq_from (w := w) d he l l' m (i + 1) (by omega) (by omega)
    rw [List.range'_succ, List.forIn_cons]
    simp only [Nat.mul_one] at ih ⊢
    simp only [Sem.run_bind, run_part_ints he l i (by omega), run_part_ints he l' i (by omega), Result.andThen_ok, run_equalIn_int w d e k k _ _ he]
    rw [List.drop_eq_getElem_cons (by omega : i < l.length), List.drop_eq_getElem_cons (by omega : i < l'.length), List.take_succ_cons, List.take_succ_cons]
    by_cases hq : l[i] = l'[i]
    · simp only [List.getD_eq_getElem?_getD, List.getElem?_eq_getElem (by omega : i < l.length), List.getElem?_eq_getElem (by omega : i < l'.length), Option.getD_some, hq, beq_self_eq_true, Bool.not_true, Bool.false_eq_true, if_false, Sem.run_pure, Result.andThen_ok]
      rw [ih]
      simp
    · simp only [List.getD_eq_getElem?_getD, List.getElem?_eq_getElem (by omega : i < l.length), List.getElem?_eq_getElem (by omega : i < l'.length), Option.getD_some, beq_eq_false_iff_ne.2 hq, Bool.not_false, if_true, Sem.run_pure, Result.andThen_ok]
      rw [if_neg (by simp [hq])]
theorem run_equalIn_ints {P : Program} {w : World} {t e : TypeId} {k : IntKind} {n : Nat} (d : Nat) (ht : P.underlying t = some (.array n e)) (he : P.underlying e = some (.int k)) (hs : (P.info? e).map (·.size) = some 1)
    (l l' : List Int) (h : l.length = n) (h' : l'.length = n) :
    (Op.equalIn (d + 2) t (.agg (ints k l).toArray) (.agg (ints k l').toArray)).run P w = .ok (decide (l = l')) w := by
  have hz : (sizeOf e).run P w = .ok 1 w := by
    cases hq : P.info? e with
    | none => simp [hq] at hs
    | some i => simp [hq] at hs; simp [sizeOf, typeInfo, hq, hs]
  have hf := run_eq_from (w := w) d he l l' n 0 (by omega) (by omega)
  have e1 : l.take n = l := List.take_of_length_le (by omega)
  have e2 : l'.take n = l' := List.take_of_length_le (by omega)
  simp only [List.drop_zero, e1, e2] at hf
  rw [Op.equalIn, Sem.run_bind, run_underlying ht, Result.andThen_ok]
  simp only [Sem.run_bind, hz, Result.andThen_ok]
  simp only [Std.Legacy.Range.forIn_eq_forIn_range', Std.Legacy.Range.size, Nat.sub_zero, Nat.add_sub_cancel, Nat.div_one]
  rw [hf]
  by_cases hq : l = l'
  · simp [hq]
  · simp [hq]
/-- the same as the walk spells it -/
theorem run_equal_ints {P : Program} {t e : TypeId} {k : IntKind} {n : Nat} (ht : P.underlying t = some (.array n e)) (he : P.underlying e = some (.int k)) (hs : (P.info? e).map (·.size) = some 1)
    (l l' : List Int) (h : l.length = n) (h' : l'.length = n) (b : Bool) (hb : decide (l = l') = b) (w : World) :
    (Op.equalIn 10000 t (.agg (ints k l).toArray) (.agg (ints k l').toArray)).run P w = .ok b w := by
  subst hb
  exact run_equalIn_ints (w := w) 9998 ht he hs l l' h h'
/-- 'a[i]' of an array of integers by value -/
theorem run_index_ints {P : Program} {t e : TypeId} {k : IntKind} {n : Nat} (ht : P.underlying t = some (.array n e)) (he : P.underlying e = some (.int k)) (hs : (P.info? e).map (·.size) = some 1)
    (l : List Int) (h : l.length = n) (kk : IntKind) (i : Nat) (hi : i < n) (x : Int) (hx : l.getD i 0 = x) (w : World) :
    (Instr.index t (.agg (ints k l).toArray) (.int kk i)).run P w = .ok (.int k x) w := by
  subst hx
  have hz : (sizeOf e).run P w = .ok 1 w := by
    cases hq : P.info? e with
    | none => simp [hq] at hs
    | some i => simp [hq] at hs; simp [sizeOf, typeInfo, hq, hs]
  unfold Instr.index
  rw [Sem.run_bind, show (asIntOf (.int kk (i : Int))).run P w = .ok (kk, (i : Int)) w from rfl, Result.andThen_ok]
  simp only [Sem.run_bind, run_underlying ht, Result.andThen_ok]
  rw [if_pos (by omega)]
  simp only [Sem.run_bind, hz, Result.andThen_ok, Int.toNat_natCast, Nat.mul_one]
  exact run_part_ints he l i (by omega)
theorem run_eqGuard_agg {P : Program} {w : World} {t : TypeId} (hg : P.eqGuardType P.depth t = false) (op : BinOp) (x y : Operand) (a b : Array Value) :
    (eqGuard op t x y (.agg a) (.agg b)).run P w = .ok () w := by
  unfold eqGuard
  split <;> simp [Sem.run_bind, run_program, hg]
theorem run_eql_ints {P : Program} {w : World} {t e : TypeId} {k : IntKind} {n : Nat} (ht : P.underlying t = some (.array n e)) (he : P.underlying e = some (.int k)) (hs : (P.info? e).map (·.size) = some 1)
    (hg : P.eqGuardType P.depth t = false) (x y : Operand) (l l' : List Int) (h : l.length = n) (h' : l'.length = n) :
    (do eqGuard .eql t x y (.agg (ints k l).toArray) (.agg (ints k l').toArray); binOp .eql t (.agg (ints k l).toArray) (.agg (ints k l').toArray) : Sem Value).run P w = .ok (.bool (decide (l = l'))) w := by
  rw [Sem.run_bind, run_eqGuard_agg hg, Result.andThen_ok]
  show (do pure (.bool (← Op.equal t (.agg (ints k l).toArray) (.agg (ints k l').toArray))) : Sem Value).run P w = _
  unfold Op.equal
  rw [Sem.run_bind, show Op.maxDepth = 9998 + 2 from rfl, run_equalIn_ints _ ht he hs l l' h h']
  rfl
/-- '==' of two arrays of integers -/
theorem wpList_eql_ints {P : Program} {ops : Array Oper} {Q : Exit → Act → World → Prop} {a : Act} {w : World} {rest : List Oper} {o : Oper} (hw : Region.wanted o (yielded ops a.tmps) = true)
    (t t' : TypeId) (x y : Operand) (ho : o.op = .binOp .eql t x y t') (k : IntKind) (l l' : List Int) (X Y : Array Value) (hx : a.eval x = .agg X) (hy : a.eval y = .agg Y) (eX : X = (ints k l).toArray) (eY : Y = (ints k l').toArray) (n : Nat) (e : TypeId)
    (ht : P.underlying t = some (.array n e)) (he : P.underlying e = some (.int k)) (hs : (P.info? e).map (·.size) = some 1) (hg : P.eqGuardType P.depth t = false) (h1 : l.length = n) (h2 : l'.length = n)
    (b : Bool) (hb : decide (l = l') = b) (h : wpList P ops Q rest (a.put o.dst (.bool b)) w) : wpList P ops Q (o :: rest) a w := by
  subst hb eX eY
  refine BigFrame.wpList_want hw fun K hK => ?_
  have hr := run_eql_ints (P := P) (w := w) ht he hs hg x y l l' h1 h2
  unfold Oper.wp
  simp only [execOp, ho, hx, hy]
  rw [Sem.run_bind, hr]
  exact hK _ _ h
theorem run_neq_ints {P : Program} {w : World} {t e : TypeId} {k : IntKind} {n : Nat} (ht : P.underlying t = some (.array n e)) (he : P.underlying e = some (.int k)) (hs : (P.info? e).map (·.size) = some 1)
    (hg : P.eqGuardType P.depth t = false) (x y : Operand) (l l' : List Int) (h : l.length = n) (h' : l'.length = n) :
    (do eqGuard .neq t x y (.agg (ints k l).toArray) (.agg (ints k l').toArray); binOp .neq t (.agg (ints k l).toArray) (.agg (ints k l').toArray) : Sem Value).run P w = .ok (.bool (!decide (l = l'))) w := by
  rw [Sem.run_bind, run_eqGuard_agg hg, Result.andThen_ok]
  show (do pure (.bool (!(← Op.equal t (.agg (ints k l).toArray) (.agg (ints k l').toArray)))) : Sem Value).run P w = _
  unfold Op.equal
  rw [Sem.run_bind, show Op.maxDepth = 9998 + 2 from rfl, run_equalIn_ints _ ht he hs l l' h h']
  rfl
/-- '!=' of two arrays of integers -/
theorem wpList_neq_ints {P : Program} {ops : Array Oper} {Q : Exit → Act → World → Prop} {a : Act} {w : World} {rest : List Oper} {o : Oper} (hw : Region.wanted o (yielded ops a.tmps) = true)
    (t t' : TypeId) (x y : Operand) (ho : o.op = .binOp .neq t x y t') (k : IntKind) (l l' : List Int) (X Y : Array Value) (hx : a.eval x = .agg X) (hy : a.eval y = .agg Y) (eX : X = (ints k l).toArray) (eY : Y = (ints k l').toArray) (n : Nat) (e : TypeId)
    (ht : P.underlying t = some (.array n e)) (he : P.underlying e = some (.int k)) (hs : (P.info? e).map (·.size) = some 1) (hg : P.eqGuardType P.depth t = false) (h1 : l.length = n) (h2 : l'.length = n)
    (b : Bool) (hb : (!decide (l = l')) = b) (h : wpList P ops Q rest (a.put o.dst (.bool b)) w) : wpList P ops Q (o :: rest) a w := by
  subst hb eX eY
  refine BigFrame.wpList_want hw fun K hK => ?_
  have hr := run_neq_ints (P := P) (w := w) ht he hs hg x y l l' h1 h2
  unfold Oper.wp
  simp only [execOp, ho, hx, hy]
  rw [Sem.run_bind, hr]
  exact hK _ _ h
/-- '!=' of two arrays of integers, as a step of a region that draws -/
theorem step_neq_ints {P : Program} {ops : Array Oper} {o : Oper} {a : Act} {w : World} {K : Act → World → Prop} {Q : Exit → Act → World → Prop} {E : Prop} (hw : Region.wanted o (yielded ops a.tmps) = true)
    (t t' : TypeId) (x y : Operand) (ho : o.op = .binOp .neq t x y t') (k : IntKind) (l l' : List Int) (X Y : Array Value) (hx : a.eval x = .agg X) (hy : a.eval y = .agg Y) (eX : X = (ints k l).toArray) (eY : Y = (ints k l').toArray) (n : Nat) (e : TypeId)
    (ht : P.underlying t = some (.array n e)) (he : P.underlying e = some (.int k)) (hs : (P.info? e).map (·.size) = some 1) (hg : P.eqGuardType P.depth t = false) (h1 : l.length = n) (h2 : l'.length = n)
    (b : Bool) (hb : (!decide (l = l')) = b) (h : K (a.put o.dst (.bool b)) w) : if Region.wanted o (yielded ops a.tmps) = true then Oper.wp P o a w K Q else E := by
  subst hb eX eY
  rw [if_pos hw]
  have hr := run_neq_ints (P := P) (w := w) ht he hs hg x y l l' h1 h2
  unfold Oper.wp
  simp only [execOp, ho, hx, hy]
  rw [Sem.run_bind, hr]
  exact h
/-- a new block into which a row is laid at once -/
theorem alloc_store (w : World) (k : IntKind) (Z L : List Int) (t : TypeId) (h : L.length = Z.length) :
    ((w.alloc (.cells (ints k Z).toArray t)).setCells w.heap.size 0 (ints k L)).heap[w.heap.size]? = some (.cells (ints k L).toArray t (0, 0)) ∧
    Upd (fun _ => False) w ((w.alloc (.cells (ints k Z).toArray t)).setCells w.heap.size 0 (ints k L)) ∧ (w.alloc (.cells (ints k Z).toArray t)).there w.heap.size 0 L.length := by
  have h0 := heap_alloc_last w (.cells (ints k Z).toArray t)
  refine ⟨?_, Upd.setCells (by right; exact Nat.le_refl _) _ _ ((Upd.refl _ _).alloc _), there_block h0 0 L.length (by omega)⟩
  rw [heap_setCells_same _ _ (ints k L) 0 _ (ints k Z) h0 (by rw [ints_length, ints_length, h]; omega), splice_ints, splice_all _ _ h]
/-- 'copy' over a whole block of integers -/
theorem wpList_copy_ints {P : Program} {w : World} {ops : Array Oper} {rest : List Oper} {o : Oper} {a : Act} {Q : Exit → Act → World → Prop} (hgd : o.guard = none) (d s : Operand) (dT sT : TypeId)
    (ho : o.op = .call { callee := .builtin .copy, args := #[d, s], argTypes := #[dT, sT] }) (elem : TypeId) (hu : P.underlying dT = some (.slice elem)) (hsz : (P.info? elem).map (·.size) = some 1)
    (g dLen dCap b off sLen sCap : Nat) (hd : a.eval d = .slice (some ⟨g, 0, none⟩) dLen dCap) (hs : a.eval s = .slice (some ⟨b, off, none⟩) sLen sCap)
    (k : IntKind) (cur l : List Int) (t : TypeId) (hg : w.heap[g]? = some (.cells (ints k cur).toArray t (0, 0))) (hc : cur.length = dLen) (hl : l.length = dLen) (hsl : sLen = dLen)
    (hsrc : w.rangeAt b off (ints k l))
    (h : ∀ w', Hid (w'.heap[g]? = some (.cells (ints k l).toArray t (0, 0))) → Upd (· = g) w w' → wpList P ops Q rest (a.put o.dst (goInt dLen)) w') : wpList P ops Q (o :: rest) a w := by
  subst hsl
  refine wpList_copy_own hgd d s dT sT ho elem hu hsz g 0 _ dCap ⟨b, off, none⟩ _ sCap hd hs (ints k cur).toArray t hg (ints k l) (by rw [ints_length, hl]; simp) (fun j v hv => by rw [Addr.add_mid]; exact hsrc j v hv) (by simp [ints_length]; omega)
    (fun v hv => by obtain ⟨z, _, rfl⟩ := List.mem_map.1 hv; rfl) ?_
  rw [ints_length, hl]
  refine h _ (show _ = _ from ?_) ⟨rfl, rfl, rfl, by simp [World.setRow], fun i _ hi => setRow_other w g i _ hi⟩
  rw [setRow_heap w g _ _ t _ hg]
  simp [ints_length, hc, List.drop_eq_nil_of_le]
/-- a region that draws, of which all but a tail in one order only reads: the world behind the draw under a name -/
theorem wp_region_tail {P : Program} {id : Nat} {Q : Exit → Act → World → Prop} {a : Act} {w : World} {l : List Oper} (n : Nat) (hm : P.follows .mixedOrders = true) (hB : Region.lexTailB .any l.toArray n = true)
    (h : ∀ w2, w2 = w.drew → wpStill P l.toArray w2 (fun a' => wpList P l.toArray Q (l.drop n) a' w2) (l.take n) a) : (Code.region id l.toArray true).wp P Q a w :=
  wp_region_still_tail n hm hB (h _ rfl)
/-- a whole array loaded in a region that draws, ahead of its tail -/
theorem wpStill_load_sz {P : Program} {ops : Array Oper} {rest : List Oper} {op : Oper} {a : Act} {w : World} {Q : Act → Prop} (hw : Region.wanted op (yielded ops a.tmps) = true) (ty : TypeId) (x : Operand) (ho : op.op = .load ty x)
    (b o : Nat) (hx : a.eval x = .pointer (some ⟨b, o, none⟩)) (cs : List Value) (d : TypeDesc) (hc : w.rangeAt b o cs)
    (hu : P.underlying ty = some d) (hd : d.isRow = true) (k : Nat) (hk : cs.length = k) (hi : (P.info? ty).map (·.size) = some k)
    (h : wpStill P ops w Q rest (a.put op.dst (.agg cs.toArray))) : wpStill P ops w Q (op :: rest) a := by
  subst hk
  refine wpStill_step fun K hK => ?_
  rw [if_pos hw]
  unfold Oper.still execOp
  simp only [ho, hx, Instr.loadAt, Instr.sureAddr, Sem.run_bind, Sem.run_pure, Result.andThen_ok, run_loadVar_mid w b o ty cs d hc hu hd hi]
  exact ⟨rfl, hK _ h⟩
/-- a whole array loaded, guarded or not -/
theorem wpList_load_sz {P : Program} {ops : Array Oper} {rest : List Oper} {op : Oper} {a : Act} {w : World} {Q : Exit → Act → World → Prop} (hw : Region.wanted op (yielded ops a.tmps) = true) (ty : TypeId) (x : Operand) (ho : op.op = .load ty x)
    (b o : Nat) (hx : a.eval x = .pointer (some ⟨b, o, none⟩)) (cs : List Value) (d : TypeDesc) (hc : w.rangeAt b o cs)
    (hu : P.underlying ty = some d) (hd : d.isRow = true) (k : Nat) (hk : cs.length = k) (hi : (P.info? ty).map (·.size) = some k)
    (h : wpList P ops Q rest (a.put op.dst (.agg cs.toArray)) w) : wpList P ops Q (op :: rest) a w := by
  subst hk
  exact BigFrame.wpList_want hw fun _ hK => wp_load_mid ty x ho b o hx cs d hc hu hd hi (hK _ _ h)
end Go.Proofs.YtcbiangocfhhlaaDoor

/-
  The document's own instructions: which operands, which are right.
-/
namespace Go.Proofs.YtcbiangocfhhlaaDoor
open Go.ChangeShapes Go.WideShapes Go.ChangeAt Go.RowKit

theorem size_b4 : (Tryd.prog.info? 74).map (·.size) = some 4 := by kernel_rfl
theorem ret_b4 {fn : Func} {p : Tmp} (h : fn.results = #[.cell p 74]) (tmps : Array Value) (w : World) (g : Nat) (a b c d : Bool) (hp : tmps.getD p undef = .pointer (some ⟨g, 0, none⟩)) (hg : w.heap[g]? = some (.cells #[.bool a, .bool b, .bool c, .bool d] 74 (0, 0))) :
    (results fn tmps).run Tryd.prog w = .ok (.agg #[.bool a, .bool b, .bool c, .bool d]) w :=
  results_cell_row h tmps w g _ _ _ _ hp hg Tryd.underlying74 rfl size_b4
set_option maxHeartbeats 4000000 in
theorem inames_any (op : Nat) (h : op < 12) (w : World) : Calls Tryd.prog 31 #[.int .i64 (op : Nat)] w fun e w' => e = .returned (.agg #[.bool (hasA op), .bool (hasB op), .bool (hasC op), .bool (hasM op)]) ∧ Upd (fun _ => False) w w' := by
  have hc : op = 0 ∨ op = 1 ∨ op = 2 ∨ op = 3 ∨ op = 4 ∨ op = 5 ∨ op = 6 ∨ op = 7 ∨ op = 8 ∨ op = 9 ∨ op = 10 ∨ op = 11 := by omega
  clear h
  rcases hc with rfl | rfl | rfl | rfl | rfl | rfl | rfl | rfl | rfl | rfl | rfl | rfl
  all_goals
    go_enter Tryd.func31, Tryd.ntmps31
    go_wp2
    (try simp only [Exit.inBlock, Exit.then])
    refine bodyPost_ret (ret_b4 rfl _ _ w.heap.size _ _ _ _ rfl (heap_alloc_last w _)) rfl ⟨?_, (Upd.refl _ _).alloc _⟩
    kernel_rfl
end Go.Proofs.YtcbiangocfhhlaaDoor

/-
  The document's own instructions: Right, Word.
-/
namespace Go.Proofs.YtcbiangocfhhlaaDoor
open Go.ChangeShapes Go.WideShapes Go.ChangeAt Go.RowKit

/-- the operands by their places -/
def Ins.p (i : Ins) : Nat → Int
  | 0 => i.a
  | 1 => i.b
  | 2 => i.c
  | _ => i.m
def Ins.h (i : Ins) : Nat → Bool
  | 0 => hasA i.op
  | 1 => hasB i.op
  | 2 => hasC i.op
  | _ => hasM i.op
/-- what is asked of an operand -/
def Ins.fine (i : Ins) (k : Nat) : Prop := (0 ≤ i.p k ∧ (k < 3 → i.p k ≤ 7) ∧ i.p k ≤ 65535) ∧ (i.h k = false → i.p k = 0)
theorem Ins.ok_of {i : Ins} (h0 : 0 ≤ i.op ∧ i.op ≤ 11) (h : ∀ k, k < 4 → i.fine k) : i.right = true := by
  obtain ⟨a1, a2⟩ := h 0 (by omega)
  obtain ⟨b1, b2⟩ := h 1 (by omega)
  obtain ⟨c1, c2⟩ := h 2 (by omega)
  obtain ⟨m1, m2⟩ := h 3 (by omega)
  exact (Ins.right_iff i).2 ⟨h0, ⟨a1.1, a1.2.1 (by omega)⟩, ⟨b1.1, b1.2.1 (by omega)⟩, ⟨c1.1, c1.2.1 (by omega)⟩, ⟨m1.1, m1.2.2⟩, a2, b2, c2, m2⟩
theorem Ins.fine_of {i : Ins} (h : i.right = true) : ∀ k, i.fine k := by
  have q := (Ins.right_iff i).1 h
  intro k
  match k with
  | 0 => exact ⟨⟨q.a.1, fun _ => q.a.2, by have := q.a.2; show i.a ≤ 65535; omega⟩, q.na⟩
  | 1 => exact ⟨⟨q.b.1, fun _ => q.b.2, by have := q.b.2; show i.b ≤ 65535; omega⟩, q.nb⟩
  | 2 => exact ⟨⟨q.c.1, fun _ => q.c.2, by have := q.c.2; show i.c ≤ 65535; omega⟩, q.nc⟩
  | k + 3 => exact ⟨⟨q.m.1, fun h => by omega, q.m.2⟩, q.nm⟩
theorem Ins.bad_of {i : Ins} {k : Nat} (h : ¬ i.fine k) : i.right = false := by
  cases hr : i.right
  · rfl
  · exact absurd (Ins.fine_of hr k) h
set_option maxRecDepth 100000 in
set_option maxHeartbeats 4000000 in
theorem iright_any (i : Ins) (w : World) : Calls Tryd.prog 27 #[.agg #[.int .i64 i.op, .int .i64 i.a, .int .i64 i.b, .int .i64 i.c, .int .i64 i.m]] w fun e w' => e = .returned (.bool i.right) ∧ Upd (fun _ => False) w w' := by
  have U0 := Lib.hid ((Upd.refl (fun _ => False) w).alloc (.cells #[.int .i64 i.op, .int .i64 i.a, .int .i64 i.b, .int .i64 i.c, .int .i64 i.m] 50))
  by_cases o1 : i.op < 0
  · have hr := Lib.hid (show i.right = false from by unfold Ins.right; rw [decide_eq_false (by omega)]; rfl)
    go_enter Tryd.func27, Tryd.ntmps27
    go_wp2
    go_ret
    exact ⟨by rw [hr.out]; rfl, U0.out⟩
  by_cases o2 : 11 < i.op
  · have hr := Lib.hid (show i.right = false from by unfold Ins.right; rw [decide_eq_false (by omega)]; rfl)
    go_enter Tryd.func27, Tryd.ntmps27
    go_wp2
    go_ret
    exact ⟨by rw [hr.out]; rfl, U0.out⟩
  have hok := Lib.hid (Ins.ok_of (i := i) ⟨by omega, by omega⟩)
  have hbad := Lib.hid (fun k => Ins.bad_of (i := i) (k := k))
  have hfine : Hid (∀ k, i.fine k ↔ (0 ≤ i.p k ∧ (k < 3 → i.p k ≤ 7) ∧ i.p k ≤ 65535) ∧ (i.h k = false → i.p k = 0)) := Lib.hid (fun _ => Iff.rfl)
  have hp : Hid (i.p 0 = i.a ∧ i.p 1 = i.b ∧ i.p 2 = i.c ∧ i.p 3 = i.m ∧ i.h 0 = hasA i.op ∧ i.h 1 = hasB i.op ∧ i.h 2 = hasC i.op ∧ i.h 3 = hasM i.op) := Lib.hid ⟨rfl, rfl, rfl, rfl, rfl, rfl, rfl, rfl⟩
  generalize i.right = RR at hok hbad ⊢
  generalize i.fine = fine at hok hbad hfine
  generalize i.p = p at hfine hp
  generalize i.h = hh at hfine hp
  obtain ⟨op, a, b, c, m⟩ := i
  simp only at *
  obtain ⟨on, rfl⟩ := Int.eq_ofNat_of_zero_le (show 0 ≤ op by omega)
  have cN := Lib.hid (fun W => inames_any on (by omega) W)
  generalize hasA (on : Int) = hA at hp cN
  generalize hasB (on : Int) = hB at hp cN
  generalize hasC (on : Int) = hC at hp cN
  generalize hasM (on : Int) = hM at hp cN
  go_enter Tryd.func27, Tryd.ntmps27
  have X := heap_alloc_last w (.cells #[.int .i64 (on : Int), .int .i64 a, .int .i64 b, .int .i64 c, .int .i64 m] 50)
  have i0 : (w.alloc (.cells #[.int .i64 (on : Int), .int .i64 a, .int .i64 b, .int .i64 c, .int .i64 m] 50)).cell? ⟨w.heap.size, 0, none⟩ = some (.int .i64 on) := by rw [cell_of_row _ _ _ _ _ _ X]; rfl
  have HX := Lib.hid i0
  have HX1 := Lib.hid (show ∀ W, Upd (fun _ => False) (w.alloc (.cells #[.int .i64 (on : Int), .int .i64 a, .int .i64 b, .int .i64 c, .int .i64 m] 50)) W → W.cell? ⟨w.heap.size, 1, none⟩ = some (.int .i64 a) ∧ W.cell? ⟨w.heap.size, 2, none⟩ = some (.int .i64 b) ∧ W.cell? ⟨w.heap.size, 3, none⟩ = some (.int .i64 c) ∧ W.cell? ⟨w.heap.size, 4, none⟩ = some (.int .i64 m) from fun W u => by
    have h := u.at X id
    refine ⟨?_, ?_, ?_, ?_⟩ <;> (rw [cell_of_row _ _ _ _ _ _ h]; rfl))
  clear X
  go_wp2_with fail
  refine (cN.out _).mono ?_
  rintro e w2 ⟨rfl, u2⟩
  obtain ⟨q1, q2, q3, q4⟩ := HX1.out _ (u2.alloc (.cells #[.bool hA, .bool hB, .bool hC, .bool hM] 74))
  have V2 := Lib.hid (U0.out.trans u2)
  clear HX HX1 i0 u2 U0 cN
  generalize w.heap.size = XI at q1 q2 q3 q4 ⊢
  go_upto_region 4 with fail
  go_upto_region 5 with fail
  have hsz : (w2.alloc (.cells #[.bool hA, .bool hB, .bool hC, .bool hM] 74)).heap.size = w2.heap.size + 1 := by show (w2.heap.push _).size = _; simp
  have XP : ((w2.alloc (.cells #[.bool hA, .bool hB, .bool hC, .bool hM] 74)).alloc (.cells #[.int .i64 a, .int .i64 b, .int .i64 c, .int .i64 m] 69)).heap[w2.heap.size + 1]? = some (.cells #[.int .i64 a, .int .i64 b, .int .i64 c, .int .i64 m] 69 (0, 0)) := by rw [← hsz]; exact heap_alloc_last _ _
  have XN : ((w2.alloc (.cells #[.bool hA, .bool hB, .bool hC, .bool hM] 74)).alloc (.cells #[.int .i64 a, .int .i64 b, .int .i64 c, .int .i64 m] 69)).heap[w2.heap.size]? = some (.cells #[.bool hA, .bool hB, .bool hC, .bool hM] 74 (0, 0)) := ((Upd.refl (fun _ => False) _).alloc _).at (heap_alloc_last w2 _) id
  have V3 := Lib.hid ((V2.out.alloc (.cells #[.bool hA, .bool hB, .bool hC, .bool hM] 74)).alloc (.cells #[.int .i64 a, .int .i64 b, .int .i64 c, .int .i64 m] 69))
  have cp : Hid (∀ k : Nat, k < 4 → ((w2.alloc (.cells #[.bool hA, .bool hB, .bool hC, .bool hM] 74)).alloc (.cells #[.int .i64 a, .int .i64 b, .int .i64 c, .int .i64 m] 69)).cell? ⟨w2.heap.size + 1, k, none⟩ = some (.int .i64 (p k))) := Lib.hid (fun k hk => by
    obtain ⟨e0, e1, e2, e3, -⟩ := hp.out
    match k, hk with
    | 0, _ => rw [cell_of_row _ _ _ _ _ _ XP, e0]; rfl
    | 1, _ => rw [cell_of_row _ _ _ _ _ _ XP, e1]; rfl
    | 2, _ => rw [cell_of_row _ _ _ _ _ _ XP, e2]; rfl
    | 3, _ => rw [cell_of_row _ _ _ _ _ _ XP, e3]; rfl)
  have cn : Hid (∀ k : Nat, k < 4 → ((w2.alloc (.cells #[.bool hA, .bool hB, .bool hC, .bool hM] 74)).alloc (.cells #[.int .i64 a, .int .i64 b, .int .i64 c, .int .i64 m] 69)).cell? ⟨w2.heap.size, k, none⟩ = some (.bool (hh k))) := Lib.hid (fun k hk => by
    obtain ⟨-, -, -, -, e0, e1, e2, e3⟩ := hp.out
    match k, hk with
    | 0, _ => rw [cell_of_row _ _ _ _ _ _ XN, e0]; rfl
    | 1, _ => rw [cell_of_row _ _ _ _ _ _ XN, e1]; rfl
    | 2, _ => rw [cell_of_row _ _ _ _ _ _ XN, e2]; rfl
    | 3, _ => rw [cell_of_row _ _ _ _ _ _ XN, e3]; rfl)
  clear hsz XP XN V2 hp q1 q2 q3 q4
  generalize (w2.alloc (.cells #[.bool hA, .bool hB, .bool hC, .bool hM] 74)).alloc (.cells #[.int .i64 a, .int .i64 b, .int .i64 c, .int .i64 m] 69) = w3 at V3 cp cn ⊢
  generalize w2.heap.size + 1 = PB at cp ⊢
  generalize w2.heap.size = NB at cn ⊢
  go_wp2_with fail
  go_loopw [5] (fun t wr => ∃ k : Nat, k ≤ 4 ∧ t = .int .i64 k ∧ wr = w3 ∧ Hid (∀ j, j < k → fine j)) (fun t _ => 4 - (intOf t).toNat)
  case atStart => exact ⟨0, by omega, rfl, rfl, Lib.hid (fun j hj => absurd hj (by omega))⟩
  case round =>
    obtain ⟨k, hk, rfl, rfl, hall⟩ := hrel
    by_cases h4 : k < 4
    · have c1 := cp.out k h4
      have c2 := cn.out k h4
      have hf := hfine.out k
      have bad := Lib.hid (fun (h : ¬ ((0 ≤ p k ∧ (k < 3 → p k ≤ 7) ∧ p k ≤ 65535) ∧ (hh k = false → p k = 0))) => hbad.out k (fun f => h (hf.1 f)))
      have good := Lib.hid hf.2
      clear cp cn hf hfine
      generalize p k = z at c1 bad good
      generalize hh k = hb at c2 bad good
      have k0 : (0 : Int) ≤ (k : Int) := by omega
      have k4 : (k : Int) < 4 := by omega
      by_cases z0 : z < 0
      · have hr := bad.out (by omega)
        subst hr
        clear bad good hall hok hbad
        go_wp2
        go_ret
        exact ⟨rfl, V3.out⟩
      by_cases k3 : (k : Int) < 3
      · by_cases z7 : 7 < z
        · have hr := bad.out (by omega)
          subst hr
          clear bad good hall hok hbad
          go_wp2
          go_ret
          exact ⟨rfl, V3.out⟩
        have zb : ¬ 65535 < z := by omega
        cases hb
        · by_cases zz : z = 0
          · subst zz
            have g := good.out ⟨⟨by omega, by omega, by omega⟩, fun _ => rfl⟩
            clear bad good
            go_wp2
            go_roundw
            case rel => exact ⟨k + 1, by omega, by go_num, trivial, Lib.hid (fun j hj => (Nat.lt_succ_iff_lt_or_eq.1 hj).elim (hall.out j) (fun e => e ▸ g))⟩
            case measure => simp [intOf]; omega
          · have hr := bad.out (by simp [zz])
            subst hr
            clear bad good hall hok hbad
            have zz' : (z != 0) = true := by simp [zz]
            go_wp2
            go_ret
            exact ⟨rfl, V3.out⟩
        · have g := good.out ⟨⟨by omega, by omega, by omega⟩, fun h => by cases h⟩
          clear bad good
          go_wp2
          go_roundw
          case rel => exact ⟨k + 1, by omega, by go_num, trivial, Lib.hid (fun j hj => (Nat.lt_succ_iff_lt_or_eq.1 hj).elim (hall.out j) (fun e => e ▸ g))⟩
          case measure => simp [intOf]; omega
      · by_cases zb : 65535 < z
        · have hr := bad.out (by omega)
          subst hr
          clear bad good hall hok hbad
          go_wp2
          go_ret
          exact ⟨rfl, V3.out⟩
        cases hb
        · by_cases zz : z = 0
          · subst zz
            have g := good.out ⟨⟨by omega, by omega, by omega⟩, fun _ => rfl⟩
            clear bad good
            go_wp2
            go_roundw
            case rel => exact ⟨k + 1, by omega, by go_num, trivial, Lib.hid (fun j hj => (Nat.lt_succ_iff_lt_or_eq.1 hj).elim (hall.out j) (fun e => e ▸ g))⟩
            case measure => simp [intOf]; omega
          · have hr := bad.out (by simp [zz])
            subst hr
            clear bad good hall hok hbad
            have zz' : (z != 0) = true := by simp [zz]
            go_wp2
            go_ret
            exact ⟨rfl, V3.out⟩
        · have g := good.out ⟨⟨by omega, by omega, by omega⟩, fun h => by cases h⟩
          clear bad good
          go_wp2
          go_roundw
          case rel => exact ⟨k + 1, by omega, by go_num, trivial, Lib.hid (fun j hj => (Nat.lt_succ_iff_lt_or_eq.1 hj).elim (hall.out j) (fun e => e ▸ g))⟩
          case measure => simp [intOf]; omega
    · have e : k = 4 := by omega
      subst e
      have hr := hok.out (fun j hj => hall.out j hj)
      subst hr
      clear cp cn hall hok hbad hfine
      go_wp2
      go_ret
      exact ⟨rfl, V3.out⟩
end Go.Proofs.YtcbiangocfhhlaaDoor

/-
  The document's own instructions: Word, Of.
-/
namespace Go.Proofs.YtcbiangocfhhlaaDoor
open Go.ChangeShapes Go.WideShapes Go.ChangeAt Go.RowKit

/-- what Word answers -/
def Ins.wv (i : Ins) : Int := if i.right = true then i.word else 0
def Ins.we (i : Ins) : Int := if i.right = true then 0 else 1
theorem size_ins : (Tryd.prog.info? 50).map (·.size) = some 5 := by kernel_rfl
theorem ins_len (o a b c m : Int) : ([.int .i64 o, .int .i64 a, .int .i64 b, .int .i64 c, .int .i64 m] : List Value).length = 5 := rfl
/-- an instruction in memory -/
def InsAt (w : World) (X : Nat) (i : Ins) : Prop := w.heap[X]? = some (.cells ([.int .i64 i.op, .int .i64 i.a, .int .i64 i.b, .int .i64 i.c, .int .i64 i.m] : List Value).toArray 50 (0, 0))
theorem InsAt.range {w : World} {X : Nat} {i : Ins} (h : InsAt w X i) : w.rangeAt X 0 [.int .i64 i.op, .int .i64 i.a, .int .i64 i.b, .int .i64 i.c, .int .i64 i.m] := World.rangeAt_of_block h 0 5
theorem InsAt.kept {S : Nat → Prop} {w w' : World} {X : Nat} {i : Ins} (h : InsAt w X i) (u : Upd S w w') (hs : ¬ S X) : InsAt w' X i := u.at h hs
theorem InsAt.c {w : World} {X : Nat} {i : Ins} (h : InsAt w X i) : w.cell? ⟨X, 0, none⟩ = some (.int .i64 i.op) ∧ w.cell? ⟨X, 1, none⟩ = some (.int .i64 i.a) ∧ w.cell? ⟨X, 2, none⟩ = some (.int .i64 i.b) ∧ w.cell? ⟨X, 3, none⟩ = some (.int .i64 i.c) ∧ w.cell? ⟨X, 4, none⟩ = some (.int .i64 i.m) :=
  ⟨h.range 0 _ rfl, h.range 1 _ rfl, h.range 2 _ rfl, h.range 3 _ rfl, h.range 4 _ rfl⟩
set_option maxRecDepth 100000 in
set_option maxHeartbeats 2000000 in
theorem iword_any (i : Ins) (w : World) : Calls Tryd.prog 24 #[.agg #[.int .i64 i.op, .int .i64 i.a, .int .i64 i.b, .int .i64 i.c, .int .i64 i.m]] w fun e w' => e = .returned (.tuple #[.int .u64 i.wv, .int .i64 i.we]) ∧ Upd (fun _ => False) w w' := by
  have X := Lib.hid (show InsAt (w.alloc (.cells #[.int .i64 i.op, .int .i64 i.a, .int .i64 i.b, .int .i64 i.c, .int .i64 i.m] 50)) w.heap.size i from heap_alloc_last w _)
  have U0 := Lib.hid ((Upd.refl (fun _ => False) w).alloc (.cells #[.int .i64 i.op, .int .i64 i.a, .int .i64 i.b, .int .i64 i.c, .int .i64 i.m] 50))
  have cR := Lib.hid (fun W => iright_any i W)
  cases hr : i.right
  · have h1 : i.wv = 0 := by unfold Ins.wv; rw [hr]; rfl
    have h2 : i.we = 1 := by unfold Ins.we; rw [hr]; rfl
    rw [hr] at cR
    rw [h1, h2]
    clear h1 h2 hr
    go_enter Tryd.func24, Tryd.ntmps24
    go_wp2_with (with_reducible refine wpList_load_sz rfl 50 (.tmp 1) rfl w.heap.size 0 rfl [.int .i64 i.op, .int .i64 i.a, .int .i64 i.b, .int .i64 i.c, .int .i64 i.m] _ X.out.range Tryd.underlying50 rfl 5 (ins_len _ _ _ _ _) size_ins ?_)
    refine (cR.out _).mono ?_
    rintro e w2 ⟨rfl, u2⟩
    go_wp2
    go_ret2
    exact ⟨rfl, U0.out.trans u2⟩
  · have h1 : i.wv = i.word := by unfold Ins.wv; rw [hr]; rfl
    have h2 : i.we = 0 := by unfold Ins.we; rw [hr]; rfl
    have ok := (Ins.right_iff i).1 hr
    rw [hr] at cR
    rw [h1, h2]
    obtain ⟨⟨o0, o1⟩, ⟨a0, a1⟩, ⟨b0, b1⟩, ⟨c0, c1⟩, ⟨m0, m1⟩, -, -, -, -⟩ := ok
    have hw := Lib.hid (show i.word = i.op + 256 * i.a + 2048 * i.b + 16384 * i.c + 16777216 * i.m from rfl)
    generalize i.word = wd at hw ⊢
    clear h1 h2 hr
    go_enter Tryd.func24, Tryd.ntmps24
    go_wp2_with (with_reducible refine wpList_load_sz rfl 50 (.tmp 1) rfl w.heap.size 0 rfl [.int .i64 i.op, .int .i64 i.a, .int .i64 i.b, .int .i64 i.c, .int .i64 i.m] _ X.out.range Tryd.underlying50 rfl 5 (ins_len _ _ _ _ _) size_ins ?_)
    refine (cR.out _).mono ?_
    rintro e w2 ⟨rfl, u2⟩
    obtain ⟨e0, e1, e2, e3, e4⟩ := (X.out.kept u2 id).c
    have V2 := Lib.hid (U0.out.trans u2)
    clear X U0 u2 cR
    generalize w.heap.size = XI at e0 e1 e2 e3 e4 ⊢
    obtain ⟨op, a, b, c, m⟩ := i
    simp only at *
    go_wp2
    go_ret2
    refine ⟨?_, V2.out⟩
    rw [hw.out]
    rfl
end Go.Proofs.YtcbiangocfhhlaaDoor

/-
  The document's own instructions: Of.
-/
namespace Go.Proofs.YtcbiangocfhhlaaDoor
open Go.ChangeShapes Go.WideShapes Go.ChangeAt Go.RowKit

def Ins.zero : Ins := ⟨0, 0, 0, 0, 0⟩
/-- what Of answers -/
def Ins.ov (v : Int) : Ins := if Ins.hit v = true then Ins.of v else Ins.zero
def Ins.oe (v : Int) : Int := if Ins.hit v = true then 0 else 11
theorem ins_sz (o a b c m : Int) : (#[.int .i64 o, .int .i64 a, .int .i64 b, .int .i64 c, .int .i64 m] : Array Value).size = 5 := rfl
theorem ins_one (o a b c m : Int) : (#[.int .i64 o, .int .i64 a, .int .i64 b, .int .i64 c, .int .i64 m] : Array Value).all (·.oneCell') = true := by simp [Value.oneCell']
theorem ins_ls (o a b c m : Int) : (#[.int .i64 o, .int .i64 a, .int .i64 b, .int .i64 c, .int .i64 m] : Array Value).toList = [.int .i64 o, .int .i64 a, .int .i64 b, .int .i64 c, .int .i64 m] := rfl
theorem InsAt.there {w : World} {X : Nat} {i : Ins} (h : InsAt w X i) : w.there X 0 5 := fun j hj => by
  refine ⟨?_, frozen_block h _⟩
  match j, hj with
  | 0, _ => rw [h.range 0 _ rfl]; rfl
  | 1, _ => rw [h.range 1 _ rfl]; rfl
  | 2, _ => rw [h.range 2 _ rfl]; rfl
  | 3, _ => rw [h.range 3 _ rfl]; rfl
  | 4, _ => rw [h.range 4 _ rfl]; rfl
theorem InsAt.set {w : World} {X : Nat} {i : Ins} (h : InsAt w X i) (k : Ins) : InsAt (w.setCells X 0 [.int .i64 k.op, .int .i64 k.a, .int .i64 k.b, .int .i64 k.c, .int .i64 k.m]) X k :=
  heap_setCells_same X _ [.int .i64 k.op, .int .i64 k.a, .int .i64 k.b, .int .i64 k.c, .int .i64 k.m] 0 w _ h (by simp)
theorem ret_ins {fn : Func} {p u : Tmp} (h : fn.results = #[.cell p 50, .tmp u]) (tmps : Array Value) (w : World) (b : Nat) (i : Ins) (hp : tmps.getD p undef = .pointer (some ⟨b, 0, none⟩)) (he : InsAt w b i) :
    (results fn tmps).run Tryd.prog w = .ok (.tuple #[.agg #[.int .i64 i.op, .int .i64 i.a, .int .i64 i.b, .int .i64 i.c, .int .i64 i.m], tmps.getD u undef]) w := by
  rw [results_cell_tmp h, hp]
  have := run_loadVar_mid w b 0 50 [.int .i64 i.op, .int .i64 i.a, .int .i64 i.b, .int .i64 i.c, .int .i64 i.m] _ he.range Tryd.underlying50 rfl size_ins
  simp only [asAddr, Sem.run_pure, Result.andThen_ok]
  rw [this]
  rfl
theorem of_part (v : Int) (h0 : 0 ≤ v) (h1 : v < 18446744073709551616) (d k : Int) (hd : 0 < d) (hk : 0 < k) (hk' : k ≤ 65536) : wrap64 ((IntKind.u64.wrap (v.tdiv d)).tmod k) = v / d % k := by
  have e1 : v.tdiv d = v / d := Int.tdiv_eq_ediv_of_nonneg h0
  have e2 : 0 ≤ v / d := Int.ediv_nonneg h0 (Int.le_of_lt hd)
  have e3 : v / d ≤ v := Int.ediv_le_self d h0
  have e4 : 0 ≤ v / d % k := Int.emod_nonneg _ (by omega)
  have e5 : v / d % k < k := Int.emod_lt_of_pos _ hk
  rw [e1, IntWalk.u64_in _ ⟨e2, by omega⟩, Int.tmod_eq_emod_of_nonneg e2]
  exact IntWalk.wrap64_in _ (by omega)
set_option maxRecDepth 100000 in
set_option maxHeartbeats 2000000 in
theorem iof_any (v : Int) (h0 : 0 ≤ v) (h1 : v < 18446744073709551616) (w : World) : Calls Tryd.prog 22 #[.int .u64 v] w fun e w' => e = .returned (.tuple #[.agg #[.int .i64 (Ins.ov v).op, .int .i64 (Ins.ov v).a, .int .i64 (Ins.ov v).b, .int .i64 (Ins.ov v).c, .int .i64 (Ins.ov v).m], .int .i64 (Ins.oe v)]) ∧ Upd (fun _ => False) w w' := by
  have t1 := of_part v h0 h1 256 8 (by omega) (by omega) (by omega)
  have t2 := of_part v h0 h1 2048 8 (by omega) (by omega) (by omega)
  have t3 := of_part v h0 h1 16384 8 (by omega) (by omega) (by omega)
  have t4 := of_part v h0 h1 16777216 65536 (by omega) (by omega) (by omega)
  have T := Lib.hid (And.intro t1 (And.intro t2 (And.intro t3 t4)))
  clear t1 t2 t3 t4 h1
  have k0 := Lib.hid (show InsAt (w.alloc (.cells #[.int .i64 0, .int .i64 0, .int .i64 0, .int .i64 0, .int .i64 0] 50)) w.heap.size Ins.zero from heap_alloc_last w _)
  have U0 := Lib.hid ((Upd.refl (fun _ => False) w).alloc (.cells #[.int .i64 0, .int .i64 0, .int .i64 0, .int .i64 0, .int .i64 0] 50))
  have cW := Lib.hid (fun W => iword_any (Ins.of v) W)
  have hv := Lib.hid (show Ins.of v = ⟨v % 256, v / 256 % 8, v / 2048 % 8, v / 16384 % 8, v / 16777216 % 65536⟩ from rfl)
  have hy : Hid (Ins.hit v = true → Ins.ov v = Ins.of v ∧ Ins.oe v = 0 ∧ (Ins.of v).we = 0 ∧ (Ins.of v).wv = v) := Lib.hid (fun h => by
    have h2 := h
    unfold Ins.hit at h2
    simp only [Bool.and_eq_true, decide_eq_true_eq] at h2
    refine ⟨by unfold Ins.ov; rw [h]; rfl, by unfold Ins.oe; rw [h]; rfl, by unfold Ins.we; rw [h2.1]; rfl, by unfold Ins.wv; rw [h2.1, if_pos rfl]; exact h2.2⟩)
  have hn : Hid (Ins.hit v = false → Ins.ov v = Ins.zero ∧ Ins.oe v = 11 ∧ ((Ins.of v).we = 1 ∨ ((Ins.of v).we = 0 ∧ (Ins.of v).wv ≠ v))) := Lib.hid (fun h => by
    refine ⟨by unfold Ins.ov; rw [h]; rfl, by unfold Ins.oe; rw [h]; rfl, ?_⟩
    unfold Ins.hit at h
    cases hr : (Ins.of v).right
    · exact .inl (by unfold Ins.we; rw [hr]; rfl)
    · rw [hr, Bool.true_and] at h
      exact .inr ⟨by unfold Ins.we; rw [hr]; rfl, by unfold Ins.wv; rw [hr, if_pos rfl]; exact of_decide_eq_false h⟩)
  generalize Ins.ov v = ov at hy hn ⊢
  generalize Ins.oe v = oe at hy hn ⊢
  obtain ⟨u, hu⟩ : ∃ u, Ins.of v = u := ⟨_, rfl⟩
  rw [hu] at cW hv hy hn
  clear hu
  go_enter Tryd.func22, Tryd.ntmps22
  go_upto_region 1 with fail
  obtain ⟨w1, hw1⟩ : ∃ w1, w1 = w.alloc (.cells #[.int .i64 0, .int .i64 0, .int .i64 0, .int .i64 0, .int .i64 0] 50) := ⟨_, rfl⟩
  obtain ⟨N, hN⟩ : ∃ N, N = w.heap.size := ⟨_, rfl⟩
  have HN := Lib.hid (Nat.le_of_eq hN.symm)
  rw [← hw1, ← hN] at k0
  rw [← hw1] at U0 ⊢
  rw [← hN]
  clear hw1 hN
  go_upto_region 2 with fail
  rw [T.out.1, T.out.2.1, T.out.2.2.1, T.out.2.2.2]
  have X4 := Lib.hid (show InsAt (w1.alloc (.cells #[.int .i64 (v % 256), .int .i64 (v / 256 % 8), .int .i64 (v / 2048 % 8), .int .i64 (v / 16384 % 8), .int .i64 (v / 16777216 % 65536)] 50)) w1.heap.size u from by rw [hv.out]; exact heap_alloc_last w1 _)
  have u4 := (Upd.refl (fun _ => False) w1).alloc (.cells #[.int .i64 (v % 256), .int .i64 (v / 256 % 8), .int .i64 (v / 2048 % 8), .int .i64 (v / 16384 % 8), .int .i64 (v / 16777216 % 65536)] 50)
  have k4 := Lib.hid (k0.out.kept u4 id)
  have V4 := Lib.hid (U0.out.trans u4)
  clear k0 U0 u4 T hv
  generalize w1.alloc (.cells #[.int .i64 (v % 256), .int .i64 (v / 256 % 8), .int .i64 (v / 2048 % 8), .int .i64 (v / 16384 % 8), .int .i64 (v / 16777216 % 65536)] 50) = w4 at X4 k4 V4 ⊢
  generalize w1.heap.size = D at X4 ⊢
  go_wp2_with (with_reducible refine wpList_load_sz rfl 50 (.tmp 4) rfl D 0 rfl [.int .i64 u.op, .int .i64 u.a, .int .i64 u.b, .int .i64 u.c, .int .i64 u.m] _ X4.out.range Tryd.underlying50 rfl 5 (ins_len _ _ _ _ _) size_ins ?_)
  refine (cW.out _).mono ?_
  rintro e w5 ⟨rfl, u5⟩
  have X5 := Lib.hid (X4.out.kept u5 id)
  have k5 := Lib.hid (k4.out.kept u5 id)
  have V5 := Lib.hid (V4.out.trans u5)
  clear X4 k4 V4 u5 cW
  have K := k5.out.there
  generalize u.wv = wv at hy hn ⊢
  generalize u.we = we at hy hn ⊢
  cases hh : Ins.hit v
  · obtain ⟨rfl, rfl, hd⟩ := hn.out hh
    clear hy hn hh
    rcases hd with rfl | ⟨rfl, hne⟩
    · go_wp2_with (with_reducible refine wpList_store_sz rfl 50 (.tmp 2) (.tmp 39) rfl N 0 #[.int .i64 0, .int .i64 0, .int .i64 0, .int .i64 0, .int .i64 0] rfl rfl 5 (ins_sz _ _ _ _ _) K size_ins (ins_one _ _ _ _ _) [.int .i64 0, .int .i64 0, .int .i64 0, .int .i64 0, .int .i64 0] (ins_ls _ _ _ _ _) ?_)
      (try simp only [Exit.inBlock, Exit.then])
      refine bodyPost_ret (ret_ins rfl _ _ N Ins.zero rfl (k5.out.set Ins.zero)) rfl ⟨rfl, ?_⟩
      exact Upd.setCells (.inr HN.out) _ _ V5.out
    · have hb : (wv != v) = true := by simp [hne]
      go_wp2_with (with_reducible refine wpList_store_sz rfl 50 (.tmp 2) (.tmp 39) rfl N 0 #[.int .i64 0, .int .i64 0, .int .i64 0, .int .i64 0, .int .i64 0] rfl rfl 5 (ins_sz _ _ _ _ _) K size_ins (ins_one _ _ _ _ _) [.int .i64 0, .int .i64 0, .int .i64 0, .int .i64 0, .int .i64 0] (ins_ls _ _ _ _ _) ?_)
      (try simp only [Exit.inBlock, Exit.then])
      refine bodyPost_ret (ret_ins rfl _ _ N Ins.zero rfl (k5.out.set Ins.zero)) rfl ⟨rfl, ?_⟩
      exact Upd.setCells (.inr HN.out) _ _ V5.out
  · obtain ⟨rfl, rfl, rfl, rfl⟩ := hy.out hh
    clear hy hn hh
    go_wp2_with (first
      | (with_reducible refine wpList_load_sz rfl 50 (.tmp 4) rfl D 0 rfl [.int .i64 ov.op, .int .i64 ov.a, .int .i64 ov.b, .int .i64 ov.c, .int .i64 ov.m] _ X5.out.range Tryd.underlying50 rfl 5 (ins_len _ _ _ _ _) size_ins ?_)
      | (with_reducible refine wpList_store_sz rfl 50 (.tmp 2) (.tmp 40) rfl N 0 #[.int .i64 ov.op, .int .i64 ov.a, .int .i64 ov.b, .int .i64 ov.c, .int .i64 ov.m] rfl rfl 5 (ins_sz _ _ _ _ _) K size_ins (ins_one _ _ _ _ _) [.int .i64 ov.op, .int .i64 ov.a, .int .i64 ov.b, .int .i64 ov.c, .int .i64 ov.m] (ins_ls _ _ _ _ _) ?_))
    (try simp only [Exit.inBlock, Exit.then])
    refine bodyPost_ret (ret_ins rfl _ _ N ov rfl (k5.out.set ov)) rfl ⟨rfl, ?_⟩
    exact Upd.setCells (.inr HN.out) _ _ V5.out
end Go.Proofs.YtcbiangocfhhlaaDoor

/-
  Plain: registers, words, one instruction, many.
-/
namespace Go.Proofs.YtcbiangocfhhlaaDoor
open Go.RowKit

/-- registers and where a program is -/
structure Cp where
  R : List Int
  pc : Int
structure Cp.Ok (c : Cp) : Prop where
  n : c.R.length = 8
  r : ∀ x, x ∈ c.R → 0 ≤ x ∧ x < 18446744073709551616
  p : 0 ≤ c.pc ∧ c.pc < 18446744073709551616
/-- words, and from which one on they may be stored -/
structure Fl where
  W : List Int
  first : Int
structure Fl.Ok (m : Fl) : Prop where
  n : m.W.length ≤ 1000
  r : ∀ x, x ∈ m.W → 0 ≤ x ∧ x < 18446744073709551616
def Fl.isIn (m : Fl) (a : Int) : Bool := decide (0 ≤ a ∧ a < m.W.length)
def Fl.ld (m : Fl) (a : Int) : Int := if m.isIn a = true then m.W.getD a.toNat 0 else 0
def Fl.ldE (m : Fl) (a : Int) : Int := if m.isIn a = true then 0 else 10
def Fl.stE (m : Fl) (a : Int) : Int := if m.isIn a = true then (if a < m.first then 9 else 0) else 10
def Fl.st (m : Fl) (a v : Int) : Fl := if m.stE a = 0 then { m with W := m.W.set a.toNat v } else m
/-- what a step leaves and answers -/
structure St where
  c : Cp
  m : Fl
  call : Int
  e : Int
def adr (x : Int) : Int := x % 65536
def Cp.reg (c : Cp) (k : Int) : Int := c.R.getD k.toNat 0
def Cp.set (c : Cp) (k v n : Int) : Cp := ⟨c.R.set k.toNat v, n⟩
def Cp.next (c : Cp) : Int := (c.pc % 65536 + 1) % 65536
def landI (a b : Int) : Int := bits .and .u64 a b
def lxorI (a b : Int) : Int := bits .xor .u64 a b
/-- an instruction, done -/
def Cp.exec (c : Cp) (m : Fl) (u : Ins) : St :=
  match u.op.toNat with
  | 0 => ⟨c, m, 0, 13⟩
  | 1 => ⟨c.set u.a u.m c.next, m, 0, 0⟩
  | 2 => ⟨c.set u.a (IntKind.u64.wrap (c.reg u.b + c.reg u.c)) c.next, m, 0, 0⟩
  | 3 => ⟨c.set u.a (IntKind.u64.wrap (c.reg u.b - c.reg u.c)) c.next, m, 0, 0⟩
  | 4 => ⟨c.set u.a (landI (c.reg u.b) (c.reg u.c)) c.next, m, 0, 0⟩
  | 5 => ⟨c.set u.a (lxorI (c.reg u.b) (c.reg u.c)) c.next, m, 0, 0⟩
  | 6 => if m.ldE (adr (IntKind.u64.wrap (c.reg u.b + u.m))) = 0 then ⟨c.set u.a (m.ld (adr (IntKind.u64.wrap (c.reg u.b + u.m)))) c.next, m, 0, 0⟩ else ⟨c, m, 0, m.ldE (adr (IntKind.u64.wrap (c.reg u.b + u.m)))⟩
  | 7 => if m.stE (adr (IntKind.u64.wrap (c.reg u.b + u.m))) = 0 then ⟨⟨c.R, c.next⟩, m.st (adr (IntKind.u64.wrap (c.reg u.b + u.m))) (c.reg u.a), 0, 0⟩ else ⟨c, m, 0, m.stE (adr (IntKind.u64.wrap (c.reg u.b + u.m)))⟩
  | 8 => ⟨⟨c.R, u.m⟩, m, 0, 0⟩
  | 9 => ⟨⟨c.R, if c.reg u.a = 0 then u.m else c.next⟩, m, 0, 0⟩
  | 10 => ⟨c.set u.a (if c.reg u.b < c.reg u.c then 1 else 0) c.next, m, 0, 0⟩
  | _ => ⟨⟨c.R, c.next⟩, m, u.m, 14⟩
/-- a step -/
def Cp.step (c : Cp) (m : Fl) : St :=
  if m.ldE (adr c.pc) = 0 then (if Ins.hit (m.ld (adr c.pc)) = true then c.exec m (Ins.of (m.ld (adr c.pc))) else ⟨c, m, 0, 11⟩) else ⟨c, m, 0, 10⟩
/-- so many steps at most: how many were OK, and how it ended -/
def Cp.run (c : Cp) (m : Fl) : Nat → Nat × St
  | 0 => (0, ⟨c, m, 0, 0⟩)
  | k + 1 => if (c.step m).e = 0 then ((((c.step m).c).run (c.step m).m k).1 + 1, (((c.step m).c).run (c.step m).m k).2) else (0, c.step m)

theorem getD_bd {l : List Int} (h : ∀ x, x ∈ l → 0 ≤ x ∧ x < 18446744073709551616) (k : Nat) : 0 ≤ l.getD k 0 ∧ l.getD k 0 < 18446744073709551616 := by
  rw [List.getD_eq_getElem?_getD]
  rcases hk : l[k]? with _ | x
  · simp
  · exact h x (List.mem_of_getElem? hk)
theorem set_bd {l : List Int} (h : ∀ x, x ∈ l → 0 ≤ x ∧ x < 18446744073709551616) (k : Nat) {v : Int} (hv : 0 ≤ v ∧ v < 18446744073709551616) : ∀ x, x ∈ l.set k v → 0 ≤ x ∧ x < 18446744073709551616 := by
  intro x hx
  rcases List.mem_or_eq_of_mem_set hx with h1 | rfl
  · exact h x h1
  · exact hv
theorem Cp.Ok.reg {c : Cp} (h : c.Ok) (k : Int) : 0 ≤ c.reg k ∧ c.reg k < 18446744073709551616 := getD_bd h.r _
theorem Cp.next_bd (c : Cp) : 0 ≤ c.next ∧ c.next < 65536 := by unfold Cp.next; omega
theorem Cp.Ok.set {c : Cp} (h : c.Ok) (k : Int) {v n : Int} (hv : 0 ≤ v ∧ v < 18446744073709551616) (hn : 0 ≤ n ∧ n < 18446744073709551616) : (c.set k v n).Ok :=
  ⟨by simp [Cp.set, h.n], set_bd h.r _ hv, hn⟩
theorem Fl.Ok.ld {m : Fl} (h : m.Ok) (a : Int) : 0 ≤ m.ld a ∧ m.ld a < 18446744073709551616 := by
  unfold Fl.ld
  split
  · exact getD_bd h.r _
  · omega
theorem Fl.Ok.st {m : Fl} (h : m.Ok) (a : Int) {v : Int} (hv : 0 ≤ v ∧ v < 18446744073709551616) : (m.st a v).Ok := by
  unfold Fl.st
  split
  · exact ⟨by simp [h.n], set_bd h.r _ hv⟩
  · exact h
theorem wrap_bd (x : Int) : 0 ≤ IntKind.u64.wrap x ∧ IntKind.u64.wrap x < 18446744073709551616 := by
  show 0 ≤ x % 18446744073709551616 ∧ x % 18446744073709551616 < 18446744073709551616
  omega
theorem land_bd (a b : Int) : 0 ≤ landI a b ∧ landI a b < 18446744073709551616 := wrap_bd ((BitVec.ofInt 64 a &&& BitVec.ofInt 64 b).toNat : Nat)
theorem lxor_bd (a b : Int) : 0 ≤ lxorI a b ∧ lxorI a b < 18446744073709551616 := wrap_bd ((BitVec.ofInt 64 a ^^^ BitVec.ofInt 64 b).toNat : Nat)
theorem Cp.Ok.exec {c : Cp} {m : Fl} {u : Ins} (h : c.Ok) (hm : m.Ok) (hu : u.Ok) : (c.exec m u).c.Ok ∧ (c.exec m u).m.Ok := by
  have hn := c.next_bd
  have hn' : 0 ≤ c.next ∧ c.next < 18446744073709551616 := by omega
  have hmm : 0 ≤ u.m ∧ u.m < 18446744073709551616 := by have := hu.m; omega
  unfold Cp.exec
  split
  · exact ⟨h, hm⟩
  · exact ⟨h.set _ hmm hn', hm⟩
  · exact ⟨h.set _ (wrap_bd _) hn', hm⟩
  · exact ⟨h.set _ (wrap_bd _) hn', hm⟩
  · exact ⟨h.set _ (land_bd _ _) hn', hm⟩
  · exact ⟨h.set _ (lxor_bd _ _) hn', hm⟩
  · split
    · exact ⟨h.set _ (hm.ld _) hn', hm⟩
    · exact ⟨h, hm⟩
  · split
    · exact ⟨⟨h.n, h.r, hn'⟩, hm.st _ (h.reg _)⟩
    · exact ⟨h, hm⟩
  · exact ⟨⟨h.n, h.r, hmm⟩, hm⟩
  · refine ⟨⟨h.n, h.r, ?_⟩, hm⟩
    show 0 ≤ (if c.reg u.a = 0 then u.m else c.next) ∧ _
    split
    · exact hmm
    · exact hn'
  · exact ⟨h.set _ (by split <;> omega) hn', hm⟩
  · exact ⟨⟨h.n, h.r, hn'⟩, hm⟩
theorem Cp.Ok.step {c : Cp} {m : Fl} (h : c.Ok) (hm : m.Ok) : (c.step m).c.Ok ∧ (c.step m).m.Ok := by
  unfold Cp.step
  split
  · split
    · rename_i hh
      refine h.exec hm ?_
      have h2 := hh
      unfold Ins.hit at h2
      simp only [Bool.and_eq_true, decide_eq_true_eq] at h2
      exact (Ins.right_iff _).1 h2.1
    · exact ⟨h, hm⟩
  · exact ⟨h, hm⟩
theorem Cp.exec_len (c : Cp) (m : Fl) (u : Ins) : (c.exec m u).m.W.length = m.W.length ∧ (c.exec m u).m.first = m.first := by
  unfold Cp.exec
  split <;> try exact ⟨rfl, rfl⟩
  · split <;> exact ⟨rfl, rfl⟩
  · split
    · show (m.st _ _).W.length = _ ∧ (m.st _ _).first = _
      unfold Fl.st
      split <;> simp
    · exact ⟨rfl, rfl⟩
theorem Cp.step_len (c : Cp) (m : Fl) : (c.step m).m.W.length = m.W.length ∧ (c.step m).m.first = m.first := by
  unfold Cp.step
  split
  · split
    · exact c.exec_len m _
    · exact ⟨rfl, rfl⟩
  · exact ⟨rfl, rfl⟩
end Go.Proofs.YtcbiangocfhhlaaDoor

/-
  append onto one's own slice of whatever slice, nil and empty ones too: in plain regions and in ones that draw.
-/
namespace Go.Proofs.YtcbiangocfhhlaaDoor
open Go.RowKit

/-- a slice of m elements whose cells are news -/
def Src (w : World) (x : Value) (m size : Nat) (news : List Value) : Prop :=
  (x = .slice none 0 0 ∧ m = 0 ∧ news = []) ∨ ∃ b off c, x = .slice (some ⟨b, off, none⟩) m c ∧ news.length = m * size ∧ (∀ j u, news[j]? = some u → w.cell? ⟨b, off + j, none⟩ = some u)
theorem add_mid0 (b off j : Nat) : (⟨b, off, none⟩ : Addr).add j = ⟨b, off + j, none⟩ := by unfold Addr.add; split <;> simp_all
theorem Src.of_row {w : World} {base m size : Nat} {e : TypeId} {v : Value} {xs : List Value} (h : w.ownsRow base e size v m xs) : Src w v m size xs := by
  rcases h.2 with ⟨rfl, rfl⟩ | ⟨g, cap, cur, rfl, _⟩
  · exact .inl ⟨rfl, rfl, List.length_eq_zero_iff.1 (by have := h.1; omega)⟩
  · exact .inr ⟨g, 0, cap, rfl, h.1, fun j u hu => by have := h.cells (g := g) rfl j u hu; rwa [add_mid0] at this⟩
theorem Src.kept {w w' : World} {x : Value} {m size : Nat} {news : List Value} (h : Src w x m size news) (hg : ∀ b : Nat, x.ownBlock = some b → w'.heap[b]? = w.heap[b]?) : Src w' x m size news := by
  rcases h with h | ⟨b, off, c, rfl, h1, h2⟩
  · exact .inl h
  · refine .inr ⟨b, off, c, rfl, h1, fun j u hu => ?_⟩
    rw [World.cell?_of_block (w := w) (hg b rfl)]
    exact h2 j u hu
theorem run_append_src {P : Program} (w : World) (base : Nat) (t ty e : TypeId) (i : TypeInfo) (z : Value) (size bytes : Nat) (ht : P.underlying t = some (.slice e)) (hi : P.info? e = some i) (hz : i.zero = some z)
    (hsize : i.size = size) (hby : i.bytes = bytes) (hzs : z.cells.size = size) (hsz : 0 < size)
    (v : Value) (n : Nat) (xs : List Value) (hown : w.ownsRow base e size v n xs) (x : Value) (m : Nat) (news : List Value) (hx : Src w x m size news) (h1 : ∀ u ∈ news, u.oneCell' = true)
    (h63 : n + m ≤ maxLen) (hbytes : (n + m) * bytes ≤ 140737488355328) (hbase : base ≤ w.heap.size) :
    ∃ v' w', (Builtin.append_ #[t, t] ty #[v, x]).run P w = .ok v' w' ∧ w'.ownsRow base e size v' (n + m) (xs ++ news) ∧ w.grownBy w' v.ownBlock := by
  rcases hx with ⟨rfl, rfl, rfl⟩ | ⟨b, off, c, rfl, h2, h3⟩
  · exact ⟨v, w, run_append_owned_none w base t ty e i size ht hi v n xs hown, by simpa using hown, ⟨rfl, rfl, rfl, Nat.le_refl _, fun _ _ _ => rfl⟩⟩
  · obtain ⟨v', w', hr, r1, r2, _⟩ := run_append_own (P := P) w base t ty e i z size bytes ht hi hz hsize hby hzs hsz v n xs hown ⟨b, off, none⟩ m c news h2 (fun j u hu => by rw [add_mid0]; exact h3 j u hu) h1 h63 hbytes hbase
    exact ⟨v', w', hr, r1, r2⟩
theorem wp_append_src {P : Program} (w : World) {o : Oper} {a : Act} {K : Act → World → Prop} {Q : Exit → Act → World → Prop} (s x : Operand) (t : TypeId)
    (ho : o.op = .call { callee := .builtin .append, args := #[s, x], argTypes := #[t, t] })
    (base : Nat) (e : TypeId) (i : TypeInfo) (z : Value) (size bytes : Nat) (ht : P.underlying t = some (.slice e)) (hi : P.info? e = some i) (hz : i.zero = some z)
    (hsize : i.size = size) (hby : i.bytes = bytes) (hzs : z.cells.size = size) (hsz : 0 < size)
    (v : Value) (n : Nat) (xs : List Value) (hs : a.eval s = v) (hown : w.ownsRow base e size v n xs) (y : Value) (m : Nat) (news : List Value) (hy : a.eval x = y) (hx : Src w y m size news) (h1 : ∀ u ∈ news, u.oneCell' = true)
    (h63 : n + m ≤ maxLen) (hbytes : (n + m) * bytes ≤ 140737488355328) (hbase : base ≤ w.heap.size)
    (h : ∀ v' w', w'.ownsRow base e size v' (n + m) (xs ++ news) → w.grownBy w' v.ownBlock → K (a.put o.dst v') w') : o.wp P a w K Q := by
  obtain ⟨v', w', hr, h2, h3⟩ := run_append_src (P := P) w base t o.type e i z size bytes ht hi hz hsize hby hzs hsz v n xs hown y m news hx h1 h63 hbytes hbase
  unfold Oper.wp execOp
  simp only [ho, resolve, invoke, builtin, Sem.run_bind, Sem.run_pure, Result.andThen_ok, List.map_toArray, List.map_cons, List.map_nil, hs, hy, hr]
  exact h v' w' h2 h3
/-- in a plain region -/
theorem wpList_append_src {P : Program} (w : World) {ops : Array Oper} {rest : List Oper} {o : Oper} {a : Act} {Q : Exit → Act → World → Prop} (hgd : o.guard = none) (s x : Operand) (t : TypeId)
    (ho : o.op = .call { callee := .builtin .append, args := #[s, x], argTypes := #[t, t] })
    (base : Nat) (e : TypeId) (i : TypeInfo) (z : Value) (size bytes : Nat) (ht : P.underlying t = some (.slice e)) (hi : P.info? e = some i) (hz : i.zero = some z)
    (hsize : i.size = size) (hby : i.bytes = bytes) (hzs : z.cells.size = size) (hsz : 0 < size)
    (v : Value) (n : Nat) (xs : List Value) (hs : a.eval s = v) (hown : w.ownsRow base e size v n xs) (y : Value) (m : Nat) (news : List Value) (hy : a.eval x = y) (hx : Src w y m size news) (h1 : ∀ u ∈ news, u.oneCell' = true)
    (h63 : n + m ≤ maxLen) (hbytes : (n + m) * bytes ≤ 140737488355328) (hbase : base ≤ w.heap.size)
    (h : ∀ v' w', w'.ownsRow base e size v' (n + m) (xs ++ news) → w.grownBy w' v.ownBlock → wpList P ops Q rest (a.put o.dst v') w') : wpList P ops Q (o :: rest) a w :=
  wpList_plain hgd fun _ hK => wp_append_src w s x t ho base e i z size bytes ht hi hz hsize hby hzs hsz v n xs hs hown y m news hy hx h1 h63 hbytes hbase fun v' w' h2 h3 => hK _ _ (h v' w' h2 h3)
/-- at a step of a region that draws -/
theorem step_append_src {P : Program} (w : World) {ops : Array Oper} {o : Oper} {a : Act} {K : Act → World → Prop} {Q : Exit → Act → World → Prop} {E : Prop} (hgd : o.guard = none) (s x : Operand) (t : TypeId)
    (ho : o.op = .call { callee := .builtin .append, args := #[s, x], argTypes := #[t, t] })
    (base : Nat) (e : TypeId) (i : TypeInfo) (z : Value) (size bytes : Nat) (ht : P.underlying t = some (.slice e)) (hi : P.info? e = some i) (hz : i.zero = some z)
    (hsize : i.size = size) (hby : i.bytes = bytes) (hzs : z.cells.size = size) (hsz : 0 < size)
    (v : Value) (n : Nat) (xs : List Value) (hs : a.eval s = v) (hown : w.ownsRow base e size v n xs) (y : Value) (m : Nat) (news : List Value) (hy : a.eval x = y) (hx : Src w y m size news) (h1 : ∀ u ∈ news, u.oneCell' = true)
    (h63 : n + m ≤ maxLen) (hbytes : (n + m) * bytes ≤ 140737488355328) (hbase : base ≤ w.heap.size)
    (h : ∀ v' w', w'.ownsRow base e size v' (n + m) (xs ++ news) → w.grownBy w' v.ownBlock → K (a.put o.dst v') w') :
    if Region.wanted o (yielded ops a.tmps) = true then Oper.wp P o a w K Q else E := by
  have hw : Region.wanted o (yielded ops a.tmps) = true := by simp [Region.wanted, hgd]
  rw [if_pos hw]
  exact wp_append_src w s x t ho base e i z size bytes ht hi hz hsize hby hzs hsz v n xs hs hown y m news hy hx h1 h63 hbytes hbase h
end Go.Proofs.YtcbiangocfhhlaaDoor

/-
  Rows of the call's own: kept, as a slice, grown by append.
-/
namespace Go.Proofs.YtcbiangocfhhlaaDoor
open Go.RowKit

theorem rows_kept {S : Nat → Prop} {w w' : World} {base sz k : Nat} {e : TypeId} {v : Value} {xs : List Value} (h : w.ownsRow base e sz v k xs) (u : Upd S w w') (hg : ∀ j, v.ownBlock = some j → ¬ S j) : w'.ownsRow base e sz v k xs := by
  refine ⟨h.1, ?_⟩
  rcases h.2 with hn | ⟨g, cap, cur, rfl, hb, hgg, rest⟩
  · exact .inl hn
  · exact .inr ⟨g, cap, cur, rfl, hb, u.at hgg (hg g rfl), rest⟩
theorem rows_still {w w' : World} {base sz k : Nat} {e : TypeId} {v : Value} {xs : List Value} (h : w.ownsRow base e sz v k xs) (u : Upd (fun _ => False) w w') : w'.ownsRow base e sz v k xs := rows_kept h u fun _ _ => id
/-- blocks of before are not the row's -/
theorem rows_under {S : Nat → Prop} {w w' : World} {base sz k : Nat} {e : TypeId} {v : Value} {xs : List Value} (h : w.ownsRow base e sz v k xs) (u : Upd S w w') (hS : ∀ j, S j → j < base) : w'.ownsRow base e sz v k xs :=
  rows_kept h u fun j hj s => by have := (h.lt j hj).1; have := hS j s; omega
theorem rows_slice {w : World} {base sz : Nat} {e : TypeId} {v : Value} {k : Nat} {xs : List Value} (h : w.ownsRow base e sz v k xs) : ∃ o cap, v = .slice o k cap := by
  rcases h.2 with ⟨rfl, rfl⟩ | ⟨g, cap, cur, rfl, _⟩
  · exact ⟨none, 0, rfl⟩
  · exact ⟨_, _, rfl⟩
theorem rows_new (w : World) (base sz : Nat) (e : TypeId) : w.ownsRow base e sz (.slice none 0 0) 0 [] := ⟨by simp, .inl ⟨rfl, rfl⟩⟩
theorem rows_src (w : World) (c : List Value) (t : TypeId) : ∀ (j : Nat) (u : Value), c[j]? = some u → (w.alloc (.cells c.toArray t)).cell? ((⟨w.heap.size, 0, none⟩ : Addr).add j) = some u := by
  intro j u hj
  rw [add_mid0, cell_of_row _ _ _ _ _ _ (heap_alloc_last w (.cells c.toArray t))]
  simpa using hj
theorem rows_grown {w wr w4 : World} {N sz n : Nat} {e : TypeId} {v : Value} {xs : List Value} {o : Obj} {S : Nat → Prop} (hrow : wr.ownsRow N e sz v n xs) (hgr : (wr.alloc o).grownBy w4 v.ownBlock) (hU : Upd S w wr) (hN : w.heap.size ≤ N) : Upd S w w4 := by
  have hs := hU.size
  refine ⟨hgr.os.trans hU.os, hgr.tape.trans hU.tape, hgr.output.trans hU.output, by have := hgr.size; simp at this; omega, fun k hk hS => ?_⟩
  rw [hgr.block k (by simp; omega) (fun e => by have := (hrow.lt k e.symm).1; omega), Below.heap_alloc _ _ _ (by omega)]
  exact hU.block k hk hS
/-- the cells of a row of the call's own -/
theorem rows_at {w : World} {base sz k cap : Nat} {e : TypeId} {o : Option Addr} {xs : List Value} (h : w.ownsRow base e sz (.slice o k cap) k xs) (hk : 0 < k) : ∃ g, o = some ⟨g, 0, none⟩ ∧ ∀ (j : Nat) (u : Value), xs[j]? = some u → w.cell? ⟨g, j, none⟩ = some u := by
  rcases h.2 with ⟨e1, e2⟩ | ⟨g, cap', cur, e1, rest⟩
  · omega
  · simp only [Value.slice.injEq] at e1
    obtain ⟨rfl, _, rfl⟩ := e1
    refine ⟨g, rfl, fun j u hu => ?_⟩
    have := h.cells (g := g) rfl j u hu
    rwa [add_mid0, Nat.zero_add] at this
/-! guarded operations whose guard is decided, in a region that draws and only reads -/
theorem still_off {P : Program} {ops : Array Oper} {w : World} {Q : Act → Prop} {a : Act} {o : Oper} {rest : List Oper} (hw : Region.wanted o (yielded ops a.tmps) = false) (h : wpStill P ops w Q rest (a.put o.dst undef)) : wpStill P ops w Q (o :: rest) a :=
  wpStill_step fun K hK => by rw [hw]; exact hK _ h
theorem still_on {P : Program} {ops : Array Oper} {w : World} {Q : Act → Prop} {a : Act} {o : Oper} {rest : List Oper} (hw : Region.wanted o (yielded ops a.tmps) = true) (h : wpStill P ops w Q ({ o with guard := none } :: rest) a) : wpStill P ops w Q (o :: rest) a := by
  unfold wpStill at h ⊢
  rw [if_pos hw]
  exact h
end Go.Proofs.YtcbiangocfhhlaaDoor

/-
  What the rows' frames want of a reading: integers, arrays of integers. Over any program.
-/
namespace Go.Proofs.YtcbiangocfhhlaaDoor.Fr
open Go.ChangeShapes Go.WideShapes Go.ChangeAt Go.RowKit
variable {H : Type} {enc : TypeId × Value → H} {P : Program} {w : World} {base : Nat} {spare : Nat → Bool} {held : Bool}

/-- an array's value -/
theorem okWide_arr {r : Reach} {b0 n : Nat} {t e : TypeId} {v : Value} (ht : P.underlying t = some (.array n e)) (h : Value.okWide P w r b0 t v) : ∃ cs, v = .agg cs ∧ cs.size = P.cellsOf t := by
  simp only [Value.okWide, ht] at h
  obtain ⟨cs, h1, h2, _⟩ := h
  exact ⟨cs, h1, h2⟩

/-- an array of integers, opened: the numbers -/
theorem open_intArr {r : Reach} {b0 n : Nat} {t e : TypeId} {k : IntKind} {v : Value} {d : DataW H} {p : List MemPlace} (ht : P.underlying t = some (.array n e)) (he : P.underlying e = some (.int k))
    (hce : P.cellsOf e = 1) (hct : P.cellsOf t = n) (hv : Value.okWide P w r b0 t v) (h : DataW.Trod enc P w base spare held t v d p) :
    ∃ zs : List Int, zs.length = n ∧ v = .agg (zs.map (fun z => Value.int k z)).toArray ∧ ∀ z ∈ zs, (Lit.int k z).wf = true := by
  obtain ⟨cs, rfl, hsz⟩ := okWide_arr ht hv
  obtain ⟨fuel, hf⟩ := h
  obtain ⟨xs, m, _, _, _, hl, hrd⟩ := DataW.trod_array ht hf
  have hlen : cs.toList.length = n := by rw [Array.length_toList, hsz, hct]
  have hcell : ∀ i (hi : i < cs.toList.length), ∃ z, cs.toList[i] = .int k z ∧ (Lit.int k z).wf = true := by
    intro i hi
    have hx := hrd i (by omega)
    have hi2 : i < xs.length := by omega
    rw [List.getElem?_eq_getElem hi2] at hx
    obtain ⟨z, hz, _, hwf⟩ := DataW.trod_int he hx
    have hi3 : i < cs.size := by simpa using hi
    simp only [Value.cells, hce, Nat.mul_one] at hz
    rw [List.drop_eq_getElem_cons hi] at hz
    simp at hz
    exact ⟨z, by simpa using hz, hwf⟩
  refine ⟨cs.toList.map (fun c => match c with | .int _ q => q | _ => 0), by rw [List.length_map, hlen], ?_, ?_⟩
  · congr 1
    apply Array.ext'
    simp only [List.map_map]
    symm
    conv => rhs; rw [← List.map_id cs.toList]
    apply List.map_congr_left
    intro c hc
    obtain ⟨i, hi, rfl⟩ := List.getElem_of_mem hc
    obtain ⟨z, hz, _⟩ := hcell i hi
    simp only [Function.comp, hz, id]
  · intro z hz
    obtain ⟨c, hc, rfl⟩ := List.mem_map.1 hz
    obtain ⟨i, hi, rfl⟩ := List.getElem_of_mem hc
    obtain ⟨z', hz', hwf⟩ := hcell i hi
    simp only [hz']
    exact hwf
/-! ### whatever is made of integers and bools alone: its leaves, cell by cell -/
/-- a leaf's kind: 'some k' an integer, 'none' a bool -/
def flatFs (P : Program) (g : TypeId → Option (List (Option IntKind))) : List Field → Nat → Option (List (Option IntKind))
  | [], _ => some []
  | f :: fs, o => match g f.type, flatFs P g fs (o + P.cellsOf f.type) with
    | some l, some r => if f.offset = o ∧ l.length = P.cellsOf f.type then some (l ++ r) else none
    | _, _ => none
def flat (P : Program) : Nat → TypeId → Option (List (Option IntKind))
  | 0, _ => none
  | d + 1, t => match P.underlying t with
    | some (.int k) => some [some k]
    | some .bool => some [none]
    | some (.array n e) => match flat P d e with
      | some l => if l.length = P.cellsOf e ∧ P.cellsOf t = n * P.cellsOf e then some (List.replicate n l).flatten else none
      | none => none
    | some (.struct fs) => match flatFs P (flat P d) fs.toList 0 with
      | some l => if P.cellsOf t = l.length then some l else none
      | none => none
    | _ => none
def okLeaf : Option IntKind → Value → Prop
  | some k, v => ∃ z, v = .int k z ∧ (Lit.int k z).wf = true
  | none, v => ∃ b, v = .bool b
def okLeaves (ks : List (Option IntKind)) (cs : List Value) : Prop := cs.length = ks.length ∧ ∀ (j : Nat) (k : Option IntKind) (v : Value), ks[j]? = some k → cs[j]? = some v → okLeaf k v
theorem okLeaves_append {k1 k2 : List (Option IntKind)} {c1 c2 : List Value} (h1 : okLeaves k1 c1) (h2 : okLeaves k2 c2) : okLeaves (k1 ++ k2) (c1 ++ c2) := by
  refine ⟨by rw [List.length_append, List.length_append, h1.1, h2.1], fun j k v hk hv => ?_⟩
  have e := h1.1
  by_cases hj : j < k1.length
  · rw [List.getElem?_append_left hj] at hk
    rw [List.getElem?_append_left (by omega)] at hv
    exact h1.2 j k v hk hv
  · rw [List.getElem?_append_right (by omega)] at hk
    rw [List.getElem?_append_right (by omega), e] at hv
    exact h2.2 _ k v hk hv
theorem okLeaves_rep {l : List (Option IntKind)} : ∀ (n : Nat) (cs : List Value), cs.length = n * l.length → (∀ i, i < n → okLeaves l ((cs.drop (i * l.length)).take l.length)) → okLeaves (List.replicate n l).flatten cs
  | 0, cs, hl, _ => by
    have : cs = [] := List.eq_nil_of_length_eq_zero (by omega)
    subst this
    exact ⟨rfl, fun j k v hk => by simp at hk⟩
  | n + 1, cs, hl, h => by
    have hl' : cs.length = n * l.length + l.length := by rw [hl, Nat.succ_mul]
    rw [List.replicate_succ, List.flatten_cons, ← List.take_append_drop l.length cs]
    have h0 := h 0 (by omega)
    rw [Nat.zero_mul, List.drop_zero] at h0
    refine okLeaves_append h0 (okLeaves_rep n _ (by rw [List.length_drop]; omega) fun i hi => ?_)
    have := h (i + 1) (by omega)
    rw [Nat.succ_mul] at this
    rwa [List.drop_drop, Nat.add_comm]
theorem flatFs_ge {P : Program} {g : TypeId → Option (List (Option IntKind))} : ∀ {fs : List Field} {o : Nat} {ks : List (Option IntKind)}, flatFs P g fs o = some ks → ∀ (i : Nat) (f : Field), fs[i]? = some f → o ≤ f.offset
  | [], _, _, _, i, f, hi => by simp at hi
  | f0 :: fs, o, ks, hk, i, f, hi => by
    simp only [flatFs] at hk
    split at hk
    · rename_i l r hgl hr
      split at hk
      · rename_i hc
        cases i with
        | zero => simp only [List.getElem?_cons_zero, Option.some.injEq] at hi; subst hi; omega
        | succ i => have := flatFs_ge hr i f hi; omega
      · cases hk
    · cases hk
theorem okLeaves_fs {g : TypeId → Option (List (Option IntKind))} {n : Nat}
    (hg : ∀ t ks cs x, g t = some ks → DataW.trod enc P w base spare held n t cs = some x → okLeaves ks cs) :
    ∀ (fs : List Field) (o : Nat) (ks : List (Option IntKind)) (cs : List Value), flatFs P g fs o = some ks → cs.length = ks.length →
      (∀ (i : Nat) (f : Field), fs[i]? = some f → ∃ x, DataW.trod enc P w base spare held n f.type ((cs.drop (f.offset - o)).take (P.cellsOf f.type)) = some x) → okLeaves ks cs
  | [], o, ks, cs, hk, hl, _ => by
    simp only [flatFs, Option.some.injEq] at hk
    subst hk
    exact ⟨hl, fun j k v hk => by simp at hk⟩
  | f :: fs, o, ks, cs, hk, hl, h => by
    simp only [flatFs] at hk
    split at hk
    · rename_i l r hgl hr
      split at hk
      · rename_i hc
        obtain ⟨ho, hll⟩ := hc
        simp only [Option.some.injEq] at hk
        subst hk
        rw [List.length_append] at hl
        obtain ⟨x, hx⟩ := h 0 f rfl
        rw [ho, Nat.sub_self, List.drop_zero] at hx
        have h1 := hg _ _ _ _ hgl hx
        rw [← List.take_append_drop (P.cellsOf f.type) cs]
        refine okLeaves_append h1 (okLeaves_fs hg fs _ r _ hr (by rw [List.length_drop]; omega) fun i f' hi => ?_)
        obtain ⟨y, hy⟩ := h (i + 1) f' hi
        have hge : o + P.cellsOf f.type ≤ f'.offset := flatFs_ge hr i f' hi
        refine ⟨y, ?_⟩
        rw [List.drop_drop, show P.cellsOf f.type + (f'.offset - (o + P.cellsOf f.type)) = f'.offset - o from by omega]
        exact hy
      · cases hk
    · cases hk
theorem okLeaves_of : ∀ (d : Nat) (t : TypeId) (ks : List (Option IntKind)) (fuel : Nat) (cs : List Value) (x : DataW H × List MemPlace), flat P d t = some ks → DataW.trod enc P w base spare held fuel t cs = some x → okLeaves ks cs
  | 0, _, _, _, _, _, h, _ => by simp [flat] at h
  | d + 1, t, ks, fuel, cs, x, h, ht => by
    unfold flat at h
    split at h
    · rename_i k hu
      simp only [Option.some.injEq] at h
      subst h
      obtain ⟨z, rfl, _, hw⟩ := DataW.trod_int hu ht
      refine ⟨rfl, fun j k' v hk hv => ?_⟩
      match j, hk, hv with
      | 0, hk, hv => simp at hk hv; subst hk hv; exact ⟨z, rfl, hw⟩
      | j + 1, hk, _ => simp at hk
    · rename_i hu
      simp only [Option.some.injEq] at h
      subst h
      obtain ⟨b, rfl, _⟩ := DataW.trod_bool hu ht
      refine ⟨rfl, fun j k' v hk hv => ?_⟩
      match j, hk, hv with
      | 0, hk, hv => simp at hk hv; subst hk hv; exact ⟨b, rfl⟩
      | j + 1, hk, _ => simp at hk
    · rename_i n e hu
      split at h
      · rename_i l hl
        split at h
        · rename_i hc
          obtain ⟨c1, c2⟩ := hc
          simp only [Option.some.injEq] at h
          subst h
          obtain ⟨xs, m, _, _, hlen, hxl, hrd⟩ := DataW.trod_array hu ht
          refine okLeaves_rep n cs (by rw [hlen, c2, c1]) fun i hi => ?_
          have := hrd i hi
          have hi2 : i < xs.length := by omega
          rw [List.getElem?_eq_getElem hi2, ← c1] at this
          exact okLeaves_of d e l m _ _ hl this
        · cases h
      · cases h
    · rename_i fs hu
      split at h
      · rename_i l hl
        split at h
        · rename_i hc
          simp only [Option.some.injEq] at h
          subst h
          obtain ⟨xs, m, _, _, hlen, hxl, hrd⟩ := DataW.trod_struct hu ht
          refine okLeaves_fs (fun t' ks' cs' x' h1 h2 => okLeaves_of d t' ks' m cs' x' h1 h2) fs.toList 0 l cs hl (by rw [hlen, hc]) fun i f hi => ?_
          have hi' : fs[i]? = some f := by simpa using hi
          have hi2 : i < xs.length := by
            have := (Array.getElem?_eq_some_iff.1 hi').1
            omega
          have := hrd i f hi'
          rw [List.getElem?_eq_getElem hi2] at this
          exact ⟨_, by rw [Nat.sub_zero]; exact this⟩
        · cases h
      · cases h
    · cases h
/-- an argument that is a slice of such things -/
structure RowArg (w : World) (ao : Option Addr) (n b off : Nat) (ks : List (Option IntKind)) (E : Nat → Nat → Value) : Prop where
  place : 0 < n → ao = some ⟨b, off, none⟩
  lt : 0 < n → b < w.heap.size
  cell : ∀ i, i < n → ∀ j, j < ks.length → w.cell? ⟨b, off + (i * ks.length + j), none⟩ = some (E i j)
  ok : ∀ i, i < n → ∀ (j : Nat) (k : Option IntKind), ks[j]? = some k → okLeaf k (E i j)
  most : n ≤ 9223372036854775807
theorem RowArg.kept {w w' : World} {ao : Option Addr} {n b off : Nat} {ks : List (Option IntKind)} {E : Nat → Nat → Value} (h : RowArg w ao n b off ks E) (u : Below w.heap.size w w') : RowArg w' ao n b off ks E :=
  ⟨h.place, fun h0 => Nat.lt_of_lt_of_le (h.lt h0) u.size, fun i hi j hj => (u.cell (p := ⟨b, off + (i * ks.length + j), none⟩) (h.lt (by omega))).trans (h.cell i hi j hj), h.ok, h.most⟩
/-- a slice's value is no aggregate -/
theorem okWide_noAgg {r : Reach} {b0 : Nat} {t e : TypeId} {c : Array Value} (ht : P.underlying t = some (.slice e)) (h : Value.okWide P w r b0 t (.agg c)) : False := by
  simp [Value.okWide, Cell.okWide, Cell.ok, ht] at h
theorem open_rows {r : Reach} {b0 : Nat} {t e : TypeId} {v : Value} {dt : DataW H} {p : List MemPlace} (D : Nat) (ks : List (Option IntKind)) (ht : P.underlying t = some (.slice e)) (hf : flat P D e = some ks) (hc : P.cellsOf e = ks.length) (hpos : 0 < ks.length)
    (hw : Value.okWide P w r b0 t v) (h : DataW.Trod enc P w base spare held t v dt p) :
    ∃ (ao : Option Addr) (n cap b off : Nat) (E : Nat → Nat → Value), v = .slice ao n cap ∧ RowArg w ao n b off ks E := by
  obtain ⟨fuel, hfu⟩ := h
  rcases Deep.open_slice ht hfu with ⟨h1, _⟩ | ⟨a, len, cap, m, n, DD, Pl, h1, _, hl, hm, hmm, _, hi⟩
  · have hv : v = .slice none 0 0 := by
      cases v
      case agg c => exact (okWide_noAgg ht hw).elim
      all_goals (simp [Value.cells] at h1; try simp [h1])
    exact ⟨none, 0, 0, 0, 0, fun _ _ => .bool false, hv, ⟨fun h => absurd h (by omega), fun h => absurd h (by omega), fun i hi => absurd hi (by omega), fun i hi => absurd hi (by omega), by omega⟩⟩
  · have hv : v = .slice (some a) len cap := by
      cases v
      case agg c => exact (okWide_noAgg ht hw).elim
      all_goals (simp [Value.cells] at h1; try simp [h1])
    have hle : len ≤ m := by rw [hmm]; split <;> omega
    obtain ⟨E, hE⟩ := Deep.choose_lt (n := len) (p := fun i (f : Nat → Value) => ∀ j, j < ks.length → w.cell? (a.add (i * ks.length + j)) = some (f j) ∧ ∀ k, ks[j]? = some k → okLeaf k (f j)) (fun i hil => by
      obtain ⟨cs', hc', ht'⟩ := hi i (by omega)
      rw [hc] at hc'
      obtain ⟨_, hcl, hat⟩ := World.cells?_some hc'
      have ok := okLeaves_of D e ks n cs' _ hf ht'
      refine ⟨fun j => cs'.getD j (.bool false), fun j hj => ?_⟩
      have hjl : j < cs'.length := by rw [ok.1]; exact hj
      have hv : cs'[j]? = some (cs'.getD j (.bool false)) := by simp [List.getElem?_eq_getElem hjl]
      refine ⟨?_, fun k hk => ok.2 j k _ hk hv⟩
      rw [← Deep.add_add, hat j hj, hv])
    have hspot : 0 < len → a = ⟨a.block, a.off, none⟩ := fun h0 => by
      have := (hE 0 h0 0 hpos).1
      rw [Nat.zero_mul, Nat.add_zero] at this
      obtain ⟨ab, aoff, asp⟩ := a
      cases asp with
      | none => rfl
      | some s =>
        simp only [Addr.add, if_true, World.cell?] at this
        split at this <;> simp at this
    refine ⟨some a, len, cap, a.block, a.off, E, hv, ⟨fun h0 => by rw [← hspot h0], fun h0 => ?_, fun i hil j hj => ?_, fun i hil j k hk => ?_, by unfold maxLen at hm; omega⟩⟩
    · have := (hE 0 h0 0 hpos).1
      rw [Nat.zero_mul, Nat.add_zero] at this
      have hb := World.block_lt_of_cell? w _ this
      simpa [Addr.add] using hb
    · have := (hE i hil j hj).1
      rw [hspot (by omega), Addr.add_mid] at this
      exact this
    · have hj : j < ks.length := (List.getElem?_eq_some_iff.1 hk).1
      exact (hE i hil j hj).2 k hk
/-- a struct of such things by value: its cells -/
theorem open_flat {r : Reach} {b0 : Nat} {t : TypeId} {fs : Array Field} {v : Value} {dt : DataW H} {p : List MemPlace} (D : Nat) (ks : List (Option IntKind)) (ht : P.underlying t = some (.struct fs)) (hf : flat P D t = some ks)
    (hw : Value.okWide P w r b0 t v) (h : DataW.Trod enc P w base spare held t v dt p) : ∃ cs : List Value, v = .agg cs.toArray ∧ okLeaves ks cs := by
  obtain ⟨fuel, hfu⟩ := h
  simp only [Value.okWide, ht] at hw
  obtain ⟨cs, rfl, _⟩ := hw
  exact ⟨cs.toList, by simp, okLeaves_of D t ks fuel _ _ hf hfu⟩
theorem cells2 {cs : List Value} (h : cs.length = 2) : ∃ a b, cs = [a, b] := by
  match cs, h with
  | [a, b], _ => exact ⟨a, b, rfl⟩
theorem cells3 {cs : List Value} (h : cs.length = 3) : ∃ a b c, cs = [a, b, c] := by
  match cs, h with
  | [a, b, c], _ => exact ⟨a, b, c, rfl⟩
theorem cells4 {cs : List Value} (h : cs.length = 4) : ∃ a b c d, cs = [a, b, c, d] := by
  match cs, h with
  | [a, b, c, d], _ => exact ⟨a, b, c, d, rfl⟩
theorem cells5 {cs : List Value} (h : cs.length = 5) : ∃ a b c d e, cs = [a, b, c, d, e] := by
  match cs, h with
  | [a, b, c, d, e], _ => exact ⟨a, b, c, d, e, rfl⟩
theorem cells6 {cs : List Value} (h : cs.length = 6) : ∃ c0 c1 c2 c3 c4 c5, cs = [c0, c1, c2, c3, c4, c5] := by
  match cs, h with
  | [c0, c1, c2, c3, c4, c5], _ => exact ⟨c0, c1, c2, c3, c4, c5, rfl⟩
theorem cells7 {cs : List Value} (h : cs.length = 7) : ∃ c0 c1 c2 c3 c4 c5 c6, cs = [c0, c1, c2, c3, c4, c5, c6] := by
  match cs, h with
  | [c0, c1, c2, c3, c4, c5, c6], _ => exact ⟨c0, c1, c2, c3, c4, c5, c6, rfl⟩
theorem cells8 {cs : List Value} (h : cs.length = 8) : ∃ c0 c1 c2 c3 c4 c5 c6 c7, cs = [c0, c1, c2, c3, c4, c5, c6, c7] := by
  match cs, h with
  | [c0, c1, c2, c3, c4, c5, c6, c7], _ => exact ⟨c0, c1, c2, c3, c4, c5, c6, c7, rfl⟩
theorem cells9 {cs : List Value} (h : cs.length = 9) : ∃ c0 c1 c2 c3 c4 c5 c6 c7 c8, cs = [c0, c1, c2, c3, c4, c5, c6, c7, c8] := by
  match cs, h with
  | [c0, c1, c2, c3, c4, c5, c6, c7, c8], _ => exact ⟨c0, c1, c2, c3, c4, c5, c6, c7, c8, rfl⟩
theorem cells10 {cs : List Value} (h : cs.length = 10) : ∃ c0 c1 c2 c3 c4 c5 c6 c7 c8 c9, cs = [c0, c1, c2, c3, c4, c5, c6, c7, c8, c9] := by
  match cs, h with
  | [c0, c1, c2, c3, c4, c5, c6, c7, c8, c9], _ => exact ⟨c0, c1, c2, c3, c4, c5, c6, c7, c8, c9, rfl⟩
theorem cells11 {cs : List Value} (h : cs.length = 11) : ∃ c0 c1 c2 c3 c4 c5 c6 c7 c8 c9 c10, cs = [c0, c1, c2, c3, c4, c5, c6, c7, c8, c9, c10] := by
  match cs, h with
  | [c0, c1, c2, c3, c4, c5, c6, c7, c8, c9, c10], _ => exact ⟨c0, c1, c2, c3, c4, c5, c6, c7, c8, c9, c10, rfl⟩
theorem cells12 {cs : List Value} (h : cs.length = 12) : ∃ c0 c1 c2 c3 c4 c5 c6 c7 c8 c9 c10 c11, cs = [c0, c1, c2, c3, c4, c5, c6, c7, c8, c9, c10, c11] := by
  match cs, h with
  | [c0, c1, c2, c3, c4, c5, c6, c7, c8, c9, c10, c11], _ => exact ⟨c0, c1, c2, c3, c4, c5, c6, c7, c8, c9, c10, c11, rfl⟩
theorem len2 {zs : List Int} (h : zs.length = 2) : ∃ a b, zs = [a, b] := by
  match zs, h with
  | [a, b], _ => exact ⟨a, b, rfl⟩
theorem len3 {zs : List Int} (h : zs.length = 3) : ∃ a b c, zs = [a, b, c] := by
  match zs, h with
  | [a, b, c], _ => exact ⟨a, b, c, rfl⟩
theorem len4 {zs : List Int} (h : zs.length = 4) : ∃ a b c d, zs = [a, b, c, d] := by
  match zs, h with
  | [a, b, c, d], _ => exact ⟨a, b, c, d, rfl⟩
end Go.Proofs.YtcbiangocfhhlaaDoor.Fr

/-
  Registers and words in memory; the document's load and store.
-/
namespace Go.Proofs.YtcbiangocfhhlaaDoor
open Go.ChangeShapes Go.WideShapes Go.ChangeAt Go.RowKit

/-- registers in memory -/
def RegsAt (w : World) (B : Nat) (c : Cp) : Prop := w.heap[B]? = some (.cells (ints .u64 (c.R ++ [c.pc])).toArray 25 (0, 0))
theorem RegsAt.kept {S : Nat → Prop} {w w' : World} {B : Nat} {c : Cp} (h : RegsAt w B c) (u : Upd S w w') (hs : ¬ S B) : RegsAt w' B c := u.at h hs
theorem RegsAt.reg {w : World} {B : Nat} {c : Cp} (h : RegsAt w B c) (hc : c.Ok) (k : Int) (h0 : 0 ≤ k) (h7 : k ≤ 7) : w.cell? ⟨B, k.toNat, none⟩ = some (.int .u64 (c.reg k)) := by
  have := cell_block (l := c.R ++ [c.pc]) h k.toNat (by rw [List.length_append, hc.n]; simp; omega)
  rw [this]
  have e : (c.R ++ [c.pc]).getD k.toNat 0 = c.reg k := by
    unfold Cp.reg
    rw [List.getD_eq_getElem?_getD, List.getD_eq_getElem?_getD, List.getElem?_append_left (by rw [hc.n]; omega)]
  rw [e]
theorem RegsAt.pc' {w : World} {B : Nat} {c : Cp} (h : RegsAt w B c) (hc : c.R.length = 8) : w.cell? ⟨B, 8, none⟩ = some (.int .u64 c.pc) := by
  have := cell_block (l := c.R ++ [c.pc]) h 8 (by rw [List.length_append, hc]; simp)
  rw [this]
  have e : (c.R ++ [c.pc]).getD 8 0 = c.pc := by
    rw [List.getD_eq_getElem?_getD, List.getElem?_append_right (by rw [hc]; omega), hc]
    rfl
  rw [e]
theorem RegsAt.pc {w : World} {B : Nat} {c : Cp} (h : RegsAt w B c) (hc : c.Ok) : w.cell? ⟨B, 8, none⟩ = some (.int .u64 c.pc) := h.pc' hc.n
theorem Cp.set_n {c : Cp} (h : c.R.length = 8) (k v n : Int) : (c.set k v n).R.length = 8 := by simp [Cp.set, h]
theorem RegsAt.free {w : World} {B : Nat} {c : Cp} (h : RegsAt w B c) (k : Nat) : w.frozen? ⟨B, k, none⟩ = false := frozen_block h _
theorem RegsAt.setPc {w : World} {B : Nat} {c : Cp} (h : RegsAt w B c) (hc : c.R.length = 8) (n : Int) : RegsAt (w.setCell ⟨B, 8, none⟩ (.int .u64 n)) B ⟨c.R, n⟩ := by
  unfold RegsAt
  rw [heap_setCell_same h 8 _]
  congr 3
  show (ints .u64 (c.R ++ [c.pc])).set 8 (.int .u64 n) = ints .u64 (c.R ++ [n])
  simp only [ints, List.map_append]
  rw [List.set_append_right _ _ (by simp [hc])]
  simp [hc]
theorem RegsAt.setReg {w : World} {B : Nat} {c : Cp} (h : RegsAt w B c) (hc : c.R.length = 8) (k : Int) (h0 : 0 ≤ k) (h7 : k ≤ 7) (v : Int) : RegsAt (w.setCell ⟨B, k.toNat, none⟩ (.int .u64 v)) B (c.set k v c.pc) := by
  unfold RegsAt
  rw [heap_setCell_same h _ _]
  congr 3
  show (ints .u64 (c.R ++ [c.pc])).set k.toNat (.int .u64 v) = ints .u64 (c.R.set k.toNat v ++ [c.pc])
  simp only [ints, List.map_append, List.map_set]
  rw [List.set_append_left _ _ (by simp [hc]; omega)]
theorem Cp.set_pc (c : Cp) (k v n : Int) : (⟨(c.set k v c.pc).R, n⟩ : Cp) = c.set k v n := rfl
/-- the document's words in memory; their row is v's -/
structure FlatAt (w : World) (base B : Nat) (v : Value) (m : Fl) : Prop where
  at_ : w.heap[B]? = some (.cells #[v, .int .i64 m.first] 32 (0, 0))
  row : w.ownsRow base 22 1 v m.W.length (ints .u64 m.W)
theorem FlatAt.kept {S : Nat → Prop} {w w' : World} {base B : Nat} {v : Value} {m : Fl} (h : FlatAt w base B v m) (u : Upd S w w') (hs : ¬ S B) (hv : ∀ j, v.ownBlock = some j → ¬ S j) : FlatAt w' base B v m := ⟨u.at h.at_ hs, rows_kept h.row u hv⟩
theorem row_ty {w : World} {base sz k g : Nat} {e : TypeId} {v : Value} {xs : List Value} (h : w.ownsRow base e sz v k xs) (hg : v.ownBlock = some g) : ∃ cs, w.heap[g]? = some (.cells cs e (0, 0)) := by
  rcases h.2 with ⟨rfl, _⟩ | ⟨g', cap, cur, rfl, _, hh, _⟩
  · cases hg
  · obtain rfl : g' = g := by injection hg
    exact ⟨cur, hh⟩
theorem FlatAt.ne {w : World} {base B : Nat} {v : Value} {m : Fl} (h : FlatAt w base B v m) (g : Nat) (hg : v.ownBlock = some g) : B ≠ g := by
  rintro rfl
  obtain ⟨cs, hh⟩ := row_ty h.row hg
  rw [h.at_] at hh
  injection hh with hh
  injection hh with _ h2 _
  exact absurd h2 (by decide)
theorem ints_at (l : List Int) (k : Nat) (hk : k < l.length) : (ints .u64 l)[k]? = some (.int .u64 (l.getD k 0)) := ints_getElem? .u64 l k hk
theorem in_iff {m : Fl} {a : Int} (h : m.isIn a = true) : 0 ≤ a ∧ a < m.W.length := of_decide_eq_true h
theorem in_not {m : Fl} {a : Int} (h : m.isIn a = false) : a < 0 ∨ (m.W.length : Int) ≤ a := by have := of_decide_eq_false h; omega
set_option maxHeartbeats 2000000 in
theorem rload_any (base B : Nat) (v : Value) (m : Fl) (a : Int) (w : World) (hF : FlatAt w base B v m) : Calls Tryd.prog 21 #[.pointer (some ⟨B, 0, none⟩), .int .i64 a] w fun e w' => e = .returned (.tuple #[.int .u64 (m.ld a), .int .i64 (m.ldE a)]) ∧ ∃ n, w' = w.drewN n := by
  obtain ⟨o, cap, rfl⟩ := rows_slice hF.row
  have c0 : w.cell? ⟨B, 0, none⟩ = some (.slice o m.W.length cap) := by rw [cell_of_row _ _ _ _ _ _ hF.at_]; rfl
  cases h : m.isIn a
  · have e1 : m.ld a = 0 := by unfold Fl.ld; rw [h]; rfl
    have e2 : m.ldE a = 10 := by unfold Fl.ldE; rw [h]; rfl
    rw [e1, e2]
    rcases in_not h with h1 | h1
    · clear h e1 e2 hF
      go_enter Tryd.func21, Tryd.ntmps21
      go_wp2
      go_ret2
      exact ⟨rfl, 0, rfl⟩
    · have h2 : 0 ≤ a := by omega
      clear h e1 e2 hF
      go_enter Tryd.func21, Tryd.ntmps21
      go_wp2
      go_ret2
      exact ⟨rfl, 0, rfl⟩
  · obtain ⟨h1, h2⟩ := in_iff h
    have e1 : m.ld a = m.W.getD a.toNat 0 := by unfold Fl.ld; rw [h]; rfl
    have e2 : m.ldE a = 0 := by unfold Fl.ldE; rw [h]; rfl
    rw [e1, e2]
    obtain ⟨k, rfl⟩ := Int.eq_ofNat_of_zero_le h1
    obtain ⟨g, rfl, hc⟩ := rows_at hF.row (by omega)
    have c1 := hc k _ (ints_at m.W k (by omega))
    rw [Int.toNat_natCast]
    generalize m.W.getD k 0 = x at c1 ⊢
    clear h e1 e2 hF hc
    go_enter Tryd.func21, Tryd.ntmps21
    go_wp2
    go_ret2
    exact ⟨rfl, 0, rfl⟩
set_option maxHeartbeats 2000000 in
theorem rstore_any (base B : Nat) (v : Value) (m : Fl) (a x : Int) (w : World) (hF : FlatAt w base B v m) : Calls Tryd.prog 23 #[.pointer (some ⟨B, 0, none⟩), .int .i64 a, .int .u64 x] w fun e w' => e = .returned (.int .i64 (m.stE a)) ∧ FlatAt w' base B v (m.st a x) ∧ Upd (fun k => v.ownBlock = some k) w w' := by
  obtain ⟨o, cap, rfl⟩ := rows_slice hF.row
  have c0 : w.cell? ⟨B, 0, none⟩ = some (.slice o m.W.length cap) := by rw [cell_of_row _ _ _ _ _ _ hF.at_]; rfl
  have c1 : w.cell? ⟨B, 1, none⟩ = some (.int .i64 m.first) := by rw [cell_of_row _ _ _ _ _ _ hF.at_]; rfl
  have hno : m.stE a ≠ 0 → m.st a x = m := fun h => by unfold Fl.st; rw [if_neg h]
  cases h : m.isIn a
  · have e2 : m.stE a = 10 := by unfold Fl.stE; rw [h]; rfl
    rw [hno (by omega), e2]
    have HF := Lib.hid hF
    rcases in_not h with h1 | h1
    · clear h e2 hF hno
      go_enter Tryd.func23, Tryd.ntmps23
      go_wp2
      go_ret
      exact ⟨rfl, HF.out, Upd.refl _ _⟩
    · have h2 : 0 ≤ a := by omega
      clear h e2 hF hno
      go_enter Tryd.func23, Tryd.ntmps23
      go_wp2
      go_ret
      exact ⟨rfl, HF.out, Upd.refl _ _⟩
  · obtain ⟨h1, h2⟩ := in_iff h
    by_cases hp : a < m.first
    · have e2 : m.stE a = 9 := by unfold Fl.stE; rw [h, if_pos rfl, if_pos hp]
      rw [hno (by omega), e2]
      have HF := Lib.hid hF
      clear h e2 hF hno
      generalize m.first = fi at hp c1
      go_enter Tryd.func23, Tryd.ntmps23
      go_wp2
      go_ret
      exact ⟨rfl, HF.out, Upd.refl _ _⟩
    · have e2 : m.stE a = 0 := by unfold Fl.stE; rw [h, if_pos rfl, if_neg hp]
      have e3 : m.st a x = { m with W := m.W.set a.toNat x } := by unfold Fl.st; rw [if_pos e2]
      rw [e2, e3]
      obtain ⟨k, rfl⟩ := Int.eq_ofNat_of_zero_le h1
      obtain ⟨g, rfl, hc⟩ := rows_at hF.row (by omega)
      have d1 := hc k _ (ints_at m.W k (by omega))
      have f1 := hF.row.frozenAt k
      rw [Int.toNat_natCast]
      have hgb : B ≠ g := hF.ne g rfl
      have hst := hF.row.stored k (.int .u64 x)
      have HF := Lib.hid (show FlatAt (w.setCell ⟨g, k, none⟩ (.int .u64 x)) base B (.slice (some ⟨g, 0, none⟩) m.W.length cap) { m with W := m.W.set k x } from ⟨by
        rw [Below.heap_setCell _ _ _ _ hgb]; exact hF.at_, by
        have h := hst.1
        show (w.setCell _ _).ownsRow _ _ _ _ (m.W.set k x).length (ints .u64 (m.W.set k x))
        rw [List.length_set, show ints .u64 (m.W.set k x) = (ints .u64 m.W).set k (.int .u64 x) from by simp [ints, List.map_set]]
        exact h⟩)
      have HU := Lib.hid ((Upd.refl (fun j => (Value.slice (some ⟨g, 0, none⟩) m.W.length cap).ownBlock = some j) w).setCell (p := ⟨g, k, none⟩) (.inl rfl) (.int .u64 x))
      have hp' : m.first ≤ (k : Int) := by omega
      generalize hfi : m.first = fi at hp' c1
      replace hfi := Lib.hid hfi
      generalize m.W.getD k 0 = y at d1
      clear h e2 e3 hF hno hc hst hp hgb
      go_enter Tryd.func23, Tryd.ntmps23
      go_wp2
      go_ret
      exact ⟨rfl, hfi.out ▸ HF.out, HU.out⟩
end Go.Proofs.YtcbiangocfhhlaaDoor
