/-
  Texts that the laws stand on, joined: Kit, Upd, AsM, MapK, Arr, App, Lay, MapS, Row, AsA, AsB.
-/
import Derived.BigFrame
import Derived.BigQuiet
import Derived.Deep.CutBlock
import Derived.Deep.DeepCutAuto
import Derived.Deep.MidRow
import Derived.Deep.QuietTactic
import Derived.Deep.WholeRow
import Derived.Laws.CopyOwn
import Derived.Laws.OwnMore
import Derived.Laws.StructEq
import Derived.Lib.Hide
import Derived.Maps.AppendAt
import Derived.Maps.OwnOps
import Derived.Maps.OwnSet
import Derived.Maps.RangeWalk
import Derived.OpenShut
import Derived.OwnWalk
import Derived.ProofKit
import Derived.RangeFuncBox
import Derived.Shelf.SlIterI.Nil
import Derived.Shelf.SortM.Plain
import Derived.Shelf.SortM.SortNone
import Derived.StillTailTactics
import Derived.Test.YtmalfdbjbgifeaaRows
import Derived.WalkKit

/-
  Small helpers that all of this seat's texts import: the kit's walk and row modules under one name, and quiet calls inside regions that draw.
-/
namespace Go.Proofs.Ytmalfdbjbgifeaa
open Go.RowKit

/-- a call that leaves the world alone, inside a region that draws -/
theorem still0 {P : Program} {f : FuncId} {args : Array Value} {w : World} {n : Nat} {v : Value}
    (h : Calls P f args (w.drewN n) fun e w' => e = .returned v ∧ w.drewN n = w') :
    Calls P f args (w.drewN n) fun e w'' => e = .returned v ∧ ∃ m, w'' = w.drewN m := by
  refine h.mono ?_
  rintro e w' ⟨he, hw⟩
  exact ⟨he, n, hw.symm⟩
/-- the same behind other draws -/
theorem still1 {P : Program} {f : FuncId} {args : Array Value} {w : World} {a n : Nat} {v : Value}
    (h : Calls P f args (w.drewN (a + n)) fun e w' => e = .returned v ∧ w.drewN (a + n) = w') :
    Calls P f args (w.drewN (a + n)) fun e w'' => e = .returned v ∧ ∃ m, w'' = w.drewN (a + m) := by
  refine h.mono ?_
  rintro e w' ⟨he, hw⟩
  exact ⟨he, n, hw.symm⟩
/-- a call that draws, inside a region that draws -/
theorem draws0 {P : Program} {f : FuncId} {args : Array Value} {w : World} {n : Nat} {v : Value}
    (h : Calls P f args (w.drewN n) fun e w' => e = .returned v ∧ ∃ m, w' = (w.drewN n).drewN m) :
    Calls P f args (w.drewN n) fun e w'' => e = .returned v ∧ ∃ m, w'' = w.drewN m := by
  refine h.mono ?_
  rintro e w' ⟨he, m, rfl⟩
  exact ⟨he, n + m, by rw [World.drewN_drewN]⟩
theorem draws1 {P : Program} {f : FuncId} {args : Array Value} {w : World} {a n : Nat} {v : Value}
    (h : Calls P f args (w.drewN (a + n)) fun e w' => e = .returned v ∧ ∃ m, w' = (w.drewN (a + n)).drewN m) :
    Calls P f args (w.drewN (a + n)) fun e w'' => e = .returned v ∧ ∃ m, w'' = w.drewN (a + m) := by
  refine h.mono ?_
  rintro e w' ⟨he, m, rfl⟩
  exact ⟨he, n + m, by rw [World.drewN_drewN, Nat.add_assoc]⟩
theorem below_drewN {B : Nat} {a w : World} (h : Below B a w) (n : Nat) : Below B a (w.drewN n) := ⟨h.os, h.tape, h.output, h.size, h.block⟩
end Go.Proofs.Ytmalfdbjbgifeaa

/-
  The frame word of this project's contracts: 'Upd S w w'': behind the call every block that was there and is not in S is as it was.
-/
namespace Go.Proofs.Ytmalfdbjbgifeaa
open Go.RowKit

/-- nothing that was there has turned but the blocks in S -/
structure Upd (S : Nat → Prop) (w w' : World) : Prop where
  os : w'.os = w.os
  tape : w'.tape = w.tape
  output : w'.output = w.output
  size : w.heap.size ≤ w'.heap.size
  block : ∀ k, k < w.heap.size → ¬ S k → w'.heap[k]? = w.heap[k]?

theorem Upd.refl (S : Nat → Prop) (w : World) : Upd S w w := ⟨rfl, rfl, rfl, Nat.le_refl _, fun _ _ _ => rfl⟩
theorem Upd.trans {S : Nat → Prop} {a b c : World} (h : Upd S a b) (k : Upd S b c) : Upd S a c :=
  ⟨k.os.trans h.os, k.tape.trans h.tape, k.output.trans h.output, Nat.le_trans h.size k.size, fun i hi hs => (k.block i (Nat.lt_of_lt_of_le hi h.size) hs).trans (h.block i hi hs)⟩
theorem Upd.mono {S T : Nat → Prop} {a b : World} (h : Upd S a b) (hs : ∀ k, k < a.heap.size → S k → T k) : Upd T a b :=
  ⟨h.os, h.tape, h.output, h.size, fun i hi ht => h.block i hi fun x => ht (hs i hi x)⟩
theorem Upd.drewN {S : Nat → Prop} {a b : World} (h : Upd S a b) (n : Nat) : Upd S a (b.drewN n) := ⟨h.os, h.tape, h.output, h.size, h.block⟩
theorem Upd.drew {S : Nat → Prop} {a b : World} (h : Upd S a b) : Upd S a b.drew := ⟨h.os, h.tape, h.output, h.size, h.block⟩
theorem Upd.alloc {S : Nat → Prop} {a b : World} (h : Upd S a b) (o : Obj) : Upd S a (b.alloc o) :=
  h.trans ⟨rfl, rfl, rfl, by simp, fun k hk _ => Below.heap_alloc _ _ _ hk⟩
theorem Upd.setCell {S : Nat → Prop} {a b : World} (h : Upd S a b) {p : Addr} (hp : S p.block ∨ a.heap.size ≤ p.block) (u : Value) : Upd S a (b.setCell p u) :=
  ⟨h.os, h.tape, h.output, by have := h.size; simpa [World.setCell] using this, fun k hk hs => by
    rw [Below.heap_setCell _ _ _ _ (by rintro rfl; rcases hp with hp | hp; exact hs hp; omega)]; exact h.block k hk hs⟩
theorem Upd.setCells {S : Nat → Prop} {a : World} {p : Nat} (hp : S p ∨ a.heap.size ≤ p) : ∀ (vs : List Value) (o : Nat) {b : World}, Upd S a b → Upd S a (b.setCells p o vs)
  | [], _, _, h => h
  | v :: r, o, b, h => by
    rw [World.setCells]
    exact Upd.setCells hp r (o + 1) (h.setCell (p := ⟨p, o, none⟩) hp v)
theorem Upd.below {S : Nat → Prop} {a b : World} {B : Nat} (h : Upd S a b) (hB : B ≤ a.heap.size) (hs : ∀ k, k < B → ¬ S k) : Below B a b :=
  ⟨h.os, h.tape, h.output, h.size, fun k hk => h.block k (by omega) (hs k hk)⟩
theorem Upd.of_below {S : Nat → Prop} {a b : World} (h : Below a.heap.size a b) : Upd S a b :=
  ⟨h.os, h.tape, h.output, h.size, fun k hk _ => h.block k hk⟩
theorem lt_of_heap {w : World} {k : Nat} {o : Obj} (h : w.heap[k]? = some o) : k < w.heap.size := by
  rcases Nat.lt_or_ge k w.heap.size with h1 | h1
  · exact h1
  · rw [Array.getElem?_eq_none h1] at h; cases h
theorem Upd.at {S : Nat → Prop} {a b : World} (h : Upd S a b) {k : Nat} {o : Obj} (hk : a.heap[k]? = some o) (hs : ¬ S k) : b.heap[k]? = some o := by
  rw [h.block k (lt_of_heap hk) hs]; exact hk
theorem Upd.cell {S : Nat → Prop} {a b : World} (u : Upd S a b) {p : Addr} {v : Value} (h : a.cell? p = some v) (hs : ¬ S p.block) : b.cell? p = some v := by
  rw [World.cell?_of_block (w := a) (u.block p.block (World.block_lt_of_cell? a p h) hs)]; exact h
theorem Upd.rangeAt {S : Nat → Prop} {a b : World} (u : Upd S a b) {p o : Nat} {cs : List Value} (h : a.rangeAt p o cs) (hs : ¬ S p) : b.rangeAt p o cs := fun j v hv => u.cell (h j v hv) hs
/-- a whole array stored: its number of cells named apart -/
theorem wpList_store_sz {P : Program} {ops : Array Oper} {rest : List Oper} {op : Oper} {a : Act} {w : World} {Q : Exit → Act → World → Prop} (hgd : op.guard = none) (ty : TypeId) (x y : Operand) (ho : op.op = .store ty x y)
    (b o : Nat) (cells : Array Value) (hx : a.eval x = .pointer (some ⟨b, o, none⟩)) (hy : a.eval y = .agg cells) (k : Nat) (hk : cells.size = k)
    (ht : w.there b o k) (hi : (P.info? ty).map (·.size) = some k) (h1 : cells.all (·.oneCell') = true) (cs : List Value) (hcs : cells.toList = cs)
    (h : wpList P ops Q rest (a.put op.dst undef) (w.setCells b o cs)) : wpList P ops Q (op :: rest) a w := by
  subst hk hcs
  exact wpList_store_mid hgd ty x y ho b o cells hx hy ht hi h1 h
/-- 'make([]T, n)': the very world behind it -/
theorem wpList_make_exact {P : Program} {w : World} {ops : Array Oper} {rest : List Oper} {o : Oper} {a : Act} {Q : Exit → Act → World → Prop}
    (hg : o.guard = none) (l c : Operand) (t : TypeId) (hop : o.op = Op.makeSlice t l c) (e : TypeId) (z : Value) (size bytes : Nat) (h1 : P.underlying t = some (.slice e))
    (hi : (P.info? e).map (fun i => (i.zero, i.size, i.bytes)) = some (some z, size, bytes)) (kl kc : IntKind) (n : Nat) (hl : a.eval l = .int kl n) (hc : a.eval c = .int kc n)
    (b2 : bytes * n ≤ 281474976710656) (b3 : n ≤ 9223372036854775807) (C : Array Value) (hC : madeCells z.cells (n * size) = C)
    (hK : wpList P ops Q rest (a.put o.dst (.slice (some ⟨w.heap.size, 0, none⟩) n n)) (w.alloc (.cells C e))) :
    wpList P ops Q (o :: rest) a w := by
  obtain ⟨i, hj, hz, hs, hb⟩ := info_parts hi
  subst hs hb hC
  refine wpList_plain hg fun K hK' => ?_
  have hb' : (i.bytes : Int) * (n : Int) ≤ 281474976710656 := by
    have h : ((i.bytes * n : Nat) : Int) ≤ 281474976710656 := by omega
    rwa [Int.natCast_mul] at h
  have hrun := run_make (P := P) w t e i z h1 hj hz kl kc n n (by omega) (Int.le_refl _) hb' (by omega)
  simp only [Int.toNat_natCast] at hrun
  unfold Oper.wp
  simp [execOp, hop, hl, hc, hrun, Result.andThen]
  exact hK' _ _ hK
/-- a new row of one value over and over -/
theorem madeCells_same (v : Value) (k n : Nat) (hk : 0 < k) : madeCells (List.replicate k v).toArray n = (List.replicate n v).toArray := by
  apply Array.ext
  · simp [madeCells]
  · intro i h1 h2
    have : i % k < k := Nat.mod_lt _ hk
    simp [madeCells, this]
end Go.Proofs.Ytmalfdbjbgifeaa

/-
  Package asid in plain numbers: a pool, what is taken next, what is taken back.
-/
namespace Go.Proofs.Ytmalfdbjbgifeaa

/-- a pool: how many numbers it has, how often each was given, which are given now (number i + 1 by i) -/
structure Po where
  n : Nat
  u : Nat → Nat
  g : Nat → Bool
def updP {α : Type} (f : Nat → α) (i : Nat) (v : α) : Nat → α := fun j => if j = i then v else f j
theorem updP_same {α : Type} (f : Nat → α) (i : Nat) (v : α) : updP f i v i = v := if_pos rfl
theorem updP_other {α : Type} {f : Nat → α} {i j : Nat} {v : α} (h : j ≠ i) : updP f i v j = f j := if_neg h
def po0 (n : Nat) : Po := ⟨n, fun _ => 0, fun _ => false⟩
def Po.idx (p : Po) (β : Bool) : List Nat := (List.range p.n).filter fun i => p.g i == β
def Po.ls (p : Po) (β : Bool) : List (Nat × Nat) := (p.idx β).map fun i => (i + 1, p.u i)
def pickI (u : Nat → Nat) : Option Nat → Nat → Option Nat
  | none, i => some i
  | some c, i => if u i < u c then some i else some c
def pickL (u : Nat → Nat) (L : List Nat) : Option Nat := L.foldl (pickI u) none
def Po.best (p : Po) : Option Nat := pickL p.u (p.idx false)
def Po.take (p : Po) (c : Nat) : Po := { p with u := updP p.u c (p.u c + 1), g := updP p.g c true }
def Po.back (p : Po) (c : Nat) : Po := { p with g := updP p.g c false }
/-- the number of a tag that is given now -/
def Po.at (p : Po) (a t : Int) : Option Nat := if 1 ≤ a ∧ a ≤ p.n ∧ p.g (a.toNat - 1) = true ∧ (p.u (a.toNat - 1) : Int) = t then some (a.toNat - 1) else none
def Po.left (p : Po) : Nat := (p.idx false).length
theorem Po.mem_idx {p : Po} {β : Bool} {i : Nat} : i ∈ p.idx β ↔ i < p.n ∧ p.g i = β := by simp [Po.idx]
theorem Po.idx_lt (p : Po) (β : Bool) : (p.idx β).Pairwise (· < ·) := List.pairwise_lt_range.filter _
theorem Po.idx_nodup (p : Po) (β : Bool) : (p.idx β).Nodup := List.nodup_range.filter _
theorem Po.idx_le (p : Po) (β : Bool) : (p.idx β).length ≤ p.n := by
  have := List.length_filter_le (fun i => p.g i == β) (List.range p.n)
  rwa [List.length_range] at this
theorem Po.mem_ls {p : Po} {β : Bool} {x : Nat × Nat} : x ∈ p.ls β ↔ ∃ i, i < p.n ∧ p.g i = β ∧ x = (i + 1, p.u i) := by
  unfold Po.ls
  rw [List.mem_map]
  constructor
  · rintro ⟨i, hi, rfl⟩; exact ⟨i, (Po.mem_idx.1 hi).1, (Po.mem_idx.1 hi).2, rfl⟩
  · rintro ⟨i, h1, h2, rfl⟩; exact ⟨i, Po.mem_idx.2 ⟨h1, h2⟩, rfl⟩
theorem Po.ls_len (p : Po) (β : Bool) : (p.ls β).length = (p.idx β).length := by simp [Po.ls]
theorem Po.ls_key {p : Po} {β : Bool} {x y : Nat × Nat} (hx : x ∈ p.ls β) (hy : y ∈ p.ls β) (e : y.1 = x.1) : y = x := by
  obtain ⟨i, _, _, rfl⟩ := Po.mem_ls.1 hx
  obtain ⟨j, _, _, rfl⟩ := Po.mem_ls.1 hy
  obtain rfl : j = i := by simp at e; omega
  rfl
theorem Po.ls_nodup (p : Po) (β : Bool) : (p.ls β).Nodup :=
  List.pairwise_map.2 ((p.idx_nodup β).imp fun {i j} h e => h (by injection e with e _; omega))
theorem perm_of {α : Type} [DecidableEq α] {l m : List α} (hl : l.Nodup) (hm : m.Nodup) (h : ∀ x, x ∈ l ↔ x ∈ m) : l.Perm m := (List.perm_ext_iff_of_nodup hl hm).2 h
/-- taken: its pair leaves the one list and comes into the other one -/
theorem Po.take_no {p : Po} {c : Nat} (hc : c < p.n) (hg : p.g c = false) : ((p.ls false).erase (c + 1, p.u c)).Perm ((p.take c).ls false) := by
  refine perm_of ((p.ls_nodup _).erase _) ((p.take c).ls_nodup _) fun x => ?_
  rw [(p.ls_nodup false).mem_erase_iff, Po.mem_ls, Po.mem_ls]
  constructor
  · rintro ⟨hne, i, h1, h2, rfl⟩
    have : i ≠ c := fun e => hne (by rw [e])
    exact ⟨i, h1, by show updP p.g c true i = false; rw [updP_other this, h2], by show _ = (i + 1, updP p.u c (p.u c + 1) i); rw [updP_other this]⟩
  · rintro ⟨i, h1, h2, rfl⟩
    have hne : i ≠ c := fun e => by subst e; have : updP p.g i true i = false := h2; rw [updP_same] at this; cases this
    refine ⟨fun e => hne (by injection e with e _; omega), i, h1, ?_, ?_⟩
    · have : updP p.g c true i = false := h2
      rwa [updP_other hne] at this
    · show (i + 1, updP p.u c (p.u c + 1) i) = _; rw [updP_other hne]
theorem Po.take_yes {p : Po} {c : Nat} (hc : c < p.n) (hg : p.g c = false) : (p.ls true ++ [(c + 1, p.u c + 1)]).Perm ((p.take c).ls true) := by
  refine perm_of (List.nodup_append.2 ⟨p.ls_nodup _, by simp, fun x hx y hy e => ?_⟩) ((p.take c).ls_nodup _) fun x => ?_
  · obtain ⟨i, h1, h2, rfl⟩ := Po.mem_ls.1 hx
    simp only [List.mem_singleton] at hy
    subst hy
    injection e with e _
    obtain rfl : i = c := by omega
    rw [hg] at h2; cases h2
  · rw [List.mem_append, Po.mem_ls, Po.mem_ls, List.mem_singleton]
    constructor
    · rintro (⟨i, h1, h2, rfl⟩ | rfl)
      · have : i ≠ c := fun e => by subst e; rw [hg] at h2; cases h2
        exact ⟨i, h1, by show updP p.g c true i = true; rw [updP_other this, h2], by show _ = (i + 1, updP p.u c (p.u c + 1) i); rw [updP_other this]⟩
      · exact ⟨c, hc, updP_same _ _ _, by show _ = (c + 1, updP p.u c (p.u c + 1) c); rw [updP_same]⟩
    · rintro ⟨i, h1, h2, rfl⟩
      by_cases hne : i = c
      · subst hne
        exact .inr (by show (i + 1, updP p.u i (p.u i + 1) i) = _; rw [updP_same])
      · refine .inl ⟨i, h1, ?_, ?_⟩
        · have : updP p.g c true i = true := h2
          rwa [updP_other hne] at this
        · show (i + 1, updP p.u c (p.u c + 1) i) = _; rw [updP_other hne]
theorem Po.back_yes {p : Po} {c : Nat} (hc : c < p.n) (hg : p.g c = true) : ((p.ls true).erase (c + 1, p.u c)).Perm ((p.back c).ls true) := by
  refine perm_of ((p.ls_nodup _).erase _) ((p.back c).ls_nodup _) fun x => ?_
  rw [(p.ls_nodup true).mem_erase_iff, Po.mem_ls, Po.mem_ls]
  constructor
  · rintro ⟨hne, i, h1, h2, rfl⟩
    have : i ≠ c := fun e => hne (by rw [e])
    exact ⟨i, h1, by show updP p.g c false i = true; rw [updP_other this, h2], rfl⟩
  · rintro ⟨i, h1, h2, rfl⟩
    have hne : i ≠ c := fun e => by subst e; have : updP p.g i false i = true := h2; rw [updP_same] at this; cases this
    refine ⟨fun e => hne (by injection e with e _; omega), i, h1, ?_, rfl⟩
    have : updP p.g c false i = true := h2
    rwa [updP_other hne] at this
theorem Po.back_no {p : Po} {c : Nat} (hc : c < p.n) (hg : p.g c = true) : (p.ls false ++ [(c + 1, p.u c)]).Perm ((p.back c).ls false) := by
  refine perm_of (List.nodup_append.2 ⟨p.ls_nodup _, by simp, fun x hx y hy e => ?_⟩) ((p.back c).ls_nodup _) fun x => ?_
  · obtain ⟨i, h1, h2, rfl⟩ := Po.mem_ls.1 hx
    simp only [List.mem_singleton] at hy
    subst hy
    injection e with e _
    obtain rfl : i = c := by omega
    rw [hg] at h2; cases h2
  · rw [List.mem_append, Po.mem_ls, Po.mem_ls, List.mem_singleton]
    constructor
    · rintro (⟨i, h1, h2, rfl⟩ | rfl)
      · have : i ≠ c := fun e => by subst e; rw [hg] at h2; cases h2
        exact ⟨i, h1, by show updP p.g c false i = false; rw [updP_other this, h2], rfl⟩
      · exact ⟨c, hc, updP_same _ _ _, rfl⟩
    · rintro ⟨i, h1, h2, rfl⟩
      by_cases hne : i = c
      · subst hne; exact .inr rfl
      · refine .inl ⟨i, h1, ?_, rfl⟩
        have : updP p.g c false i = false := h2
        rwa [updP_other hne] at this
/-! what is taken next -/
theorem pick_least (u : Nat → Nat) : ∀ (L : List Nat) (b : Option Nat) (c : Nat), L.Pairwise (· < ·) → (∀ d, b = some d → ∀ i ∈ L, d < i) → L.foldl (pickI u) b = some c →
    (∀ i ∈ L, u c ≤ u i ∧ (u i = u c → c ≤ i)) ∧ (∀ d, b = some d → u c ≤ u d ∧ (u d = u c → c ≤ d)) ∧ (c ∈ L ∨ b = some c)
  | [], b, c, _, _, h => ⟨fun i hi => absurd hi (List.not_mem_nil), fun d hd => by rw [List.foldl_nil, hd] at h; injection h with h; subst h; exact ⟨Nat.le_refl _, fun _ => Nat.le_refl _⟩, .inr h⟩
  | x :: L, b, c, hp, hb, h => by
    rw [List.foldl_cons] at h
    obtain ⟨hx, hp⟩ := List.pairwise_cons.1 hp
    cases b with
    | none =>
      obtain ⟨h1, h2, h3⟩ := pick_least u L (some x) c hp (fun d hd i hi => by injection hd with hd; subst hd; exact hx i hi) h
      refine ⟨fun i hi => ?_, fun (d : Nat) (hd : none = some d) => (nomatch hd), ?_⟩
      · rcases List.mem_cons.1 hi with rfl | hi
        · exact h2 _ rfl
        · exact h1 i hi
      · rcases h3 with h3 | h3
        · exact .inl (List.mem_cons_of_mem _ h3)
        · injection h3 with h3; subst h3; exact .inl (List.mem_cons_self)
    | some d =>
      have hdx := hb d rfl x (List.mem_cons_self)
      by_cases hu : u x < u d
      · have e : pickI u (some d) x = some x := if_pos hu
        rw [e] at h
        obtain ⟨h1, h2, h3⟩ := pick_least u L (some x) c hp (fun d hd i hi => by injection hd with hd; subst hd; exact hx i hi) h
        have hcx := h2 x rfl
        refine ⟨fun i hi => ?_, fun e he => ?_, ?_⟩
        · rcases List.mem_cons.1 hi with rfl | hi
          · exact hcx
          · exact h1 i hi
        · injection he with he; subst he; exact ⟨by omega, fun e => by omega⟩
        · rcases h3 with h3 | h3
          · exact .inl (List.mem_cons_of_mem _ h3)
          · injection h3 with h3; subst h3; exact .inl (List.mem_cons_self)
      · have e : pickI u (some d) x = some d := if_neg hu
        rw [e] at h
        obtain ⟨h1, h2, h3⟩ := pick_least u L (some d) c hp (fun d hd i hi => hb d hd i (List.mem_cons_of_mem _ hi)) h
        have hcd := h2 d rfl
        refine ⟨fun i hi => ?_, fun e he => ?_, ?_⟩
        · rcases List.mem_cons.1 hi with rfl | hi
          · exact ⟨by omega, fun e => by have := hcd.2 (by omega); omega⟩
          · exact h1 i hi
        · injection he with he; subst he; exact hcd
        · rcases h3 with h3 | h3
          · exact .inl (List.mem_cons_of_mem _ h3)
          · exact .inr h3
theorem pick_mem (u : Nat → Nat) : ∀ (L : List Nat) (b : Option Nat) (c : Nat), L.foldl (pickI u) b = some c → c ∈ L ∨ b = some c
  | [], _, _, h => .inr h
  | x :: L, b, c, h => by
    rw [List.foldl_cons] at h
    rcases pick_mem u L _ c h with h1 | h1
    · exact .inl (List.mem_cons_of_mem _ h1)
    · cases b with
      | none => injection h1 with h1; subst h1; exact .inl List.mem_cons_self
      | some d =>
        unfold pickI at h1
        simp only at h1
        split at h1
        · injection h1 with h1; subst h1; exact .inl List.mem_cons_self
        · exact .inr h1
theorem pickL_mem {u : Nat → Nat} {L : List Nat} {c : Nat} (h : pickL u L = some c) : c ∈ L := by
  rcases pick_mem u L none c h with h | h
  · exact h
  · cases h
theorem pick_none (u : Nat → Nat) : ∀ (L : List Nat) (b : Option Nat), L.foldl (pickI u) b = none → L = [] ∧ b = none
  | [], _, h => ⟨rfl, h⟩
  | x :: L, b, h => by
    rw [List.foldl_cons] at h
    have := (pick_none u L _ h).2
    cases b with
    | none => cases this
    | some d => unfold pickI at this; simp only at this; split at this <;> cases this
theorem Po.best_some {p : Po} {c : Nat} (h : p.best = some c) : c < p.n ∧ p.g c = false ∧ ∀ i, i < p.n → p.g i = false → p.u c ≤ p.u i ∧ (p.u i = p.u c → c ≤ i) := by
  obtain ⟨h1, _, h3⟩ := pick_least p.u (p.idx false) none c (p.idx_lt false) (fun d hd => by cases hd) h
  rcases h3 with h3 | h3
  · obtain ⟨h4, h5⟩ := Po.mem_idx.1 h3
    exact ⟨h4, h5, fun i h6 h7 => h1 i (Po.mem_idx.2 ⟨h6, h7⟩)⟩
  · cases h3
theorem Po.best_none {p : Po} (h : p.best = none) : p.left = 0 := by
  have := (pick_none p.u (p.idx false) none h).1
  unfold Po.left
  rw [this]
  rfl
theorem Po.best_of_left {p : Po} (h : p.left = 0) : p.best = none := by
  have : p.idx false = [] := List.length_eq_zero_iff.1 h
  unfold Po.best
  rw [this]; rfl
theorem pickL_snoc (u : Nat → Nat) (L : List Nat) (i : Nat) : pickL u (L ++ [i]) = pickI u (pickL u L) i := by unfold pickL; rw [List.foldl_append]; rfl
theorem Po.counts (p : Po) : (p.idx false).length + (p.idx true).length = p.n := by
  have key : ∀ L : List Nat, (L.filter fun i => p.g i == false).length + (L.filter fun i => p.g i == true).length = L.length := by
    intro L
    induction L with
    | nil => rfl
    | cons x L ih =>
      simp only [List.filter_cons, List.length_cons]
      cases p.g x
      · simp only [beq_self_eq_true, if_true, List.length_cons, show (false == true) = false from rfl, Bool.false_eq_true, if_false]; omega
      · simp only [beq_self_eq_true, if_true, List.length_cons, show (true == false) = false from rfl, Bool.false_eq_true, if_false]; omega
  have := key (List.range p.n)
  rwa [List.length_range] at this
theorem Po.at_some {p : Po} {a t : Int} {c : Nat} (h : p.at a t = some c) : a = ((c + 1 : Nat) : Int) ∧ t = (p.u c : Int) ∧ c < p.n ∧ p.g c = true := by
  unfold Po.at at h
  split at h
  · rename_i hc
    obtain ⟨h1, h2, h3, h4⟩ := hc
    injection h with h
    subst h
    exact ⟨by omega, h4.symm, by omega, h3⟩
  · cases h
theorem Po.at_none {p : Po} {a t : Int} (h : p.at a t = none) : ∀ x, x ∈ p.ls true → ¬ ((x.1 : Int) = a ∧ (x.2 : Int) = t) := by
  rintro x hx ⟨e1, e2⟩
  obtain ⟨i, h1, h2, rfl⟩ := Po.mem_ls.1 hx
  unfold Po.at at h
  split at h
  · cases h
  · rename_i hc
    have : a.toNat - 1 = i := by simp at e1; omega
    exact hc ⟨by simp at e1; omega, by simp at e1; omega, by rw [this, h2], by rw [this]; exact e2⟩
theorem Po.at_of {p : Po} {c : Nat} (hc : c < p.n) (hg : p.g c = true) : p.at ((c + 1 : Nat) : Int) (p.u c : Int) = some c := by
  unfold Po.at
  have e : (((c + 1 : Nat) : Int)).toNat - 1 = c := by omega
  rw [e, if_pos ⟨by omega, by omega, hg, rfl⟩]
/-- no number was given more than K times -/
def Po.top (p : Po) (K : Nat) : Prop := ∀ i, i < p.n → p.u i ≤ K
theorem Po.top_take {p : Po} {K : Nat} (h : p.top K) (c : Nat) : (p.take c).top (K + 1) := by
  intro i hi
  show updP p.u c (p.u c + 1) i ≤ K + 1
  by_cases e : i = c
  · subst e; rw [updP_same]; have := h i hi; omega
  · rw [updP_other e]; have := h i hi; omega
theorem Po.top_back {p : Po} {K : Nat} (h : p.top K) (c : Nat) : (p.back c).top (K + 1) := fun i hi => Nat.le_succ_of_le (h i hi)
theorem Po.top_succ {p : Po} {K : Nat} (h : p.top K) : p.top (K + 1) := fun i hi => Nat.le_succ_of_le (h i hi)
theorem top_po0 (n : Nat) : (po0 n).top 0 := fun _ _ => Nat.le_refl _
theorem po0_idx (n : Nat) : (po0 n).idx false = List.range n := List.filter_eq_self.2 fun _ _ => rfl
theorem po0_left (n : Nat) : (po0 n).left = n := by
  unfold Po.left
  rw [po0_idx, List.length_range]
theorem Po.take_left {p : Po} {c : Nat} (hc : c < p.n) (hg : p.g c = false) : (p.take c).left + 1 = p.left := by
  have h1 := (p.take_no hc hg).length_eq
  have hm : (c + 1, p.u c) ∈ p.ls false := Po.mem_ls.2 ⟨c, hc, hg, rfl⟩
  rw [List.length_erase_of_mem hm, Po.ls_len, Po.ls_len] at h1
  have : 0 < (p.idx false).length := List.length_pos_of_mem (Po.mem_idx.2 ⟨hc, hg⟩)
  unfold Po.left
  omega
theorem Po.back_left {p : Po} {c : Nat} (hc : c < p.n) (hg : p.g c = true) : (p.back c).left = p.left + 1 := by
  have h1 := (p.back_no hc hg).length_eq
  rw [List.length_append, Po.ls_len, Po.ls_len] at h1
  unfold Po.left
  simp at h1
  omega
end Go.Proofs.Ytmalfdbjbgifeaa

/-
  Maps of numbers by numbers, as a plain list of pairs; kept, drawn back to their size.
-/
namespace Go.Proofs.Ytmalfdbjbgifeaa
open Go.ChangeShapes Go.WideShapes Go.ChangeAt Go.RowKit Go.Maps

/-- a frame as a key of the map -/
def kf (f : Nat) : Lit := .int .i64 f
theorem kf_inj {f g : Nat} (h : kf f = kf g) : f = g := by unfold kf at h; injection h with _ h; omega
theorem isKey (f : Nat) : WideAt.IsKeyLit (kf f) := trivial
theorem kf_same (f g : Nat) : (kf f).sameKey (kf g) = decide (f = g) := by
  by_cases h : f = g
  · subst h; rw [decide_eq_true rfl]; exact WideAt.sameKey_self trivial
  · rw [decide_eq_false h]; exact sameKey_ne fun e => h (kf_inj e)
/-- the map holds just the given blocks: by the frame the order -/
structure MapOf (D : DataW Unit) (g : List (Nat × Nat)) : Prop where
  get : ∀ x, x ∈ g → ∀ z, D.atKey (kf x.1) z = .lit (.int .i64 (x.2 : Int))
  has : ∀ kl, Maps.has D kl = true → ∃ x, x ∈ g ∧ kl = kf x.1
  sz : Maps.size D = g.length
theorem MapOf.mem {D : DataW Unit} {g : List (Nat × Nat)} (h : MapOf D g) {x : Nat × Nat} (hx : x ∈ g) : Maps.has D (kf x.1) = true := has_true_of_atKey (h.get x hx)
theorem MapOf.no {D : DataW Unit} {g : List (Nat × Nat)} (h : MapOf D g) {kl : Lit} (hx : ∀ x, x ∈ g → kl ≠ kf x.1) : Maps.has D kl = false := by
  cases hb : Maps.has D kl
  · rfl
  · obtain ⟨x, hx', e⟩ := h.has kl hb
    exact absurd e (hx x hx')
theorem mapOf_nil : MapOf (.map []) [] := ⟨fun x hx => absurd hx (List.not_mem_nil), fun kl h => by exact absurd h (by simp [has_eq]), rfl⟩
theorem MapOf.put {D : DataW Unit} {g : List (Nat × Nat)} (h : MapOf D g) (hD : Tidy D) (f o : Nat) (hf : ∀ x, x ∈ g → x.1 ≠ f) : MapOf (D.put (kf f) (.lit (.int .i64 (o : Int)))) (g ++ [(f, o)]) := by
  have hno : Maps.has D (kf f) = false := h.no fun x hx e => hf x hx (kf_inj e).symm
  refine ⟨fun x hx z => ?_, fun kl hk => ?_, ?_⟩
  · rcases List.mem_append.1 hx with hx | hx
    · rw [atKey_put_other fun e => hf x hx (kf_inj e)]; exact h.get x hx z
    · simp at hx; subst hx; exact atKey_put_same hD.isMap (isKey f) _ _
  · by_cases e : kl = kf f
    · exact ⟨(f, o), by simp, e⟩
    · rw [has_put_other e] at hk
      obtain ⟨x, hx, e2⟩ := h.has kl hk
      exact ⟨x, by simp [hx], e2⟩
  · rw [size_put hD, hno, h.sz]; simp
theorem MapOf.del {D : DataW Unit} {g : List (Nat × Nat)} (h : MapOf D g) (hD : Tidy D) {x : Nat × Nat} (hx : x ∈ g) (hn : g.Nodup) (hk : ∀ y, y ∈ g → y.1 = x.1 → y = x) : MapOf (D.del (kf x.1)) (g.erase x) := by
  refine ⟨fun y hy z => ?_, fun kl hkl => ?_, ?_⟩
  · obtain ⟨h1, h2⟩ := hn.mem_erase_iff.1 hy
    rw [atKey_del_other fun e => h1 (hk y h2 (kf_inj e))]; exact h.get y h2 z
  · by_cases e : kl = kf x.1
    · subst e; rw [has_del_same] at hkl; cases hkl
    · rw [has_del_other e] at hkl
      obtain ⟨y, hy, e2⟩ := h.has kl hkl
      exact ⟨y, hn.mem_erase_iff.2 ⟨fun e3 => e (by rw [e2, e3]), hy⟩, e2⟩
  · have := size_del (k := kf x.1) hD
    rw [h.mem hx, h.sz] at this
    rw [List.length_erase_of_mem hx]
    simp at this
    omega
theorem keyLaw : Keyed Try.prog 3 := int_keyed Try.underlying3
theorem map_kept {S : Nat → Prop} {w w' : World} {k : TypeId} {R : Value → Option (DataW Unit × List MemPlace)} {b n : Nat} {D : DataW Unit} (h : w.ownsMap Try.prog k R b n D) (u : Upd S w w') (hb : ¬ S b) : w'.ownsMap Try.prog k R b n D := by
  obtain ⟨es, clock, hx, F, hs, hD⟩ := h
  exact ⟨es, clock, u.at hx hb, F, hs, hD⟩
theorem map_tight {w : World} {k : TypeId} {R : Value → Option (DataW Unit × List MemPlace)} {b n : Nat} {D : DataW Unit} (h : w.ownsMap Try.prog k R b n D) (m : Nat) (hm : Maps.size D ≤ m) : w.ownsMap Try.prog k R b m D := by
  obtain ⟨es, clock, hx, F, hs, rfl⟩ := h
  refine ⟨es, clock, hx, F, ?_, rfl⟩
  rw [size_eq, length_sorted, List.length_map, Array.length_toList] at hm
  exact hm
theorem upd_grown {a c : World} {j : Nat} (h : a.grownBy c (some j)) : Upd (· = j) a c := ⟨h.os, h.tape, h.output, h.size, fun k hk hs => h.block k hk fun e => hs (by injection e)⟩
theorem upd_grown0 {S : Nat → Prop} {a c : World} (h : a.grownBy c none) : Upd S a c := ⟨h.os, h.tape, h.output, h.size, fun k hk _ => h.block k hk (by simp)⟩

end Go.Proofs.Ytmalfdbjbgifeaa

/-
  Rows of integers: their cells, words laid over them, arrays of integers compared.
-/
namespace Go.Proofs.Ytmalfdbjbgifeaa
open Go.RowKit

/-- the cells of numbers -/
def ints (k : IntKind) (l : List Int) : List Value := l.map (Value.int k)
theorem ints_length (k : IntKind) (l : List Int) : (ints k l).length = l.length := by simp [ints]
theorem ints_getElem? (k : IntKind) (l : List Int) (i : Nat) (h : i < l.length) : (ints k l)[i]? = some (.int k (l.getD i 0)) := by
  simp [ints, List.getElem?_eq_getElem h]
theorem ints_one (k : IntKind) (l : List Int) : (ints k l).toArray.all (·.oneCell') = true := all_oneCell_toArray fun v hv => by
  obtain ⟨z, _, rfl⟩ := List.mem_map.1 hv; rfl
theorem splice_ints (k : IntKind) (ws : List Int) (o : Nat) (vs : List Int) : splice (ints k ws) o (ints k vs) = ints k (splice ws o vs) := by
  simp [splice, ints, List.map_append, List.map_take, List.map_drop]
theorem splice_splice {α : Type} (L : List α) (o : Nat) (a b : List α) (h : o + a.length + b.length ≤ L.length) : splice (splice L o a) (o + a.length) b = splice L o (a ++ b) := by
  unfold splice
  have e1 : (L.take o ++ (a ++ L.drop (o + a.length))).take (o + a.length) = L.take o ++ a := by
    rw [← List.append_assoc, List.take_append_of_le_length (by simp; omega)]
    exact List.take_of_length_le (by simp; omega)
  have e2 : (L.take o ++ (a ++ L.drop (o + a.length))).drop (o + a.length + b.length) = L.drop (o + a.length + b.length) := by
    rw [← List.append_assoc, List.drop_append, List.drop_eq_nil_of_le (by simp; omega), List.nil_append, List.drop_drop]
    congr 1
    simp; omega
  rw [e1, e2]
  simp [Nat.add_assoc]
theorem heap_setCells_other (b : Nat) : ∀ (vs : List Value) (o : Nat) (w : World) (k : Nat), k ≠ b → (w.setCells b o vs).heap[k]? = w.heap[k]?
  | [], _, _, _, _ => rfl
  | v :: r, o, w, k, h => by
    rw [World.setCells, heap_setCells_other b r (o + 1) _ k h, Below.heap_setCell _ _ _ _ h]
theorem heap_setCell_same {w : World} {b : Nat} {C : List Value} {t : TypeId} (h : w.heap[b]? = some (.cells C.toArray t (0, 0))) (o : Nat) (v : Value) :
    (w.setCell ⟨b, o, none⟩ v).heap[b]? = some (.cells (C.set o v).toArray t (0, 0)) := by
  simp only [World.setCell, Array.getElem?_modify, if_true, h, Option.map_some]
  simp
theorem heap_setCells_same (b t : Nat) : ∀ (vs : List Value) (o : Nat) (w : World) (C : List Value), w.heap[b]? = some (.cells C.toArray t (0, 0)) → o + vs.length ≤ C.length →
    (w.setCells b o vs).heap[b]? = some (.cells (splice C o vs).toArray t (0, 0))
  | [], o, w, C, h, _ => by simpa [World.setCells, splice] using h
  | v :: r, o, w, C, h, hl => by
    rw [World.setCells, heap_setCells_same b t r (o + 1) _ _ (heap_setCell_same h o v) (by simp at hl ⊢; omega)]
    simp only [Option.some.injEq, Obj.cells.injEq, and_true, Array.mk.injEq]
    simp at hl
    unfold splice
    rw [List.take_set, List.drop_set, if_pos (by omega)]
    rw [List.take_add_one, List.getElem?_eq_getElem (by omega)]
    rw [List.set_append]
    simp
    rw [show min o C.length = o from by omega]
    simp
    omega
/-- a block that is known whole -/
theorem rangeAt_block {w : World} {b t : Nat} {k : IntKind} {l : List Int} (h : w.heap[b]? = some (.cells (ints k l).toArray t (0, 0))) : w.rangeAt b 0 (ints k l) := by
  have := World.rangeAt_of_block h 0 l.length
  have e : ((ints k l).toArray.extract 0 (0 + l.length)).toList = ints k l := by
    simp [List.extract, List.take_of_length_le, ints_length]
  rwa [e] at this
theorem frozen_block {w : World} {b t : Nat} {c : Array Value} (h : w.heap[b]? = some (.cells c t (0, 0))) (i : Nat) : w.frozen? ⟨b, i, none⟩ = false := by
  unfold World.frozen?
  rw [h]
  simp
theorem there_block {w : World} {b t : Nat} {k : IntKind} {l : List Int} (h : w.heap[b]? = some (.cells (ints k l).toArray t (0, 0))) (o n : Nat) (hn : o + n ≤ l.length) : w.there b o n := fun j hj =>
  ⟨by rw [cell_of_row w b _ _ _ _ h, List.getElem?_toArray, ints_getElem? _ _ _ (by omega)]; rfl, frozen_block h _⟩
theorem splice_all {α : Type} (l vs : List α) (h : vs.length = l.length) : splice l 0 vs = vs := by
  unfold splice
  rw [List.drop_eq_nil_of_le (by omega)]
  simp
theorem cell_block {w : World} {b t : Nat} {k : IntKind} {l : List Int} (h : w.heap[b]? = some (.cells (ints k l).toArray t (0, 0))) (i : Nat) (hi : i < l.length) : w.cell? ⟨b, i, none⟩ = some (.int k (l.getD i 0)) := by
  rw [cell_of_row w b _ _ _ _ h, List.getElem?_toArray, ints_getElem? _ _ _ hi]
/-! arrays of integers compared -/
theorem run_part_ints {P : Program} {w : World} {e : TypeId} {k : IntKind} (he : P.underlying e = some (.int k)) (l : List Int) (i : Nat) (h : i < l.length) :
    (part e (ints k l).toArray i).run P w = .ok (.int k (l.getD i 0)) w := by
  have hagg : (isAgg e).run P w = .ok false w := by
    unfold isAgg
    rw [Sem.run_bind, run_underlying he w]
    rfl
  unfold part
  rw [Sem.run_bind, hagg]
  simp only [Result.andThen_ok, Bool.false_eq_true, if_false, List.getElem?_toArray, ints_getElem? _ _ _ h]
  rfl
theorem run_eq_from {P : Program} {w : World} {e : TypeId} {k : IntKind} (d : Nat) (he : P.underlying e = some (.int k)) (l l' : List Int) :
    ∀ (m i : Nat), i + m ≤ l.length → i + m ≤ l'.length →
      (forIn (m := Sem) (List.range' i m) ((none, ()) : Option Bool × Unit) fun j _ => do
        if !(← Op.equalIn (d + 1) e (← part e (ints k l).toArray (j * 1)) (← part e (ints k l').toArray (j * 1))) then pure (.done (some false, ())) else pure (.yield (none, ()))).run P w
      = .ok (if (l.drop i).take m = (l'.drop i).take m then (none, ()) else (some false, ())) w
  | 0, i, _, _ => by simp
  | m + 1, i, h1, h2 => by
    have ih := run_eq_from (w := w) d he l l' m (i + 1) (by omega) (by omega)
    rw [List.range'_succ, List.forIn_cons]
    simp only [Nat.mul_one] at ih ⊢
    simp only [Sem.run_bind, run_part_ints he l i (by omega), run_part_ints he l' i (by omega), Result.andThen_ok, run_equalIn_int w d e k k _ _ he]
    rw [List.drop_eq_getElem_cons (by omega : i < l.length), List.drop_eq_getElem_cons (by omega : i < l'.length), List.take_succ_cons, List.take_succ_cons]
    by_cases hq : l[i] = l'[i]
    · simp only [List.getD_eq_getElem?_getD, List.getElem?_eq_getElem (by omega : i < l.length), List.getElem?_eq_getElem (by omega : i < l'.length), Option.getD_some, hq, beq_self_eq_true, Bool.not_true, Bool.false_eq_true, if_false, Sem.run_pure, Result.andThen_ok]
      rw [ih]
      simp
    · simp only [List.getD_eq_getElem?_getD, List.getElem?_eq_getElem (by omega : i < l.length), List.getElem?_eq_getElem (by omega : i < l'.length), Option.getD_some, beq_eq_false_iff_ne.2 hq, Bool.not_false, if_true, Sem.run_pure, Result.andThen_ok]
      rw [if_neg (by simp [hq])]
theorem run_equalIn_ints {P : Program} {w : World} {t e : TypeId} {k : IntKind} {n : Nat} (d : Nat) (ht : P.underlying t = some (.array n e)) (he : P.underlying e = some (.int k)) (hs : (P.info? e).map (·.size) = some 1)
    (l l' : List Int) (h : l.length = n) (h' : l'.length = n) :
    (Op.equalIn (d + 2) t (.agg (ints k l).toArray) (.agg (ints k l').toArray)).run P w = .ok (decide (l = l')) w := by
  have hz : (sizeOf e).run P w = .ok 1 w := by
    cases hq : P.info? e with
    | none => simp [hq] at hs
    | some i => simp [hq] at hs; simp [sizeOf, typeInfo, hq, hs]
  have hf := run_eq_from (w := w) d he l l' n 0 (by omega) (by omega)
  have e1 : l.take n = l := List.take_of_length_le (by omega)
  have e2 : l'.take n = l' := List.take_of_length_le (by omega)
  simp only [List.drop_zero, e1, e2] at hf
  rw [Op.equalIn, Sem.run_bind, run_underlying ht, Result.andThen_ok]
  simp only [Sem.run_bind, hz, Result.andThen_ok]
  simp only [Std.Legacy.Range.forIn_eq_forIn_range', Std.Legacy.Range.size, Nat.sub_zero, Nat.add_sub_cancel, Nat.div_one]
  rw [hf]
  by_cases hq : l = l'
  · simp [hq]
  · simp [hq]
/-- the same as the walk spells it -/
theorem run_equal_ints {P : Program} {t e : TypeId} {k : IntKind} {n : Nat} (ht : P.underlying t = some (.array n e)) (he : P.underlying e = some (.int k)) (hs : (P.info? e).map (·.size) = some 1)
    (l l' : List Int) (h : l.length = n) (h' : l'.length = n) (b : Bool) (hb : decide (l = l') = b) (w : World) :
    (Op.equalIn 10000 t (.agg (ints k l).toArray) (.agg (ints k l').toArray)).run P w = .ok b w := by
  subst hb
  exact run_equalIn_ints (w := w) 9998 ht he hs l l' h h'
/-- 'a[i]' of an array of integers by value -/
theorem run_index_ints {P : Program} {t e : TypeId} {k : IntKind} {n : Nat} (ht : P.underlying t = some (.array n e)) (he : P.underlying e = some (.int k)) (hs : (P.info? e).map (·.size) = some 1)
    (l : List Int) (h : l.length = n) (kk : IntKind) (i : Nat) (hi : i < n) (x : Int) (hx : l.getD i 0 = x) (w : World) :
    (Instr.index t (.agg (ints k l).toArray) (.int kk i)).run P w = .ok (.int k x) w := by
  subst hx
  have hz : (sizeOf e).run P w = .ok 1 w := by
    cases hq : P.info? e with
    | none => simp [hq] at hs
    | some i => simp [hq] at hs; simp [sizeOf, typeInfo, hq, hs]
  unfold Instr.index
  rw [Sem.run_bind, show (asIntOf (.int kk (i : Int))).run P w = .ok (kk, (i : Int)) w from rfl, Result.andThen_ok]
  simp only [Sem.run_bind, run_underlying ht, Result.andThen_ok]
  rw [if_pos (by omega)]
  simp only [Sem.run_bind, hz, Result.andThen_ok, Int.toNat_natCast, Nat.mul_one]
  exact run_part_ints he l i (by omega)
theorem run_eqGuard_agg {P : Program} {w : World} {t : TypeId} (hg : P.eqGuardType P.depth t = false) (op : BinOp) (x y : Operand) (a b : Array Value) :
    (eqGuard op t x y (.agg a) (.agg b)).run P w = .ok () w := by
  unfold eqGuard
  split <;> simp [Sem.run_bind, run_program, hg]
theorem run_eql_ints {P : Program} {w : World} {t e : TypeId} {k : IntKind} {n : Nat} (ht : P.underlying t = some (.array n e)) (he : P.underlying e = some (.int k)) (hs : (P.info? e).map (·.size) = some 1)
    (hg : P.eqGuardType P.depth t = false) (x y : Operand) (l l' : List Int) (h : l.length = n) (h' : l'.length = n) :
    (do eqGuard .eql t x y (.agg (ints k l).toArray) (.agg (ints k l').toArray); binOp .eql t (.agg (ints k l).toArray) (.agg (ints k l').toArray) : Sem Value).run P w = .ok (.bool (decide (l = l'))) w := by
  rw [Sem.run_bind, run_eqGuard_agg hg, Result.andThen_ok]
  show (do pure (.bool (← Op.equal t (.agg (ints k l).toArray) (.agg (ints k l').toArray))) : Sem Value).run P w = _
  unfold Op.equal
  rw [Sem.run_bind, show Op.maxDepth = 9998 + 2 from rfl, run_equalIn_ints _ ht he hs l l' h h']
  rfl
/-- '==' of two arrays of integers -/
theorem wpList_eql_ints {P : Program} {ops : Array Oper} {Q : Exit → Act → World → Prop} {a : Act} {w : World} {rest : List Oper} {o : Oper} (hw : Region.wanted o (yielded ops a.tmps) = true)
    (t t' : TypeId) (x y : Operand) (ho : o.op = .binOp .eql t x y t') (k : IntKind) (l l' : List Int) (X Y : Array Value) (hx : a.eval x = .agg X) (hy : a.eval y = .agg Y) (eX : X = (ints k l).toArray) (eY : Y = (ints k l').toArray) (n : Nat) (e : TypeId)
    (ht : P.underlying t = some (.array n e)) (he : P.underlying e = some (.int k)) (hs : (P.info? e).map (·.size) = some 1) (hg : P.eqGuardType P.depth t = false) (h1 : l.length = n) (h2 : l'.length = n)
    (b : Bool) (hb : decide (l = l') = b) (h : wpList P ops Q rest (a.put o.dst (.bool b)) w) : wpList P ops Q (o :: rest) a w := by
  subst hb eX eY
  refine BigFrame.wpList_want hw fun K hK => ?_
  have hr := run_eql_ints (P := P) (w := w) ht he hs hg x y l l' h1 h2
  unfold Oper.wp
  simp only [execOp, ho, hx, hy]
  rw [Sem.run_bind, hr]
  exact hK _ _ h
theorem run_neq_ints {P : Program} {w : World} {t e : TypeId} {k : IntKind} {n : Nat} (ht : P.underlying t = some (.array n e)) (he : P.underlying e = some (.int k)) (hs : (P.info? e).map (·.size) = some 1)
    (hg : P.eqGuardType P.depth t = false) (x y : Operand) (l l' : List Int) (h : l.length = n) (h' : l'.length = n) :
    (do eqGuard .neq t x y (.agg (ints k l).toArray) (.agg (ints k l').toArray); binOp .neq t (.agg (ints k l).toArray) (.agg (ints k l').toArray) : Sem Value).run P w = .ok (.bool (!decide (l = l'))) w := by
  rw [Sem.run_bind, run_eqGuard_agg hg, Result.andThen_ok]
  show (do pure (.bool (!(← Op.equal t (.agg (ints k l).toArray) (.agg (ints k l').toArray)))) : Sem Value).run P w = _
  unfold Op.equal
  rw [Sem.run_bind, show Op.maxDepth = 9998 + 2 from rfl, run_equalIn_ints _ ht he hs l l' h h']
  rfl
/-- '!=' of two arrays of integers -/
theorem wpList_neq_ints {P : Program} {ops : Array Oper} {Q : Exit → Act → World → Prop} {a : Act} {w : World} {rest : List Oper} {o : Oper} (hw : Region.wanted o (yielded ops a.tmps) = true)
    (t t' : TypeId) (x y : Operand) (ho : o.op = .binOp .neq t x y t') (k : IntKind) (l l' : List Int) (X Y : Array Value) (hx : a.eval x = .agg X) (hy : a.eval y = .agg Y) (eX : X = (ints k l).toArray) (eY : Y = (ints k l').toArray) (n : Nat) (e : TypeId)
    (ht : P.underlying t = some (.array n e)) (he : P.underlying e = some (.int k)) (hs : (P.info? e).map (·.size) = some 1) (hg : P.eqGuardType P.depth t = false) (h1 : l.length = n) (h2 : l'.length = n)
    (b : Bool) (hb : (!decide (l = l')) = b) (h : wpList P ops Q rest (a.put o.dst (.bool b)) w) : wpList P ops Q (o :: rest) a w := by
  subst hb eX eY
  refine BigFrame.wpList_want hw fun K hK => ?_
  have hr := run_neq_ints (P := P) (w := w) ht he hs hg x y l l' h1 h2
  unfold Oper.wp
  simp only [execOp, ho, hx, hy]
  rw [Sem.run_bind, hr]
  exact hK _ _ h
/-- '!=' of two arrays of integers, as a step of a region that draws -/
theorem step_neq_ints {P : Program} {ops : Array Oper} {o : Oper} {a : Act} {w : World} {K : Act → World → Prop} {Q : Exit → Act → World → Prop} {E : Prop} (hw : Region.wanted o (yielded ops a.tmps) = true)
    (t t' : TypeId) (x y : Operand) (ho : o.op = .binOp .neq t x y t') (k : IntKind) (l l' : List Int) (X Y : Array Value) (hx : a.eval x = .agg X) (hy : a.eval y = .agg Y) (eX : X = (ints k l).toArray) (eY : Y = (ints k l').toArray) (n : Nat) (e : TypeId)
    (ht : P.underlying t = some (.array n e)) (he : P.underlying e = some (.int k)) (hs : (P.info? e).map (·.size) = some 1) (hg : P.eqGuardType P.depth t = false) (h1 : l.length = n) (h2 : l'.length = n)
    (b : Bool) (hb : (!decide (l = l')) = b) (h : K (a.put o.dst (.bool b)) w) : if Region.wanted o (yielded ops a.tmps) = true then Oper.wp P o a w K Q else E := by
  subst hb eX eY
  rw [if_pos hw]
  have hr := run_neq_ints (P := P) (w := w) ht he hs hg x y l l' h1 h2
  unfold Oper.wp
  simp only [execOp, ho, hx, hy]
  rw [Sem.run_bind, hr]
  exact h
/-- a new block into which a row is laid at once -/
theorem alloc_store (w : World) (k : IntKind) (Z L : List Int) (t : TypeId) (h : L.length = Z.length) :
    ((w.alloc (.cells (ints k Z).toArray t)).setCells w.heap.size 0 (ints k L)).heap[w.heap.size]? = some (.cells (ints k L).toArray t (0, 0)) ∧
    Upd (fun _ => False) w ((w.alloc (.cells (ints k Z).toArray t)).setCells w.heap.size 0 (ints k L)) ∧ (w.alloc (.cells (ints k Z).toArray t)).there w.heap.size 0 L.length := by
  have h0 := heap_alloc_last w (.cells (ints k Z).toArray t)
  refine ⟨?_, Upd.setCells (by right; exact Nat.le_refl _) _ _ ((Upd.refl _ _).alloc _), there_block h0 0 L.length (by omega)⟩
  rw [heap_setCells_same _ _ (ints k L) 0 _ (ints k Z) h0 (by rw [ints_length, ints_length, h]; omega), splice_ints, splice_all _ _ h]
/-- 'copy' over a whole block of integers -/
theorem wpList_copy_ints {P : Program} {w : World} {ops : Array Oper} {rest : List Oper} {o : Oper} {a : Act} {Q : Exit → Act → World → Prop} (hgd : o.guard = none) (d s : Operand) (dT sT : TypeId)
    (ho : o.op = .call { callee := .builtin .copy, args := #[d, s], argTypes := #[dT, sT] }) (elem : TypeId) (hu : P.underlying dT = some (.slice elem)) (hsz : (P.info? elem).map (·.size) = some 1)
    (g dLen dCap b off sLen sCap : Nat) (hd : a.eval d = .slice (some ⟨g, 0, none⟩) dLen dCap) (hs : a.eval s = .slice (some ⟨b, off, none⟩) sLen sCap)
    (k : IntKind) (cur l : List Int) (t : TypeId) (hg : w.heap[g]? = some (.cells (ints k cur).toArray t (0, 0))) (hc : cur.length = dLen) (hl : l.length = dLen) (hsl : sLen = dLen)
    (hsrc : w.rangeAt b off (ints k l))
    (h : ∀ w', Hid (w'.heap[g]? = some (.cells (ints k l).toArray t (0, 0))) → Upd (· = g) w w' → wpList P ops Q rest (a.put o.dst (goInt dLen)) w') : wpList P ops Q (o :: rest) a w := by
  subst hsl
  refine wpList_copy_own hgd d s dT sT ho elem hu hsz g 0 _ dCap ⟨b, off, none⟩ _ sCap hd hs (ints k cur).toArray t hg (ints k l) (by rw [ints_length, hl]; simp) (fun j v hv => by rw [Addr.add_mid]; exact hsrc j v hv) (by simp [ints_length]; omega)
    (fun v hv => by obtain ⟨z, _, rfl⟩ := List.mem_map.1 hv; rfl) ?_
  rw [ints_length, hl]
  refine h _ (show _ = _ from ?_) ⟨rfl, rfl, rfl, by simp [World.setRow], fun i _ hi => setRow_other w g i _ hi⟩
  rw [setRow_heap w g _ _ t _ hg]
  simp [ints_length, hc, List.drop_eq_nil_of_le]
/-- a region that draws, of which all but a tail in one order only reads: the world behind the draw under a name -/
theorem wp_region_tail {P : Program} {id : Nat} {Q : Exit → Act → World → Prop} {a : Act} {w : World} {l : List Oper} (n : Nat) (hm : P.follows .mixedOrders = true) (hB : Region.lexTailB .any l.toArray n = true)
    (h : ∀ w2, w2 = w.drew → wpStill P l.toArray w2 (fun a' => wpList P l.toArray Q (l.drop n) a' w2) (l.take n) a) : (Code.region id l.toArray true).wp P Q a w :=
  wp_region_still_tail n hm hB (h _ rfl)
/-- a whole array loaded in a region that draws, ahead of its tail -/
theorem wpStill_load_sz {P : Program} {ops : Array Oper} {rest : List Oper} {op : Oper} {a : Act} {w : World} {Q : Act → Prop} (hw : Region.wanted op (yielded ops a.tmps) = true) (ty : TypeId) (x : Operand) (ho : op.op = .load ty x)
    (b o : Nat) (hx : a.eval x = .pointer (some ⟨b, o, none⟩)) (cs : List Value) (d : TypeDesc) (hc : w.rangeAt b o cs)
    (hu : P.underlying ty = some d) (hd : d.isRow = true) (k : Nat) (hk : cs.length = k) (hi : (P.info? ty).map (·.size) = some k)
    (h : wpStill P ops w Q rest (a.put op.dst (.agg cs.toArray))) : wpStill P ops w Q (op :: rest) a := by
  subst hk
  refine wpStill_step fun K hK => ?_
  rw [if_pos hw]
  unfold Oper.still execOp
  simp only [ho, hx, Instr.loadAt, Instr.sureAddr, Sem.run_bind, Sem.run_pure, Result.andThen_ok, run_loadVar_mid w b o ty cs d hc hu hd hi]
  exact ⟨rfl, hK _ h⟩
/-- a whole array loaded, guarded or not -/
theorem wpList_load_sz {P : Program} {ops : Array Oper} {rest : List Oper} {op : Oper} {a : Act} {w : World} {Q : Exit → Act → World → Prop} (hw : Region.wanted op (yielded ops a.tmps) = true) (ty : TypeId) (x : Operand) (ho : op.op = .load ty x)
    (b o : Nat) (hx : a.eval x = .pointer (some ⟨b, o, none⟩)) (cs : List Value) (d : TypeDesc) (hc : w.rangeAt b o cs)
    (hu : P.underlying ty = some d) (hd : d.isRow = true) (k : Nat) (hk : cs.length = k) (hi : (P.info? ty).map (·.size) = some k)
    (h : wpList P ops Q rest (a.put op.dst (.agg cs.toArray)) w) : wpList P ops Q (op :: rest) a w := by
  subst hk
  exact BigFrame.wpList_want hw fun _ hK => wp_load_mid ty x ho b o hx cs d hc hu hd hi (hK _ _ h)
end Go.Proofs.Ytmalfdbjbgifeaa

/-
  append onto one's own slice of whatever slice, nil and empty ones too: in plain regions and in ones that draw.
-/
namespace Go.Proofs.Ytmalfdbjbgifeaa
open Go.RowKit

/-- a slice of m elements whose cells are news -/
def Src (w : World) (x : Value) (m size : Nat) (news : List Value) : Prop :=
  (x = .slice none 0 0 ∧ m = 0 ∧ news = []) ∨ ∃ b off c, x = .slice (some ⟨b, off, none⟩) m c ∧ news.length = m * size ∧ (∀ j u, news[j]? = some u → w.cell? ⟨b, off + j, none⟩ = some u)
theorem add_mid0 (b off j : Nat) : (⟨b, off, none⟩ : Addr).add j = ⟨b, off + j, none⟩ := by unfold Addr.add; split <;> simp_all
theorem Src.of_row {w : World} {base m size : Nat} {e : TypeId} {v : Value} {xs : List Value} (h : w.ownsRow base e size v m xs) : Src w v m size xs := by
  rcases h.2 with ⟨rfl, rfl⟩ | ⟨g, cap, cur, rfl, _⟩
  · exact .inl ⟨rfl, rfl, List.length_eq_zero_iff.1 (by have := h.1; omega)⟩
  · exact .inr ⟨g, 0, cap, rfl, h.1, fun j u hu => by have := h.cells (g := g) rfl j u hu; rwa [add_mid0] at this⟩
theorem Src.kept {w w' : World} {x : Value} {m size : Nat} {news : List Value} (h : Src w x m size news) (hg : ∀ b : Nat, x.ownBlock = some b → w'.heap[b]? = w.heap[b]?) : Src w' x m size news := by
  rcases h with h | ⟨b, off, c, rfl, h1, h2⟩
  · exact .inl h
  · refine .inr ⟨b, off, c, rfl, h1, fun j u hu => ?_⟩
    rw [World.cell?_of_block (w := w) (hg b rfl)]
    exact h2 j u hu
theorem run_append_src {P : Program} (w : World) (base : Nat) (t ty e : TypeId) (i : TypeInfo) (z : Value) (size bytes : Nat) (ht : P.underlying t = some (.slice e)) (hi : P.info? e = some i) (hz : i.zero = some z)
    (hsize : i.size = size) (hby : i.bytes = bytes) (hzs : z.cells.size = size) (hsz : 0 < size)
    (v : Value) (n : Nat) (xs : List Value) (hown : w.ownsRow base e size v n xs) (x : Value) (m : Nat) (news : List Value) (hx : Src w x m size news) (h1 : ∀ u ∈ news, u.oneCell' = true)
    (h63 : n + m ≤ maxLen) (hbytes : (n + m) * bytes ≤ 140737488355328) (hbase : base ≤ w.heap.size) :
    ∃ v' w', (Builtin.append_ #[t, t] ty #[v, x]).run P w = .ok v' w' ∧ w'.ownsRow base e size v' (n + m) (xs ++ news) ∧ w.grownBy w' v.ownBlock := by
  rcases hx with ⟨rfl, rfl, rfl⟩ | ⟨b, off, c, rfl, h2, h3⟩
  · exact ⟨v, w, run_append_owned_none w base t ty e i size ht hi v n xs hown, by simpa using hown, ⟨rfl, rfl, rfl, Nat.le_refl _, fun _ _ _ => rfl⟩⟩
  · obtain ⟨v', w', hr, r1, r2, _⟩ := run_append_own (P := P) w base t ty e i z size bytes ht hi hz hsize hby hzs hsz v n xs hown ⟨b, off, none⟩ m c news h2 (fun j u hu => by rw [add_mid0]; exact h3 j u hu) h1 h63 hbytes hbase
    exact ⟨v', w', hr, r1, r2⟩
theorem wp_append_src {P : Program} (w : World) {o : Oper} {a : Act} {K : Act → World → Prop} {Q : Exit → Act → World → Prop} (s x : Operand) (t : TypeId)
    (ho : o.op = .call { callee := .builtin .append, args := #[s, x], argTypes := #[t, t] })
    (base : Nat) (e : TypeId) (i : TypeInfo) (z : Value) (size bytes : Nat) (ht : P.underlying t = some (.slice e)) (hi : P.info? e = some i) (hz : i.zero = some z)
    (hsize : i.size = size) (hby : i.bytes = bytes) (hzs : z.cells.size = size) (hsz : 0 < size)
    (v : Value) (n : Nat) (xs : List Value) (hs : a.eval s = v) (hown : w.ownsRow base e size v n xs) (y : Value) (m : Nat) (news : List Value) (hy : a.eval x = y) (hx : Src w y m size news) (h1 : ∀ u ∈ news, u.oneCell' = true)
    (h63 : n + m ≤ maxLen) (hbytes : (n + m) * bytes ≤ 140737488355328) (hbase : base ≤ w.heap.size)
    (h : ∀ v' w', w'.ownsRow base e size v' (n + m) (xs ++ news) → w.grownBy w' v.ownBlock → K (a.put o.dst v') w') : o.wp P a w K Q := by
  obtain ⟨v', w', hr, h2, h3⟩ := run_append_src (P := P) w base t o.type e i z size bytes ht hi hz hsize hby hzs hsz v n xs hown y m news hx h1 h63 hbytes hbase
  unfold Oper.wp execOp
  simp only [ho, resolve, invoke, builtin, Sem.run_bind, Sem.run_pure, Result.andThen_ok, List.map_toArray, List.map_cons, List.map_nil, hs, hy, hr]
  exact h v' w' h2 h3
/-- in a plain region -/
theorem wpList_append_src {P : Program} (w : World) {ops : Array Oper} {rest : List Oper} {o : Oper} {a : Act} {Q : Exit → Act → World → Prop} (hgd : o.guard = none) (s x : Operand) (t : TypeId)
    (ho : o.op = .call { callee := .builtin .append, args := #[s, x], argTypes := #[t, t] })
    (base : Nat) (e : TypeId) (i : TypeInfo) (z : Value) (size bytes : Nat) (ht : P.underlying t = some (.slice e)) (hi : P.info? e = some i) (hz : i.zero = some z)
    (hsize : i.size = size) (hby : i.bytes = bytes) (hzs : z.cells.size = size) (hsz : 0 < size)
    (v : Value) (n : Nat) (xs : List Value) (hs : a.eval s = v) (hown : w.ownsRow base e size v n xs) (y : Value) (m : Nat) (news : List Value) (hy : a.eval x = y) (hx : Src w y m size news) (h1 : ∀ u ∈ news, u.oneCell' = true)
    (h63 : n + m ≤ maxLen) (hbytes : (n + m) * bytes ≤ 140737488355328) (hbase : base ≤ w.heap.size)
    (h : ∀ v' w', w'.ownsRow base e size v' (n + m) (xs ++ news) → w.grownBy w' v.ownBlock → wpList P ops Q rest (a.put o.dst v') w') : wpList P ops Q (o :: rest) a w :=
  wpList_plain hgd fun _ hK => wp_append_src w s x t ho base e i z size bytes ht hi hz hsize hby hzs hsz v n xs hs hown y m news hy hx h1 h63 hbytes hbase fun v' w' h2 h3 => hK _ _ (h v' w' h2 h3)
/-- at a step of a region that draws -/
theorem step_append_src {P : Program} (w : World) {ops : Array Oper} {o : Oper} {a : Act} {K : Act → World → Prop} {Q : Exit → Act → World → Prop} {E : Prop} (hgd : o.guard = none) (s x : Operand) (t : TypeId)
    (ho : o.op = .call { callee := .builtin .append, args := #[s, x], argTypes := #[t, t] })
    (base : Nat) (e : TypeId) (i : TypeInfo) (z : Value) (size bytes : Nat) (ht : P.underlying t = some (.slice e)) (hi : P.info? e = some i) (hz : i.zero = some z)
    (hsize : i.size = size) (hby : i.bytes = bytes) (hzs : z.cells.size = size) (hsz : 0 < size)
    (v : Value) (n : Nat) (xs : List Value) (hs : a.eval s = v) (hown : w.ownsRow base e size v n xs) (y : Value) (m : Nat) (news : List Value) (hy : a.eval x = y) (hx : Src w y m size news) (h1 : ∀ u ∈ news, u.oneCell' = true)
    (h63 : n + m ≤ maxLen) (hbytes : (n + m) * bytes ≤ 140737488355328) (hbase : base ≤ w.heap.size)
    (h : ∀ v' w', w'.ownsRow base e size v' (n + m) (xs ++ news) → w.grownBy w' v.ownBlock → K (a.put o.dst v') w') :
    if Region.wanted o (yielded ops a.tmps) = true then Oper.wp P o a w K Q else E := by
  have hw : Region.wanted o (yielded ops a.tmps) = true := by simp [Region.wanted, hgd]
  rw [if_pos hw]
  exact wp_append_src w s x t ho base e i z size bytes ht hi hz hsize hby hzs hsz v n xs hs hown y m news hy hx h1 h63 hbytes hbase h
end Go.Proofs.Ytmalfdbjbgifeaa

/-
  The library's maps.Keys, slices.Sorted and slices.Sort as they stand in this program: which of the shelf's numbers is which of the program's.
-/
namespace Go.Proofs.Ytmalfdbjbgifeaa
open Go.RowKit Go.Maps Go.Sort Go.Shelf

def keysA_ren : Go.Shelf.Ren := ⟨fun | 7 => 19 | 10 => 22 | n => n, fun | 23 => 50 | 26 => 3 | 3 => 3 | 28 => 61 | 0 => 0 | 27 => 60 | 33 => 64 | 4 => 4 | n => n, fun | n => n⟩
theorem keysA : Go.Proofs.SlLaysZI.n7 Try.prog keysA_ren where
  mixed := by kernel_rfl
  f7 := ⟨ "maps.Keys[map[int]int,int,int]", by decide, Try.func19.trans (congrArg some (by kernel_rfl))⟩
  f10 := ⟨ "maps.Keys[map[int]int,int,int]$1", by decide, Try.func22.trans (congrArg some (by kernel_rfl))⟩
  t0 := Try.underlying0
  a0 := Try.isAgg0
  z0 := Try.sizeOf0
  v0 := Try.zeroValue0
  t4 := Try.underlying4
  a4 := Try.isAgg4
  z4 := Try.sizeOf4
  v4 := Try.zeroValue4
  t23 := Try.underlying50
  a23 := Try.isAgg50
  z23 := Try.sizeOf50
  v23 := Try.zeroValue50
  t26 := Try.underlying3
  a26 := Try.isAgg3
  z26 := Try.sizeOf3
  v26 := Try.zeroValue3
  t27 := Try.underlying60
  a27 := Try.isAgg60
  z27 := Try.sizeOf60
  v27 := Try.zeroValue60
  t28 := Try.underlying61
  a28 := Try.isAgg61
  z28 := Try.sizeOf61
  v28 := Try.zeroValue61
  t33 := Try.underlying64
  a33 := Try.isAgg64
  z33 := Try.sizeOf64
  v33 := Try.zeroValue64
def sortedA_ren : Go.Shelf.Ren := ⟨fun | 6 => 18 | 8 => 20 | 9 => 21 | 11 => 23 | 13 => 25 | 12 => 24 | 23 => 35 | 24 => 36 | 14 => 26 | 15 => 27 | 16 => 28 | 17 => 29 | 18 => 30 | 19 => 31 | 20 => 32 | 21 => 33 | 22 => 34 | 25 => 37 | 26 => 38 | 27 => 39 | 28 => 40 | 29 => 41 | 30 => 42 | 31 => 43 | n => n, fun | 26 => 3 | 28 => 61 | 24 => 47 | 0 => 0 | 3 => 3 | 37 => 68 | 48 => 77 | 50 => 79 | 4 => 4 | 40 => 71 | 39 => 70 | 45 => 58 | 5 => 5 | 9 => 9 | 51 => 80 | 55 => 84 | 57 => 86 | 58 => 87 | 33 => 64 | n => n, fun | n => n⟩
theorem sortedA : Go.Proofs.SlLaysZI.n6 Try.prog sortedA_ren where
  mixed := by kernel_rfl
  f6 := ⟨ "slices.Sorted[int]", by decide, Try.func18.trans (congrArg some (by kernel_rfl))⟩
  f8 := ⟨ "slices.Collect[int]", by decide, Try.func20.trans (congrArg some (by kernel_rfl))⟩
  f11 := ⟨ "slices.AppendSeq[[]int,int]", by decide, Try.func23.trans (congrArg some (by kernel_rfl))⟩
  t0 := Try.underlying0
  a0 := Try.isAgg0
  z0 := Try.sizeOf0
  v0 := Try.zeroValue0
  t24 := Try.underlying47
  a24 := Try.isAgg47
  z24 := Try.sizeOf47
  v24 := Try.zeroValue47
  t26 := Try.underlying3
  a26 := Try.isAgg3
  z26 := Try.sizeOf3
  v26 := Try.zeroValue3
  t28 := Try.underlying61
  a28 := Try.isAgg61
  z28 := Try.sizeOf61
  v28 := Try.zeroValue61
  i26 := by kernel_rfl
def sortA_ren : Go.Shelf.Ren := ⟨fun | 5 => 21 | 8 => 25 | 7 => 24 | 19 => 35 | 20 => 36 | 10 => 26 | 11 => 27 | 12 => 28 | 13 => 29 | 14 => 30 | 15 => 31 | 16 => 32 | 17 => 33 | 18 => 34 | 30 => 37 | 31 => 38 | 32 => 39 | 33 => 40 | 34 => 41 | 35 => 42 | 40 => 43 | n => n, fun | 23 => 47 | 25 => 3 | 3 => 3 | 32 => 68 | 22 => 47 | 0 => 0 | 44 => 77 | 46 => 79 | 4 => 4 | 36 => 71 | 35 => 70 | 41 => 58 | 5 => 5 | 9 => 9 | 53 => 80 | 57 => 84 | 63 => 86 | 64 => 87 | n => n, fun | n => n⟩
theorem sortA : Go.Proofs.SlLaysM.n5 Try.prog sortA_ren where
  mixed := by kernel_rfl
  f5 := ⟨ "slices.Sort[[]int,int]", by decide, Try.func21.trans (congrArg some (by kernel_rfl))⟩
  f7 := ⟨ "slices.pdqsortOrdered[int]", by decide, Try.func24.trans (congrArg some (by kernel_rfl))⟩
  f8 := Try.func25.trans (congrArg some (by kernel_rfl))
  f10 := ⟨ "slices.insertionSortOrdered[int]", by decide, Try.func26.trans (congrArg some (by kernel_rfl))⟩
  f11 := ⟨ "slices.heapSortOrdered[int]", by decide, Try.func27.trans (congrArg some (by kernel_rfl))⟩
  f12 := ⟨ "slices.breakPatternsOrdered[int]", by decide, Try.func28.trans (congrArg some (by kernel_rfl))⟩
  f13 := ⟨ "slices.choosePivotOrdered[int]", by decide, Try.func29.trans (congrArg some (by kernel_rfl))⟩
  f14 := ⟨ "slices.reverseRangeOrdered[int]", by decide, Try.func30.trans (congrArg some (by kernel_rfl))⟩
  f15 := ⟨ "slices.partialInsertionSortOrdered[int]", by decide, Try.func31.trans (congrArg some (by kernel_rfl))⟩
  f16 := ⟨ "cmp.Less[int]", by decide, Try.func32.trans (congrArg some (by kernel_rfl))⟩
  f17 := ⟨ "slices.partitionEqualOrdered[int]", by decide, Try.func33.trans (congrArg some (by kernel_rfl))⟩
  f18 := ⟨ "slices.partitionOrdered[int]", by decide, Try.func34.trans (congrArg some (by kernel_rfl))⟩
  f19 := Try.func35.trans (congrArg some (by kernel_rfl))
  f20 := Try.func36.trans (congrArg some (by kernel_rfl))
  f30 := ⟨ "slices.siftDownOrdered[int]", by decide, Try.func37.trans (congrArg some (by kernel_rfl))⟩
  f31 := Try.func38.trans (congrArg some (by kernel_rfl))
  f32 := Try.func39.trans (congrArg some (by kernel_rfl))
  f33 := ⟨ "slices.medianAdjacentOrdered[int]", by decide, Try.func40.trans (congrArg some (by kernel_rfl))⟩
  f34 := ⟨ "slices.medianOrdered[int]", by decide, Try.func41.trans (congrArg some (by kernel_rfl))⟩
  f35 := ⟨ "cmp.isNaN[int]", by decide, Try.func42.trans (congrArg some (by kernel_rfl))⟩
  f40 := ⟨ "slices.order2Ordered[int]", by decide, Try.func43.trans (congrArg some (by kernel_rfl))⟩
  t0 := Try.underlying0
  a0 := Try.isAgg0
  z0 := Try.sizeOf0
  v0 := Try.zeroValue0
  t3 := Try.underlying3
  a3 := Try.isAgg3
  z3 := Try.sizeOf3
  v3 := Try.zeroValue3
  t4 := Try.underlying4
  a4 := Try.isAgg4
  z4 := Try.sizeOf4
  v4 := Try.zeroValue4
  t5 := Try.underlying5
  a5 := Try.isAgg5
  z5 := Try.sizeOf5
  v5 := Try.zeroValue5
  t9 := Try.underlying9
  a9 := Try.isAgg9
  z9 := Try.sizeOf9
  v9 := Try.zeroValue9
  t22 := Try.underlying47
  a22 := Try.isAgg47
  z22 := Try.sizeOf47
  v22 := Try.zeroValue47
  t23 := Try.underlying47
  a23 := Try.isAgg47
  z23 := Try.sizeOf47
  v23 := Try.zeroValue47
  t25 := Try.underlying3
  a25 := Try.isAgg3
  z25 := Try.sizeOf3
  v25 := Try.zeroValue3
  t32 := Try.underlying68
  a32 := Try.isAgg68
  z32 := Try.sizeOf68
  v32 := Try.zeroValue68
  t35 := Try.underlying70
  a35 := Try.isAgg70
  z35 := Try.sizeOf70
  v35 := Try.zeroValue70
  t36 := Try.underlying71
  a36 := Try.isAgg71
  z36 := Try.sizeOf71
  v36 := Try.zeroValue71
  t41 := Try.underlying58
  a41 := Try.isAgg58
  z41 := Try.sizeOf58
  v41 := Try.zeroValue58
  t44 := Try.underlying77
  a44 := Try.isAgg77
  z44 := Try.sizeOf77
  v44 := Try.zeroValue77
  t46 := Try.underlying79
  a46 := Try.isAgg79
  z46 := Try.sizeOf79
  v46 := Try.zeroValue79
  t53 := Try.underlying80
  a53 := Try.isAgg80
  z53 := Try.sizeOf80
  v53 := Try.zeroValue80
  t57 := Try.underlying84
  a57 := Try.isAgg84
  z57 := Try.sizeOf84
  v57 := Try.zeroValue84
  t63 := Try.underlying86
  a63 := Try.isAgg86
  z63 := Try.sizeOf86
  v63 := Try.zeroValue86
  t64 := Try.underlying87
  a64 := Try.isAgg87
  z64 := Try.sizeOf87
  v64 := Try.zeroValue87
/-- slices.Sort's two contracts here -/
theorem sortsA (m : Nat) : AnyZI.SortsIn Try.prog sortedA_ren Fence.wide m :=
  ⟨fun blk off cap ss W hH hblk hsz => callsIn_wide.2 (AnyM.slices_Sort_int sortA blk off cap ss W hH hblk hsz),
   fun p cap W => callsIn_wide.2 (AnyM.slices_Sort_int_none sortA p cap W)⟩
end Go.Proofs.Ytmalfdbjbgifeaa

/-
  The library's maps.Keys and slices.Sorted over a map of numbers by numbers.
-/
namespace Go.Proofs.Ytmalfdbjbgifeaa
open Go.ChangeShapes Go.WideShapes Go.ChangeAt Go.RowKit Go.Maps Go.Sort Go.Shelf

theorem keys_any (mb : Option Nat) (W : World) : Calls Try.prog 19 #[.map mb] W fun e w' => e = .returned (.func (.func 22) #[] #[.pointer (some ⟨W.heap.size, 0, none⟩)]) ∧ w' = W.alloc (.cells #[.map mb] 50) :=
  (callsIn_wide (n := 5)).1 (AnyZI.keys_in keysA Fence.wide 5 trivial rfl mb W)
theorem sorted_any (GB nn : Nat) (D : DataW Unit) (w : World) (hown : w.ownsMap Try.prog 3 (plainElem Try.prog 3) GB nn D) (hmax : Maps.size D ≤ 256) :
    Calls Try.prog 18 #[.func (.func 22) #[] #[.pointer (some ⟨w.heap.size, 0, none⟩)]] (w.alloc (.cells #[.map (some GB)] 50)) fun e w' => ∃ (v : Value) (ss : List Int), e = .returned v ∧ ss.Perm (intKeys D) ∧
      w'.ownsRow (w.alloc (.cells #[.map (some GB)] 50)).heap.size 3 1 v ss.length ((ss.mergeSort (fun x y => decide (x ≤ y))).map encZ) ∧ (v = .slice none 0 0 ↔ ss = []) ∧ Below (w.alloc (.cells #[.map (some GB)] 50)).heap.size (w.alloc (.cells #[.map (some GB)] 50)) w' := by
  have hbl := hown.lt
  have hseq : SeqGives Fence.wide 2 Try.prog 22 #[.pointer (some ⟨w.heap.size, 0, none⟩)] encZ (fun ss => ss.Perm (intKeys D)) (Maps.size D) (w.alloc (.cells #[.map (some GB)] 50)) :=
    AnyZI.keys_gives (ρ := keysA_ren) { keysA with } Fence.wide _ trivial rfl (by omega) w.heap.size GB nn D _ (by simp) (by simp) (by
      obtain ⟨es, clock, hb, Ft, hs, hD⟩ := hown
      exact ⟨es, clock, (Below.heap_alloc _ _ GB hbl).trans hb, Ft, hs, hD⟩)
  have cS := AnyZI.sorted_in sortedA Fence.wide 5 trivial trivial trivial trivial rfl (by omega) (sortsA _) (enters_of Try.func21 (by kernel_rfl) rfl) 22 #[.pointer (some ⟨w.heap.size, 0, none⟩)] trivial (enters_of Try.func22 (by kernel_rfl) rfl) _ _ (by unfold maxLen; omega) (by omega) _ hseq
  exact (callsIn_wide (n := 5)).1 cS
theorem zero_int (w : World) : (zeroValue 3).run Try.prog w = .ok (.int .i64 0) w := by kernel_rfl
theorem slice1 {w : World} {base : Nat} {e : TypeId} {v : Value} {k : Nat} {xs : List Value} (h : w.ownsRow base e 1 v k xs) : ∃ o cap, v = .slice o k cap ∧ ∀ (j : Nat) (u : Value), xs[j]? = some u → ∃ g, o = some ⟨g, 0, none⟩ ∧ w.cell? ⟨g, j, none⟩ = some u := by
  rcases h.2 with ⟨rfl, rfl⟩ | ⟨g, cap, cur, rfl, _⟩
  · refine ⟨none, 0, rfl, fun j u hu => ?_⟩
    have : xs = [] := List.length_eq_zero_iff.1 (by have := h.1; omega)
    rw [this] at hu; simp at hu
  · exact ⟨_, _, rfl, fun j u hu => ⟨g, rfl, by have := h.cells (g := g) rfl j u hu; rwa [add_mid0, Nat.zero_add] at this⟩⟩
theorem wf_frame {n : Nat} (h : n ≤ 256) : (Lit.int .i64 (n : Int)).wf = true := by
  show (decide (IntKind.i64.min ≤ (n : Int)) && decide ((n : Int) ≤ IntKind.i64.max)) = true
  rw [decide_eq_true (show IntKind.i64.min ≤ (n : Int) by show -9223372036854775808 ≤ (n : Int); omega), decide_eq_true (show (n : Int) ≤ IntKind.i64.max by show (n : Int) ≤ 9223372036854775807; omega)]
  rfl
end Go.Proofs.Ytmalfdbjbgifeaa

/-
  Rows of the call's own: kept, as a slice, grown by append.
-/
namespace Go.Proofs.Ytmalfdbjbgifeaa
open Go.RowKit

theorem rows_kept {S : Nat → Prop} {w w' : World} {base sz k : Nat} {e : TypeId} {v : Value} {xs : List Value} (h : w.ownsRow base e sz v k xs) (u : Upd S w w') (hg : ∀ j, v.ownBlock = some j → ¬ S j) : w'.ownsRow base e sz v k xs := by
  refine ⟨h.1, ?_⟩
  rcases h.2 with hn | ⟨g, cap, cur, rfl, hb, hgg, rest⟩
  · exact .inl hn
  · exact .inr ⟨g, cap, cur, rfl, hb, u.at hgg (hg g rfl), rest⟩
theorem rows_still {w w' : World} {base sz k : Nat} {e : TypeId} {v : Value} {xs : List Value} (h : w.ownsRow base e sz v k xs) (u : Upd (fun _ => False) w w') : w'.ownsRow base e sz v k xs := rows_kept h u fun _ _ => id
/-- blocks of before are not the row's -/
theorem rows_under {S : Nat → Prop} {w w' : World} {base sz k : Nat} {e : TypeId} {v : Value} {xs : List Value} (h : w.ownsRow base e sz v k xs) (u : Upd S w w') (hS : ∀ j, S j → j < base) : w'.ownsRow base e sz v k xs :=
  rows_kept h u fun j hj s => by have := (h.lt j hj).1; have := hS j s; omega
theorem rows_slice {w : World} {base sz : Nat} {e : TypeId} {v : Value} {k : Nat} {xs : List Value} (h : w.ownsRow base e sz v k xs) : ∃ o cap, v = .slice o k cap := by
  rcases h.2 with ⟨rfl, rfl⟩ | ⟨g, cap, cur, rfl, _⟩
  · exact ⟨none, 0, rfl⟩
  · exact ⟨_, _, rfl⟩
theorem rows_new (w : World) (base sz : Nat) (e : TypeId) : w.ownsRow base e sz (.slice none 0 0) 0 [] := ⟨by simp, .inl ⟨rfl, rfl⟩⟩
theorem rows_src (w : World) (c : List Value) (t : TypeId) : ∀ (j : Nat) (u : Value), c[j]? = some u → (w.alloc (.cells c.toArray t)).cell? ((⟨w.heap.size, 0, none⟩ : Addr).add j) = some u := by
  intro j u hj
  rw [add_mid0, cell_of_row _ _ _ _ _ _ (heap_alloc_last w (.cells c.toArray t))]
  simpa using hj
theorem rows_grown {w wr w4 : World} {N sz n : Nat} {e : TypeId} {v : Value} {xs : List Value} {o : Obj} {S : Nat → Prop} (hrow : wr.ownsRow N e sz v n xs) (hgr : (wr.alloc o).grownBy w4 v.ownBlock) (hU : Upd S w wr) (hN : w.heap.size ≤ N) : Upd S w w4 := by
  have hs := hU.size
  refine ⟨hgr.os.trans hU.os, hgr.tape.trans hU.tape, hgr.output.trans hU.output, by have := hgr.size; simp at this; omega, fun k hk hS => ?_⟩
  rw [hgr.block k (by simp; omega) (fun e => by have := (hrow.lt k e.symm).1; omega), Below.heap_alloc _ _ _ (by omega)]
  exact hU.block k hk hS
/-- the cells of a row of the call's own -/
theorem rows_at {w : World} {base sz k cap : Nat} {e : TypeId} {o : Option Addr} {xs : List Value} (h : w.ownsRow base e sz (.slice o k cap) k xs) (hk : 0 < k) : ∃ g, o = some ⟨g, 0, none⟩ ∧ ∀ (j : Nat) (u : Value), xs[j]? = some u → w.cell? ⟨g, j, none⟩ = some u := by
  rcases h.2 with ⟨e1, e2⟩ | ⟨g, cap', cur, e1, rest⟩
  · omega
  · simp only [Value.slice.injEq] at e1
    obtain ⟨rfl, _, rfl⟩ := e1
    refine ⟨g, rfl, fun j u hu => ?_⟩
    have := h.cells (g := g) rfl j u hu
    rwa [add_mid0, Nat.zero_add] at this
/-! guarded operations whose guard is decided, in a region that draws and only reads -/
theorem still_off {P : Program} {ops : Array Oper} {w : World} {Q : Act → Prop} {a : Act} {o : Oper} {rest : List Oper} (hw : Region.wanted o (yielded ops a.tmps) = false) (h : wpStill P ops w Q rest (a.put o.dst undef)) : wpStill P ops w Q (o :: rest) a :=
  wpStill_step fun K hK => by rw [hw]; exact hK _ h
theorem still_on {P : Program} {ops : Array Oper} {w : World} {Q : Act → Prop} {a : Act} {o : Oper} {rest : List Oper} (hw : Region.wanted o (yielded ops a.tmps) = true) (h : wpStill P ops w Q ({ o with guard := none } :: rest) a) : wpStill P ops w Q (o :: rest) a := by
  unfold wpStill at h ⊢
  rw [if_pos hw]
  exact h
end Go.Proofs.Ytmalfdbjbgifeaa

/-
  Package asid: where a pool lies; New, Left, Lives, next.
-/
namespace Go.Proofs.Ytmalfdbjbgifeaa
open Go.ChangeShapes Go.WideShapes Go.ChangeAt Go.RowKit Go.Maps Go.Sort Go.Shelf

theorem Upd.onto {S : Nat → Prop} {a c d : World} {j : Nat} (h : Upd S a c) (k : Upd (· = j) c d) (hj : a.heap.size ≤ j) : Upd S a d :=
  ⟨k.os.trans h.os, k.tape.trans h.tape, k.output.trans h.output, Nat.le_trans h.size k.size, fun i hi hs => (k.block i (Nat.lt_of_lt_of_le hi h.size) (by omega)).trans (h.block i hi hs)⟩
/-! tags -/
abbrev tagV (a t : Int) : Value := .agg #[.int .i64 a, .int .i64 t]
def TagAt (T : TypeId) (w : World) (b : Nat) (a t : Int) : Prop := w.heap[b]? = some (.cells #[.int .i64 a, .int .i64 t] T (0, 0))
theorem TagAt.c0 {T : TypeId} {w : World} {b : Nat} {a t : Int} (h : TagAt T w b a t) : w.cell? ⟨b, 0, none⟩ = some (.int .i64 a) := by rw [cell_of_row w b 0 _ _ _ h]; rfl
theorem TagAt.c1 {T : TypeId} {w : World} {b : Nat} {a t : Int} (h : TagAt T w b a t) : w.cell? ⟨b, 1, none⟩ = some (.int .i64 t) := by rw [cell_of_row w b 1 _ _ _ h]; rfl
theorem TagAt.range {T : TypeId} {w : World} {b : Nat} {a t : Int} (h : TagAt T w b a t) : w.rangeAt b 0 [.int .i64 a, .int .i64 t] := World.rangeAt_of_block h 0 2
theorem TagAt.there {T : TypeId} {w : World} {b : Nat} {a t : Int} (h : TagAt T w b a t) : w.there b 0 2 := fun j hj => by
  refine ⟨?_, frozen_block h _⟩
  match j, hj with
  | 0, _ => rw [h.range 0 _ rfl]; rfl
  | 1, _ => rw [h.range 1 _ rfl]; rfl
theorem TagAt.set {T : TypeId} {w : World} {b : Nat} {a t : Int} (h : TagAt T w b a t) (a' t' : Int) : TagAt T (w.setCells b 0 [.int .i64 a', .int .i64 t']) b a' t' := by
  unfold TagAt
  have := heap_setCells_same b _ [.int .i64 a', .int .i64 t'] 0 w [.int .i64 a, .int .i64 t] h (by simp)
  rw [this, splice_all _ _ (by simp)]
theorem TagAt.kept {S : Nat → Prop} {T : TypeId} {w w' : World} {b : Nat} {a t : Int} (h : TagAt T w b a t) (u : Upd S w w') (hs : ¬ S b) : TagAt T w' b a t := u.at h hs
theorem tag_sz (x y : Int) : (#[.int .i64 x, .int .i64 y] : Array Value).size = 2 := rfl
theorem tag_one (x y : Int) : (#[.int .i64 x, .int .i64 y] : Array Value).all (·.oneCell') = true := by simp [Value.oneCell']
theorem tag_ls (x y : Int) : (#[.int .i64 x, .int .i64 y] : Array Value).toList = [.int .i64 x, .int .i64 y] := rfl
theorem size_tag : (Try.prog.info? 33).map (·.size) = some 2 := by kernel_rfl
/-- a result that lies in a cell -/
theorem ret_tag {fn : Func} {p u : Tmp} (h : fn.results = #[.cell p 33, .tmp u]) (tmps : Array Value) (w : World) (b : Nat) (a t : Int) (hp : tmps.getD p undef = .pointer (some ⟨b, 0, none⟩)) (he : TagAt 33 w b a t) :
    (results fn tmps).run Try.prog w = .ok (.tuple #[tagV a t, tmps.getD u undef]) w := by
  rw [results_cell_tmp h, hp]
  have := run_loadVar_mid w b 0 33 [.int .i64 a, .int .i64 t] _ he.range Try.underlying33 rfl size_tag
  simp only [asAddr, Sem.run_pure, Result.andThen_ok]
  rw [this]
  rfl
/-! the pool -/
theorem MapOf.perm {D : DataW Unit} {g g' : List (Nat × Nat)} (h : MapOf D g) (hp : g.Perm g') : MapOf D g' :=
  ⟨fun x hx => h.get x (hp.mem_iff.2 hx), fun kl hk => by obtain ⟨x, hx, e⟩ := h.has kl hk; exact ⟨x, hp.mem_iff.1 hx, e⟩, by rw [h.sz, hp.length_eq]⟩
structure PoolAt (w : World) (A B1 B2 : Nat) (p : Po) : Prop where
  head : w.heap[A]? = some (.cells #[.map (some B1), .map (some B2)] 52 (0, 0))
  m1 : ∃ D : DataW Unit, w.ownsMap Try.prog 3 (plainElem Try.prog 3) B1 256 D ∧ MapOf D (p.ls false)
  m2 : ∃ D : DataW Unit, w.ownsMap Try.prog 3 (plainElem Try.prog 3) B2 256 D ∧ MapOf D (p.ls true)
  hi : p.n ≤ 8
  two : B1 ≠ B2
theorem PoolAt.c0 {w : World} {A B1 B2 : Nat} {p : Po} (h : PoolAt w A B1 B2 p) : w.cell? ⟨A, 0, none⟩ = some (.map (some B1)) := by rw [cell_of_row w A 0 _ _ _ h.head]; rfl
theorem PoolAt.c1 {w : World} {A B1 B2 : Nat} {p : Po} (h : PoolAt w A B1 B2 p) : w.cell? ⟨A, 1, none⟩ = some (.map (some B2)) := by rw [cell_of_row w A 1 _ _ _ h.head]; rfl
theorem PoolAt.lts {w : World} {A B1 B2 : Nat} {p : Po} (h : PoolAt w A B1 B2 p) : A < w.heap.size ∧ B1 < w.heap.size ∧ B2 < w.heap.size := by
  obtain ⟨D, h1, _⟩ := h.m1
  obtain ⟨D', h2, _⟩ := h.m2
  exact ⟨lt_of_heap h.head, h1.lt, h2.lt⟩
theorem PoolAt.ne1 {w : World} {A B1 B2 : Nat} {p : Po} (h : PoolAt w A B1 B2 p) : A ≠ B1 := by
  obtain ⟨D, ⟨es, c, hb, _⟩, _⟩ := h.m1
  intro e
  have := h.head
  rw [e, hb] at this
  cases this
theorem PoolAt.ne2 {w : World} {A B1 B2 : Nat} {p : Po} (h : PoolAt w A B1 B2 p) : A ≠ B2 := by
  obtain ⟨D, ⟨es, c, hb, _⟩, _⟩ := h.m2
  intro e
  have := h.head
  rw [e, hb] at this
  cases this
theorem PoolAt.kept {S : Nat → Prop} {w w' : World} {A B1 B2 : Nat} {p : Po} (h : PoolAt w A B1 B2 p) (u : Upd S w w') (h1 : ¬ S A) (h2 : ¬ S B1) (h3 : ¬ S B2) : PoolAt w' A B1 B2 p := by
  obtain ⟨D, h4, h5⟩ := h.m1
  obtain ⟨D', h6, h7⟩ := h.m2
  exact ⟨u.at h.head h1, ⟨D, map_kept h4 u h2, h5⟩, ⟨D', map_kept h6 u h3, h7⟩, h.hi, h.two⟩
theorem PoolAt.still {w w' : World} {A B1 B2 : Nat} {p : Po} (h : PoolAt w A B1 B2 p) (u : Upd (fun _ => False) w w') : PoolAt w' A B1 B2 p := h.kept u id id id
theorem Po.ls_len8 (p : Po) (β : Bool) (h : p.n ≤ 8) : (p.ls β).length ≤ 8 := by rw [Po.ls_len]; exact Nat.le_trans (p.idx_le β) h

/-- the keys of a map, sorted -/
theorem sorted_of {D : DataW Unit} {g : List (Nat × Nat)} (hM : MapOf D g) (F : List Int) (hr2 : F.Pairwise fun x y => x < y) (hF : ∀ k : Int, k ∈ F ↔ ∃ x, x ∈ g ∧ (x.1 : Int) = k)
    (hE : ∃ es, D = .map es ∧ es.Pairwise (fun p q => p.1 ≠ q.1) ∧ ∀ p ∈ es, WideAt.IsKeyLit p.1) {ss : List Int} (hp : ss.Perm (intKeys D)) : (ss.mergeSort fun x y => decide (x ≤ y)) = F := by
  obtain ⟨es, rfl, hpw, hkey⟩ := hE
  have hk : ∀ p ∈ es, ∃ x, p.1 = .int .i64 x := fun p hp => by
    have : Maps.has (.map es) p.1 = true := by
      rw [has_eq, List.any_eq_true]
      exact ⟨p, hp, WideAt.sameKey_self (hkey p hp)⟩
    obtain ⟨x, _, e⟩ := hM.has _ this
    exact ⟨x.1, e⟩
  have h1 : F.Perm (intKeys (.map es)) := by
    refine perm_intKeys hpw hk (hr2.imp fun {x y} hxy e => by omega) fun k => ?_
    rw [hF]
    constructor
    · rintro ⟨x, hx, rfl⟩; exact hM.mem hx
    · intro hk'
      obtain ⟨x, hx, e⟩ := hM.has _ hk'
      refine ⟨x, hx, ?_⟩
      unfold kf at e
      injection e with _ e
      exact e.symm
  have h2 := mergeSort_of_perm_i (hp.trans h1.symm)
  show ss.mergeSort leI = _
  rw [h2]
  exact List.mergeSort_of_pairwise (hr2.imp fun {x y} hxy => by simp only [leI, decide_eq_true_eq]; omega)
def idxF (L : List Nat) : List Int := L.map fun i => ((i + 1 : Nat) : Int)
theorem Po.sorted {p : Po} {D : DataW Unit} (hM : MapOf D (p.ls false)) (hE : ∃ es, D = .map es ∧ es.Pairwise (fun p q => p.1 ≠ q.1) ∧ ∀ p ∈ es, WideAt.IsKeyLit p.1) {ss : List Int} (hp : ss.Perm (intKeys D)) :
    (ss.mergeSort fun x y => decide (x ≤ y)) = idxF (p.idx false) := by
  refine sorted_of hM (idxF (p.idx false)) (List.pairwise_map.2 ((p.idx_lt false).imp fun {x y} hxy => by omega)) (fun k => ?_) hE hp
  unfold idxF
  rw [List.mem_map]
  constructor
  · rintro ⟨i, hi, rfl⟩; exact ⟨(i + 1, p.u i), Po.mem_ls.2 ⟨i, (Po.mem_idx.1 hi).1, (Po.mem_idx.1 hi).2, rfl⟩, rfl⟩
  · rintro ⟨x, hx, rfl⟩
    obtain ⟨i, h1, h2, rfl⟩ := Po.mem_ls.1 hx
    exact ⟨i, Po.mem_idx.2 ⟨h1, h2⟩, rfl⟩
def bestA : Option Nat → Int
  | none => 0
  | some c => ((c + 1 : Nat) : Int)
def bestT (u : Nat → Nat) : Option Nat → Int
  | none => 0
  | some c => ((u c + 1 : Nat) : Int)
theorem take_snocN (l : List Nat) (k : Nat) (h : k < l.length) : l.take (k + 1) = l.take k ++ [l.getD k 0] := by
  rw [List.take_add_one, List.getElem?_eq_getElem h]
  simp [List.getD_eq_getElem?_getD, List.getElem?_eq_getElem h]

theorem two_tags (w : World) (T : TypeId) : ∃ w2, Hid ((w.alloc (.cells #[.int .i64 0, .int .i64 0] T)).alloc (.cells #[.int .i64 0, .int .i64 0] T) = w2) ∧ TagAt T w2 w.heap.size 0 0 ∧ TagAt T w2 (w.heap.size + 1) 0 0 ∧ Upd (fun _ => False) w w2 ∧ Hid (w2.heap.size = w.heap.size + 2) := by
  refine ⟨_, Lib.hid rfl, ?_, ?_, ((Upd.refl _ _).alloc _).alloc _, Lib.hid (by simp)⟩
  · unfold TagAt
    rw [Below.heap_alloc _ _ _ (by simp)]
    exact heap_alloc_last w _
  · have := heap_alloc_last (w.alloc (.cells #[.int .i64 0, .int .i64 0] T)) (.cells #[.int .i64 0, .int .i64 0] T)
    rwa [World.size_alloc] at this
set_option maxRecDepth 100000 in
set_option maxHeartbeats 2000000 in
theorem anext_any (A B1 B2 : Nat) (p : Po) (K : Nat) (hK : K ≤ 1000) (ht : p.top K) (w : World) (h : PoolAt w A B1 B2 p) :
    Calls Try.prog 17 #[.pointer (some ⟨A, 0, none⟩)] w fun e w' => e = .returned (.tuple #[tagV (bestA p.best) (bestT p.u p.best), .bool p.best.isSome]) ∧ Upd (fun _ => False) w w' := by
  obtain ⟨D, hD, hM⟩ := h.m1
  have hsz : Maps.size D ≤ 256 := by rw [hM.sz]; have := p.ls_len8 false h.hi; omega
  have hE := hD.entries keyLaw
  have hS := Lib.hid (fun ss hp => Po.sorted (ss := ss) hM hE hp)
  have HM := Lib.hid (fun i (hi : i ∈ p.idx false) z => hM.get (i + 1, p.u i) (Po.mem_ls.2 ⟨i, (Po.mem_idx.1 hi).1, (Po.mem_idx.1 hi).2, rfl⟩) z)
  have hlen : (p.idx false).length ≤ 8 := Nat.le_trans (p.idx_le false) h.hi
  have htop := Lib.hid (fun i (hi : i ∈ p.idx false) => show p.u i ≤ 1000 from Nat.le_trans (ht i (Po.mem_idx.1 hi).1) hK)
  have hlt8 := Lib.hid (fun i (hi : i ∈ p.idx false) => show i < 8 from Nat.lt_of_lt_of_le (Po.mem_idx.1 hi).1 h.hi)
  have hbest := Lib.hid (show p.best = pickL p.u (p.idx false) from rfl)
  have hl := h.lts
  clear hM ht hE hK
  obtain ⟨w2, hw2, Zr, Z1, Z2, l2⟩ := two_tags w 33
  generalize p.idx false = L at hS HM hlen htop hlt8 hbest
  generalize p.best = pb at hbest ⊢
  go_enter Try.func17, Try.ntmps17
  go_upto_region 2 with fail
  rw [hw2.out]
  have h2 := h.still Z2
  have hD2 := map_kept hD Z2 id
  have hc0 := h2.c0
  clear hw2 hD
  generalize hR : w.heap.size = R at Zr Z1 hl l2 ⊢
  have HR := Lib.hid hR
  clear hR
  go_wp2_with fail
  refine (keys_any _ _).mono ?_
  rintro e w3 ⟨rfl, rfl⟩
  go_wp2_with fail
  refine (sorted_any B1 256 D w2 hD2 hsz).mono ?_
  rintro e w4 ⟨v, ss, rfl, hp, hrow, _, hB⟩
  have hts := hS.out ss hp
  have hln : ss.length = L.length := by
    have := congrArg List.length hts
    rwa [List.length_mergeSort, idxF, List.length_map] at this
  rw [hts, hln] at hrow
  obtain ⟨o, cap, rfl, hcell⟩ := slice1 hrow
  have hU4 : Upd (fun _ => False) w2 w4 := ((Upd.refl (fun _ => False) w2).alloc _).trans (Upd.of_below hB)
  have l4 := hU4.size
  have Zr4 := Zr.kept hU4 id
  have Z14 := Z1.kept hU4 id
  have h4 := h2.still hU4
  have hD4 := map_kept hD2 hU4 id
  have V4 := Z2.trans hU4
  have hcell4 : ∀ j, j < L.length → ∃ g, R + 2 ≤ g ∧ o = some ⟨g, 0, none⟩ ∧ w4.cell? ⟨g, j, none⟩ = some (.int .i64 ((L.getD j 0 + 1 : Nat) : Int)) := by
    intro j hj
    obtain ⟨g, hg1, hg2⟩ := hcell j (.int .i64 ((L.getD j 0 + 1 : Nat) : Int)) (by simp [idxF, List.getD_eq_getElem?_getD, List.getElem?_eq_getElem hj, encZ])
    refine ⟨g, ?_, hg1, hg2⟩
    subst hg1
    have := (hrow.lt g rfl).1
    have l2 := l2.out
    simp at this
    omega
  clear hrow hp hts hln hS hB Zr Z1 hD2 h2 hcell hc0 Z2 hU4
  have Hc := Lib.hid hcell4
  clear hcell4
  go_wp2
  go_loopw [5, 17] (fun s5 t wr => ∃ j : Nat, j ≤ L.length ∧ t = .int .i64 j ∧ s5 = .bool (pickL p.u (L.take j)).isSome ∧ TagAt 33 wr (R + 1) (bestA (pickL p.u (L.take j))) (bestT p.u (pickL p.u (L.take j))) ∧ Upd (· = R + 1) w4 wr) (fun _ t _ => L.length - (RowKit.intOf t).toNat)
  case atStart => exact ⟨0, by omega, rfl, rfl, Z14, Upd.refl _ _⟩
  case round =>
    obtain ⟨j, hj, rfl, rfl, hT, hU⟩ := hrel
    by_cases hlt : j < L.length
    · obtain ⟨g, hg, rfl, hcj⟩ := Hc.out j hlt
      have hcr := hU.cell hcj (by show ¬ g = R + 1; omega)
      have hm : L.getD j 0 ∈ L := by rw [List.getD_eq_getElem?_getD, List.getElem?_eq_getElem hlt]; exact List.getElem_mem _
      have hsn := Lib.hid (show pickL p.u (L.take (j + 1)) = pickI p.u (pickL p.u (L.take j)) (L.getD j 0) from by rw [take_snocN L j hlt, pickL_snoc])
      have hx1 := htop.out _ hm
      have hx8 := hlt8.out _ hm
      have hget := Lib.hid (HM.out _ hm (.lit (.int .i64 0)))
      have hcm := Lib.hid (fun c (hc : pickL p.u (L.take j) = some c) => htop.out c (List.mem_of_mem_take (pickL_mem hc)))
      generalize L.getD j 0 = x at hcr hm hsn hx1 hx8 hget
      obtain ⟨X, hX⟩ : ∃ X, x + 1 = X := ⟨_, rfl⟩
      rw [hX] at hcr hget
      have HX := Lib.hid hX
      have hwf := Lib.hid (wf_frame (n := X) (by omega))
      clear hX
      have hDr := map_kept hD4 hU (by show ¬ B1 = R + 1; omega)
      have hAr := (h4.kept hU (by show ¬ A = R + 1; omega) (by show ¬ B1 = R + 1; omega) (by show ¬ B2 = R + 1; omega)).c0
      have hz := zero_int
      have n1 : ¬ (R + 1) = R := by omega
      have Hx := hx1
      obtain ⟨ux, hux⟩ : ∃ ux, p.u x = ux := ⟨_, rfl⟩
      have hth := Lib.hid hT.there
      have hset := Lib.hid (hT.set (X : Int) ((ux : Int) + 1))
      have hUs := Lib.hid (Upd.setCells (S := (· = R + 1)) (.inl rfl) [.int .i64 (X : Int), .int .i64 ((ux : Int) + 1)] 0 hU)
      have hbx := Lib.hid (show bestA (some x) = (X : Int) ∧ bestT p.u (some x) = (ux : Int) + 1 from ⟨by rw [← HX.out]; rfl, by rw [← hux]; rfl⟩)
      rw [hux] at hget hx1 Hx
      cases hpk : pickL p.u (L.take j) with
      | none =>
        rw [hpk] at hT hsn
        have hv := Lib.hid (show pickL p.u (L.take (j + 1)) = some x from hsn.out)
        have T0 := hT.c0
        have T1 := hT.c1
        clear hsn hcm hpk hux
        go_wp2_with (first
          | (at_lookup; refine wpList_lookup_own_int _ rfl _ _ 50 rfl 3 3 .i64 keyLaw Try.underlying50 Try.underlying3 (hz _) B1 256 D rfl hDr _ (kf X) rfl (keyOf_int_mk Try.underlying3 hwf.out) ?_; intro c hat hwc; obtain rfl : (ux : Int) = c := by { rw [hget.out] at hat; injection hat with hat; injection hat })
          | (with_reducible refine wpList_store_sz rfl 33 (.tmp 4) (.tmp 38) rfl (R + 1) 0 #[.int .i64 (X : Int), .int .i64 ((ux : Int) + 1)] rfl rfl 2 (tag_sz _ _) hth.out size_tag (tag_one _ _) [.int .i64 (X : Int), .int .i64 ((ux : Int) + 1)] (tag_ls _ _) ?_))
        exact ⟨⟨j + 1, by omega, by go_num, by rw [hv.out]; rfl, by rw [hv.out, hbx.out.1, hbx.out.2]; exact hset.out, hUs.out⟩, by simp [RowKit.intOf]; omega⟩
      | some c =>
        rw [hpk] at hT hsn
        have hc1 := hcm.out c hpk
        obtain ⟨uc, huc⟩ : ∃ uc, p.u c = uc := ⟨_, rfl⟩
        have T1 := hT.c1
        rw [show bestT p.u (some c) = (uc : Int) + 1 from by rw [← huc]; rfl] at T1
        rw [huc] at hc1
        by_cases hlu : ux < uc
        · have hv := Lib.hid (show pickL p.u (L.take (j + 1)) = some x from by rw [hsn.out]; show (if p.u x < p.u c then some x else some c) = _; rw [hux, huc, if_pos hlu])
          have hd : decide ((ux : Int) + 1 < (uc : Int) + 1) = true := decide_eq_true (by omega)
          have hd2 : decide (ux < uc) = true := decide_eq_true hlu
          clear hsn hcm hpk hux huc
          go_wp2_with (first
            | (at_lookup; refine wpList_lookup_own_int _ rfl _ _ 50 rfl 3 3 .i64 keyLaw Try.underlying50 Try.underlying3 (hz _) B1 256 D rfl hDr _ (kf X) rfl (keyOf_int_mk Try.underlying3 hwf.out) ?_; intro c hat hwc; obtain rfl : (ux : Int) = c := by { rw [hget.out] at hat; injection hat with hat; injection hat })
            | (with_reducible refine wpList_store_sz rfl 33 (.tmp 4) (.tmp 38) rfl (R + 1) 0 #[.int .i64 (X : Int), .int .i64 ((ux : Int) + 1)] rfl rfl 2 (tag_sz _ _) hth.out size_tag (tag_one _ _) [.int .i64 (X : Int), .int .i64 ((ux : Int) + 1)] (tag_ls _ _) ?_))
          exact ⟨⟨j + 1, by omega, by go_num, by rw [hv.out]; rfl, by rw [hv.out, hbx.out.1, hbx.out.2]; exact hset.out, hUs.out⟩, by simp [RowKit.intOf]; omega⟩
        · have hv := Lib.hid (show pickL p.u (L.take (j + 1)) = some c from by rw [hsn.out]; show (if p.u x < p.u c then some x else some c) = _; rw [hux, huc, if_neg hlu])
          have hd : decide ((ux : Int) + 1 < (uc : Int) + 1) = false := decide_eq_false (by omega)
          have hd2 : decide (ux < uc) = false := decide_eq_false hlu
          have HT := Lib.hid hT
          clear hsn hcm hpk hux huc
          go_wp2_with (first
            | (at_lookup; refine wpList_lookup_own_int _ rfl _ _ 50 rfl 3 3 .i64 keyLaw Try.underlying50 Try.underlying3 (hz _) B1 256 D rfl hDr _ (kf X) rfl (keyOf_int_mk Try.underlying3 hwf.out) ?_; intro c hat hwc; obtain rfl : (ux : Int) = c := by { rw [hget.out] at hat; injection hat with hat; injection hat })
            | (with_reducible refine wpList_store_sz rfl 33 (.tmp 4) (.tmp 38) rfl (R + 1) 0 #[.int .i64 (X : Int), .int .i64 ((ux : Int) + 1)] rfl rfl 2 (tag_sz _ _) hth.out size_tag (tag_one _ _) [.int .i64 (X : Int), .int .i64 ((ux : Int) + 1)] (tag_ls _ _) ?_))
          exact ⟨⟨j + 1, by omega, by go_num, by rw [hv.out]; rfl, by rw [hv.out]; exact HT.out, hU⟩, by simp [RowKit.intOf]; omega⟩
    · have e : j = L.length := by omega
      have hv := Lib.hid (show pickL p.u (L.take j) = pb from by rw [e, List.take_of_length_le (Nat.le_refl _)]; exact hbest.out.symm)
      rw [hv.out] at hT ⊢
      have Zr5 := Zr4.kept hU (by show ¬ R = R + 1; omega)
      have V5 := V4.onto hU (by rw [HR.out]; omega)
      have hset := Lib.hid (Zr5.set (bestA pb) (bestT p.u pb))
      have hth := Lib.hid Zr5.there
      have hrg := Lib.hid hT.range
      obtain ⟨ba, hba⟩ : ∃ x, bestA pb = x := ⟨_, rfl⟩
      obtain ⟨bt, hbt⟩ : ∃ x, bestT p.u pb = x := ⟨_, rfl⟩
      rw [hba, hbt] at hset hrg
      have Hba := Lib.hid hba
      have Hbt := Lib.hid hbt
      clear hT hba hbt
      go_wp2_with (first
        | (with_reducible refine wpList_load_sz rfl 33 (.tmp 4) rfl (R + 1) 0 rfl [.int .i64 ba, .int .i64 bt] _ hrg.out Try.underlying33 rfl 2 rfl size_tag ?_)
        | (with_reducible refine wpList_store_sz rfl 33 (.tmp 2) (.tmp 40) rfl R 0 #[.int .i64 ba, .int .i64 bt] rfl rfl 2 (tag_sz _ _) hth.out size_tag (tag_one _ _) [.int .i64 ba, .int .i64 bt] (tag_ls _ _) ?_))
      (try simp only [Exit.inBlock, Exit.then])
      refine bodyPost_ret (ret_tag rfl _ _ R ba bt rfl hset.out) rfl ⟨?_, ?_⟩
      · rw [Hba.out, Hbt.out]; rfl
      · exact Upd.setCells (.inr (by rw [HR.out]; exact Nat.le_refl _)) _ _ V5
end Go.Proofs.Ytmalfdbjbgifeaa

/-
  Package asid: Lives, Left, New.
-/
namespace Go.Proofs.Ytmalfdbjbgifeaa
open Go.ChangeShapes Go.WideShapes Go.ChangeAt Go.RowKit Go.Maps Go.Sort Go.Shelf

theorem Po.wf_of {p : Po} {c : Nat} (hp : p.n ≤ 8) (hc : c < p.n) : (Lit.int .i64 ((c + 1 : Nat) : Int)).wf = true := wf_frame (by omega)
/-- 'v, ok := m[k]' in a region that draws and only reads -/
theorem wpStill_lookup_ok {P : Program} {ops : Array Oper} {w : World} {rest : List Oper} {o : Oper} {a : Act} {Q : Act → Prop} (hw : Region.wanted o (yielded ops a.tmps) = true) (m x : Operand) (t : TypeId) (hop : o.op = Op.lookup t m x true)
    (k e : TypeId) (q : IntKind) (K : Keyed P k) (ht : P.underlying t = some (.map k e)) (he : P.underlying e = some (.int q)) (hz : (zeroValue e).run P w = .ok (.int q 0) w) (b n : Nat) (D : DataW Unit)
    (hm : a.eval m = .map (some b)) (hown : w.ownsMap P k (plainElem P e) b n D) (key : Value) (kl : Lit) (hx : a.eval x = key) (hkey : keyOf P k key = some kl)
    (h : ∀ c, D.atKey kl (.lit (.int q 0)) = .lit (.int q c) → wpStill P ops w Q rest (a.put o.dst (.tuple #[.int q c, .bool (Maps.has D kl)]))) : wpStill P ops w Q (o :: rest) a := by
  obtain ⟨v, ps, hrun, hv⟩ := hown.look_ok K ht hz (plainElem_int he (by cases q <;> rfl)) hkey
  obtain ⟨c, rfl, hc, hwc⟩ := plainElem_int_inv he hv
  refine wpStill_step fun K hK => ?_
  rw [if_pos hw]
  unfold Oper.still execOp
  simp only [hop, hm, hx, hrun, Sem.run_bind, Sem.run_pure, Result.andThen_ok]
  exact ⟨rfl, hK _ (h c (congrArg Prod.fst hc))⟩
/-- the box of a tag that is handed -/
theorem tag_box (w : World) (a t : Int) : TagAt 33 (w.alloc (.cells #[.int .i64 a, .int .i64 t] 33)) w.heap.size a t ∧ Upd (fun _ => False) w (w.alloc (.cells #[.int .i64 a, .int .i64 t] 33)) :=
  ⟨heap_alloc_last w _, (Upd.refl _ _).alloc _⟩
set_option maxRecDepth 100000 in
set_option maxHeartbeats 1000000 in
theorem alives_any (A B1 B2 : Nat) (p : Po) (a t : Int) (hwf : (Lit.int .i64 a).wf = true) (w : World) (h : PoolAt w A B1 B2 p) :
    Calls Try.prog 15 #[.pointer (some ⟨A, 0, none⟩), tagV a t] w fun e w' => e = .returned (.bool (p.at a t).isSome) ∧ Upd (fun _ => False) w w' := by
  have HW := Lib.hid hwf
  obtain ⟨t1, t2⟩ := tag_box w a t
  obtain ⟨w1, hw⟩ : ∃ w1, w.alloc (.cells #[.int .i64 a, .int .i64 t] 33) = w1 := ⟨_, rfl⟩
  rw [hw] at t1 t2
  have hw1 := Lib.hid hw
  clear hw
  have U : Upd (fun _ => False) w w1.drew := t2.drew
  have h1 := h.still U
  obtain ⟨D, hD, hM⟩ := h1.m2
  have hc1 := h1.c1
  have t1' : TagAt 33 w1.drew w.heap.size a t := t1
  have T0 := t1'.c0
  have T1 := t1'.c1
  have hz := zero_int
  by_cases hx : ∃ x, x ∈ p.ls true ∧ (x.1 : Int) = a
  · obtain ⟨x, hx, rfl⟩ := hx
    have hhas := Lib.hid (show Maps.has D (.int .i64 (x.1 : Int)) = true from hM.mem hx)
    have hget := Lib.hid (hM.get x hx (.lit (.int .i64 0)))
    have hv := Lib.hid (show (p.at x.1 t).isSome = ((x.2 : Int) == t) from by
      obtain ⟨i, h1, h2, rfl⟩ := Po.mem_ls.1 hx
      show (p.at ((i + 1 : Nat) : Int) t).isSome = ((p.u i : Int) == t)
      by_cases e : (p.u i : Int) = t
      · subst e
        rw [Po.at_of h1 h2]; simp
      · rw [beq_false_of_ne e]
        cases hat : p.at ((i + 1 : Nat) : Int) t with
        | none => rfl
        | some c =>
          obtain ⟨e1, e2, _⟩ := Po.at_some hat
          have : c = i := by omega
          subst this
          exact absurd e2.symm e)
    obtain ⟨xi, xu⟩ := x
    simp only at *
    clear t1 t1' t2 h1 hM hwf h
    go_enter Try.func15, Try.ntmps15
    go_upto_region 1 with fail
    rw [hw1.out]
    refine wp_region_tail 11 (by kernel_rfl) (by kernel_rfl) ?_
    simp only [List.take_succ_cons, List.take_zero, List.drop_succ_cons, List.drop_zero]
    intro w2 hw2
    rw [← hw2] at U hD hc1 T0 T1
    clear hw2
    repeat (first | (refine wpStill_lookup_ok rfl _ _ 50 rfl 3 3 .i64 keyLaw Try.underlying50 Try.underlying3 (hz _) B2 256 D rfl hD _ (.int .i64 (xi : Int)) rfl (keyOf_int_mk Try.underlying3 HW.out) ?_; intro c hat; obtain rfl : (xu : Int) = c := by { rw [show (Lit.int .i64 (xi : Int)) = kf xi from rfl, hget.out] at hat; injection hat with hat; injection hat }) | still_step)
    refine wpStill_nil ?_
    go_upto_region 2 with fail
    rw [hhas.out]
    go_wp2
    go_ret
    exact ⟨by rw [hv.out]; rfl, U⟩
  · have hhas := Lib.hid (show Maps.has D (.int .i64 a) = false from hM.no fun x hx' e => hx ⟨x, hx', by unfold kf at e; injection e with _ e; exact e.symm⟩)
    have hv := Lib.hid (show (p.at a t).isSome = false from by
      cases hat : p.at a t with
      | none => rfl
      | some c =>
        obtain ⟨e1, e2, h1, h2⟩ := Po.at_some hat
        exact absurd ⟨(c + 1, p.u c), Po.mem_ls.2 ⟨c, h1, h2, rfl⟩, e1.symm⟩ hx)
    clear t1 t1' t2 h1 hM hwf h hx
    go_enter Try.func15, Try.ntmps15
    go_upto_region 1 with fail
    rw [hw1.out]
    refine wp_region_tail 11 (by kernel_rfl) (by kernel_rfl) ?_
    simp only [List.take_succ_cons, List.take_zero, List.drop_succ_cons, List.drop_zero]
    intro w2 hw2
    rw [← hw2] at U hD hc1 T0 T1
    clear hw2
    repeat (first | (refine wpStill_lookup_ok rfl _ _ 50 rfl 3 3 .i64 keyLaw Try.underlying50 Try.underlying3 (hz _) B2 256 D rfl hD _ (.int .i64 a) rfl (keyOf_int_mk Try.underlying3 HW.out) ?_; intro c hat) | still_step)
    refine wpStill_nil ?_
    go_upto_region 2 with fail
    rw [hhas.out]
    clear hat
    go_wp2
    go_ret
    exact ⟨by rw [hv.out]; rfl, U⟩
set_option maxHeartbeats 400000 in
theorem aleft_any (A B1 B2 : Nat) (p : Po) (w : World) (h : PoolAt w A B1 B2 p) :
    Calls Try.prog 13 #[.pointer (some ⟨A, 0, none⟩)] w fun e w' => e = .returned (.int .i64 p.left) ∧ w = w' := by
  obtain ⟨D, hD, hM⟩ := h.m1
  have hc0 := h.c0
  have hlen : ∀ ty, (Builtin.len_ #[50] ty #[.map (some B1)]).run Try.prog w = .ok (.int .i64 (p.left : Int)) w := fun ty => by
    have := hD.len Try.underlying50 ty
    rw [hM.sz, Po.ls_len] at this
    exact this
  go_enter Try.func13, Try.ntmps13
  go_wp2
  go_ret
  exact ⟨rfl, rfl⟩
end Go.Proofs.Ytmalfdbjbgifeaa
