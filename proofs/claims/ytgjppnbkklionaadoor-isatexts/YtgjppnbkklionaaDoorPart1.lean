/-
  Texts that the laws stand on, joined: Kit, Upd, Frame, LaidS, IsM, IsL, IsN, Arr, IsR, IsS, IsT.
-/
import Derived.Below
import Derived.BigFrame
import Derived.BigQuiet
import Derived.Carry
import Derived.ChangeOld
import Derived.ChangeSame
import Derived.Deep.CutBlock
import Derived.Deep.DeepCutAuto
import Derived.Deep.Fields
import Derived.Deep.MidRow
import Derived.Deep.QuietTactic
import Derived.Deep.Slices
import Derived.Deep.WholeRow
import Derived.FnData
import Derived.LaidHandle
import Derived.LaidLaws
import Derived.Laws.CopyOwn
import Derived.Laws.StructEq
import Derived.Lib.AppendIntMem
import Derived.Lib.AtoiErrMem
import Derived.Lib.AtoiTie
import Derived.Lib.Hide
import Derived.OpenShut
import Derived.OwnWalk
import Derived.ProofKit
import Derived.Shelf.Strconv.AtoiAll
import Derived.Shelf.Strconv.Itoa3
import Derived.Shelf.Strings.Prefix
import Derived.Shelf.Strings.Search1
import Derived.Shelf.Strings.Search2
import Derived.StillTailTactics
import Derived.Test.YtgjppnbkklionaaDoorRows
import Derived.WalkKit

/-
  Small helpers that all of this seat's texts import: the kit's walk and row modules under one name, and quiet calls inside regions that draw.
-/
namespace Go.Proofs.YtgjppnbkklionaaDoor
open Go.RowKit

/-- a call that leaves the world alone, inside a region that draws -/
theorem still0 {P : Program} {f : FuncId} {args : Array Value} {w : World} {n : Nat} {v : Value}
    (h : Calls P f args (w.drewN n) fun e w' => e = .returned v ∧ w.drewN n = w') :
    Calls P f args (w.drewN n) fun e w'' => e = .returned v ∧ ∃ m, w'' = w.drewN m := by
  refine h.mono ?_
  rintro e w' ⟨he, hw⟩
  exact ⟨he, n, hw.symm⟩
/-- the same behind other draws -/
theorem still1 {P : Program} {f : FuncId} {args : Array Value} {w : World} {a n : Nat} {v : Value}
    (h : Calls P f args (w.drewN (a + n)) fun e w' => e = .returned v ∧ w.drewN (a + n) = w') :
    Calls P f args (w.drewN (a + n)) fun e w'' => e = .returned v ∧ ∃ m, w'' = w.drewN (a + m) := by
  refine h.mono ?_
  rintro e w' ⟨he, hw⟩
  exact ⟨he, n, hw.symm⟩
/-- a call that draws, inside a region that draws -/
theorem draws0 {P : Program} {f : FuncId} {args : Array Value} {w : World} {n : Nat} {v : Value}
    (h : Calls P f args (w.drewN n) fun e w' => e = .returned v ∧ ∃ m, w' = (w.drewN n).drewN m) :
    Calls P f args (w.drewN n) fun e w'' => e = .returned v ∧ ∃ m, w'' = w.drewN m := by
  refine h.mono ?_
  rintro e w' ⟨he, m, rfl⟩
  exact ⟨he, n + m, by rw [World.drewN_drewN]⟩
theorem draws1 {P : Program} {f : FuncId} {args : Array Value} {w : World} {a n : Nat} {v : Value}
    (h : Calls P f args (w.drewN (a + n)) fun e w' => e = .returned v ∧ ∃ m, w' = (w.drewN (a + n)).drewN m) :
    Calls P f args (w.drewN (a + n)) fun e w'' => e = .returned v ∧ ∃ m, w'' = w.drewN (a + m) := by
  refine h.mono ?_
  rintro e w' ⟨he, m, rfl⟩
  exact ⟨he, n + m, by rw [World.drewN_drewN, Nat.add_assoc]⟩
theorem below_drewN {B : Nat} {a w : World} (h : Below B a w) (n : Nat) : Below B a (w.drewN n) := ⟨h.os, h.tape, h.output, h.size, h.block⟩
end Go.Proofs.YtgjppnbkklionaaDoor

/-
  The frame word of this project's contracts: 'Upd S w w'': behind the call every block that was there and is not in S is as it was.
-/
namespace Go.Proofs.YtgjppnbkklionaaDoor
open Go.RowKit

/-- nothing that was there has turned but the blocks in S -/
structure Upd (S : Nat → Prop) (w w' : World) : Prop where
  os : w'.os = w.os
  tape : w'.tape = w.tape
  output : w'.output = w.output
  size : w.heap.size ≤ w'.heap.size
  block : ∀ k, k < w.heap.size → ¬ S k → w'.heap[k]? = w.heap[k]?

theorem Upd.refl (S : Nat → Prop) (w : World) : Upd S w w := ⟨rfl, rfl, rfl, Nat.le_refl _, fun _ _ _ => rfl⟩
theorem Upd.trans {S : Nat → Prop} {a b c : World} (h : Upd S a b) (k : Upd S b c) : Upd S a c :=
  ⟨k.os.trans h.os, k.tape.trans h.tape, k.output.trans h.output, Nat.le_trans h.size k.size, fun i hi hs => (k.block i (Nat.lt_of_lt_of_le hi h.size) hs).trans (h.block i hi hs)⟩
theorem Upd.mono {S T : Nat → Prop} {a b : World} (h : Upd S a b) (hs : ∀ k, k < a.heap.size → S k → T k) : Upd T a b :=
  ⟨h.os, h.tape, h.output, h.size, fun i hi ht => h.block i hi fun x => ht (hs i hi x)⟩
theorem Upd.drewN {S : Nat → Prop} {a b : World} (h : Upd S a b) (n : Nat) : Upd S a (b.drewN n) := ⟨h.os, h.tape, h.output, h.size, h.block⟩
theorem Upd.drew {S : Nat → Prop} {a b : World} (h : Upd S a b) : Upd S a b.drew := ⟨h.os, h.tape, h.output, h.size, h.block⟩
theorem Upd.alloc {S : Nat → Prop} {a b : World} (h : Upd S a b) (o : Obj) : Upd S a (b.alloc o) :=
  h.trans ⟨rfl, rfl, rfl, by simp, fun k hk _ => Below.heap_alloc _ _ _ hk⟩
theorem Upd.setCell {S : Nat → Prop} {a b : World} (h : Upd S a b) {p : Addr} (hp : S p.block ∨ a.heap.size ≤ p.block) (u : Value) : Upd S a (b.setCell p u) :=
  ⟨h.os, h.tape, h.output, by have := h.size; simpa [World.setCell] using this, fun k hk hs => by
    rw [Below.heap_setCell _ _ _ _ (by rintro rfl; rcases hp with hp | hp; exact hs hp; omega)]; exact h.block k hk hs⟩
theorem Upd.setCells {S : Nat → Prop} {a : World} {p : Nat} (hp : S p ∨ a.heap.size ≤ p) : ∀ (vs : List Value) (o : Nat) {b : World}, Upd S a b → Upd S a (b.setCells p o vs)
  | [], _, _, h => h
  | v :: r, o, b, h => by
    rw [World.setCells]
    exact Upd.setCells hp r (o + 1) (h.setCell (p := ⟨p, o, none⟩) hp v)
theorem Upd.below {S : Nat → Prop} {a b : World} {B : Nat} (h : Upd S a b) (hB : B ≤ a.heap.size) (hs : ∀ k, k < B → ¬ S k) : Below B a b :=
  ⟨h.os, h.tape, h.output, h.size, fun k hk => h.block k (by omega) (hs k hk)⟩
theorem Upd.of_below {S : Nat → Prop} {a b : World} (h : Below a.heap.size a b) : Upd S a b :=
  ⟨h.os, h.tape, h.output, h.size, fun k hk _ => h.block k hk⟩
theorem lt_of_heap {w : World} {k : Nat} {o : Obj} (h : w.heap[k]? = some o) : k < w.heap.size := by
  rcases Nat.lt_or_ge k w.heap.size with h1 | h1
  · exact h1
  · rw [Array.getElem?_eq_none h1] at h; cases h
theorem Upd.at {S : Nat → Prop} {a b : World} (h : Upd S a b) {k : Nat} {o : Obj} (hk : a.heap[k]? = some o) (hs : ¬ S k) : b.heap[k]? = some o := by
  rw [h.block k (lt_of_heap hk) hs]; exact hk
theorem Upd.cell {S : Nat → Prop} {a b : World} (u : Upd S a b) {p : Addr} {v : Value} (h : a.cell? p = some v) (hs : ¬ S p.block) : b.cell? p = some v := by
  rw [World.cell?_of_block (w := a) (u.block p.block (World.block_lt_of_cell? a p h) hs)]; exact h
theorem Upd.rangeAt {S : Nat → Prop} {a b : World} (u : Upd S a b) {p o : Nat} {cs : List Value} (h : a.rangeAt p o cs) (hs : ¬ S p) : b.rangeAt p o cs := fun j v hv => u.cell (h j v hv) hs
/-- a whole array stored: its number of cells named apart -/
theorem wpList_store_sz {P : Program} {ops : Array Oper} {rest : List Oper} {op : Oper} {a : Act} {w : World} {Q : Exit → Act → World → Prop} (hgd : op.guard = none) (ty : TypeId) (x y : Operand) (ho : op.op = .store ty x y)
    (b o : Nat) (cells : Array Value) (hx : a.eval x = .pointer (some ⟨b, o, none⟩)) (hy : a.eval y = .agg cells) (k : Nat) (hk : cells.size = k)
    (ht : w.there b o k) (hi : (P.info? ty).map (·.size) = some k) (h1 : cells.all (·.oneCell') = true) (cs : List Value) (hcs : cells.toList = cs)
    (h : wpList P ops Q rest (a.put op.dst undef) (w.setCells b o cs)) : wpList P ops Q (op :: rest) a w := by
  subst hk hcs
  exact wpList_store_mid hgd ty x y ho b o cells hx hy ht hi h1 h
/-- 'make([]T, n)': the very world behind it -/
theorem wpList_make_exact {P : Program} {w : World} {ops : Array Oper} {rest : List Oper} {o : Oper} {a : Act} {Q : Exit → Act → World → Prop}
    (hg : o.guard = none) (l c : Operand) (t : TypeId) (hop : o.op = Op.makeSlice t l c) (e : TypeId) (z : Value) (size bytes : Nat) (h1 : P.underlying t = some (.slice e))
    (hi : (P.info? e).map (fun i => (i.zero, i.size, i.bytes)) = some (some z, size, bytes)) (kl kc : IntKind) (n : Nat) (hl : a.eval l = .int kl n) (hc : a.eval c = .int kc n)
    (b2 : bytes * n ≤ 281474976710656) (b3 : n ≤ 9223372036854775807) (C : Array Value) (hC : madeCells z.cells (n * size) = C)
    (hK : wpList P ops Q rest (a.put o.dst (.slice (some ⟨w.heap.size, 0, none⟩) n n)) (w.alloc (.cells C e))) :
    wpList P ops Q (o :: rest) a w := by
  obtain ⟨i, hj, hz, hs, hb⟩ := info_parts hi
  subst hs hb hC
  refine wpList_plain hg fun K hK' => ?_
  have hb' : (i.bytes : Int) * (n : Int) ≤ 281474976710656 := by
    have h : ((i.bytes * n : Nat) : Int) ≤ 281474976710656 := by omega
    rwa [Int.natCast_mul] at h
  have hrun := run_make (P := P) w t e i z h1 hj hz kl kc n n (by omega) (Int.le_refl _) hb' (by omega)
  simp only [Int.toNat_natCast] at hrun
  unfold Oper.wp
  simp [execOp, hop, hl, hc, hrun, Result.andThen]
  exact hK' _ _ hK
/-- a new row of one value over and over -/
theorem madeCells_same (v : Value) (k n : Nat) (hk : 0 < k) : madeCells (List.replicate k v).toArray n = (List.replicate n v).toArray := by
  apply Array.ext
  · simp [madeCells]
  · intro i h1 h2
    have : i % k < k := Nat.mod_lt _ hk
    simp [madeCells, this]
end Go.Proofs.YtgjppnbkklionaaDoor

/-
  What the rows' frames want of a reading: integers, arrays of integers. Over any program.
-/
namespace Go.Proofs.YtgjppnbkklionaaDoor.Fr
open Go.ChangeShapes Go.WideShapes Go.ChangeAt Go.RowKit
variable {H : Type} {enc : TypeId × Value → H} {P : Program} {w : World} {base : Nat} {spare : Nat → Bool} {held : Bool}

/-- an array's value -/
theorem okWide_arr {r : Reach} {b0 n : Nat} {t e : TypeId} {v : Value} (ht : P.underlying t = some (.array n e)) (h : Value.okWide P w r b0 t v) : ∃ cs, v = .agg cs ∧ cs.size = P.cellsOf t := by
  simp only [Value.okWide, ht] at h
  obtain ⟨cs, h1, h2, _⟩ := h
  exact ⟨cs, h1, h2⟩

/-- an array of integers, opened: the numbers -/
theorem open_intArr {r : Reach} {b0 n : Nat} {t e : TypeId} {k : IntKind} {v : Value} {d : DataW H} {p : List MemPlace} (ht : P.underlying t = some (.array n e)) (he : P.underlying e = some (.int k))
    (hce : P.cellsOf e = 1) (hct : P.cellsOf t = n) (hv : Value.okWide P w r b0 t v) (h : DataW.Trod enc P w base spare held t v d p) :
    ∃ zs : List Int, zs.length = n ∧ v = .agg (zs.map (fun z => Value.int k z)).toArray ∧ ∀ z ∈ zs, (Lit.int k z).wf = true := by
  obtain ⟨cs, rfl, hsz⟩ := okWide_arr ht hv
  obtain ⟨fuel, hf⟩ := h
  obtain ⟨xs, m, _, _, _, hl, hrd⟩ := DataW.trod_array ht hf
  have hlen : cs.toList.length = n := by rw [Array.length_toList, hsz, hct]
  have hcell : ∀ i (hi : i < cs.toList.length), ∃ z, cs.toList[i] = .int k z ∧ (Lit.int k z).wf = true := by
    intro i hi
    have hx := hrd i (by omega)
    have hi2 : i < xs.length := by omega
    rw [List.getElem?_eq_getElem hi2] at hx
    obtain ⟨z, hz, _, hwf⟩ := DataW.trod_int he hx
    have hi3 : i < cs.size := by simpa using hi
    simp only [Value.cells, hce, Nat.mul_one] at hz
    rw [List.drop_eq_getElem_cons hi] at hz
    simp at hz
    exact ⟨z, by simpa using hz, hwf⟩
  refine ⟨cs.toList.map (fun c => match c with | .int _ q => q | _ => 0), by rw [List.length_map, hlen], ?_, ?_⟩
  · congr 1
    apply Array.ext'
    simp only [List.map_map]
    symm
    conv => rhs; rw [← List.map_id cs.toList]
    apply List.map_congr_left
    intro c hc
    obtain ⟨i, hi, rfl⟩ := List.getElem_of_mem hc
    obtain ⟨z, hz, _⟩ := hcell i hi
    simp only [Function.comp, hz, id]
  · intro z hz
    obtain ⟨c, hc, rfl⟩ := List.mem_map.1 hz
    obtain ⟨i, hi, rfl⟩ := List.getElem_of_mem hc
    obtain ⟨z', hz', hwf⟩ := hcell i hi
    simp only [hz']
    exact hwf
/-! ### whatever is made of integers and bools alone: its leaves, cell by cell -/
/-- a leaf's kind: 'some k' an integer, 'none' a bool -/
def flatFs (P : Program) (g : TypeId → Option (List (Option IntKind))) : List Field → Nat → Option (List (Option IntKind))
  | [], _ => some []
  | f :: fs, o => match g f.type, flatFs P g fs (o + P.cellsOf f.type) with
    | some l, some r => if f.offset = o ∧ l.length = P.cellsOf f.type then some (l ++ r) else none
    | _, _ => none
def flat (P : Program) : Nat → TypeId → Option (List (Option IntKind))
  | 0, _ => none
  | d + 1, t => match P.underlying t with
    | some (.int k) => some [some k]
    | some .bool => some [none]
    | some (.array n e) => match flat P d e with
      | some l => if l.length = P.cellsOf e ∧ P.cellsOf t = n * P.cellsOf e then some (List.replicate n l).flatten else none
      | none => none
    | some (.struct fs) => match flatFs P (flat P d) fs.toList 0 with
      | some l => if P.cellsOf t = l.length then some l else none
      | none => none
    | _ => none
def okLeaf : Option IntKind → Value → Prop
  | some k, v => ∃ z, v = .int k z ∧ (Lit.int k z).wf = true
  | none, v => ∃ b, v = .bool b
def okLeaves (ks : List (Option IntKind)) (cs : List Value) : Prop := cs.length = ks.length ∧ ∀ (j : Nat) (k : Option IntKind) (v : Value), ks[j]? = some k → cs[j]? = some v → okLeaf k v
theorem okLeaves_append {k1 k2 : List (Option IntKind)} {c1 c2 : List Value} (h1 : okLeaves k1 c1) (h2 : okLeaves k2 c2) : okLeaves (k1 ++ k2) (c1 ++ c2) := by
  refine ⟨by rw [List.length_append, List.length_append, h1.1, h2.1], fun j k v hk hv => ?_⟩
  have e := h1.1
  by_cases hj : j < k1.length
  · rw [List.getElem?_append_left hj] at hk
    rw [List.getElem?_append_left (by omega)] at hv
    exact h1.2 j k v hk hv
  · rw [List.getElem?_append_right (by omega)] at hk
    rw [List.getElem?_append_right (by omega), e] at hv
    exact h2.2 _ k v hk hv
theorem okLeaves_rep {l : List (Option IntKind)} : ∀ (n : Nat) (cs : List Value), cs.length = n * l.length → (∀ i, i < n → okLeaves l ((cs.drop (i * l.length)).take l.length)) → okLeaves (List.replicate n l).flatten cs
  | 0, cs, hl, _ => by
    have : cs = [] := List.eq_nil_of_length_eq_zero (by omega)
    subst this
    exact ⟨rfl, fun j k v hk => by simp at hk⟩
  | n + 1, cs, hl, h => by
    have hl' : cs.length = n * l.length + l.length := by rw [hl, Nat.succ_mul]
    rw [List.replicate_succ, List.flatten_cons, ← List.take_append_drop l.length cs]
    have h0 := h 0 (by omega)
    rw [Nat.zero_mul, List.drop_zero] at h0
    refine okLeaves_append h0 (okLeaves_rep n _ (by rw [List.length_drop]; omega) fun i hi => ?_)
    have := h (i + 1) (by omega)
    rw [Nat.succ_mul] at this
    rwa [List.drop_drop, Nat.add_comm]
theorem flatFs_ge {P : Program} {g : TypeId → Option (List (Option IntKind))} : ∀ {fs : List Field} {o : Nat} {ks : List (Option IntKind)}, flatFs P g fs o = some ks → ∀ (i : Nat) (f : Field), fs[i]? = some f → o ≤ f.offset
  | [], _, _, _, i, f, hi => by simp at hi
  | f0 :: fs, o, ks, hk, i, f, hi => by
    simp only [flatFs] at hk
    split at hk
    · rename_i l r hgl hr
      split at hk
      · rename_i hc
        cases i with
        | zero => simp only [List.getElem?_cons_zero, Option.some.injEq] at hi; subst hi; omega
        | succ i => have := flatFs_ge hr i f hi; omega
      · cases hk
    · cases hk
theorem okLeaves_fs {g : TypeId → Option (List (Option IntKind))} {n : Nat}
    (hg : ∀ t ks cs x, g t = some ks → DataW.trod enc P w base spare held n t cs = some x → okLeaves ks cs) :
    ∀ (fs : List Field) (o : Nat) (ks : List (Option IntKind)) (cs : List Value), flatFs P g fs o = some ks → cs.length = ks.length →
      (∀ (i : Nat) (f : Field), fs[i]? = some f → ∃ x, DataW.trod enc P w base spare held n f.type ((cs.drop (f.offset - o)).take (P.cellsOf f.type)) = some x) → okLeaves ks cs
  | [], o, ks, cs, hk, hl, _ => by
    simp only [flatFs, Option.some.injEq] at hk
    subst hk
    exact ⟨hl, fun j k v hk => by simp at hk⟩
  | f :: fs, o, ks, cs, hk, hl, h => by
    simp only [flatFs] at hk
    split at hk
    · rename_i l r hgl hr
      split at hk
      · rename_i hc
        obtain ⟨ho, hll⟩ := hc
        simp only [Option.some.injEq] at hk
        subst hk
        rw [List.length_append] at hl
        obtain ⟨x, hx⟩ := h 0 f rfl
        rw [ho, Nat.sub_self, List.drop_zero] at hx
        have h1 := hg _ _ _ _ hgl hx
        rw [← List.take_append_drop (P.cellsOf f.type) cs]
        refine okLeaves_append h1 (okLeaves_fs hg fs _ r _ hr (by rw [List.length_drop]; omega) fun i f' hi => ?_)
        obtain ⟨y, hy⟩ := h (i + 1) f' hi
        have hge : o + P.cellsOf f.type ≤ f'.offset := flatFs_ge hr i f' hi
        refine ⟨y, ?_⟩
        rw [List.drop_drop, show P.cellsOf f.type + (f'.offset - (o + P.cellsOf f.type)) = f'.offset - o from by omega]
        exact hy
      · cases hk
    · cases hk
theorem okLeaves_of : ∀ (d : Nat) (t : TypeId) (ks : List (Option IntKind)) (fuel : Nat) (cs : List Value) (x : DataW H × List MemPlace), flat P d t = some ks → DataW.trod enc P w base spare held fuel t cs = some x → okLeaves ks cs
  | 0, _, _, _, _, _, h, _ => by simp [flat] at h
  | d + 1, t, ks, fuel, cs, x, h, ht => by
    unfold flat at h
    split at h
    · rename_i k hu
      simp only [Option.some.injEq] at h
      subst h
      obtain ⟨z, rfl, _, hw⟩ := DataW.trod_int hu ht
      refine ⟨rfl, fun j k' v hk hv => ?_⟩
      match j, hk, hv with
      | 0, hk, hv => simp at hk hv; subst hk hv; exact ⟨z, rfl, hw⟩
      | j + 1, hk, _ => simp at hk
    · rename_i hu
      simp only [Option.some.injEq] at h
      subst h
      obtain ⟨b, rfl, _⟩ := DataW.trod_bool hu ht
      refine ⟨rfl, fun j k' v hk hv => ?_⟩
      match j, hk, hv with
      | 0, hk, hv => simp at hk hv; subst hk hv; exact ⟨b, rfl⟩
      | j + 1, hk, _ => simp at hk
    · rename_i n e hu
      split at h
      · rename_i l hl
        split at h
        · rename_i hc
          obtain ⟨c1, c2⟩ := hc
          simp only [Option.some.injEq] at h
          subst h
          obtain ⟨xs, m, _, _, hlen, hxl, hrd⟩ := DataW.trod_array hu ht
          refine okLeaves_rep n cs (by rw [hlen, c2, c1]) fun i hi => ?_
          have := hrd i hi
          have hi2 : i < xs.length := by omega
          rw [List.getElem?_eq_getElem hi2, ← c1] at this
          exact okLeaves_of d e l m _ _ hl this
        · cases h
      · cases h
    · rename_i fs hu
      split at h
      · rename_i l hl
        split at h
        · rename_i hc
          simp only [Option.some.injEq] at h
          subst h
          obtain ⟨xs, m, _, _, hlen, hxl, hrd⟩ := DataW.trod_struct hu ht
          refine okLeaves_fs (fun t' ks' cs' x' h1 h2 => okLeaves_of d t' ks' m cs' x' h1 h2) fs.toList 0 l cs hl (by rw [hlen, hc]) fun i f hi => ?_
          have hi' : fs[i]? = some f := by simpa using hi
          have hi2 : i < xs.length := by
            have := (Array.getElem?_eq_some_iff.1 hi').1
            omega
          have := hrd i f hi'
          rw [List.getElem?_eq_getElem hi2] at this
          exact ⟨_, by rw [Nat.sub_zero]; exact this⟩
        · cases h
      · cases h
    · cases h
/-- an argument that is a slice of such things -/
structure RowArg (w : World) (ao : Option Addr) (n b off : Nat) (ks : List (Option IntKind)) (E : Nat → Nat → Value) : Prop where
  place : 0 < n → ao = some ⟨b, off, none⟩
  lt : 0 < n → b < w.heap.size
  cell : ∀ i, i < n → ∀ j, j < ks.length → w.cell? ⟨b, off + (i * ks.length + j), none⟩ = some (E i j)
  ok : ∀ i, i < n → ∀ (j : Nat) (k : Option IntKind), ks[j]? = some k → okLeaf k (E i j)
  most : n ≤ 9223372036854775807
theorem RowArg.kept {w w' : World} {ao : Option Addr} {n b off : Nat} {ks : List (Option IntKind)} {E : Nat → Nat → Value} (h : RowArg w ao n b off ks E) (u : Below w.heap.size w w') : RowArg w' ao n b off ks E :=
  ⟨h.place, fun h0 => Nat.lt_of_lt_of_le (h.lt h0) u.size, fun i hi j hj => (u.cell (p := ⟨b, off + (i * ks.length + j), none⟩) (h.lt (by omega))).trans (h.cell i hi j hj), h.ok, h.most⟩
/-- a slice's value is no aggregate -/
theorem okWide_noAgg {r : Reach} {b0 : Nat} {t e : TypeId} {c : Array Value} (ht : P.underlying t = some (.slice e)) (h : Value.okWide P w r b0 t (.agg c)) : False := by
  simp [Value.okWide, Cell.okWide, Cell.ok, ht] at h
theorem open_rows {r : Reach} {b0 : Nat} {t e : TypeId} {v : Value} {dt : DataW H} {p : List MemPlace} (D : Nat) (ks : List (Option IntKind)) (ht : P.underlying t = some (.slice e)) (hf : flat P D e = some ks) (hc : P.cellsOf e = ks.length) (hpos : 0 < ks.length)
    (hw : Value.okWide P w r b0 t v) (h : DataW.Trod enc P w base spare held t v dt p) :
    ∃ (ao : Option Addr) (n cap b off : Nat) (E : Nat → Nat → Value), v = .slice ao n cap ∧ RowArg w ao n b off ks E := by
  obtain ⟨fuel, hfu⟩ := h
  rcases Deep.open_slice ht hfu with ⟨h1, _⟩ | ⟨a, len, cap, m, n, DD, Pl, h1, _, hl, hm, hmm, _, hi⟩
  · have hv : v = .slice none 0 0 := by
      cases v
      case agg c => exact (okWide_noAgg ht hw).elim
      all_goals (simp [Value.cells] at h1; try simp [h1])
    exact ⟨none, 0, 0, 0, 0, fun _ _ => .bool false, hv, ⟨fun h => absurd h (by omega), fun h => absurd h (by omega), fun i hi => absurd hi (by omega), fun i hi => absurd hi (by omega), by omega⟩⟩
  · have hv : v = .slice (some a) len cap := by
      cases v
      case agg c => exact (okWide_noAgg ht hw).elim
      all_goals (simp [Value.cells] at h1; try simp [h1])
    have hle : len ≤ m := by rw [hmm]; split <;> omega
    obtain ⟨E, hE⟩ := Deep.choose_lt (n := len) (p := fun i (f : Nat → Value) => ∀ j, j < ks.length → w.cell? (a.add (i * ks.length + j)) = some (f j) ∧ ∀ k, ks[j]? = some k → okLeaf k (f j)) (fun i hil => by
      obtain ⟨cs', hc', ht'⟩ := hi i (by omega)
      rw [hc] at hc'
      obtain ⟨_, hcl, hat⟩ := World.cells?_some hc'
      have ok := okLeaves_of D e ks n cs' _ hf ht'
      refine ⟨fun j => cs'.getD j (.bool false), fun j hj => ?_⟩
      have hjl : j < cs'.length := by rw [ok.1]; exact hj
      have hv : cs'[j]? = some (cs'.getD j (.bool false)) := by simp [List.getElem?_eq_getElem hjl]
      refine ⟨?_, fun k hk => ok.2 j k _ hk hv⟩
      rw [← Deep.add_add, hat j hj, hv])
    have hspot : 0 < len → a = ⟨a.block, a.off, none⟩ := fun h0 => by
      have := (hE 0 h0 0 hpos).1
      rw [Nat.zero_mul, Nat.add_zero] at this
      obtain ⟨ab, aoff, asp⟩ := a
      cases asp with
      | none => rfl
      | some s =>
        simp only [Addr.add, if_true, World.cell?] at this
        split at this <;> simp at this
    refine ⟨some a, len, cap, a.block, a.off, E, hv, ⟨fun h0 => by rw [← hspot h0], fun h0 => ?_, fun i hil j hj => ?_, fun i hil j k hk => ?_, by unfold maxLen at hm; omega⟩⟩
    · have := (hE 0 h0 0 hpos).1
      rw [Nat.zero_mul, Nat.add_zero] at this
      have hb := World.block_lt_of_cell? w _ this
      simpa [Addr.add] using hb
    · have := (hE i hil j hj).1
      rw [hspot (by omega), Addr.add_mid] at this
      exact this
    · have hj : j < ks.length := (List.getElem?_eq_some_iff.1 hk).1
      exact (hE i hil j hj).2 k hk
/-- a struct of such things by value: its cells -/
theorem open_flat {r : Reach} {b0 : Nat} {t : TypeId} {fs : Array Field} {v : Value} {dt : DataW H} {p : List MemPlace} (D : Nat) (ks : List (Option IntKind)) (ht : P.underlying t = some (.struct fs)) (hf : flat P D t = some ks)
    (hw : Value.okWide P w r b0 t v) (h : DataW.Trod enc P w base spare held t v dt p) : ∃ cs : List Value, v = .agg cs.toArray ∧ okLeaves ks cs := by
  obtain ⟨fuel, hfu⟩ := h
  simp only [Value.okWide, ht] at hw
  obtain ⟨cs, rfl, _⟩ := hw
  exact ⟨cs.toList, by simp, okLeaves_of D t ks fuel _ _ hf hfu⟩
theorem cells2 {cs : List Value} (h : cs.length = 2) : ∃ a b, cs = [a, b] := by
  match cs, h with
  | [a, b], _ => exact ⟨a, b, rfl⟩
theorem cells3 {cs : List Value} (h : cs.length = 3) : ∃ a b c, cs = [a, b, c] := by
  match cs, h with
  | [a, b, c], _ => exact ⟨a, b, c, rfl⟩
theorem cells4 {cs : List Value} (h : cs.length = 4) : ∃ a b c d, cs = [a, b, c, d] := by
  match cs, h with
  | [a, b, c, d], _ => exact ⟨a, b, c, d, rfl⟩
theorem cells5 {cs : List Value} (h : cs.length = 5) : ∃ a b c d e, cs = [a, b, c, d, e] := by
  match cs, h with
  | [a, b, c, d, e], _ => exact ⟨a, b, c, d, e, rfl⟩
theorem cells6 {cs : List Value} (h : cs.length = 6) : ∃ c0 c1 c2 c3 c4 c5, cs = [c0, c1, c2, c3, c4, c5] := by
  match cs, h with
  | [c0, c1, c2, c3, c4, c5], _ => exact ⟨c0, c1, c2, c3, c4, c5, rfl⟩
theorem cells7 {cs : List Value} (h : cs.length = 7) : ∃ c0 c1 c2 c3 c4 c5 c6, cs = [c0, c1, c2, c3, c4, c5, c6] := by
  match cs, h with
  | [c0, c1, c2, c3, c4, c5, c6], _ => exact ⟨c0, c1, c2, c3, c4, c5, c6, rfl⟩
theorem cells8 {cs : List Value} (h : cs.length = 8) : ∃ c0 c1 c2 c3 c4 c5 c6 c7, cs = [c0, c1, c2, c3, c4, c5, c6, c7] := by
  match cs, h with
  | [c0, c1, c2, c3, c4, c5, c6, c7], _ => exact ⟨c0, c1, c2, c3, c4, c5, c6, c7, rfl⟩
theorem cells9 {cs : List Value} (h : cs.length = 9) : ∃ c0 c1 c2 c3 c4 c5 c6 c7 c8, cs = [c0, c1, c2, c3, c4, c5, c6, c7, c8] := by
  match cs, h with
  | [c0, c1, c2, c3, c4, c5, c6, c7, c8], _ => exact ⟨c0, c1, c2, c3, c4, c5, c6, c7, c8, rfl⟩
theorem cells10 {cs : List Value} (h : cs.length = 10) : ∃ c0 c1 c2 c3 c4 c5 c6 c7 c8 c9, cs = [c0, c1, c2, c3, c4, c5, c6, c7, c8, c9] := by
  match cs, h with
  | [c0, c1, c2, c3, c4, c5, c6, c7, c8, c9], _ => exact ⟨c0, c1, c2, c3, c4, c5, c6, c7, c8, c9, rfl⟩
theorem cells11 {cs : List Value} (h : cs.length = 11) : ∃ c0 c1 c2 c3 c4 c5 c6 c7 c8 c9 c10, cs = [c0, c1, c2, c3, c4, c5, c6, c7, c8, c9, c10] := by
  match cs, h with
  | [c0, c1, c2, c3, c4, c5, c6, c7, c8, c9, c10], _ => exact ⟨c0, c1, c2, c3, c4, c5, c6, c7, c8, c9, c10, rfl⟩
theorem cells12 {cs : List Value} (h : cs.length = 12) : ∃ c0 c1 c2 c3 c4 c5 c6 c7 c8 c9 c10 c11, cs = [c0, c1, c2, c3, c4, c5, c6, c7, c8, c9, c10, c11] := by
  match cs, h with
  | [c0, c1, c2, c3, c4, c5, c6, c7, c8, c9, c10, c11], _ => exact ⟨c0, c1, c2, c3, c4, c5, c6, c7, c8, c9, c10, c11, rfl⟩
theorem len2 {zs : List Int} (h : zs.length = 2) : ∃ a b, zs = [a, b] := by
  match zs, h with
  | [a, b], _ => exact ⟨a, b, rfl⟩
theorem len3 {zs : List Int} (h : zs.length = 3) : ∃ a b c, zs = [a, b, c] := by
  match zs, h with
  | [a, b, c], _ => exact ⟨a, b, c, rfl⟩
theorem len4 {zs : List Int} (h : zs.length = 4) : ∃ a b c d, zs = [a, b, c, d] := by
  match zs, h with
  | [a, b, c, d], _ => exact ⟨a, b, c, d, rfl⟩
end Go.Proofs.YtgjppnbkklionaaDoor.Fr

/-
  Package-level variables of integers, bools and strings that a row lists: their blocks, out of the row's condition; a listed error value. Over any program.
-/
namespace Go.Proofs.YtgjppnbkklionaaDoor.Fr
open Go.ChangeShapes Go.WideShapes Go.ChangeAt Go.RowKit
mutual
/-- the cells of a datum made of integers, bools and strings -/
def datS : DataW Unit → List Value
  | .lit (.int k z) => [.int k z]
  | .lit (.bool b) => [.bool b]
  | .lit (.string bs) => [.string ⟨bs.toArray⟩]
  | .agg ps => datSAll ps
  | _ => []
def datSAll : List (DataW Unit) → List Value
  | [] => []
  | d :: r => datS d ++ datSAll r
end
def shpFs (P : Program) (g : TypeId → Option Nat) : List Field → Nat → Option Nat
  | [], o => some o
  | f :: fs, o => match g f.type with
    | some l => if f.offset = o ∧ l = P.cellsOf f.type then shpFs P g fs (o + l) else none
    | none => none
/-- how many cells a type of integers, bools and strings has -/
def shp (P : Program) : Nat → TypeId → Option Nat
  | 0, _ => none
  | d + 1, t => match P.underlying t with
    | some (.int _) => some 1
    | some .bool => some 1
    | some .string => some 1
    | some (.array n e) => match shp P d e with
      | some l => if l = P.cellsOf e ∧ P.cellsOf t = n * P.cellsOf e then some (n * l) else none
      | none => none
    | some (.struct fs) => match shpFs P (shp P d) fs.toList 0 with
      | some l => if P.cellsOf t = l then some l else none
      | none => none
    | _ => none
/-- a variable's block -/
def VarAt (w : World) (g : Nat) (cs : List Value) : Prop := ∃ t fr, w.heap[g]? = some (.cells cs.toArray t fr)
/-- a variable that holds an error value, or nil -/
def Sent (w : World) (g : Nat) : Prop := ∃ ev, w.cell? ⟨g, 0, none⟩ = some ev ∧ (ev = .nilIface ∨ ∃ te pe, ev = .iface te pe)
theorem datSAll_rows (k : Nat) : ∀ (xs : List (DataW Unit × List MemPlace)) (cs : List Value), cs.length = xs.length * k → (∀ i (h : i < xs.length), (cs.drop (i * k)).take k = datS (xs[i]).1) → cs = datSAll (xs.map (·.1))
  | [], cs, hl, _ => by
    have : cs = [] := List.eq_nil_of_length_eq_zero (by simpa using hl)
    subst this
    rfl
  | x :: xs, cs, hl, h => by
    have hl' : cs.length = xs.length * k + k := by rw [hl, List.length_cons, Nat.succ_mul]
    have h0 := h 0 (by simp)
    rw [Nat.zero_mul, List.drop_zero] at h0
    rw [← List.take_append_drop k cs, h0]
    simp only [List.map_cons, datSAll, List.getElem_cons_zero]
    congr 1
    refine datSAll_rows k xs _ (by rw [List.length_drop]; omega) fun i hi => ?_
    have := h (i + 1) (by simpa using hi)
    rw [Nat.succ_mul] at this
    simpa [List.drop_drop, Nat.add_comm] using this
theorem shpFs_ge {P : Program} {g : TypeId → Option Nat} : ∀ (fs : List Field) (o k : Nat), shpFs P g fs o = some k → o ≤ k ∧ ∀ (i : Nat) (f : Field), fs[i]? = some f → o ≤ f.offset ∧ ∃ l, g f.type = some l
  | [], o, k, h => by
    simp only [shpFs, Option.some.injEq] at h
    exact ⟨by omega, fun i f hi => by simp at hi⟩
  | f :: fs, o, k, h => by
    simp only [shpFs] at h
    split at h
    · rename_i l hl
      split at h
      · rename_i hc
        obtain ⟨h1, h2⟩ := shpFs_ge fs _ _ h
        refine ⟨by omega, fun i f' hi => ?_⟩
        cases i with
        | zero => simp only [List.getElem?_cons_zero, Option.some.injEq] at hi; subst hi; exact ⟨by omega, _, hl⟩
        | succ i => obtain ⟨h3, h4⟩ := h2 i f' (by simpa using hi); exact ⟨by omega, h4⟩
      · cases h
    · cases h
theorem datSAll_fs {P : Program} {g : TypeId → Option Nat} : ∀ (fs : List Field) (o k : Nat) (cs : List Value) (xs : List (DataW Unit × List MemPlace)), shpFs P g fs o = some k → o + cs.length = k → xs.length = fs.length →
      (∀ (i : Nat) (f : Field) (x : DataW Unit × List MemPlace), fs[i]? = some f → xs[i]? = some x → (cs.drop (f.offset - o)).take (P.cellsOf f.type) = datS x.1) → cs = datSAll (xs.map (·.1))
  | [], o, k, cs, xs, hk, hl, hx, _ => by
    simp only [shpFs, Option.some.injEq] at hk
    have e1 : cs = [] := List.eq_nil_of_length_eq_zero (by omega)
    have e2 : xs = [] := List.eq_nil_of_length_eq_zero (by simpa using hx)
    subst e1 e2
    rfl
  | f :: fs, o, k, cs, [], hk, hl, hx, h => by simp at hx
  | f :: fs, o, k, cs, x :: xs, hk, hl, hx, h => by
    simp only [shpFs] at hk
    split at hk
    · rename_i l hgl
      split at hk
      · rename_i hc
        obtain ⟨ho, hll⟩ := hc
        have hge := shpFs_ge fs _ _ hk
        have h0 := h 0 f x rfl rfl
        rw [ho, Nat.sub_self, List.drop_zero] at h0
        rw [← List.take_append_drop (P.cellsOf f.type) cs, h0]
        simp only [List.map_cons, datSAll]
        congr 1
        refine datSAll_fs fs _ k _ xs hk (by rw [List.length_drop]; omega) (by simpa using hx) fun i f' x' hi hi' => ?_
        have hy := h (i + 1) f' x' hi hi'
        have hge' := (hge.2 i f' hi).1
        rw [List.drop_drop, show P.cellsOf f.type + (f'.offset - (o + l)) = f'.offset - o from by omega]
        exact hy
      · cases hk
    · cases hk
theorem cells_shp {P : Program} {w : World} {base : Nat} {spare : Nat → Bool} {held : Bool} : ∀ (d : Nat) (t : TypeId) (k : Nat) (fuel : Nat) (cs : List Value) (x : DataW Unit × List MemPlace),
    shp P d t = some k → DataW.trod (fun _ => ()) P w base spare held fuel t cs = some x → cs = datS x.1
  | 0, _, _, _, _, _, h, _ => by simp [shp] at h
  | d + 1, t, k, fuel, cs, x, h, ht => by
    unfold shp at h
    split at h
    · rename_i kk hu
      obtain ⟨z, rfl, rfl, hw⟩ := DataW.trod_int hu ht
      rfl
    · rename_i hu
      obtain ⟨b, rfl, rfl⟩ := DataW.trod_bool hu ht
      rfl
    · rename_i hu
      obtain ⟨s, rfl, rfl, _⟩ := DataW.trod_string hu ht
      rfl
    · rename_i n e hu
      split at h
      · rename_i l hl
        split at h
        · rename_i hc
          obtain ⟨c1, c2⟩ := hc
          obtain ⟨xs, m, _, rfl, hlen, hxl, hrd⟩ := DataW.trod_array hu ht
          show cs = datSAll (xs.map (·.1))
          refine datSAll_rows (P.cellsOf e) xs cs (by rw [hlen, c2, hxl]) fun i hi => ?_
          have := hrd i (by omega)
          rw [List.getElem?_eq_getElem hi] at this
          exact cells_shp d e l m _ _ hl this
        · cases h
      · cases h
    · rename_i fs hu
      split at h
      · rename_i l hl
        split at h
        · rename_i hc
          obtain ⟨xs, m, _, rfl, hlen, hxl, hrd⟩ := DataW.trod_struct hu ht
          show cs = datSAll (xs.map (·.1))
          have hge := shpFs_ge _ _ _ hl
          refine datSAll_fs fs.toList 0 l cs xs hl (by rw [hlen, hc, Nat.zero_add]) (by rw [hxl]; simp) fun i f x hi hx => ?_
          have hi' : fs[i]? = some f := by simpa using hi
          have := hrd i f hi'
          rw [hx] at this
          rw [Nat.sub_zero]
          obtain ⟨l', hl'⟩ := (hge.2 i f hi).2
          exact cells_shp d f.type l' m _ _ hl' this
        · cases h
      · cases h
    · cases h
theorem varAt_of_vars {P : Program} {w : World} (D : Nat) : ∀ (l : List (String × DataW Unit)) (ps : List MemPlace), DataW.LaidVars P w l ps → ∀ (n : String) (d : DataW Unit), (n, d) ∈ l → ∀ (g : Nat) (t : TypeId) (k : Nat),
    P.globalNamed n = some g → (P.globals[g]?).map (·.type) = some t → shp P D t = some k → VarAt w g (datS d)
  | [], _, _, n, d, hm, _, _, _, _, _, _ => by cases hm
  | (n0, d0) :: r, ps, h, n, d, hm, g, t, k, hg, ht, hf => by
    obtain ⟨g0, t0, cs, fuel, p, q, hg0, ht0, hv, hd, hr, _⟩ := h
    rcases List.mem_cons.1 hm with e | hm'
    · cases e
      obtain rfl := Option.some.inj (hg.symm.trans hg0)
      obtain rfl := Option.some.inj (ht.symm.trans ht0)
      have e := cells_shp D t k fuel cs.toList _ hf hd
      unfold World.var? at hv
      rw [hg0, Option.bind_some] at hv
      split at hv
      · rename_i c ty fr hc
        simp only [Option.some.injEq] at hv
        subst hv
        exact ⟨ty, fr, by rw [hc, ← e]⟩
      · cases hv
    · exact varAt_of_vars D r q hr n d hm' g t k hg ht hf
theorem varAt_of_laid {P : Program} {w : World} {l : List (String × DataW Unit)} (D : Nat) (h : laidMet P l w) (n : String) (d : DataW Unit) (hm : (n, d) ∈ l) {g : Nat} {t : TypeId} {k : Nat}
    (hg : P.globalNamed n = some g) (ht : (P.globals[g]?).map (·.type) = some t) (hf : shp P D t = some k) : VarAt w g (datS d) := by
  obtain ⟨ps, hl, _⟩ := h
  exact varAt_of_vars D l ps hl n d hm g t k hg ht hf
theorem sent_of_vars {P : Program} {w : World} : ∀ (l : List (String × DataW Unit)) (ps : List MemPlace), DataW.LaidVars P w l ps → ∀ (n nm : String) (d : DataW Unit), (n, .iface nm d) ∈ l → ∀ (g : Nat) (t : TypeId) (ms : Array (String × TypeId)),
    P.globalNamed n = some g → (P.globals[g]?).map (·.type) = some t → P.underlying t = some (.interface ms) → Sent w g
  | [], _, _, n, _, d, hm, _, _, _, _, _, _ => by cases hm
  | (n0, d0) :: r, ps, h, n, nm, d, hm, g, t, ms, hg, ht, hi => by
    obtain ⟨g0, t0, cs, fuel, p, q, hg0, ht0, hv, hd, hr, _⟩ := h
    rcases List.mem_cons.1 hm with e | hm'
    · cases e
      obtain rfl := Option.some.inj (hg.symm.trans hg0)
      obtain rfl := Option.some.inj (ht.symm.trans ht0)
      obtain ⟨f1, u, v, e, _, _⟩ := iface_of_trod hi hd
      have h0 := World.var?_cell hg0 hv 0
      obtain ⟨cl⟩ := cs
      simp only at e
      subst e
      exact ⟨.iface u v, by simpa using h0, .inr ⟨_, _, rfl⟩⟩
    · exact sent_of_vars r q hr n nm d hm' g t ms hg ht hi
theorem sent_of_laid {P : Program} {w : World} {l : List (String × DataW Unit)} (h : laidMet P l w) (n nm : String) (d : DataW Unit) (hm : (n, .iface nm d) ∈ l) {g : Nat} {t : TypeId} {ms : Array (String × TypeId)}
    (hg : P.globalNamed n = some g) (ht : (P.globals[g]?).map (·.type) = some t) (hi : P.underlying t = some (.interface ms)) : Sent w g := by
  obtain ⟨ps, hl, _⟩ := h
  exact sent_of_vars l ps hl n nm d hm g t ms hg ht hi
theorem VarAt.cell {w : World} {g : Nat} {cs : List Value} (h : VarAt w g cs) {j : Nat} {v : Value} (hj : cs[j]? = some v) : w.cell? ⟨g, j, none⟩ = some v := by
  obtain ⟨t, fr, h⟩ := h
  have hj' : j < cs.length := by
    rcases Nat.lt_or_ge j cs.length with h1 | h1
    · exact h1
    · rw [List.getElem?_eq_none h1] at hj; cases hj
  simp [World.cell?, h, hj]
theorem VarAt.var {P : Program} {w : World} {g : Nat} {cs : List Value} (h : VarAt w g cs) {n : String} (hg : P.globalNamed n = some g) : w.var? P n = some cs.toArray := by
  obtain ⟨t, fr, h⟩ := h
  unfold World.var?
  rw [hg, Option.bind_some, h]
end Go.Proofs.YtgjppnbkklionaaDoor.Fr

/-
  Plain mathematics of instructions: their words, their texts.
-/
namespace Go.Proofs.YtgjppnbkklionaaDoor

/-- an instruction, in plain numbers -/
structure Ins where
  op : Int
  a : Int
  b : Int
  c : Int
  m : Int
deriving DecidableEq
/-- which operands an operation has -/
def hasA (op : Int) : Bool := decide (1 ≤ op ∧ op ≤ 7 ∨ op = 9 ∨ op = 10)
def hasB (op : Int) : Bool := decide (2 ≤ op ∧ op ≤ 7 ∨ op = 10)
def hasC (op : Int) : Bool := decide (2 ≤ op ∧ op ≤ 5 ∨ op = 10)
def hasM (op : Int) : Bool := decide (op = 1 ∨ 6 ≤ op ∧ op ≤ 9 ∨ op = 11)
def rg (h : Bool) (x k : Int) : Bool := decide (0 ≤ x ∧ x ≤ k) && (h || decide (x = 0))
def Ins.right (i : Ins) : Bool := decide (0 ≤ i.op ∧ i.op ≤ 11) && rg (hasA i.op) i.a 7 && rg (hasB i.op) i.b 7 && rg (hasC i.op) i.c 7 && rg (hasM i.op) i.m 65535
structure Ins.Ok (i : Ins) : Prop where
  o : 0 ≤ i.op ∧ i.op ≤ 11
  a : 0 ≤ i.a ∧ i.a ≤ 7
  b : 0 ≤ i.b ∧ i.b ≤ 7
  c : 0 ≤ i.c ∧ i.c ≤ 7
  m : 0 ≤ i.m ∧ i.m ≤ 65535
  na : hasA i.op = false → i.a = 0
  nb : hasB i.op = false → i.b = 0
  nc : hasC i.op = false → i.c = 0
  nm : hasM i.op = false → i.m = 0
theorem rg_iff {h : Bool} {x k : Int} : rg h x k = true ↔ (0 ≤ x ∧ x ≤ k) ∧ (h = false → x = 0) := by
  unfold rg
  cases h <;> simp
theorem Ins.right_iff (i : Ins) : i.right = true ↔ i.Ok := by
  unfold Ins.right
  simp only [Bool.and_eq_true, rg_iff, decide_eq_true_eq]
  constructor
  · rintro ⟨⟨⟨⟨h0, h1⟩, h2⟩, h3⟩, h4⟩
    exact ⟨h0, h1.1, h2.1, h3.1, h4.1, h1.2, h2.2, h3.2, h4.2⟩
  · rintro ⟨o, a, b, c, m, na, nb, nc, nm⟩
    exact ⟨⟨⟨⟨o, a, na⟩, b, nb⟩, c, nc⟩, m, nm⟩
/-- its word -/
def Ins.word (i : Ins) : Int := i.op + 256 * i.a + 2048 * i.b + 16384 * i.c + 16777216 * i.m
def Ins.of (w : Int) : Ins := ⟨w % 256, w / 256 % 8, w / 2048 % 8, w / 16384 % 8, w / 16777216 % 65536⟩
theorem Ins.of_word {i : Ins} (h : i.Ok) : Ins.of i.word = i := by
  obtain ⟨o, a, b, c, m, -, -, -, -⟩ := h
  obtain ⟨io, ia, ib, ic, im⟩ := i
  unfold Ins.of Ins.word
  simp only at *
  congr 1 <;> omega
theorem Ins.word_bd {i : Ins} (h : i.Ok) : 0 ≤ i.word ∧ i.word < 1099511627776 := by
  obtain ⟨o, a, b, c, m, -, -, -, -⟩ := h
  unfold Ins.word
  omega
/-- the instruction of a word, if there is one -/
def Ins.hit (w : Int) : Bool := (Ins.of w).right && decide ((Ins.of w).word = w)
theorem Ins.hit_iff (w : Int) : Ins.hit w = true ↔ ∃ i : Ins, i.Ok ∧ i.word = w := by
  unfold Ins.hit
  simp only [Bool.and_eq_true, decide_eq_true_eq, Ins.right_iff]
  constructor
  · exact fun h => ⟨_, h.1, h.2⟩
  · rintro ⟨i, hi, rfl⟩
    rw [Ins.of_word hi]
    exact ⟨hi, rfl⟩
theorem Ins.word_inj {i j : Ins} (hi : i.Ok) (hj : j.Ok) (h : i.word = j.word) : i = j := by
  rw [← Ins.of_word hi, h, Ins.of_word hj]

/-! texts: lists of bytes -/
def opName : Nat → List Nat
  | 0 => [104, 97, 108, 116]
  | 1 => [105, 109, 109]
  | 2 => [97, 100, 100]
  | 3 => [115, 117, 98]
  | 4 => [97, 110, 100]
  | 5 => [120, 111, 114]
  | 6 => [108, 111, 97, 100]
  | 7 => [115, 116, 111, 114, 101]
  | 8 => [106, 117, 109, 112]
  | 9 => [122, 101, 114, 111]
  | 10 => [108, 101, 115, 115]
  | 11 => [116, 114, 97, 112]
  | _ => []
theorem opName_inj : ∀ i : Nat, i < 12 → ∀ j : Nat, j < 12 → opName i = opName j → i = j := by decide
theorem opName_sp : ∀ i : Nat, i < 12 → 32 ∉ opName i := by decide
/-- the decimal digits of a number -/
def digs (n : Nat) : List Nat := if h : n < 10 then [48 + n] else digs (n / 10) ++ [48 + n % 10]
termination_by n
decreasing_by omega
theorem digs_lt {n : Nat} (h : n < 10) : digs n = [48 + n] := by rw [digs, dif_pos h]
theorem digs_ge {n : Nat} (h : ¬ n < 10) : digs n = digs (n / 10) ++ [48 + n % 10] := by rw [digs, dif_neg h]
def numOf (l : List Nat) : Nat := l.foldl (fun a x => a * 10 + (x - 48)) 0
theorem num_digs : ∀ n : Nat, numOf (digs n) = n := by
  intro n
  induction n using Nat.strongRecOn with
  | ind n ih =>
    by_cases h : n < 10
    · rw [digs_lt h]; simp [numOf]
    · rw [digs_ge h]
      unfold numOf
      rw [List.foldl_append]
      have := ih (n / 10) (by omega)
      unfold numOf at this
      rw [this]
      simp only [List.foldl_cons, List.foldl_nil]
      omega
theorem digs_inj {a b : Nat} (h : digs a = digs b) : a = b := by rw [← num_digs a, h, num_digs b]
theorem digs_mem : ∀ n : Nat, ∀ x, x ∈ digs n → 48 ≤ x ∧ x ≤ 57 := by
  intro n
  induction n using Nat.strongRecOn with
  | ind n ih =>
    intro x hx
    by_cases h : n < 10
    · rw [digs_lt h] at hx
      simp at hx
      omega
    · rw [digs_ge h, List.mem_append] at hx
      rcases hx with hx | hx
      · exact ih (n / 10) (by omega) x hx
      · simp at hx; omega
theorem digs_sp (n : Nat) : 32 ∉ digs n := fun h => by have := digs_mem n 32 h; omega
/-- words after one another, each behind a space -/
def behind (l : List (List Nat)) : List Nat := l.flatMap fun p => 32 :: p
theorem words_inj : ∀ (x y : List Nat) (xs ys : List (List Nat)), 32 ∉ x → 32 ∉ y → (∀ p, p ∈ xs → 32 ∉ p) → (∀ p, p ∈ ys → 32 ∉ p) → x ++ behind xs = y ++ behind ys → x = y ∧ xs = ys
  | [], [], [], [], _, _, _, _, _ => ⟨rfl, rfl⟩
  | [], [], p :: xs, q :: ys, _, _, hp, hq, h => by
    have h' : p ++ behind xs = q ++ behind ys := by
      have := h
      simp only [List.nil_append, behind, List.flatMap_cons, List.cons_append, List.cons.injEq, true_and] at this
      exact this
    obtain ⟨e1, e2⟩ := words_inj p q xs ys (hp p (by simp)) (hq q (by simp)) (fun r hr => hp r (by simp [hr])) (fun r hr => hq r (by simp [hr])) h'
    exact ⟨rfl, by rw [e1, e2]⟩
  | [], [], [], q :: ys, _, _, _, _, h => by simp [behind] at h
  | [], [], p :: xs, [], _, _, _, _, h => by simp [behind] at h
  | [], c :: y, [], ys, _, hy, _, _, h => by simp [behind] at h
  | [], c :: y, p :: xs, ys, _, hy, _, _, h => by
    simp only [List.nil_append, behind, List.flatMap_cons, List.cons_append, List.cons.injEq] at h
    exact absurd (by simp [h.1]) hy
  | c :: x, [], xs, [], hx, _, _, _, h => by simp [behind] at h
  | c :: x, [], xs, q :: ys, hx, _, _, _, h => by
    simp only [List.nil_append, behind, List.flatMap_cons, List.cons_append, List.cons.injEq] at h
    exact absurd (by simp [h.1]) hx
  | c :: x, e :: y, xs, ys, hx, hy, hp, hq, h => by
    simp only [List.cons_append, List.cons.injEq] at h
    obtain ⟨e1, e2⟩ := words_inj x y xs ys (fun m => hx (by simp [m])) (fun m => hy (by simp [m])) hp hq h.2
    exact ⟨by rw [h.1, e1], e2⟩
termination_by x y xs ys => x.length + y.length + (behind xs).length + (behind ys).length
decreasing_by
  all_goals simp only [behind, List.flatMap_cons, List.length_append, List.length_cons, List.length_nil]
  all_goals omega
/-- the words of its operands, in their order -/
def Ins.parts (i : Ins) : List (List Nat) :=
  (if hasA i.op = true then [114 :: digs i.a.toNat] else []) ++ (if hasB i.op = true then [114 :: digs i.b.toNat] else []) ++ (if hasC i.op = true then [114 :: digs i.c.toNat] else []) ++ (if hasM i.op = true then [digs i.m.toNat] else [])
/-- its text -/
def Ins.text (i : Ins) : List Nat := opName i.op.toNat ++ behind i.parts
theorem Ins.parts_sp (i : Ins) : ∀ p, p ∈ i.parts → 32 ∉ p := by
  intro p hp
  unfold Ins.parts at hp
  simp only [List.mem_append] at hp
  rcases hp with ((hp | hp) | hp) | hp
  all_goals
    split at hp
    · simp only [List.mem_singleton] at hp
      subst hp
      simp [digs_sp]
    · cases hp
theorem Ins.text_inj {i j : Ins} (hi : i.Ok) (hj : j.Ok) (h : i.text = j.text) : i = j := by
  have ho := hi.o
  have ho' := hj.o
  obtain ⟨e1, e2⟩ := words_inj _ _ _ _ (opName_sp _ (by omega)) (opName_sp _ (by omega)) i.parts_sp j.parts_sp h
  have eo : i.op = j.op := by have := opName_inj _ (by omega) _ (by omega) e1; omega
  unfold Ins.parts at e2
  rw [← eo] at e2
  obtain ⟨-, a, b, c, m, na, nb, nc, nm⟩ := hi
  obtain ⟨-, a', b', c', m', na', nb', nc', nm'⟩ := hj
  rw [← eo] at na' nb' nc' nm'
  obtain ⟨io, ia, ib, ic, im⟩ := i
  obtain ⟨jo, ja, jb, jc, jm⟩ := j
  simp only at *
  subst eo
  have key : ∀ {x y : Int}, 0 ≤ x → 0 ≤ y → digs x.toNat = digs y.toNat → x = y := fun hx hy e => by have := digs_inj e; omega
  have ea : ia = ja := by
    cases ha : hasA io
    · rw [na ha, na' ha]
    · rw [ha] at e2
      simp only [if_true, List.cons_append, List.cons.injEq] at e2
      exact key a.1 a'.1 e2.1.2
  subst ea
  have eb : ib = jb := by
    cases hb : hasB io
    · rw [nb hb, nb' hb]
    · rw [hb] at e2
      simp only [List.append_assoc, List.append_cancel_left_eq, if_true, List.cons_append, List.cons.injEq] at e2
      exact key b.1 b'.1 e2.1.2
  subst eb
  have ec : ic = jc := by
    cases hc : hasC io
    · rw [nc hc, nc' hc]
    · rw [hc] at e2
      simp only [List.append_assoc, List.append_cancel_left_eq, if_true, List.cons_append, List.cons.injEq] at e2
      exact key c.1 c'.1 e2.1.2
  subst ec
  have em : im = jm := by
    cases hm : hasM io
    · rw [nm hm, nm' hm]
    · rw [hm] at e2
      simp only [List.append_cancel_left_eq, if_true, List.cons.injEq] at e2
      exact key m.1 m'.1 e2.1
  subst em
  rfl
end Go.Proofs.YtgjppnbkklionaaDoor

/-
  The library's strings.TrimPrefix, strings.Index, strconv.Itoa, strconv.Atoi as they stand in this program (which of the shelf's numbers is which of the program's), and what they answer at the numbers of instructions.
-/
namespace Go.Proofs.YtgjppnbkklionaaDoor
open Go.RowKit Go.Shelf

def lays101_ren : Go.Shelf.Ren := ⟨fun | 101 => 28 | 208 => 37 | 206 => 46 | n => n, fun | 9 => 9 | 4 => 4 | 3 => 3 | n => n, fun n => n⟩
theorem lays101 : Go.Proofs.Lays.n101 Tryd.prog lays101_ren where
  mixed := by kernel_rfl
  f101 := Tryd.func28.trans (congrArg some (by kernel_rfl))
  f206 := Tryd.func46.trans (congrArg some (by kernel_rfl))
  f208 := Tryd.func37.trans (congrArg some (by kernel_rfl))
  t3 := Tryd.underlying3
  a3 := Tryd.isAgg3
  z3 := Tryd.sizeOf3
  v3 := Tryd.zeroValue3
  t4 := Tryd.underlying4
  a4 := Tryd.isAgg4
  z4 := Tryd.sizeOf4
  v4 := Tryd.zeroValue4
  t9 := Tryd.underlying9
  a9 := Tryd.isAgg9
  z9 := Tryd.sizeOf9
  v9 := Tryd.zeroValue9
def lays219_ren : Go.Shelf.Ren := ⟨fun | 219 => 40 | 217 => 51 | 225 => 52 | 224 => 53 | 267 => 54 | 266 => 63 | 314 => 64 | n => n, fun | 9 => 9 | 3 => 3 | 4 => 4 | 5 => 5 | 46 => 88 | 146 => 101 | 51 => 97 | n => n, fun | 1 => 2 | n => n⟩
theorem lays219 : Go.Proofs.Lays.n219 Tryd.prog lays219_ren where
  mixed := by kernel_rfl
  f217 := Tryd.func51.trans (congrArg some (by kernel_rfl))
  f219 := Tryd.func40.trans (congrArg some (by kernel_rfl))
  f224 := Tryd.func53.trans (congrArg some (by kernel_rfl))
  f225 := Tryd.func52.trans (congrArg some (by kernel_rfl))
  f266 := Tryd.func63.trans (congrArg some (by kernel_rfl))
  f267 := Tryd.func54.trans (congrArg some (by kernel_rfl))
  f314 := Tryd.func64.trans (congrArg some (by kernel_rfl))
  t3 := Tryd.underlying3
  a3 := Tryd.isAgg3
  z3 := Tryd.sizeOf3
  v3 := Tryd.zeroValue3
  t4 := Tryd.underlying4
  a4 := Tryd.isAgg4
  z4 := Tryd.sizeOf4
  v4 := Tryd.zeroValue4
  t5 := Tryd.underlying5
  a5 := Tryd.isAgg5
  z5 := Tryd.sizeOf5
  v5 := Tryd.zeroValue5
  t9 := Tryd.underlying9
  a9 := Tryd.isAgg9
  z9 := Tryd.sizeOf9
  v9 := Tryd.zeroValue9
  t46 := Tryd.underlying88
  a46 := Tryd.isAgg88
  z46 := Tryd.sizeOf88
  v46 := Tryd.zeroValue88
  t51 := Tryd.underlying97
  a51 := Tryd.isAgg97
  z51 := Tryd.sizeOf97
  v51 := Tryd.zeroValue97
  t146 := Tryd.underlying101
  a146 := Tryd.isAgg101
  z146 := Tryd.sizeOf101
  v146 := Tryd.zeroValue101
  g1 := by kernel_rfl
def laysM171_ren : Go.Shelf.Ren := ⟨fun | 171 => 21 | 243 => 33 | 246 => 39 | 283 => 47 | 284 => 48 | 285 => 49 | 286 => 50 | 129 => 59 | 317 => 58 | 318 => 60 | 319 => 61 | 320 => 62 | 337 => 67 | 338 => 68 | n => n, fun | 3 => 3 | 9 => 9 | 2 => 2 | 4 => 4 | 171 => 81 | 0 => 0 | 53 => 24 | 37 => 74 | 5 => 5 | 173 => 84 | 212 => 96 | 51 => 97 | 20 => 20 | 213 => 98 | 46 => 88 | 232 => 110 | 233 => 111 | n => n, fun | 17 => 5 | 18 => 6 | 19 => 7 | n => n⟩
theorem laysM171 : Go.Proofs.LaysM.n171 Tryd.prog laysM171_ren where
  mixed := by kernel_rfl
  f129 := Tryd.func59.trans (congrArg some (by kernel_rfl))
  f171 := Tryd.func21.trans (congrArg some (by kernel_rfl))
  f243 := Tryd.func33.trans (congrArg some (by kernel_rfl))
  f246 := Tryd.func39.trans (congrArg some (by kernel_rfl))
  f283 := Tryd.func47.trans (congrArg some (by kernel_rfl))
  f284 := Tryd.func48.trans (congrArg some (by kernel_rfl))
  f285 := Tryd.func49.trans (congrArg some (by kernel_rfl))
  f286 := Tryd.func50.trans (congrArg some (by kernel_rfl))
  f317 := Tryd.func58.trans (congrArg some (by kernel_rfl))
  f318 := Tryd.func60.trans (congrArg some (by kernel_rfl))
  f319 := Tryd.func61.trans (congrArg some (by kernel_rfl))
  f320 := Tryd.func62.trans (congrArg some (by kernel_rfl))
  f337 := Tryd.func67.trans (congrArg some (by kernel_rfl))
  f338 := Tryd.func68.trans (congrArg some (by kernel_rfl))
  t0 := Tryd.underlying0
  a0 := Tryd.isAgg0
  z0 := Tryd.sizeOf0
  v0 := Tryd.zeroValue0
  t2 := Tryd.underlying2
  a2 := Tryd.isAgg2
  z2 := Tryd.sizeOf2
  v2 := Tryd.zeroValue2
  t3 := Tryd.underlying3
  a3 := Tryd.isAgg3
  z3 := Tryd.sizeOf3
  v3 := Tryd.zeroValue3
  t4 := Tryd.underlying4
  a4 := Tryd.isAgg4
  z4 := Tryd.sizeOf4
  v4 := Tryd.zeroValue4
  t5 := Tryd.underlying5
  a5 := Tryd.isAgg5
  z5 := Tryd.sizeOf5
  v5 := Tryd.zeroValue5
  t9 := Tryd.underlying9
  a9 := Tryd.isAgg9
  z9 := Tryd.sizeOf9
  v9 := Tryd.zeroValue9
  t20 := Tryd.underlying20
  a20 := Tryd.isAgg20
  z20 := Tryd.sizeOf20
  v20 := Tryd.zeroValue20
  t37 := Tryd.underlying74
  a37 := Tryd.isAgg74
  z37 := Tryd.sizeOf74
  v37 := Tryd.zeroValue74
  t46 := Tryd.underlying88
  a46 := Tryd.isAgg88
  z46 := Tryd.sizeOf88
  v46 := Tryd.zeroValue88
  t51 := Tryd.underlying97
  a51 := Tryd.isAgg97
  z51 := Tryd.sizeOf97
  v51 := Tryd.zeroValue97
  t53 := Tryd.underlying24
  a53 := Tryd.isAgg24
  z53 := Tryd.sizeOf24
  v53 := Tryd.zeroValue24
  t171 := Tryd.underlying81
  a171 := Tryd.isAgg81
  z171 := Tryd.sizeOf81
  v171 := Tryd.zeroValue81
  t173 := Tryd.underlying84
  a173 := Tryd.isAgg84
  z173 := Tryd.sizeOf84
  v173 := Tryd.zeroValue84
  t212 := Tryd.underlying96
  a212 := Tryd.isAgg96
  z212 := Tryd.sizeOf96
  v212 := Tryd.zeroValue96
  t213 := Tryd.underlying98
  a213 := Tryd.isAgg98
  z213 := Tryd.sizeOf98
  t232 := Tryd.underlying110
  a232 := Tryd.isAgg110
  z232 := Tryd.sizeOf110
  v232 := Tryd.zeroValue110
  t233 := Tryd.underlying111
  a233 := Tryd.isAgg111
  z233 := Tryd.sizeOf111
  v233 := Tryd.zeroValue111
  g17 := by kernel_rfl
  g18 := by kernel_rfl
  g19 := by kernel_rfl
  i0 := by kernel_rfl
  i2 := by kernel_rfl
  i3 := by kernel_rfl
  i4 := by kernel_rfl
  i5 := by kernel_rfl
  i9 := by kernel_rfl
  i20 := by kernel_rfl
  i37 := by kernel_rfl
  i46 := by kernel_rfl
  i51 := by kernel_rfl
  i53 := by kernel_rfl
  i171 := by kernel_rfl
  i173 := by kernel_rfl
  i212 := by kernel_rfl
  i232 := by kernel_rfl
  i233 := by kernel_rfl
  m17 := by kernel_rfl
  m18 := by kernel_rfl
  m19 := by kernel_rfl
def laysC172_ren : Go.Shelf.Ren := ⟨fun | 172 => 27 | 244 => 35 | 245 => 36 | 247 => 41 | 279 => 42 | 280 => 43 | 281 => 44 | 282 => 45 | 287 => 55 | 316 => 56 | 171 => 21 | 205 => 57 | 321 => 65 | 322 => 66 | 243 => 33 | 246 => 39 | 283 => 47 | 284 => 48 | 285 => 49 | 286 => 50 | 129 => 59 | 317 => 58 | 318 => 60 | 319 => 61 | 320 => 62 | 337 => 67 | 338 => 68 | n => n, fun | 9 => 9 | 3 => 3 | 75 => 60 | 76 => 61 | 4 => 4 | 5 => 5 | 167 => 73 | 37 => 74 | 0 => 0 | 85 => 75 | 2 => 2 | 168 => 77 | 53 => 24 | 175 => 89 | 46 => 88 | 210 => 93 | 127 => 105 | 145 => 108 | 143 => 106 | 21 => 21 | 171 => 81 | 173 => 84 | 212 => 96 | 51 => 97 | 20 => 20 | 213 => 98 | 232 => 110 | 233 => 111 | 80 => 112 | n => n, fun | 15 => 3 | 16 => 4 | 17 => 5 | 18 => 6 | 19 => 7 | n => n⟩
theorem laysC172 : Go.Proofs.LaysC.n172 Tryd.prog laysC172_ren where
  mixed := by kernel_rfl
  f129 := Tryd.func59.trans (congrArg some (by kernel_rfl))
  f171 := Tryd.func21.trans (congrArg some (by kernel_rfl))
  f172 := Tryd.func27.trans (congrArg some (by kernel_rfl))
  f205 := Tryd.func57.trans (congrArg some (by kernel_rfl))
  f243 := Tryd.func33.trans (congrArg some (by kernel_rfl))
  f244 := Tryd.func35.trans (congrArg some (by kernel_rfl))
  f245 := Tryd.func36.trans (congrArg some (by kernel_rfl))
  f246 := Tryd.func39.trans (congrArg some (by kernel_rfl))
  f247 := Tryd.func41.trans (congrArg some (by kernel_rfl))
  f279 := Tryd.func42.trans (congrArg some (by kernel_rfl))
  f280 := Tryd.func43.trans (congrArg some (by kernel_rfl))
  f281 := Tryd.func44.trans (congrArg some (by kernel_rfl))
  f282 := Tryd.func45.trans (congrArg some (by kernel_rfl))
  f283 := Tryd.func47.trans (congrArg some (by kernel_rfl))
  f284 := Tryd.func48.trans (congrArg some (by kernel_rfl))
  f285 := Tryd.func49.trans (congrArg some (by kernel_rfl))
  f286 := Tryd.func50.trans (congrArg some (by kernel_rfl))
  f287 := Tryd.func55.trans (congrArg some (by kernel_rfl))
  f316 := Tryd.func56.trans (congrArg some (by kernel_rfl))
  f317 := Tryd.func58.trans (congrArg some (by kernel_rfl))
  f318 := Tryd.func60.trans (congrArg some (by kernel_rfl))
  f319 := Tryd.func61.trans (congrArg some (by kernel_rfl))
  f320 := Tryd.func62.trans (congrArg some (by kernel_rfl))
  f321 := Tryd.func65.trans (congrArg some (by kernel_rfl))
  f322 := Tryd.func66.trans (congrArg some (by kernel_rfl))
  f337 := Tryd.func67.trans (congrArg some (by kernel_rfl))
  f338 := Tryd.func68.trans (congrArg some (by kernel_rfl))
  t0 := Tryd.underlying0
  a0 := Tryd.isAgg0
  z0 := Tryd.sizeOf0
  v0 := Tryd.zeroValue0
  t2 := Tryd.underlying2
  a2 := Tryd.isAgg2
  z2 := Tryd.sizeOf2
  v2 := Tryd.zeroValue2
  t3 := Tryd.underlying3
  a3 := Tryd.isAgg3
  z3 := Tryd.sizeOf3
  v3 := Tryd.zeroValue3
  t4 := Tryd.underlying4
  a4 := Tryd.isAgg4
  z4 := Tryd.sizeOf4
  v4 := Tryd.zeroValue4
  t5 := Tryd.underlying5
  a5 := Tryd.isAgg5
  z5 := Tryd.sizeOf5
  v5 := Tryd.zeroValue5
  t9 := Tryd.underlying9
  a9 := Tryd.isAgg9
  z9 := Tryd.sizeOf9
  v9 := Tryd.zeroValue9
  t20 := Tryd.underlying20
  a20 := Tryd.isAgg20
  z20 := Tryd.sizeOf20
  v20 := Tryd.zeroValue20
  t21 := Tryd.underlying21
  a21 := Tryd.isAgg21
  z21 := Tryd.sizeOf21
  v21 := Tryd.zeroValue21
  t37 := Tryd.underlying74
  a37 := Tryd.isAgg74
  z37 := Tryd.sizeOf74
  v37 := Tryd.zeroValue74
  t46 := Tryd.underlying88
  a46 := Tryd.isAgg88
  z46 := Tryd.sizeOf88
  v46 := Tryd.zeroValue88
  t51 := Tryd.underlying97
  a51 := Tryd.isAgg97
  z51 := Tryd.sizeOf97
  v51 := Tryd.zeroValue97
  t53 := Tryd.underlying24
  a53 := Tryd.isAgg24
  z53 := Tryd.sizeOf24
  v53 := Tryd.zeroValue24
  t75 := Tryd.underlying60
  a75 := Tryd.isAgg60
  z75 := Tryd.sizeOf60
  v75 := Tryd.zeroValue60
  t76 := Tryd.underlying61
  a76 := Tryd.isAgg61
  z76 := Tryd.sizeOf61
  v76 := Tryd.zeroValue61
  t85 := Tryd.underlying75
  a85 := Tryd.isAgg75
  z85 := Tryd.sizeOf75
  v85 := Tryd.zeroValue75
  t127 := Tryd.underlying105
  a127 := Tryd.isAgg105
  z127 := Tryd.sizeOf105
  v127 := Tryd.zeroValue105
  t143 := Tryd.underlying106
  a143 := Tryd.isAgg106
  z143 := Tryd.sizeOf106
  v143 := Tryd.zeroValue106
  t145 := Tryd.underlying108
  a145 := Tryd.isAgg108
  z145 := Tryd.sizeOf108
  v145 := Tryd.zeroValue108
  t167 := Tryd.underlying73
  a167 := Tryd.isAgg73
  z167 := Tryd.sizeOf73
  v167 := Tryd.zeroValue73
  t168 := Tryd.underlying77
  a168 := Tryd.isAgg77
  z168 := Tryd.sizeOf77
  v168 := Tryd.zeroValue77
  t171 := Tryd.underlying81
  a171 := Tryd.isAgg81
  z171 := Tryd.sizeOf81
  v171 := Tryd.zeroValue81
  t173 := Tryd.underlying84
  a173 := Tryd.isAgg84
  z173 := Tryd.sizeOf84
  v173 := Tryd.zeroValue84
  t175 := Tryd.underlying89
  a175 := Tryd.isAgg89
  z175 := Tryd.sizeOf89
  v175 := Tryd.zeroValue89
  t210 := Tryd.underlying93
  a210 := Tryd.isAgg93
  z210 := Tryd.sizeOf93
  v210 := Tryd.zeroValue93
  t212 := Tryd.underlying96
  a212 := Tryd.isAgg96
  z212 := Tryd.sizeOf96
  v212 := Tryd.zeroValue96
  t213 := Tryd.underlying98
  a213 := Tryd.isAgg98
  z213 := Tryd.sizeOf98
  t232 := Tryd.underlying110
  a232 := Tryd.isAgg110
  z232 := Tryd.sizeOf110
  v232 := Tryd.zeroValue110
  t233 := Tryd.underlying111
  a233 := Tryd.isAgg111
  z233 := Tryd.sizeOf111
  v233 := Tryd.zeroValue111
  g15 := by kernel_rfl
  g16 := by kernel_rfl
  g17 := by kernel_rfl
  g18 := by kernel_rfl
  g19 := by kernel_rfl
  t80 := Tryd.underlying112
  a80 := Tryd.isAgg112
  z80 := Tryd.sizeOf112
  v80 := Tryd.zeroValue112
  i0 := by kernel_rfl
  i2 := by kernel_rfl
  i3 := by kernel_rfl
  i4 := by kernel_rfl
  i5 := by kernel_rfl
  i9 := by kernel_rfl
  i20 := by kernel_rfl
  i21 := by kernel_rfl
  i37 := by kernel_rfl
  i46 := by kernel_rfl
  i51 := by kernel_rfl
  i53 := by kernel_rfl
  i75 := by kernel_rfl
  i76 := by kernel_rfl
  i80 := by kernel_rfl
  i85 := by kernel_rfl
  i127 := by kernel_rfl
  i143 := by kernel_rfl
  i145 := by kernel_rfl
  i167 := by kernel_rfl
  i168 := by kernel_rfl
  i171 := by kernel_rfl
  i173 := by kernel_rfl
  i175 := by kernel_rfl
  i210 := by kernel_rfl
  i212 := by kernel_rfl
  i232 := by kernel_rfl
  i233 := by kernel_rfl
  m15 := by kernel_rfl
  m16 := by kernel_rfl
  m17 := by kernel_rfl
  m18 := by kernel_rfl
  m19 := by kernel_rfl
  c0 := by kernel_rfl
  c2 := by kernel_rfl
  c3 := by kernel_rfl
  c4 := by kernel_rfl
  c5 := by kernel_rfl
  c9 := by kernel_rfl
  c20 := by kernel_rfl
  c21 := by kernel_rfl
  c37 := by kernel_rfl
  c46 := by kernel_rfl
  c51 := by kernel_rfl
  c53 := by kernel_rfl
  c75 := by kernel_rfl
  c76 := by kernel_rfl
  c80 := by kernel_rfl
  c85 := by kernel_rfl
  c127 := by kernel_rfl
  c143 := by kernel_rfl
  c145 := by kernel_rfl
  c167 := by kernel_rfl
  c168 := by kernel_rfl
  c171 := by kernel_rfl
  c173 := by kernel_rfl
  c175 := by kernel_rfl
  c210 := by kernel_rfl
  c212 := by kernel_rfl
  c213 := by kernel_rfl
  c232 := by kernel_rfl
  c233 := by kernel_rfl

/-! bytes -/
/-- a row of bytes as a string -/
def strOf (l : List UInt8) : ByteArray := ⟨l.toArray⟩
def byts (l : List Nat) : List UInt8 := l.map UInt8.ofNat
theorem strOf_toList (l : List UInt8) : (strOf l).data.toList = l := by simp [strOf]
theorem strOf_of (s : ByteArray) : strOf s.data.toList = s := by cases s; simp [strOf]
theorem strOf_inj {a b : List UInt8} (h : strOf a = strOf b) : a = b := by rw [← strOf_toList a, h, strOf_toList]
theorem strOf_size (l : List UInt8) : (strOf l).size = l.length := by simp [strOf, ByteArray.size]
theorem byts_inj : ∀ {a b : List Nat}, (∀ x, x ∈ a → x < 256) → (∀ x, x ∈ b → x < 256) → byts a = byts b → a = b
  | [], [], _, _, _ => rfl
  | [], _ :: _, _, _, h => by simp [byts] at h
  | _ :: _, [], _, _, h => by simp [byts] at h
  | x :: a, y :: b, ha, hb, h => by
    simp only [byts, List.map_cons, List.cons.injEq] at h
    have e1 : x = y := by
      have h1 := congrArg UInt8.toNat h.1
      have := ha x (by simp)
      have := hb y (by simp)
      simp at h1
      omega
    rw [e1, byts_inj (fun z hz => ha z (by simp [hz])) (fun z hz => hb z (by simp [hz])) h.2]
theorem byts_append (a b : List Nat) : byts (a ++ b) = byts a ++ byts b := by simp [byts]
theorem decDigits_digs : ∀ u : Nat, Lib.decDigits u = byts (digs u) := by
  intro u
  induction u using Nat.strongRecOn with
  | ind n ih =>
    by_cases h : n < 10
    · rw [Lib.decDigits, dif_pos h, digs_lt h]; rfl
    · rw [Lib.decDigits, dif_neg h, digs_ge h, ih (n / 10) (by omega), byts_append]; rfl
theorem itoa_digs (u : Nat) : Lib.itoa (u : Int) = byts (digs u) := by
  unfold Lib.itoa
  rw [if_neg (by omega), Int.toNat_natCast, decDigits_digs]
theorem digit_ofNat (d : Nat) (h : d < 10) : Lib.digitVal (UInt8.ofNat (48 + d)) = some d := by
  have : d = 0 ∨ d = 1 ∨ d = 2 ∨ d = 3 ∨ d = 4 ∨ d = 5 ∨ d = 6 ∨ d = 7 ∨ d = 8 ∨ d = 9 := by omega
  rcases this with rfl | rfl | rfl | rfl | rfl | rfl | rfl | rfl | rfl | rfl <;> rfl
theorem decFrom_append : ∀ (l r : List UInt8) (a n : Nat), Lib.decFrom a l = some n → Lib.decFrom a (l ++ r) = Lib.decFrom n r
  | [], r, a, n, h => by simp only [Lib.decFrom, Option.some.injEq] at h; subst h; rfl
  | b :: l, r, a, n, h => by
    simp only [List.cons_append, Lib.decFrom] at h ⊢
    cases hd : Lib.digitVal b with
    | none => rw [hd] at h; cases h
    | some d =>
      rw [hd] at h
      exact decFrom_append l r _ n h
theorem decFrom_digs : ∀ u : Nat, Lib.decFrom 0 (byts (digs u)) = some u := by
  intro u
  induction u using Nat.strongRecOn with
  | ind n ih =>
    by_cases h : n < 10
    · rw [digs_lt h]
      show (match Lib.digitVal (UInt8.ofNat (48 + n)) with | some d => Lib.decFrom (0 * 10 + d) [] | none => none) = some n
      rw [digit_ofNat n h]
      simp [Lib.decFrom]
    · rw [digs_ge h, byts_append, decFrom_append _ _ _ _ (ih (n / 10) (by omega))]
      show (match Lib.digitVal (UInt8.ofNat (48 + n % 10)) with | some d => Lib.decFrom (n / 10 * 10 + d) [] | none => none) = some n
      rw [digit_ofNat (n % 10) (by omega)]
      simp only [Lib.decFrom, Option.some.injEq]
      omega
theorem digs_ne (u : Nat) : digs u ≠ [] := by
  by_cases h : u < 10
  · rw [digs_lt h]; simp
  · rw [digs_ge h]; simp
theorem digs_len : ∀ (k u : Nat), u < 10 ^ (k + 1) → (digs u).length ≤ k + 1
  | 0, u, h => by rw [digs_lt (by omega)]; simp
  | k + 1, u, h => by
    by_cases h10 : u < 10
    · rw [digs_lt h10]; simp
    · rw [digs_ge h10, List.length_append]
      have := digs_len k (u / 10) (by rw [Nat.pow_succ] at h; omega)
      simp; omega
theorem atoi_digs (u : Nat) (h : u ≤ 65535) : Lib.atoiAll (byts (digs u)) = .ok (u : Int) := by
  have hl : (byts (digs u)).length ≤ 18 := by
    have := digs_len 4 u (by omega)
    simp only [byts, List.length_map]
    omega
  rw [Lib.atoiAll_short _ hl]
  have hd := decFrom_digs u
  have hm := digs_mem u
  have hne := digs_ne u
  cases hg : digs u with
  | nil => exact absurd hg hne
  | cons b r =>
    rw [hg] at hd hm
    have hb := hm b (by simp)
    have e1 : (UInt8.ofNat b == 45) = false := by
      have : b = 48 ∨ b = 49 ∨ b = 50 ∨ b = 51 ∨ b = 52 ∨ b = 53 ∨ b = 54 ∨ b = 55 ∨ b = 56 ∨ b = 57 := by omega
      rcases this with rfl | rfl | rfl | rfl | rfl | rfl | rfl | rfl | rfl | rfl <;> rfl
    have e2 : (UInt8.ofNat b == 43) = false := by
      have : b = 48 ∨ b = 49 ∨ b = 50 ∨ b = 51 ∨ b = 52 ∨ b = 53 ∨ b = 54 ∨ b = 55 ∨ b = 56 ∨ b = 57 := by omega
      rcases this with rfl | rfl | rfl | rfl | rfl | rfl | rfl | rfl | rfl | rfl <;> rfl
    have hd' : Lib.decFrom 0 (UInt8.ofNat b :: byts r) = some u := hd
    show Lib.NumEnd.ofOption (Lib.atoi (UInt8.ofNat b :: byts r)) = .ok (u : Int)
    unfold Lib.atoi
    simp only [e1, e2, Bool.false_eq_true, if_false, Lib.decNat, List.isEmpty_cons]
    rw [hd']
    rfl
/-- strconv.Itoa at a number that an instruction may have -/
theorem itoa_any (u : Nat) (hu : u ≤ 65535) (w : World) (ht : Fr.VarAt w 5 (Lib.pow10Tab.map fun z => Value.int .u64 z)) :
    Calls Tryd.prog 21 #[.int .i64 (u : Int)] w fun e w' => e = .returned (.string (strOf (byts (digs u)))) ∧ Upd (fun _ => False) w w' := by
  have h := Any.strconv_Itoa laysM171 (u : Int) (by omega) (by omega) w (ht.var (by kernel_rfl))
  refine h.mono ?_
  rintro e w' ⟨rfl, k, os, rfl⟩
  refine ⟨by rw [itoa_digs]; rfl, Upd.of_below ?_⟩
  exact Lib.below_grow _ w (Nat.le_refl _) _ _
/-- what strconv.Atoi makes of a string -/
def atoiV (s : ByteArray) : Int := match Lib.atoiAll s.data.toList with
  | .ok v => v
  | .«syntax» => 0
  | .range => Lib.atoiSat s.data.toList
theorem atoiV_digs (u : Nat) (h : u ≤ 65535) : atoiV (strOf (byts (digs u))) = u := by
  unfold atoiV
  rw [strOf_toList, atoi_digs u h]
theorem atoiV_bd (s : ByteArray) : -9223372036854775808 ≤ atoiV s ∧ atoiV s ≤ 9223372036854775807 := by
  unfold atoiV
  split
  · rename_i v h; exact Lib.atoiAll_bounds h
  · omega
  · exact Lib.atoiSat_bounds _
theorem atoi_any (s : ByteArray) (hs : s.size ≤ 281474976710656) (w : World) (h1 : Fr.Sent w 3) (h2 : Fr.Sent w 4) :
    Calls Tryd.prog 27 #[.string s] w fun e w' => ∃ q, e = .returned (.tuple #[.int .i64 (atoiV s), q]) ∧ Upd (fun _ => False) w w' := by
  unfold atoiV
  cases h : Lib.atoiAll s.data.toList with
  | ok v =>
    refine (Any.strconv_Atoi_ok laysC172 s (by omega) v h w).mono ?_
    rintro e w' ⟨rfl, rfl | ⟨t, rfl⟩⟩
    · exact ⟨_, rfl, Upd.refl _ _⟩
    · exact ⟨_, rfl, Upd.of_below (Lib.bytesWorld_below _ _ _)⟩
  | «syntax» =>
    obtain ⟨ev, hv, hev⟩ := h1
    refine (Any.strconv_Atoi_syntax laysC172 s hs h ev w hv hev).mono ?_
    rintro e w' ⟨N, rfl, -, -, b⟩
    exact ⟨_, rfl, Upd.of_below b⟩
  | range =>
    obtain ⟨ev, hv, hev⟩ := h2
    refine (Any.strconv_Atoi_range laysC172 s hs h ev w hv hev).mono ?_
    rintro e w' ⟨N, rfl, -, -, b⟩
    exact ⟨_, rfl, Upd.of_below b⟩
end Go.Proofs.YtgjppnbkklionaaDoor

/-
  The library's strings.Cut at a space.
-/
namespace Go.Proofs.YtgjppnbkklionaaDoor
open Go.ChangeShapes Go.WideShapes Go.ChangeAt Go.RowKit

/-- what lies ahead of the first space, and behind it -/
def cutB : List UInt8 → List UInt8 × List UInt8
  | [] => ([], [])
  | b :: l => if b == 32 then ([], l) else (b :: (cutB l).1, (cutB l).2)
theorem cutB_idx : ∀ l : List UInt8, (Lib.indexByte l 32 = -1 ∧ cutB l = (l, [])) ∨ ∃ i : Nat, Lib.indexByte l 32 = i ∧ i < l.length ∧ cutB l = (l.take i, l.drop (i + 1))
  | [] => .inl ⟨rfl, rfl⟩
  | b :: l => by
    unfold Lib.indexByte cutB
    by_cases hb : (b == 32) = true
    · rw [if_pos hb, if_pos hb]
      exact .inr ⟨0, rfl, by simp, by simp⟩
    · rw [if_neg hb, if_neg hb]
      rcases cutB_idx l with ⟨e1, e2⟩ | ⟨i, e1, e2, e3⟩
      · rw [e1, e2]; exact .inl ⟨rfl, rfl⟩
      · rw [e1, e3]
        have : ((i : Int) == -1) = false := by rw [beq_eq_false_iff_ne]; omega
        rw [this]
        exact .inr ⟨i + 1, by simp, by simp; omega, by simp⟩
theorem cutB_word : ∀ (a : List UInt8), (∀ x, x ∈ a → x ≠ 32) → cutB a = (a, [])
  | [], _ => rfl
  | b :: a, h => by
    have hb : (b == 32) = false := by rw [beq_eq_false_iff_ne]; exact h b (by simp)
    unfold cutB
    rw [hb, cutB_word a fun x hx => h x (by simp [hx])]
    rfl
theorem cutB_words : ∀ (a r : List UInt8), (∀ x, x ∈ a → x ≠ 32) → cutB (a ++ 32 :: r) = (a, r)
  | [], r, _ => rfl
  | b :: a, r, h => by
    have hb : (b == 32) = false := by rw [beq_eq_false_iff_ne]; exact h b (by simp)
    rw [List.cons_append]
    unfold cutB
    rw [hb, cutB_words a r fun x hx => h x (by simp [hx])]
    rfl
theorem cutB_len : ∀ l : List UInt8, (cutB l).1.length ≤ l.length ∧ (cutB l).2.length ≤ l.length
  | [] => by simp [cutB]
  | b :: l => by
    have := cutB_len l
    unfold cutB
    split <;> simp <;> omega
theorem extract_str (s : ByteArray) (a b : Nat) : s.extract a b = strOf ((s.data.toList.drop a).take (b - a)) := by
  obtain ⟨⟨l⟩⟩ := s
  apply ByteArray.ext
  simp [strOf]
set_option maxHeartbeats 2000000 in
set_option maxRecDepth 100000 in
theorem icut_any (s : ByteArray) (hs : s.size ≤ 9223372036854775807) (w : World) : Calls Tryd.prog 34 #[.string s, .string ⟨#[32]⟩] w fun e w' => (∃ b, e = .returned (.tuple #[.string (strOf (cutB s.data.toList).1), .string (strOf (cutB s.data.toList).2), .bool b])) ∧ ∃ n, w' = w.drewN n := by
  have cI := Lib.hid (fun W => Any.stringslite_Index_one lays219 s 32 W)
  have hsz : s.data.toList.length = s.size := by cases s; rfl
  rcases cutB_idx s.data.toList with ⟨e1, e2⟩ | ⟨i, e1, e2, e3⟩
  · rw [e1] at cI
    rw [e2]
    simp only
    rw [strOf_of]
    clear e1 e2 hsz hs
    go_enter Tryd.func34, Tryd.ntmps34
    go_wp2_with fail
    refine (cI.out _).mono ?_
    rintro e w' ⟨rfl, rfl⟩
    go_wp2
    go_ret3
    exact ⟨⟨_, rfl⟩, 0, rfl⟩
  · rw [e1] at cI
    rw [e3]
    simp only
    have x1 := Lib.hid (show s.extract 0 i = strOf (s.data.toList.take i) from by rw [extract_str]; simp)
    have x2 := Lib.hid (show s.extract (i + 1) s.size = strOf (s.data.toList.drop (i + 1)) from by rw [extract_str, ← hsz, List.take_of_length_le (by simp)])
    have hlt : i < s.size := by omega
    clear e1 e2 e3 hsz
    have c1 : (0 : Int) ≤ (i : Int) := by omega
    have c2 : (i : Int) ≤ (s.size : Int) := by omega
    have c3 : (0 : Int) ≤ (i : Int) + 1 := by omega
    have c4 : (i : Int) + 1 ≤ (s.size : Int) := by omega
    have c5 : IntKind.i64.wrap ((i : Int) + 1) = (i : Int) + 1 := IntWalk.i64_in _ (by omega)
    have c6 : ((i : Int) + 1).toNat = i + 1 := by omega
    clear hs hlt
    go_enter Tryd.func34, Tryd.ntmps34
    go_wp2_with fail
    refine (cI.out _).mono ?_
    rintro e w' ⟨rfl, rfl⟩
    go_upto_region 3 with fail
    go_quiet (fail)
    go_wp2
    go_ret3
    exact ⟨⟨true, by rw [← x1.out, ← x2.out]; rfl⟩, _, rfl⟩
set_option maxHeartbeats 2000000 in
theorem scut_any (s : ByteArray) (hs : s.size ≤ 9223372036854775807) (w : World) : Calls Tryd.prog 25 #[.string s, .string ⟨#[32]⟩] w fun e w' => (∃ b, e = .returned (.tuple #[.string (strOf (cutB s.data.toList).1), .string (strOf (cutB s.data.toList).2), .bool b])) ∧ ∃ n, w' = w.drewN n := by
  have cI := Lib.hid (fun W => icut_any s hs W)
  clear hs
  generalize strOf (cutB s.data.toList).1 = a at cI ⊢
  generalize strOf (cutB s.data.toList).2 = b at cI ⊢
  go_enter Tryd.func25, Tryd.ntmps25
  go_wp2_with fail
  refine (cI.out _).mono ?_
  rintro e w' ⟨⟨q, rfl⟩, n, rfl⟩
  go_wp2
  go_ret3
  exact ⟨⟨_, rfl⟩, n, rfl⟩
end Go.Proofs.YtgjppnbkklionaaDoor

/-
  Rows of integers: their cells, words laid over them, arrays of integers compared.
-/
namespace Go.Proofs.YtgjppnbkklionaaDoor
open Go.RowKit

/-- the cells of numbers -/
def ints (k : IntKind) (l : List Int) : List Value := l.map (Value.int k)
theorem ints_length (k : IntKind) (l : List Int) : (ints k l).length = l.length := by simp [ints]
theorem ints_getElem? (k : IntKind) (l : List Int) (i : Nat) (h : i < l.length) : (ints k l)[i]? = some (.int k (l.getD i 0)) := by
  simp [ints, List.getElem?_eq_getElem h]
theorem ints_one (k : IntKind) (l : List Int) : (ints k l).toArray.all (·.oneCell') = true := all_oneCell_toArray fun v hv => by
  obtain ⟨z, _, rfl⟩ := List.mem_map.1 hv; rfl
theorem splice_ints (k : IntKind) (ws : List Int) (o : Nat) (vs : List Int) : splice (ints k ws) o (ints k vs) = ints k (splice ws o vs) := by
  simp [splice, ints, List.map_append, List.map_take, List.map_drop]
theorem splice_splice {α : Type} (L : List α) (o : Nat) (a b : List α) (h : o + a.length + b.length ≤ L.length) : splice (splice L o a) (o + a.length) b = splice L o (a ++ b) := by
  unfold splice
  have e1 : (L.take o ++ (a ++ L.drop (o + a.length))).take (o + a.length) = L.take o ++ a := by
    rw [← List.append_assoc, List.take_append_of_le_length (by simp; omega)]
    exact List.take_of_length_le (by simp; omega)
  have e2 : (L.take o ++ (a ++ L.drop (o + a.length))).drop (o + a.length + b.length) = L.drop (o + a.length + b.length) := by
    rw [← List.append_assoc, List.drop_append, List.drop_eq_nil_of_le (by simp; omega), List.nil_append, List.drop_drop]
    congr 1
    simp; omega
  rw [e1, e2]
  simp [Nat.add_assoc]
theorem heap_setCells_other (b : Nat) : ∀ (vs : List Value) (o : Nat) (w : World) (k : Nat), k ≠ b → (w.setCells b o vs).heap[k]? = w.heap[k]?
  | [], _, _, _, _ => rfl
  | v :: r, o, w, k, h => by
    rw [World.setCells, heap_setCells_other b r (o + 1) _ k h, Below.heap_setCell _ _ _ _ h]
theorem heap_setCell_same {w : World} {b : Nat} {C : List Value} {t : TypeId} (h : w.heap[b]? = some (.cells C.toArray t (0, 0))) (o : Nat) (v : Value) :
    (w.setCell ⟨b, o, none⟩ v).heap[b]? = some (.cells (C.set o v).toArray t (0, 0)) := by
  simp only [World.setCell, Array.getElem?_modify, if_true, h, Option.map_some]
  simp
theorem heap_setCells_same (b t : Nat) : ∀ (vs : List Value) (o : Nat) (w : World) (C : List Value), w.heap[b]? = some (.cells C.toArray t (0, 0)) → o + vs.length ≤ C.length →
    (w.setCells b o vs).heap[b]? = some (.cells (splice C o vs).toArray t (0, 0))
  | [], o, w, C, h, _ => by simpa [World.setCells, splice] using h
  | v :: r, o, w, C, h, hl => by
    rw [World.setCells, heap_setCells_same b t r (o + 1) _ _ (heap_setCell_same h o v) (by simp at hl ⊢; omega)]
    simp only [Option.some.injEq, Obj.cells.injEq, and_true, Array.mk.injEq]
    simp at hl
    unfold splice
    rw [List.take_set, List.drop_set, if_pos (by omega)]
    rw [List.take_add_one, List.getElem?_eq_getElem (by omega)]
    rw [List.set_append]
    simp
    rw [show min o C.length = o from by omega]
    simp
    omega
/-- a block that is known whole -/
theorem rangeAt_block {w : World} {b t : Nat} {k : IntKind} {l : List Int} (h : w.heap[b]? = some (.cells (ints k l).toArray t (0, 0))) : w.rangeAt b 0 (ints k l) := by
  have := World.rangeAt_of_block h 0 l.length
  have e : ((ints k l).toArray.extract 0 (0 + l.length)).toList = ints k l := by
    simp [List.extract, List.take_of_length_le, ints_length]
  rwa [e] at this
theorem frozen_block {w : World} {b t : Nat} {c : Array Value} (h : w.heap[b]? = some (.cells c t (0, 0))) (i : Nat) : w.frozen? ⟨b, i, none⟩ = false := by
  unfold World.frozen?
  rw [h]
  simp
theorem there_block {w : World} {b t : Nat} {k : IntKind} {l : List Int} (h : w.heap[b]? = some (.cells (ints k l).toArray t (0, 0))) (o n : Nat) (hn : o + n ≤ l.length) : w.there b o n := fun j hj =>
  ⟨by rw [cell_of_row w b _ _ _ _ h, List.getElem?_toArray, ints_getElem? _ _ _ (by omega)]; rfl, frozen_block h _⟩
theorem splice_all {α : Type} (l vs : List α) (h : vs.length = l.length) : splice l 0 vs = vs := by
  unfold splice
  rw [List.drop_eq_nil_of_le (by omega)]
  simp
theorem cell_block {w : World} {b t : Nat} {k : IntKind} {l : List Int} (h : w.heap[b]? = some (.cells (ints k l).toArray t (0, 0))) (i : Nat) (hi : i < l.length) : w.cell? ⟨b, i, none⟩ = some (.int k (l.getD i 0)) := by
  rw [cell_of_row w b _ _ _ _ h, List.getElem?_toArray, ints_getElem? _ _ _ hi]
/-! arrays of integers compared -/
theorem run_part_ints {P : Program} {w : World} {e : TypeId} {k : IntKind} (he : P.underlying e = some (.int k)) (l : List Int) (i : Nat) (h : i < l.length) :
    (part e (ints k l).toArray i).run P w = .ok (.int k (l.getD i 0)) w := by
  have hagg : (isAgg e).run P w = .ok false w := by
    unfold isAgg
    rw [Sem.run_bind, run_underlying he w]
    rfl
  unfold part
  rw [Sem.run_bind, hagg]
  simp only [Result.andThen_ok, Bool.false_eq_true, if_false, List.getElem?_toArray, ints_getElem? _ _ _ h]
  rfl
theorem run_eq_from {P : Program} {w : World} {e : TypeId} {k : IntKind} (d : Nat) (he : P.underlying e = some (.int k)) (l l' : List Int) :
    ∀ (m i : Nat), i + m ≤ l.length → i + m ≤ l'.length →
      (forIn (m := Sem) (List.range' i m) ((none, ()) : Option Bool × Unit) fun j _ => do
        if !(← Op.equalIn (d + 1) e (← part e (ints k l).toArray (j * 1)) (← part e (ints k l').toArray (j * 1))) then pure (.done (some false, ())) else pure (.yield (none, ()))).run P w
      = .ok (if (l.drop i).take m = (l'.drop i).take m then (none, ()) else (some false, ())) w
  | 0, i, _, _ => by simp
  | m + 1, i, h1, h2 => by
    have ih := run_eq_from (w := w) d he l l' m (i + 1) (by omega) (by omega)
    rw [List.range'_succ, List.forIn_cons]
    simp only [Nat.mul_one] at ih ⊢
    simp only [Sem.run_bind, run_part_ints he l i (by omega), run_part_ints he l' i (by omega), Result.andThen_ok, run_equalIn_int w d e k k _ _ he]
    rw [List.drop_eq_getElem_cons (by omega : i < l.length), List.drop_eq_getElem_cons (by omega : i < l'.length), List.take_succ_cons, List.take_succ_cons]
    by_cases hq : l[i] = l'[i]
    · simp only [List.getD_eq_getElem?_getD, List.getElem?_eq_getElem (by omega : i < l.length), List.getElem?_eq_getElem (by omega : i < l'.length), Option.getD_some, hq, beq_self_eq_true, Bool.not_true, Bool.false_eq_true, if_false, Sem.run_pure, Result.andThen_ok]
      rw [ih]
      simp
    · simp only [List.getD_eq_getElem?_getD, List.getElem?_eq_getElem (by omega : i < l.length), List.getElem?_eq_getElem (by omega : i < l'.length), Option.getD_some, beq_eq_false_iff_ne.2 hq, Bool.not_false, if_true, Sem.run_pure, Result.andThen_ok]
      rw [if_neg (by simp [hq])]
theorem run_equalIn_ints {P : Program} {w : World} {t e : TypeId} {k : IntKind} {n : Nat} (d : Nat) (ht : P.underlying t = some (.array n e)) (he : P.underlying e = some (.int k)) (hs : (P.info? e).map (·.size) = some 1)
    (l l' : List Int) (h : l.length = n) (h' : l'.length = n) :
    (Op.equalIn (d + 2) t (.agg (ints k l).toArray) (.agg (ints k l').toArray)).run P w = .ok (decide (l = l')) w := by
  have hz : (sizeOf e).run P w = .ok 1 w := by
    cases hq : P.info? e with
    | none => simp [hq] at hs
    | some i => simp [hq] at hs; simp [sizeOf, typeInfo, hq, hs]
  have hf := run_eq_from (w := w) d he l l' n 0 (by omega) (by omega)
  have e1 : l.take n = l := List.take_of_length_le (by omega)
  have e2 : l'.take n = l' := List.take_of_length_le (by omega)
  simp only [List.drop_zero, e1, e2] at hf
  rw [Op.equalIn, Sem.run_bind, run_underlying ht, Result.andThen_ok]
  simp only [Sem.run_bind, hz, Result.andThen_ok]
  simp only [Std.Legacy.Range.forIn_eq_forIn_range', Std.Legacy.Range.size, Nat.sub_zero, Nat.add_sub_cancel, Nat.div_one]
  rw [hf]
  by_cases hq : l = l'
  · simp [hq]
  · simp [hq]
/-- the same as the walk spells it -/
theorem run_equal_ints {P : Program} {t e : TypeId} {k : IntKind} {n : Nat} (ht : P.underlying t = some (.array n e)) (he : P.underlying e = some (.int k)) (hs : (P.info? e).map (·.size) = some 1)
    (l l' : List Int) (h : l.length = n) (h' : l'.length = n) (b : Bool) (hb : decide (l = l') = b) (w : World) :
    (Op.equalIn 10000 t (.agg (ints k l).toArray) (.agg (ints k l').toArray)).run P w = .ok b w := by
  subst hb
  exact run_equalIn_ints (w := w) 9998 ht he hs l l' h h'
/-- 'a[i]' of an array of integers by value -/
theorem run_index_ints {P : Program} {t e : TypeId} {k : IntKind} {n : Nat} (ht : P.underlying t = some (.array n e)) (he : P.underlying e = some (.int k)) (hs : (P.info? e).map (·.size) = some 1)
    (l : List Int) (h : l.length = n) (kk : IntKind) (i : Nat) (hi : i < n) (x : Int) (hx : l.getD i 0 = x) (w : World) :
    (Instr.index t (.agg (ints k l).toArray) (.int kk i)).run P w = .ok (.int k x) w := by
  subst hx
  have hz : (sizeOf e).run P w = .ok 1 w := by
    cases hq : P.info? e with
    | none => simp [hq] at hs
    | some i => simp [hq] at hs; simp [sizeOf, typeInfo, hq, hs]
  unfold Instr.index
  rw [Sem.run_bind, show (asIntOf (.int kk (i : Int))).run P w = .ok (kk, (i : Int)) w from rfl, Result.andThen_ok]
  simp only [Sem.run_bind, run_underlying ht, Result.andThen_ok]
  rw [if_pos (by omega)]
  simp only [Sem.run_bind, hz, Result.andThen_ok, Int.toNat_natCast, Nat.mul_one]
  exact run_part_ints he l i (by omega)
theorem run_eqGuard_agg {P : Program} {w : World} {t : TypeId} (hg : P.eqGuardType P.depth t = false) (op : BinOp) (x y : Operand) (a b : Array Value) :
    (eqGuard op t x y (.agg a) (.agg b)).run P w = .ok () w := by
  unfold eqGuard
  split <;> simp [Sem.run_bind, run_program, hg]
theorem run_eql_ints {P : Program} {w : World} {t e : TypeId} {k : IntKind} {n : Nat} (ht : P.underlying t = some (.array n e)) (he : P.underlying e = some (.int k)) (hs : (P.info? e).map (·.size) = some 1)
    (hg : P.eqGuardType P.depth t = false) (x y : Operand) (l l' : List Int) (h : l.length = n) (h' : l'.length = n) :
    (do eqGuard .eql t x y (.agg (ints k l).toArray) (.agg (ints k l').toArray); binOp .eql t (.agg (ints k l).toArray) (.agg (ints k l').toArray) : Sem Value).run P w = .ok (.bool (decide (l = l'))) w := by
  rw [Sem.run_bind, run_eqGuard_agg hg, Result.andThen_ok]
  show (do pure (.bool (← Op.equal t (.agg (ints k l).toArray) (.agg (ints k l').toArray))) : Sem Value).run P w = _
  unfold Op.equal
  rw [Sem.run_bind, show Op.maxDepth = 9998 + 2 from rfl, run_equalIn_ints _ ht he hs l l' h h']
  rfl
/-- '==' of two arrays of integers -/
theorem wpList_eql_ints {P : Program} {ops : Array Oper} {Q : Exit → Act → World → Prop} {a : Act} {w : World} {rest : List Oper} {o : Oper} (hw : Region.wanted o (yielded ops a.tmps) = true)
    (t t' : TypeId) (x y : Operand) (ho : o.op = .binOp .eql t x y t') (k : IntKind) (l l' : List Int) (X Y : Array Value) (hx : a.eval x = .agg X) (hy : a.eval y = .agg Y) (eX : X = (ints k l).toArray) (eY : Y = (ints k l').toArray) (n : Nat) (e : TypeId)
    (ht : P.underlying t = some (.array n e)) (he : P.underlying e = some (.int k)) (hs : (P.info? e).map (·.size) = some 1) (hg : P.eqGuardType P.depth t = false) (h1 : l.length = n) (h2 : l'.length = n)
    (b : Bool) (hb : decide (l = l') = b) (h : wpList P ops Q rest (a.put o.dst (.bool b)) w) : wpList P ops Q (o :: rest) a w := by
  subst hb eX eY
  refine BigFrame.wpList_want hw fun K hK => ?_
  have hr := run_eql_ints (P := P) (w := w) ht he hs hg x y l l' h1 h2
  unfold Oper.wp
  simp only [execOp, ho, hx, hy]
  rw [Sem.run_bind, hr]
  exact hK _ _ h
theorem run_neq_ints {P : Program} {w : World} {t e : TypeId} {k : IntKind} {n : Nat} (ht : P.underlying t = some (.array n e)) (he : P.underlying e = some (.int k)) (hs : (P.info? e).map (·.size) = some 1)
    (hg : P.eqGuardType P.depth t = false) (x y : Operand) (l l' : List Int) (h : l.length = n) (h' : l'.length = n) :
    (do eqGuard .neq t x y (.agg (ints k l).toArray) (.agg (ints k l').toArray); binOp .neq t (.agg (ints k l).toArray) (.agg (ints k l').toArray) : Sem Value).run P w = .ok (.bool (!decide (l = l'))) w := by
  rw [Sem.run_bind, run_eqGuard_agg hg, Result.andThen_ok]
  show (do pure (.bool (!(← Op.equal t (.agg (ints k l).toArray) (.agg (ints k l').toArray)))) : Sem Value).run P w = _
  unfold Op.equal
  rw [Sem.run_bind, show Op.maxDepth = 9998 + 2 from rfl, run_equalIn_ints _ ht he hs l l' h h']
  rfl
/-- '!=' of two arrays of integers -/
theorem wpList_neq_ints {P : Program} {ops : Array Oper} {Q : Exit → Act → World → Prop} {a : Act} {w : World} {rest : List Oper} {o : Oper} (hw : Region.wanted o (yielded ops a.tmps) = true)
    (t t' : TypeId) (x y : Operand) (ho : o.op = .binOp .neq t x y t') (k : IntKind) (l l' : List Int) (X Y : Array Value) (hx : a.eval x = .agg X) (hy : a.eval y = .agg Y) (eX : X = (ints k l).toArray) (eY : Y = (ints k l').toArray) (n : Nat) (e : TypeId)
    (ht : P.underlying t = some (.array n e)) (he : P.underlying e = some (.int k)) (hs : (P.info? e).map (·.size) = some 1) (hg : P.eqGuardType P.depth t = false) (h1 : l.length = n) (h2 : l'.length = n)
    (b : Bool) (hb : (!decide (l = l')) = b) (h : wpList P ops Q rest (a.put o.dst (.bool b)) w) : wpList P ops Q (o :: rest) a w := by
  subst hb eX eY
  refine BigFrame.wpList_want hw fun K hK => ?_
  have hr := run_neq_ints (P := P) (w := w) ht he hs hg x y l l' h1 h2
  unfold Oper.wp
  simp only [execOp, ho, hx, hy]
  rw [Sem.run_bind, hr]
  exact hK _ _ h
/-- '!=' of two arrays of integers, as a step of a region that draws -/
theorem step_neq_ints {P : Program} {ops : Array Oper} {o : Oper} {a : Act} {w : World} {K : Act → World → Prop} {Q : Exit → Act → World → Prop} {E : Prop} (hw : Region.wanted o (yielded ops a.tmps) = true)
    (t t' : TypeId) (x y : Operand) (ho : o.op = .binOp .neq t x y t') (k : IntKind) (l l' : List Int) (X Y : Array Value) (hx : a.eval x = .agg X) (hy : a.eval y = .agg Y) (eX : X = (ints k l).toArray) (eY : Y = (ints k l').toArray) (n : Nat) (e : TypeId)
    (ht : P.underlying t = some (.array n e)) (he : P.underlying e = some (.int k)) (hs : (P.info? e).map (·.size) = some 1) (hg : P.eqGuardType P.depth t = false) (h1 : l.length = n) (h2 : l'.length = n)
    (b : Bool) (hb : (!decide (l = l')) = b) (h : K (a.put o.dst (.bool b)) w) : if Region.wanted o (yielded ops a.tmps) = true then Oper.wp P o a w K Q else E := by
  subst hb eX eY
  rw [if_pos hw]
  have hr := run_neq_ints (P := P) (w := w) ht he hs hg x y l l' h1 h2
  unfold Oper.wp
  simp only [execOp, ho, hx, hy]
  rw [Sem.run_bind, hr]
  exact h
/-- a new block into which a row is laid at once -/
theorem alloc_store (w : World) (k : IntKind) (Z L : List Int) (t : TypeId) (h : L.length = Z.length) :
    ((w.alloc (.cells (ints k Z).toArray t)).setCells w.heap.size 0 (ints k L)).heap[w.heap.size]? = some (.cells (ints k L).toArray t (0, 0)) ∧
    Upd (fun _ => False) w ((w.alloc (.cells (ints k Z).toArray t)).setCells w.heap.size 0 (ints k L)) ∧ (w.alloc (.cells (ints k Z).toArray t)).there w.heap.size 0 L.length := by
  have h0 := heap_alloc_last w (.cells (ints k Z).toArray t)
  refine ⟨?_, Upd.setCells (by right; exact Nat.le_refl _) _ _ ((Upd.refl _ _).alloc _), there_block h0 0 L.length (by omega)⟩
  rw [heap_setCells_same _ _ (ints k L) 0 _ (ints k Z) h0 (by rw [ints_length, ints_length, h]; omega), splice_ints, splice_all _ _ h]
/-- 'copy' over a whole block of integers -/
theorem wpList_copy_ints {P : Program} {w : World} {ops : Array Oper} {rest : List Oper} {o : Oper} {a : Act} {Q : Exit → Act → World → Prop} (hgd : o.guard = none) (d s : Operand) (dT sT : TypeId)
    (ho : o.op = .call { callee := .builtin .copy, args := #[d, s], argTypes := #[dT, sT] }) (elem : TypeId) (hu : P.underlying dT = some (.slice elem)) (hsz : (P.info? elem).map (·.size) = some 1)
    (g dLen dCap b off sLen sCap : Nat) (hd : a.eval d = .slice (some ⟨g, 0, none⟩) dLen dCap) (hs : a.eval s = .slice (some ⟨b, off, none⟩) sLen sCap)
    (k : IntKind) (cur l : List Int) (t : TypeId) (hg : w.heap[g]? = some (.cells (ints k cur).toArray t (0, 0))) (hc : cur.length = dLen) (hl : l.length = dLen) (hsl : sLen = dLen)
    (hsrc : w.rangeAt b off (ints k l))
    (h : ∀ w', Hid (w'.heap[g]? = some (.cells (ints k l).toArray t (0, 0))) → Upd (· = g) w w' → wpList P ops Q rest (a.put o.dst (goInt dLen)) w') : wpList P ops Q (o :: rest) a w := by
  subst hsl
  refine wpList_copy_own hgd d s dT sT ho elem hu hsz g 0 _ dCap ⟨b, off, none⟩ _ sCap hd hs (ints k cur).toArray t hg (ints k l) (by rw [ints_length, hl]; simp) (fun j v hv => by rw [Addr.add_mid]; exact hsrc j v hv) (by simp [ints_length]; omega)
    (fun v hv => by obtain ⟨z, _, rfl⟩ := List.mem_map.1 hv; rfl) ?_
  rw [ints_length, hl]
  refine h _ (show _ = _ from ?_) ⟨rfl, rfl, rfl, by simp [World.setRow], fun i _ hi => setRow_other w g i _ hi⟩
  rw [setRow_heap w g _ _ t _ hg]
  simp [ints_length, hc, List.drop_eq_nil_of_le]
/-- a region that draws, of which all but a tail in one order only reads: the world behind the draw under a name -/
theorem wp_region_tail {P : Program} {id : Nat} {Q : Exit → Act → World → Prop} {a : Act} {w : World} {l : List Oper} (n : Nat) (hm : P.follows .mixedOrders = true) (hB : Region.lexTailB .any l.toArray n = true)
    (h : ∀ w2, w2 = w.drew → wpStill P l.toArray w2 (fun a' => wpList P l.toArray Q (l.drop n) a' w2) (l.take n) a) : (Code.region id l.toArray true).wp P Q a w :=
  wp_region_still_tail n hm hB (h _ rfl)
/-- a whole array loaded in a region that draws, ahead of its tail -/
theorem wpStill_load_sz {P : Program} {ops : Array Oper} {rest : List Oper} {op : Oper} {a : Act} {w : World} {Q : Act → Prop} (hw : Region.wanted op (yielded ops a.tmps) = true) (ty : TypeId) (x : Operand) (ho : op.op = .load ty x)
    (b o : Nat) (hx : a.eval x = .pointer (some ⟨b, o, none⟩)) (cs : List Value) (d : TypeDesc) (hc : w.rangeAt b o cs)
    (hu : P.underlying ty = some d) (hd : d.isRow = true) (k : Nat) (hk : cs.length = k) (hi : (P.info? ty).map (·.size) = some k)
    (h : wpStill P ops w Q rest (a.put op.dst (.agg cs.toArray))) : wpStill P ops w Q (op :: rest) a := by
  subst hk
  refine wpStill_step fun K hK => ?_
  rw [if_pos hw]
  unfold Oper.still execOp
  simp only [ho, hx, Instr.loadAt, Instr.sureAddr, Sem.run_bind, Sem.run_pure, Result.andThen_ok, run_loadVar_mid w b o ty cs d hc hu hd hi]
  exact ⟨rfl, hK _ h⟩
/-- a whole array loaded, guarded or not -/
theorem wpList_load_sz {P : Program} {ops : Array Oper} {rest : List Oper} {op : Oper} {a : Act} {w : World} {Q : Exit → Act → World → Prop} (hw : Region.wanted op (yielded ops a.tmps) = true) (ty : TypeId) (x : Operand) (ho : op.op = .load ty x)
    (b o : Nat) (hx : a.eval x = .pointer (some ⟨b, o, none⟩)) (cs : List Value) (d : TypeDesc) (hc : w.rangeAt b o cs)
    (hu : P.underlying ty = some d) (hd : d.isRow = true) (k : Nat) (hk : cs.length = k) (hi : (P.info? ty).map (·.size) = some k)
    (h : wpList P ops Q rest (a.put op.dst (.agg cs.toArray)) w) : wpList P ops Q (op :: rest) a w := by
  subst hk
  exact BigFrame.wpList_want hw fun _ hK => wp_load_mid ty x ho b o hx cs d hc hu hd hi (hK _ _ h)
end Go.Proofs.YtgjppnbkklionaaDoor

/-
  The document's own instructions: which operands, which are right.
-/
namespace Go.Proofs.YtgjppnbkklionaaDoor
open Go.ChangeShapes Go.WideShapes Go.ChangeAt Go.RowKit

theorem size_b4 : (Tryd.prog.info? 40).map (·.size) = some 4 := by kernel_rfl
theorem ret_b4 {fn : Func} {p : Tmp} (h : fn.results = #[.cell p 40]) (tmps : Array Value) (w : World) (g : Nat) (a b c d : Bool) (hp : tmps.getD p undef = .pointer (some ⟨g, 0, none⟩)) (hg : w.heap[g]? = some (.cells #[.bool a, .bool b, .bool c, .bool d] 40 (0, 0))) :
    (results fn tmps).run Tryd.prog w = .ok (.agg #[.bool a, .bool b, .bool c, .bool d]) w :=
  results_cell_row h tmps w g _ _ _ _ hp hg Tryd.underlying40 rfl size_b4
set_option maxHeartbeats 4000000 in
theorem inames_any (op : Nat) (h : op < 12) (w : World) : Calls Tryd.prog 23 #[.int .i64 (op : Nat)] w fun e w' => e = .returned (.agg #[.bool (hasA op), .bool (hasB op), .bool (hasC op), .bool (hasM op)]) ∧ Upd (fun _ => False) w w' := by
  have hc : op = 0 ∨ op = 1 ∨ op = 2 ∨ op = 3 ∨ op = 4 ∨ op = 5 ∨ op = 6 ∨ op = 7 ∨ op = 8 ∨ op = 9 ∨ op = 10 ∨ op = 11 := by omega
  clear h
  rcases hc with rfl | rfl | rfl | rfl | rfl | rfl | rfl | rfl | rfl | rfl | rfl | rfl
  all_goals
    go_enter Tryd.func23, Tryd.ntmps23
    go_wp2
    (try simp only [Exit.inBlock, Exit.then])
    refine bodyPost_ret (ret_b4 rfl _ _ w.heap.size _ _ _ _ rfl (heap_alloc_last w _)) rfl ⟨?_, (Upd.refl _ _).alloc _⟩
    kernel_rfl
end Go.Proofs.YtgjppnbkklionaaDoor

/-
  The document's own instructions: Right, Word.
-/
namespace Go.Proofs.YtgjppnbkklionaaDoor
open Go.ChangeShapes Go.WideShapes Go.ChangeAt Go.RowKit

/-- the operands by their places -/
def Ins.p (i : Ins) : Nat → Int
  | 0 => i.a
  | 1 => i.b
  | 2 => i.c
  | _ => i.m
def Ins.h (i : Ins) : Nat → Bool
  | 0 => hasA i.op
  | 1 => hasB i.op
  | 2 => hasC i.op
  | _ => hasM i.op
/-- what is asked of an operand -/
def Ins.fine (i : Ins) (k : Nat) : Prop := (0 ≤ i.p k ∧ (k < 3 → i.p k ≤ 7) ∧ i.p k ≤ 65535) ∧ (i.h k = false → i.p k = 0)
theorem Ins.ok_of {i : Ins} (h0 : 0 ≤ i.op ∧ i.op ≤ 11) (h : ∀ k, k < 4 → i.fine k) : i.right = true := by
  obtain ⟨a1, a2⟩ := h 0 (by omega)
  obtain ⟨b1, b2⟩ := h 1 (by omega)
  obtain ⟨c1, c2⟩ := h 2 (by omega)
  obtain ⟨m1, m2⟩ := h 3 (by omega)
  exact (Ins.right_iff i).2 ⟨h0, ⟨a1.1, a1.2.1 (by omega)⟩, ⟨b1.1, b1.2.1 (by omega)⟩, ⟨c1.1, c1.2.1 (by omega)⟩, ⟨m1.1, m1.2.2⟩, a2, b2, c2, m2⟩
theorem Ins.fine_of {i : Ins} (h : i.right = true) : ∀ k, i.fine k := by
  have q := (Ins.right_iff i).1 h
  intro k
  match k with
  | 0 => exact ⟨⟨q.a.1, fun _ => q.a.2, by have := q.a.2; show i.a ≤ 65535; omega⟩, q.na⟩
  | 1 => exact ⟨⟨q.b.1, fun _ => q.b.2, by have := q.b.2; show i.b ≤ 65535; omega⟩, q.nb⟩
  | 2 => exact ⟨⟨q.c.1, fun _ => q.c.2, by have := q.c.2; show i.c ≤ 65535; omega⟩, q.nc⟩
  | k + 3 => exact ⟨⟨q.m.1, fun h => by omega, q.m.2⟩, q.nm⟩
theorem Ins.bad_of {i : Ins} {k : Nat} (h : ¬ i.fine k) : i.right = false := by
  cases hr : i.right
  · rfl
  · exact absurd (Ins.fine_of hr k) h
set_option maxRecDepth 100000 in
set_option maxHeartbeats 4000000 in
theorem iright_any (i : Ins) (w : World) : Calls Tryd.prog 18 #[.agg #[.int .i64 i.op, .int .i64 i.a, .int .i64 i.b, .int .i64 i.c, .int .i64 i.m]] w fun e w' => e = .returned (.bool i.right) ∧ Upd (fun _ => False) w w' := by
  have U0 := Lib.hid ((Upd.refl (fun _ => False) w).alloc (.cells #[.int .i64 i.op, .int .i64 i.a, .int .i64 i.b, .int .i64 i.c, .int .i64 i.m] 23))
  by_cases o1 : i.op < 0
  · have hr := Lib.hid (show i.right = false from by unfold Ins.right; rw [decide_eq_false (by omega)]; rfl)
    go_enter Tryd.func18, Tryd.ntmps18
    go_wp2
    go_ret
    exact ⟨by rw [hr.out]; rfl, U0.out⟩
  by_cases o2 : 11 < i.op
  · have hr := Lib.hid (show i.right = false from by unfold Ins.right; rw [decide_eq_false (by omega)]; rfl)
    go_enter Tryd.func18, Tryd.ntmps18
    go_wp2
    go_ret
    exact ⟨by rw [hr.out]; rfl, U0.out⟩
  have hok := Lib.hid (Ins.ok_of (i := i) ⟨by omega, by omega⟩)
  have hbad := Lib.hid (fun k => Ins.bad_of (i := i) (k := k))
  have hfine : Hid (∀ k, i.fine k ↔ (0 ≤ i.p k ∧ (k < 3 → i.p k ≤ 7) ∧ i.p k ≤ 65535) ∧ (i.h k = false → i.p k = 0)) := Lib.hid (fun _ => Iff.rfl)
  have hp : Hid (i.p 0 = i.a ∧ i.p 1 = i.b ∧ i.p 2 = i.c ∧ i.p 3 = i.m ∧ i.h 0 = hasA i.op ∧ i.h 1 = hasB i.op ∧ i.h 2 = hasC i.op ∧ i.h 3 = hasM i.op) := Lib.hid ⟨rfl, rfl, rfl, rfl, rfl, rfl, rfl, rfl⟩
  generalize i.right = RR at hok hbad ⊢
  generalize i.fine = fine at hok hbad hfine
  generalize i.p = p at hfine hp
  generalize i.h = hh at hfine hp
  obtain ⟨op, a, b, c, m⟩ := i
  simp only at *
  obtain ⟨on, rfl⟩ := Int.eq_ofNat_of_zero_le (show 0 ≤ op by omega)
  have cN := Lib.hid (fun W => inames_any on (by omega) W)
  generalize hasA (on : Int) = hA at hp cN
  generalize hasB (on : Int) = hB at hp cN
  generalize hasC (on : Int) = hC at hp cN
  generalize hasM (on : Int) = hM at hp cN
  go_enter Tryd.func18, Tryd.ntmps18
  have X := heap_alloc_last w (.cells #[.int .i64 (on : Int), .int .i64 a, .int .i64 b, .int .i64 c, .int .i64 m] 23)
  have i0 : (w.alloc (.cells #[.int .i64 (on : Int), .int .i64 a, .int .i64 b, .int .i64 c, .int .i64 m] 23)).cell? ⟨w.heap.size, 0, none⟩ = some (.int .i64 on) := by rw [cell_of_row _ _ _ _ _ _ X]; rfl
  have HX := Lib.hid i0
  have HX1 := Lib.hid (show ∀ W, Upd (fun _ => False) (w.alloc (.cells #[.int .i64 (on : Int), .int .i64 a, .int .i64 b, .int .i64 c, .int .i64 m] 23)) W → W.cell? ⟨w.heap.size, 1, none⟩ = some (.int .i64 a) ∧ W.cell? ⟨w.heap.size, 2, none⟩ = some (.int .i64 b) ∧ W.cell? ⟨w.heap.size, 3, none⟩ = some (.int .i64 c) ∧ W.cell? ⟨w.heap.size, 4, none⟩ = some (.int .i64 m) from fun W u => by
    have h := u.at X id
    refine ⟨?_, ?_, ?_, ?_⟩ <;> (rw [cell_of_row _ _ _ _ _ _ h]; rfl))
  clear X
  go_wp2_with fail
  refine (cN.out _).mono ?_
  rintro e w2 ⟨rfl, u2⟩
  obtain ⟨q1, q2, q3, q4⟩ := HX1.out _ (u2.alloc (.cells #[.bool hA, .bool hB, .bool hC, .bool hM] 40))
  have V2 := Lib.hid (U0.out.trans u2)
  clear HX HX1 i0 u2 U0 cN
  generalize w.heap.size = XI at q1 q2 q3 q4 ⊢
  go_upto_region 4 with fail
  go_upto_region 5 with fail
  have hsz : (w2.alloc (.cells #[.bool hA, .bool hB, .bool hC, .bool hM] 40)).heap.size = w2.heap.size + 1 := by show (w2.heap.push _).size = _; simp
  have XP : ((w2.alloc (.cells #[.bool hA, .bool hB, .bool hC, .bool hM] 40)).alloc (.cells #[.int .i64 a, .int .i64 b, .int .i64 c, .int .i64 m] 38)).heap[w2.heap.size + 1]? = some (.cells #[.int .i64 a, .int .i64 b, .int .i64 c, .int .i64 m] 38 (0, 0)) := by rw [← hsz]; exact heap_alloc_last _ _
  have XN : ((w2.alloc (.cells #[.bool hA, .bool hB, .bool hC, .bool hM] 40)).alloc (.cells #[.int .i64 a, .int .i64 b, .int .i64 c, .int .i64 m] 38)).heap[w2.heap.size]? = some (.cells #[.bool hA, .bool hB, .bool hC, .bool hM] 40 (0, 0)) := ((Upd.refl (fun _ => False) _).alloc _).at (heap_alloc_last w2 _) id
  have V3 := Lib.hid ((V2.out.alloc (.cells #[.bool hA, .bool hB, .bool hC, .bool hM] 40)).alloc (.cells #[.int .i64 a, .int .i64 b, .int .i64 c, .int .i64 m] 38))
  have cp : Hid (∀ k : Nat, k < 4 → ((w2.alloc (.cells #[.bool hA, .bool hB, .bool hC, .bool hM] 40)).alloc (.cells #[.int .i64 a, .int .i64 b, .int .i64 c, .int .i64 m] 38)).cell? ⟨w2.heap.size + 1, k, none⟩ = some (.int .i64 (p k))) := Lib.hid (fun k hk => by
    obtain ⟨e0, e1, e2, e3, -⟩ := hp.out
    match k, hk with
    | 0, _ => rw [cell_of_row _ _ _ _ _ _ XP, e0]; rfl
    | 1, _ => rw [cell_of_row _ _ _ _ _ _ XP, e1]; rfl
    | 2, _ => rw [cell_of_row _ _ _ _ _ _ XP, e2]; rfl
    | 3, _ => rw [cell_of_row _ _ _ _ _ _ XP, e3]; rfl)
  have cn : Hid (∀ k : Nat, k < 4 → ((w2.alloc (.cells #[.bool hA, .bool hB, .bool hC, .bool hM] 40)).alloc (.cells #[.int .i64 a, .int .i64 b, .int .i64 c, .int .i64 m] 38)).cell? ⟨w2.heap.size, k, none⟩ = some (.bool (hh k))) := Lib.hid (fun k hk => by
    obtain ⟨-, -, -, -, e0, e1, e2, e3⟩ := hp.out
    match k, hk with
    | 0, _ => rw [cell_of_row _ _ _ _ _ _ XN, e0]; rfl
    | 1, _ => rw [cell_of_row _ _ _ _ _ _ XN, e1]; rfl
    | 2, _ => rw [cell_of_row _ _ _ _ _ _ XN, e2]; rfl
    | 3, _ => rw [cell_of_row _ _ _ _ _ _ XN, e3]; rfl)
  clear hsz XP XN V2 hp q1 q2 q3 q4
  generalize (w2.alloc (.cells #[.bool hA, .bool hB, .bool hC, .bool hM] 40)).alloc (.cells #[.int .i64 a, .int .i64 b, .int .i64 c, .int .i64 m] 38) = w3 at V3 cp cn ⊢
  generalize w2.heap.size + 1 = PB at cp ⊢
  generalize w2.heap.size = NB at cn ⊢
  go_wp2_with fail
  go_loopw [5] (fun t wr => ∃ k : Nat, k ≤ 4 ∧ t = .int .i64 k ∧ wr = w3 ∧ Hid (∀ j, j < k → fine j)) (fun t _ => 4 - (intOf t).toNat)
  case atStart => exact ⟨0, by omega, rfl, rfl, Lib.hid (fun j hj => absurd hj (by omega))⟩
  case round =>
    obtain ⟨k, hk, rfl, rfl, hall⟩ := hrel
    by_cases h4 : k < 4
    · have c1 := cp.out k h4
      have c2 := cn.out k h4
      have hf := hfine.out k
      have bad := Lib.hid (fun (h : ¬ ((0 ≤ p k ∧ (k < 3 → p k ≤ 7) ∧ p k ≤ 65535) ∧ (hh k = false → p k = 0))) => hbad.out k (fun f => h (hf.1 f)))
      have good := Lib.hid hf.2
      clear cp cn hf hfine
      generalize p k = z at c1 bad good
      generalize hh k = hb at c2 bad good
      have k0 : (0 : Int) ≤ (k : Int) := by omega
      have k4 : (k : Int) < 4 := by omega
      by_cases z0 : z < 0
      · have hr := bad.out (by omega)
        subst hr
        clear bad good hall hok hbad
        go_wp2
        go_ret
        exact ⟨rfl, V3.out⟩
      by_cases k3 : (k : Int) < 3
      · by_cases z7 : 7 < z
        · have hr := bad.out (by omega)
          subst hr
          clear bad good hall hok hbad
          go_wp2
          go_ret
          exact ⟨rfl, V3.out⟩
        have zb : ¬ 65535 < z := by omega
        cases hb
        · by_cases zz : z = 0
          · subst zz
            have g := good.out ⟨⟨by omega, by omega, by omega⟩, fun _ => rfl⟩
            clear bad good
            go_wp2
            go_roundw
            case rel => exact ⟨k + 1, by omega, by go_num, trivial, Lib.hid (fun j hj => (Nat.lt_succ_iff_lt_or_eq.1 hj).elim (hall.out j) (fun e => e ▸ g))⟩
            case measure => simp [intOf]; omega
          · have hr := bad.out (by simp [zz])
            subst hr
            clear bad good hall hok hbad
            have zz' : (z != 0) = true := by simp [zz]
            go_wp2
            go_ret
            exact ⟨rfl, V3.out⟩
        · have g := good.out ⟨⟨by omega, by omega, by omega⟩, fun h => by cases h⟩
          clear bad good
          go_wp2
          go_roundw
          case rel => exact ⟨k + 1, by omega, by go_num, trivial, Lib.hid (fun j hj => (Nat.lt_succ_iff_lt_or_eq.1 hj).elim (hall.out j) (fun e => e ▸ g))⟩
          case measure => simp [intOf]; omega
      · by_cases zb : 65535 < z
        · have hr := bad.out (by omega)
          subst hr
          clear bad good hall hok hbad
          go_wp2
          go_ret
          exact ⟨rfl, V3.out⟩
        cases hb
        · by_cases zz : z = 0
          · subst zz
            have g := good.out ⟨⟨by omega, by omega, by omega⟩, fun _ => rfl⟩
            clear bad good
            go_wp2
            go_roundw
            case rel => exact ⟨k + 1, by omega, by go_num, trivial, Lib.hid (fun j hj => (Nat.lt_succ_iff_lt_or_eq.1 hj).elim (hall.out j) (fun e => e ▸ g))⟩
            case measure => simp [intOf]; omega
          · have hr := bad.out (by simp [zz])
            subst hr
            clear bad good hall hok hbad
            have zz' : (z != 0) = true := by simp [zz]
            go_wp2
            go_ret
            exact ⟨rfl, V3.out⟩
        · have g := good.out ⟨⟨by omega, by omega, by omega⟩, fun h => by cases h⟩
          clear bad good
          go_wp2
          go_roundw
          case rel => exact ⟨k + 1, by omega, by go_num, trivial, Lib.hid (fun j hj => (Nat.lt_succ_iff_lt_or_eq.1 hj).elim (hall.out j) (fun e => e ▸ g))⟩
          case measure => simp [intOf]; omega
    · have e : k = 4 := by omega
      subst e
      have hr := hok.out (fun j hj => hall.out j hj)
      subst hr
      clear cp cn hall hok hbad hfine
      go_wp2
      go_ret
      exact ⟨rfl, V3.out⟩
end Go.Proofs.YtgjppnbkklionaaDoor

/-
  The document's own instructions: Word, Of.
-/
namespace Go.Proofs.YtgjppnbkklionaaDoor
open Go.ChangeShapes Go.WideShapes Go.ChangeAt Go.RowKit

/-- what Word answers -/
def Ins.wv (i : Ins) : Int := if i.right = true then i.word else 0
def Ins.we (i : Ins) : Int := if i.right = true then 0 else 1
theorem size_ins : (Tryd.prog.info? 23).map (·.size) = some 5 := by kernel_rfl
theorem ins_len (o a b c m : Int) : ([.int .i64 o, .int .i64 a, .int .i64 b, .int .i64 c, .int .i64 m] : List Value).length = 5 := rfl
/-- an instruction in memory -/
def InsAt (w : World) (X : Nat) (i : Ins) : Prop := w.heap[X]? = some (.cells ([.int .i64 i.op, .int .i64 i.a, .int .i64 i.b, .int .i64 i.c, .int .i64 i.m] : List Value).toArray 23 (0, 0))
theorem InsAt.range {w : World} {X : Nat} {i : Ins} (h : InsAt w X i) : w.rangeAt X 0 [.int .i64 i.op, .int .i64 i.a, .int .i64 i.b, .int .i64 i.c, .int .i64 i.m] := World.rangeAt_of_block h 0 5
theorem InsAt.kept {S : Nat → Prop} {w w' : World} {X : Nat} {i : Ins} (h : InsAt w X i) (u : Upd S w w') (hs : ¬ S X) : InsAt w' X i := u.at h hs
theorem InsAt.c {w : World} {X : Nat} {i : Ins} (h : InsAt w X i) : w.cell? ⟨X, 0, none⟩ = some (.int .i64 i.op) ∧ w.cell? ⟨X, 1, none⟩ = some (.int .i64 i.a) ∧ w.cell? ⟨X, 2, none⟩ = some (.int .i64 i.b) ∧ w.cell? ⟨X, 3, none⟩ = some (.int .i64 i.c) ∧ w.cell? ⟨X, 4, none⟩ = some (.int .i64 i.m) :=
  ⟨h.range 0 _ rfl, h.range 1 _ rfl, h.range 2 _ rfl, h.range 3 _ rfl, h.range 4 _ rfl⟩
set_option maxRecDepth 100000 in
set_option maxHeartbeats 2000000 in
theorem iword_any (i : Ins) (w : World) : Calls Tryd.prog 9 #[.agg #[.int .i64 i.op, .int .i64 i.a, .int .i64 i.b, .int .i64 i.c, .int .i64 i.m]] w fun e w' => e = .returned (.tuple #[.int .u64 i.wv, .int .i64 i.we]) ∧ Upd (fun _ => False) w w' := by
  have X := Lib.hid (show InsAt (w.alloc (.cells #[.int .i64 i.op, .int .i64 i.a, .int .i64 i.b, .int .i64 i.c, .int .i64 i.m] 23)) w.heap.size i from heap_alloc_last w _)
  have U0 := Lib.hid ((Upd.refl (fun _ => False) w).alloc (.cells #[.int .i64 i.op, .int .i64 i.a, .int .i64 i.b, .int .i64 i.c, .int .i64 i.m] 23))
  have cR := Lib.hid (fun W => iright_any i W)
  cases hr : i.right
  · have h1 : i.wv = 0 := by unfold Ins.wv; rw [hr]; rfl
    have h2 : i.we = 1 := by unfold Ins.we; rw [hr]; rfl
    rw [hr] at cR
    rw [h1, h2]
    clear h1 h2 hr
    go_enter Tryd.func9, Tryd.ntmps9
    go_wp2_with (with_reducible refine wpList_load_sz rfl 23 (.tmp 1) rfl w.heap.size 0 rfl [.int .i64 i.op, .int .i64 i.a, .int .i64 i.b, .int .i64 i.c, .int .i64 i.m] _ X.out.range Tryd.underlying23 rfl 5 (ins_len _ _ _ _ _) size_ins ?_)
    refine (cR.out _).mono ?_
    rintro e w2 ⟨rfl, u2⟩
    go_wp2
    go_ret2
    exact ⟨rfl, U0.out.trans u2⟩
  · have h1 : i.wv = i.word := by unfold Ins.wv; rw [hr]; rfl
    have h2 : i.we = 0 := by unfold Ins.we; rw [hr]; rfl
    have ok := (Ins.right_iff i).1 hr
    rw [hr] at cR
    rw [h1, h2]
    obtain ⟨⟨o0, o1⟩, ⟨a0, a1⟩, ⟨b0, b1⟩, ⟨c0, c1⟩, ⟨m0, m1⟩, -, -, -, -⟩ := ok
    have hw := Lib.hid (show i.word = i.op + 256 * i.a + 2048 * i.b + 16384 * i.c + 16777216 * i.m from rfl)
    generalize i.word = wd at hw ⊢
    clear h1 h2 hr
    go_enter Tryd.func9, Tryd.ntmps9
    go_wp2_with (with_reducible refine wpList_load_sz rfl 23 (.tmp 1) rfl w.heap.size 0 rfl [.int .i64 i.op, .int .i64 i.a, .int .i64 i.b, .int .i64 i.c, .int .i64 i.m] _ X.out.range Tryd.underlying23 rfl 5 (ins_len _ _ _ _ _) size_ins ?_)
    refine (cR.out _).mono ?_
    rintro e w2 ⟨rfl, u2⟩
    obtain ⟨e0, e1, e2, e3, e4⟩ := (X.out.kept u2 id).c
    have V2 := Lib.hid (U0.out.trans u2)
    clear X U0 u2 cR
    generalize w.heap.size = XI at e0 e1 e2 e3 e4 ⊢
    obtain ⟨op, a, b, c, m⟩ := i
    simp only at *
    go_wp2
    go_ret2
    refine ⟨?_, V2.out⟩
    rw [hw.out]
    rfl
end Go.Proofs.YtgjppnbkklionaaDoor
