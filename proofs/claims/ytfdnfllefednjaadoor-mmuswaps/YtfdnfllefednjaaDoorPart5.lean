/-
  Texts that the laws stand on, joined: BuU, MapK, BgA, BgB, BgC, BgD, BgE, BuL, BuH, Lay, MapS, BgF, BgG, BuV, BgH, BuW, BuY, BgI, BgJ.
-/
import Derived.Deep.CutBlock
import Derived.Deep.DeepCutAuto
import Derived.Deep.LoopGhost
import Derived.Deep.RegionHeld3
import Derived.Deep.RegionLaw
import Derived.Maps.OwnOps
import Derived.Maps.OwnSet
import Derived.Maps.RangeWalk
import Derived.Shelf.SlIterI.Nil
import Derived.Shelf.SortM.Plain
import Derived.Shelf.SortM.SortNone
import Derived.WalkMore
import Derived.Test.YtfdnfllefednjaaDoorPart4

/-
  The document's own allocator: Alloc.
-/
namespace Go.Proofs.YtfdnfllefednjaaDoor
open Go.ChangeShapes Go.WideShapes Go.ChangeAt Go.RowKit

theorem bcells_get (l : List (Nat × Nat)) : ∀ i, i < l.length → (bcells l)[i * 2]? = some (.int .i64 ((l.getD i (0, 0)).1 : Int)) ∧ (bcells l)[i * 2 + 1]? = some (.int .i64 ((l.getD i (0, 0)).2 : Int)) := by
  induction l with
  | nil => intro i hi; simp at hi
  | cons x r ih =>
    intro i hi
    rw [show x :: r = [x] ++ r from rfl, bcells_app]
    have e : bcells [x] = [.int .i64 (x.1 : Int), .int .i64 (x.2 : Int)] := rfl
    rw [e]
    cases i with
    | zero => exact ⟨rfl, rfl⟩
    | succ i =>
      have := ih i (by simpa using hi)
      rw [show (i + 1) * 2 = i * 2 + 2 from by omega]
      exact ⟨by simpa using this.1, by simpa using this.2⟩
theorem bcells_one (l : List (Nat × Nat)) : ∀ u ∈ bcells l, u.oneCell' = true := by
  intro u hu
  simp only [bcells, List.mem_flatMap] at hu
  obtain ⟨x, _, hx⟩ := hu
  simp at hx
  rcases hx with rfl | rfl <;> rfl
/-- a slice of blocks that can be read -/
def BRow (w : World) (v : Value) (l : List (Nat × Nat)) : Prop := ∃ o cap, v = .slice o l.length cap ∧ ∀ i, i < l.length → ∃ g, o = some ⟨g, 0, none⟩ ∧ w.cell? ⟨g, i * 2, none⟩ = some (.int .i64 ((l.getD i (0, 0)).1 : Int)) ∧ w.cell? ⟨g, i * 2 + 1, none⟩ = some (.int .i64 ((l.getD i (0, 0)).2 : Int))
theorem brow_of {w : World} {base : Nat} {e : TypeId} {v : Value} {l : List (Nat × Nat)} (h : w.ownsRow base e 2 v l.length (bcells l)) : BRow w v l := by
  rcases h.2 with ⟨rfl, h0⟩ | ⟨g, cap, cur, rfl, hb, hg, _⟩
  · exact ⟨none, 0, by rw [h0], fun i hi => by omega⟩
  · refine ⟨_, cap, rfl, fun i hi => ⟨g, rfl, ?_, ?_⟩⟩
    · have := h.cells (g := g) rfl (i * 2) _ (bcells_get l i hi).1
      rwa [add_mid0, Nat.zero_add] at this
    · have := h.cells (g := g) rfl (i * 2 + 1) _ (bcells_get l i hi).2
      rwa [add_mid0, Nat.zero_add] at this
theorem BRow.drewN {w : World} {v : Value} {l : List (Nat × Nat)} (h : BRow w v l) (n : Nat) : BRow (w.drewN n) v l := h

/-- where the scan stands: bi the best one's place, or -1 -/
def Best (o : Nat) (L : List (Nat × Nat)) (i : Nat) (bi : Int) : Prop := (bi = -1 ∧ pick o (L.take i) = none) ∨ ∃ j : Nat, bi = j ∧ j < i ∧ pick o (L.take i) = some (L.getD j (0, 0))
theorem take_snoc (L : List (Nat × Nat)) (i : Nat) (h : i < L.length) : L.take (i + 1) = L.take i ++ [L.getD i (0, 0)] := by
  rw [List.take_add_one, List.getElem?_eq_getElem h]
  simp [List.getElem?_eq_getElem h]
theorem Best.low {o : Nat} {L : List (Nat × Nat)} {i : Nat} {bi : Int} (h : Best o L i bi) (hi : i < L.length) (hx : ¬ o ≤ (L.getD i (0, 0)).2) : Best o L (i + 1) bi := by
  unfold Best
  rw [take_snoc L i hi, pick_snoc]
  rcases h with ⟨h1, h2⟩ | ⟨j, h1, h2, h3⟩
  · left; rw [h2]; unfold better; exact ⟨h1, if_neg hx⟩
  · right; refine ⟨j, h1, by omega, ?_⟩; rw [h3]; unfold better; simp only [hx, false_and, if_false]
theorem Best.first {o : Nat} {L : List (Nat × Nat)} {i : Nat} (h : Best o L i (-1)) (hi : i < L.length) (hx : o ≤ (L.getD i (0, 0)).2) : Best o L (i + 1) i := by
  unfold Best
  rw [take_snoc L i hi, pick_snoc]
  rcases h with ⟨h1, h2⟩ | ⟨j, h1, h2, h3⟩
  · right; refine ⟨i, rfl, by omega, ?_⟩; rw [h2]; unfold better; simp only [hx, if_true]
  · omega
theorem Best.more {o : Nat} {L : List (Nat × Nat)} {i j : Nat} (h : Best o L i j) (hi : i < L.length) (hx : o ≤ (L.getD i (0, 0)).2) (hl : (L.getD i (0, 0)).2 < (L.getD j (0, 0)).2) : Best o L (i + 1) i := by
  unfold Best
  rw [take_snoc L i hi, pick_snoc]
  rcases h with ⟨h1, h2⟩ | ⟨j', h1, h2, h3⟩
  · omega
  · right; refine ⟨i, rfl, by omega, ?_⟩
    rw [h3, show j' = j from by omega]; unfold better; simp only [hx, hl, and_self, if_true]
theorem Best.stay {o : Nat} {L : List (Nat × Nat)} {i j : Nat} (h : Best o L i j) (hi : i < L.length) (hl : ¬ (L.getD i (0, 0)).2 < (L.getD j (0, 0)).2) : Best o L (i + 1) j := by
  unfold Best
  rw [take_snoc L i hi, pick_snoc]
  rcases h with ⟨h1, h2⟩ | ⟨j', h1, h2, h3⟩
  · omega
  · right; refine ⟨j, rfl, by omega, ?_⟩
    rw [h3, show j' = j from by omega]; unfold better; simp only [hl, and_false, if_false]
theorem src_new (w : World) (x y : Value) (t : TypeId) : Src (w.alloc (.cells #[x, y] t)) (.slice (some ⟨w.heap.size, 0, none⟩) 1 1) 1 2 [x, y] :=
  .inr ⟨w.heap.size, 0, 1, rfl, rfl, fun j u hu => by have := cell_two w x y t j u hu; rwa [add_mid0] at this⟩
/-- a new slice out of an empty one: nothing that was there has turned -/
theorem gave_upd {wr w4 w5 : World} {e t : TypeId} {c : Array Value} {og4 : Option Addr} {n4 cap4 : Nat} {sz n base : Nat} {v : Value} {xs : List Value} (_ : wr.ownsRow base e sz v n xs)
    (g4 : (wr.alloc (.cells #[] e)).grownBy w4 (Value.slice (some ⟨wr.heap.size, 0, none⟩) 0 0).ownBlock) (g5 : (w4.alloc (.cells c t)).grownBy w5 (Value.slice og4 n4 cap4).ownBlock) (h4 : ∀ k, (Value.slice og4 n4 cap4).ownBlock = some k → wr.heap.size ≤ k) :
    Upd (fun _ => False) wr w5 := by
  refine ⟨by rw [g5.os]; exact g4.os, by rw [g5.tape]; exact g4.tape, by rw [g5.output]; exact g4.output, ?_, fun k hk _ => ?_⟩
  · have a := g4.size
    have b := g5.size
    simp at a b
    omega
  · have a := g4.size
    simp at a
    rw [g5.block k (by simp; omega) (fun e' => by have := h4 k e'.symm; omega), Below.heap_alloc _ _ _ (by omega), g4.block k (by simp; omega) (fun e' => by simp [Value.ownBlock] at e'; omega), Below.heap_alloc _ _ _ hk]
theorem row_base {w : World} {base base' sz k : Nat} {e : TypeId} {v : Value} {xs : List Value} (h : w.ownsRow base e sz v k xs) (hb : base' ≤ base) : w.ownsRow base' e sz v k xs := by
  refine ⟨h.1, ?_⟩
  rcases h.2 with hn | ⟨g, cap, cur, rfl, h1, rest⟩
  · exact .inl hn
  · exact .inr ⟨g, cap, cur, rfl, by omega, rest⟩
/-- taken from f up to i -/
def cutTo (F : Nat → Bool) (f i : Nat) : Nat → Bool := fun j => F j && !(decide (f ≤ j) && decide (j < i))
theorem cutTo_start (F : Nat → Bool) (f : Nat) : cutTo F f f = F := by
  funext j
  unfold cutTo
  rw [show (decide (f ≤ j) && decide (j < f)) = false from by simp]
  simp
theorem cutTo_step (n : Nat) (F : Nat → Bool) (f i : Nat) (h : f ≤ i) : fcells n (updF (cutTo F f i) i false) = fcells n (cutTo F f (i + 1)) := fcells_congr fun j _ => by
  unfold updF cutTo
  by_cases e : j = i
  · rw [if_pos e, e]; simp [h]
  · rw [if_neg e]
    by_cases h2 : j < i
    · simp [h2, Nat.lt_succ_of_lt h2]
    · simp [h2, show ¬ j < i + 1 from by omega]
theorem ty_ne {w : World} {base sz k : Nat} {e t : TypeId} {v : Value} {xs : List Value} {X : Nat} {c : Array Value} (h : w.ownsRow base e sz v k xs) (hX : w.heap[X]? = some (.cells c t (0, 0))) (ht : t ≠ e) : ∀ j, v.ownBlock = some j → ¬ j = X := by
  intro j hj e'
  rcases h.2 with ⟨rfl, _⟩ | ⟨g, cap, cur, rfl, _, hgg, _⟩
  · simp [Value.ownBlock] at hj
  · simp [Value.ownBlock] at hj
    subst hj e'
    rw [hX] at hgg
    simp at hgg
    exact ht hgg.2
end Go.Proofs.YtfdnfllefednjaaDoor

/-
  Maps of numbers by numbers, as a plain list of pairs; kept, drawn back to their size.
-/
namespace Go.Proofs.YtfdnfllefednjaaDoor
open Go.ChangeShapes Go.WideShapes Go.ChangeAt Go.RowKit Go.Maps

/-- a frame as a key of the map -/
def kf (f : Nat) : Lit := .int .i64 f
theorem kf_inj {f g : Nat} (h : kf f = kf g) : f = g := by unfold kf at h; injection h with _ h; omega
theorem isKey (f : Nat) : WideAt.IsKeyLit (kf f) := trivial
theorem kf_same (f g : Nat) : (kf f).sameKey (kf g) = decide (f = g) := by
  by_cases h : f = g
  · subst h; rw [decide_eq_true rfl]; exact WideAt.sameKey_self trivial
  · rw [decide_eq_false h]; exact sameKey_ne fun e => h (kf_inj e)
/-- the map holds just the given blocks: by the frame the order -/
structure MapOf (D : DataW Unit) (g : List (Nat × Nat)) : Prop where
  get : ∀ x, x ∈ g → ∀ z, D.atKey (kf x.1) z = .lit (.int .i64 (x.2 : Int))
  has : ∀ kl, Maps.has D kl = true → ∃ x, x ∈ g ∧ kl = kf x.1
  sz : Maps.size D = g.length
theorem MapOf.mem {D : DataW Unit} {g : List (Nat × Nat)} (h : MapOf D g) {x : Nat × Nat} (hx : x ∈ g) : Maps.has D (kf x.1) = true := has_true_of_atKey (h.get x hx)
theorem MapOf.no {D : DataW Unit} {g : List (Nat × Nat)} (h : MapOf D g) {kl : Lit} (hx : ∀ x, x ∈ g → kl ≠ kf x.1) : Maps.has D kl = false := by
  cases hb : Maps.has D kl
  · rfl
  · obtain ⟨x, hx', e⟩ := h.has kl hb
    exact absurd e (hx x hx')
theorem mapOf_nil : MapOf (.map []) [] := ⟨fun x hx => absurd hx (List.not_mem_nil), fun kl h => by exact absurd h (by simp [has_eq]), rfl⟩
theorem MapOf.put {D : DataW Unit} {g : List (Nat × Nat)} (h : MapOf D g) (hD : Tidy D) (f o : Nat) (hf : ∀ x, x ∈ g → x.1 ≠ f) : MapOf (D.put (kf f) (.lit (.int .i64 (o : Int)))) (g ++ [(f, o)]) := by
  have hno : Maps.has D (kf f) = false := h.no fun x hx e => hf x hx (kf_inj e).symm
  refine ⟨fun x hx z => ?_, fun kl hk => ?_, ?_⟩
  · rcases List.mem_append.1 hx with hx | hx
    · rw [atKey_put_other fun e => hf x hx (kf_inj e)]; exact h.get x hx z
    · simp at hx; subst hx; exact atKey_put_same hD.isMap (isKey f) _ _
  · by_cases e : kl = kf f
    · exact ⟨(f, o), by simp, e⟩
    · rw [has_put_other e] at hk
      obtain ⟨x, hx, e2⟩ := h.has kl hk
      exact ⟨x, by simp [hx], e2⟩
  · rw [size_put hD, hno, h.sz]; simp
theorem MapOf.del {D : DataW Unit} {g : List (Nat × Nat)} (h : MapOf D g) (hD : Tidy D) {x : Nat × Nat} (hx : x ∈ g) (hn : g.Nodup) (hk : ∀ y, y ∈ g → y.1 = x.1 → y = x) : MapOf (D.del (kf x.1)) (g.erase x) := by
  refine ⟨fun y hy z => ?_, fun kl hkl => ?_, ?_⟩
  · obtain ⟨h1, h2⟩ := hn.mem_erase_iff.1 hy
    rw [atKey_del_other fun e => h1 (hk y h2 (kf_inj e))]; exact h.get y h2 z
  · by_cases e : kl = kf x.1
    · subst e; rw [has_del_same] at hkl; cases hkl
    · rw [has_del_other e] at hkl
      obtain ⟨y, hy, e2⟩ := h.has kl hkl
      exact ⟨y, hn.mem_erase_iff.2 ⟨fun e3 => e (by rw [e2, e3]), hy⟩, e2⟩
  · have := size_del (k := kf x.1) hD
    rw [h.mem hx, h.sz] at this
    rw [List.length_erase_of_mem hx]
    simp at this
    omega
theorem keyLaw : Keyed Tryd.prog 3 := int_keyed Tryd.underlying3
theorem map_kept {S : Nat → Prop} {w w' : World} {k : TypeId} {R : Value → Option (DataW Unit × List MemPlace)} {b n : Nat} {D : DataW Unit} (h : w.ownsMap Tryd.prog k R b n D) (u : Upd S w w') (hb : ¬ S b) : w'.ownsMap Tryd.prog k R b n D := by
  obtain ⟨es, clock, hx, F, hs, hD⟩ := h
  exact ⟨es, clock, u.at hx hb, F, hs, hD⟩
theorem map_tight {w : World} {k : TypeId} {R : Value → Option (DataW Unit × List MemPlace)} {b n : Nat} {D : DataW Unit} (h : w.ownsMap Tryd.prog k R b n D) (m : Nat) (hm : Maps.size D ≤ m) : w.ownsMap Tryd.prog k R b m D := by
  obtain ⟨es, clock, hx, F, hs, rfl⟩ := h
  refine ⟨es, clock, hx, F, ?_, rfl⟩
  rw [size_eq, length_sorted, List.length_map, Array.length_toList] at hm
  exact hm
theorem upd_grown {a c : World} {j : Nat} (h : a.grownBy c (some j)) : Upd (· = j) a c := ⟨h.os, h.tape, h.output, h.size, fun k hk hs => h.block k hk fun e => hs (by injection e)⟩
theorem upd_grown0 {S : Nat → Prop} {a c : World} (h : a.grownBy c none) : Upd S a c := ⟨h.os, h.tape, h.output, h.size, fun k hk _ => h.block k hk (by simp)⟩

end Go.Proofs.YtfdnfllefednjaaDoor

/-
  Package buddy: where an allocator lies; its map of given blocks as a plain list.
-/
namespace Go.Proofs.YtfdnfllefednjaaDoor
open Go.ChangeShapes Go.WideShapes Go.ChangeAt Go.RowKit Go.Maps

theorem Bud.Ok.key {b : Bud} (h : b.Ok) {x y : Nat × Nat} (hx : x ∈ b.gave) (hy : y ∈ b.gave) (e : x.1 = y.1) : x = y := by
  refine Decidable.byContradiction fun hne => ?_
  have p1 := Nat.two_pow_pos x.2
  have p2 := Nat.two_pow_pos y.2
  have := h.two hx hy hne x.1 (inBlk_iff.2 ⟨Nat.le_refl _, by omega⟩)
  rw [inBlk_iff.2 ⟨by omega, by omega⟩] at this
  cases this

/-- an allocator lies at A: over the memory at MA, its map at GB -/
structure BudAt (w : World) (A MA GB : Nat) (b : Bud) : Prop where
  head : w.heap[A]? = some (.cells #[.pointer (some ⟨MA, 0, none⟩), .int .i64 b.res, .map (some GB)] 137 (0, 0))
  mp : ∃ D : DataW Unit, w.ownsMap Tryd.prog 3 (plainElem Tryd.prog 3) GB 256 D ∧ MapOf D b.gave
  ok : b.Ok
theorem BudAt.c0 {w : World} {A MA GB : Nat} {b : Bud} (h : BudAt w A MA GB b) : w.cell? ⟨A, 0, none⟩ = some (.pointer (some ⟨MA, 0, none⟩)) := by rw [cell_of_row w A 0 _ _ _ h.head]; rfl
theorem BudAt.c1 {w : World} {A MA GB : Nat} {b : Bud} (h : BudAt w A MA GB b) : w.cell? ⟨A, 1, none⟩ = some (.int .i64 b.res) := by rw [cell_of_row w A 1 _ _ _ h.head]; rfl
theorem BudAt.c2 {w : World} {A MA GB : Nat} {b : Bud} (h : BudAt w A MA GB b) : w.cell? ⟨A, 2, none⟩ = some (.map (some GB)) := by rw [cell_of_row w A 2 _ _ _ h.head]; rfl
theorem BudAt.lts {w : World} {A MA GB : Nat} {b : Bud} (h : BudAt w A MA GB b) : A < w.heap.size ∧ GB < w.heap.size := by
  obtain ⟨D, h1, _⟩ := h.mp
  exact ⟨lt_of_heap h.head, h1.lt⟩
theorem BudAt.ne {w : World} {A MA GB : Nat} {b : Bud} (h : BudAt w A MA GB b) : A ≠ GB := by
  obtain ⟨D, ⟨es, c, hb, _⟩, _⟩ := h.mp
  intro e
  have := h.head
  rw [e, hb] at this
  cases this
theorem BudAt.kept {S : Nat → Prop} {w w' : World} {A MA GB : Nat} {b : Bud} (h : BudAt w A MA GB b) (u : Upd S w w') (h1 : ¬ S A) (h2 : ¬ S GB) : BudAt w' A MA GB b := by
  obtain ⟨D, h3, h4⟩ := h.mp
  exact ⟨u.at h.head h1, ⟨D, map_kept h3 u h2, h4⟩, h.ok⟩
theorem BudAt.below {w w' : World} {A MA GB : Nat} {b : Bud} (h : BudAt w A MA GB b) (u : Below w.heap.size w w') : BudAt w' A MA GB b := h.kept (Upd.of_below (S := fun _ => False) u) (fun h => h) (fun h => h)
theorem shl_pw (k : Nat) (hk : k ≤ 8) : IntKind.i64.wrap (1 * 2 ^ min ((k : Int)).toNat IntKind.i64.bits) = pw k := by
  unfold pw
  match k, hk with
  | 0, _ | 1, _ | 2, _ | 3, _ | 4, _ | 5, _ | 6, _ | 7, _ | 8, _ => rfl
/-- 1 << k -/
theorem wpList_shl1 {P : Program} {ops : Array Oper} {rest : List Oper} {op : Oper} {a : Act} {w : World} {Q : Exit → Act → World → Prop} (hgd : op.guard = none) (t u : TypeId) (x y : Operand) (ho : op.op = .binOp .shl t x y u)
    (hx : a.eval x = .int .i64 1) (k : Nat) (hk : k ≤ 8) (hy : a.eval y = .int .i64 k) (h : wpList P ops Q rest (a.put op.dst (.int .i64 (pw k))) w) : wpList P ops Q (op :: rest) a w := by
  refine wpList_plain hgd fun K hK => ?_
  unfold Oper.wp execOp
  simp only [ho, hx, hy, eqGuard_shl, binOp_shl, shift_shl_any _ _ _ _ (Int.natCast_nonneg k), Sem.run_bind, Sem.run_pure, Result.andThen_ok, shl_pw k hk]
  exact hK _ _ h
end Go.Proofs.YtfdnfllefednjaaDoor

/-
  Package buddy: New and Left.
-/
namespace Go.Proofs.YtfdnfllefednjaaDoor
open Go.ChangeShapes Go.WideShapes Go.ChangeAt Go.RowKit Go.Maps

set_option maxHeartbeats 400000 in
theorem bNew_nil (r : Int) (w : World) :
    Calls Tryd.prog 37 #[.pointer none, .int .i64 r] w fun e w' => e = .returned (.tuple #[.pointer none, .int .i64 1]) ∧ w = w' := by
  go_enter Tryd.func37, Tryd.ntmps37
  go_wp2
  go_ret2
  exact ⟨rfl, rfl⟩
set_option maxHeartbeats 400000 in
theorem bNew_no (MA : Nat) (m : Mem) (r : Int) (w : World) (h : MemAt w MA m) (hr : r < 0 ∨ (m.n : Int) < r) :
    Calls Tryd.prog 37 #[.pointer (some ⟨MA, 0, none⟩), .int .i64 r] w fun e w' => e = .returned (.tuple #[.pointer none, .int .i64 1]) ∧ w = w' := by
  by_cases h0 : r < 0
  · clear hr
    go_enter Tryd.func37, Tryd.ntmps37
    go_wp2
    go_ret2
    exact ⟨rfl, rfl⟩
  · have h1 : (m.n : Int) < r := by omega
    clear hr
    go_enter Tryd.func37, Tryd.ntmps37
    go_wp2_with fail
    refine (frames_any MA m _ h).mono ?_
    rintro e w' ⟨rfl, rfl⟩
    go_wp2
    go_ret2
    exact ⟨rfl, rfl⟩
set_option maxHeartbeats 400000 in
theorem bNew_yes (MA : Nat) (m : Mem) (r : Nat) (w : World) (h : MemAt w MA m) (hr : r ≤ m.n) :
    Calls Tryd.prog 37 #[.pointer (some ⟨MA, 0, none⟩), .int .i64 r] w fun e w' => e = .returned (.tuple #[.pointer (some ⟨w.heap.size + 1, 0, none⟩), .int .i64 0]) ∧ BudAt w' (w.heap.size + 1) MA w.heap.size (bud0 m.n r) ∧ Upd (fun _ => False) w w' ∧ w'.heap.size = w.heap.size + 2 := by
  have hmk := run_makeMap (P := Tryd.prog) 135 w
  go_enter Tryd.func37, Tryd.ntmps37
  go_wp2_with fail
  refine (frames_any MA m _ h).mono ?_
  rintro e w' ⟨rfl, rfl⟩
  go_wp2
  go_ret2
  have hm0 : (w.alloc (.map #[] 0)).ownsMap Tryd.prog 3 (plainElem (H := Unit) Tryd.prog 3) w.heap.size 0 (.map []) := World.ownsMap_made w _ _ _
  refine ⟨rfl, ⟨?_, ⟨_, (hm0.alloc _).mono (by omega), mapOf_nil⟩, bud0_ok h.lo h.hi hr⟩, ((Upd.refl _ _).alloc _).alloc _, by simp⟩
  have := heap_alloc_last (w.alloc (.map #[] 0)) (.cells #[.pointer (some ⟨MA, 0, none⟩), .int .i64 r, .map (some w.heap.size)] 137)
  rw [show (w.alloc (.map #[] 0)).heap.size = w.heap.size + 1 from by simp] at this
  exact this

theorem left_sum {b : Bud} (h : b.Ok) : b.left + (b.gave.map fun x => 2 ^ x.2).sum = b.n - b.res := by
  obtain ⟨L, hL⟩ : ∃ L, b.gave.length = L := ⟨_, rfl⟩
  induction L generalizing b with
  | zero =>
    have hg : b.gave = [] := List.length_eq_zero_iff.1 hL
    have key : ∀ n, n ≤ b.n → cnt b.F n = n - b.res := by
      intro n
      induction n with
      | zero => intro _; simp [cnt]
      | succ n ih =>
        intro hn
        rw [cnt_succ, ih (by omega)]
        by_cases h1 : b.res ≤ n
        · rw [(h.fr n).2 ⟨h1, by omega, fun x hx => by rw [hg] at hx; cases hx⟩]
          simp; omega
        · have : b.F n = false := by
            cases hF : b.F n
            · rfl
            · have := ((h.fr n).1 hF).1; omega
          rw [this]; simp; omega
    rw [hg]
    have := key b.n (Nat.le_refl _)
    simp [Bud.left, this]
  | succ L ih =>
    cases hg : b.gave with
    | nil => rw [hg] at hL; cases hL
    | cons x r =>
      have hx : x ∈ b.gave := by rw [hg]; simp
      have e : (b.take x).gave = r := by show b.gave.erase x = r; rw [hg]; simp
      have h1 := ih (h.take hx) (by rw [e]; rw [hg] at hL; simpa using hL)
      rw [left_take h hx, e] at h1
      have h2 : (b.take x).n = b.n ∧ (b.take x).res = b.res := ⟨rfl, rfl⟩
      rw [h2.1, h2.2] at h1
      simp only [List.map_cons, List.sum_cons]
      omega
/-- how many frames the blocks have that the loop has met -/
def metSum (g : List (Nat × Nat)) (left : Lit → Bool) : Nat := (g.map fun x => cond (left (kf x.1)) 0 (2 ^ x.2)).sum
theorem metSum_none {g : List (Nat × Nat)} {left : Lit → Bool} (h : ∀ x, x ∈ g → left (kf x.1) = true) : metSum g left = 0 := by
  unfold metSum
  induction g with
  | nil => rfl
  | cons x r ih => rw [List.map_cons, List.sum_cons, h x (by simp), ih fun y hy => h y (by simp [hy])]; simp
theorem metSum_all {g : List (Nat × Nat)} {left : Lit → Bool} (h : ∀ kl, left kl = false) : metSum g left = (g.map fun x => 2 ^ x.2).sum := by
  unfold metSum
  simp [h]
theorem metSum_step {g : List (Nat × Nat)} (left : Lit → Bool) {x : Nat × Nat} (hn : g.Nodup) (hk : ∀ y, y ∈ g → y.1 = x.1 → y = x) (hx : x ∈ g) (hl : left (kf x.1) = true) : metSum g (fun z => left z && !z.sameKey (kf x.1)) = metSum g left + 2 ^ x.2 := by
  have other : ∀ y, y ≠ x → (∀ z, z ∈ g → z.1 = x.1 → z = x) → y ∈ g → (left (kf y.1) && !(kf y.1).sameKey (kf x.1)) = left (kf y.1) := by
    intro y hy hk hyg
    rw [kf_same, decide_eq_false fun e => hy (hk y hyg e)]
    simp
  unfold metSum
  induction g with
  | nil => cases hx
  | cons y r ih =>
    rw [List.nodup_cons] at hn
    simp only [List.map_cons, List.sum_cons]
    rcases List.mem_cons.1 hx with e | hx'
    · subst e
      have e1 : (left (kf x.1) && !(kf x.1).sameKey (kf x.1)) = false := by rw [kf_same]; simp
      rw [e1, hl]
      have e2 : (r.map fun y => cond (left (kf y.1) && !(kf y.1).sameKey (kf x.1)) 0 (2 ^ y.2)) = r.map fun y => cond (left (kf y.1)) 0 (2 ^ y.2) := by
        refine List.map_congr_left fun z hz => ?_
        rw [other z (fun e => hn.1 (e ▸ hz)) hk (by simp [hz])]
      rw [e2]; simp; omega
    · have hne : y ≠ x := fun e => hn.1 (e ▸ hx')
      rw [other y hne hk (by simp), ih hn.2 (fun z hz => hk z (by simp [hz])) hx' (fun z hz hk' hzg => other z hz hk (by simp [hzg]))]
      omega
theorem metSum_le {b : Bud} (h : b.Ok) (left : Lit → Bool) : metSum b.gave left ≤ b.n - b.res := by
  have h1 := left_sum h
  have h2 : ∀ g : List (Nat × Nat), metSum g left ≤ (g.map fun x => 2 ^ x.2).sum := by
    intro g
    unfold metSum
    induction g with
    | nil => simp
    | cons x r ih => simp only [List.map_cons, List.sum_cons]; have := Nat.two_pow_pos x.2; cases left (kf x.1) <;> simp only [cond_true, cond_false] <;> omega
  have := h2 b.gave
  omega
theorem MapOf.entry {D : DataW Unit} {g : List (Nat × Nat)} (h : MapOf D g) {x c : Int} (hat : ∀ zd, D.atKey (.int .i64 x) zd = .lit (.int .i64 c)) : ∃ y, y ∈ g ∧ x = y.1 ∧ c = y.2 := by
  obtain ⟨y, hy, e⟩ := h.has _ (has_true_of_atKey hat)
  have e1 := h.get y hy (.lit (.int .i64 0))
  rw [← e, hat] at e1
  unfold kf at e
  injection e with _ e
  injection e1 with e1
  injection e1 with _ e1
  exact ⟨y, hy, e, e1⟩
set_option maxRecDepth 100000 in
set_option maxHeartbeats 1000000 in
theorem bLeft_any (A MA GB : Nat) (m : Mem) (b : Bud) (w : World) (h : BudAt w A MA GB b) (hm : MemAt w MA m) (hn : m.n = b.n) :
    Calls Tryd.prog 85 #[.pointer (some ⟨A, 0, none⟩)] w fun e w' => e = .returned (.int .i64 b.left) ∧ Upd (fun _ => False) w w' := by
  have hc0 := h.c0
  have hc1 := h.c1
  have hc2 := h.c2
  obtain ⟨D, hD, hM⟩ := h.mp
  have hF := Lib.hid (show ∀ q, Calls Tryd.prog 74 #[.pointer (some ⟨MA, 0, none⟩)] (w.drewN q) fun e w'' => e = .returned (.int .i64 m.n) ∧ ∃ p, w'' = w.drewN p from fun q => still0 (frames_any _ _ _ (hm.kept ((Upd.refl (fun _ => False) _).drewN q) (fun h => h) (fun h => h))))
  rw [hn] at hF
  have h1 := h.ok.rs
  have h2 := h.ok.hi
  have hok := Lib.hid h.ok
  have hGB := hD.lt
  obtain ⟨N, hN⟩ : ∃ N, w.heap.size = N := ⟨_, rfl⟩
  go_enter Tryd.func85, Tryd.ntmps85
  go_wp2
  go_quiet ((go_at_call 74; exact hF.out _))
  have hD2 : ∀ q, (w.drewN q).ownsMap Tryd.prog 3 (plainElem Tryd.prog 3) GB 256 D := fun q => map_kept hD ((Upd.refl (fun _ => False) w).drewN q) (fun h => h)
  go_wp2_with (first
    | (at_range; refine wpList_range_own _ rfl _ 135 rfl 3 3 keyLaw Tryd.underlying135 _ GB 256 D rfl (hD2 _) ?_; intro w0 hrg0 hg0 hs0)
    | go_in)
  go_frame
  rw [show (w.drewN nq).heap.size = N from hN]
  have hU0 : Upd (fun _ => False) w w0 := (((Upd.refl (fun _ => False) w).drewN _).trans (upd_grown0 hg0))
  have hs0' : w0.heap.size = N + 1 := by rw [hs0, ← hN]; rfl
  have hrg0' : w0.ranges Tryd.prog 3 (plainElem Tryd.prog 3) GB N 256 D (Maps.has D) (Maps.size D) := by rw [← hN]; exact hrg0
  clear hrg0 hg0 hs0 hD2
  go_loopw [3, 5] (fun t _ wr => ∃ (left : Lit → Bool) (cnt : Nat), t = .int .i64 ((b.n - b.res - metSum b.gave left : Nat) : Int) ∧ wr.ranges Tryd.prog 3 (plainElem Tryd.prog 3) GB N 256 D left cnt ∧ Upd (fun _ => False) w wr) (fun _ _ wr => wr.rangeLeft GB N)
  case atStart => exact ⟨_, _, by rw [metSum_none fun x hx => hM.mem hx]; congr 1; omega, hrg0', hU0⟩
  case round =>
    obtain ⟨left, cnt, rfl, hrg, hU⟩ := hrel
    go_wp2_with (first
      | (at_next; refine wpList_next_ranges_ii _ rfl _ rfl 3 3 .i64 .i64 keyLaw Tryd.underlying3 Tryd.underlying3 GB N 256 _ _ _ rfl hrg ?_ ?_)
      | go_in)
    · intro _ hl0
      have hv := Lib.hid (show b.n - b.res - metSum b.gave left = b.left from by rw [metSum_all hl0]; have := left_sum hok.out; omega)
      rw [hv.out]
      go_wp2
      go_ret
      exact ⟨rfl, hU⟩
    · intro x c w1 cnt1 hwx hwc hlx hat hrg1 hlt hg1 hs1 hen
      obtain ⟨y, hy, rfl, rfl⟩ := hM.entry hat
      have hy8 := (hok.out.blk y hy).1
      have hst := Lib.hid (metSum_step left hok.out.nodup (fun z hz e => hok.out.key hz hy e) hy hlx)
      have hle := metSum_le hok.out (fun z => left z && !z.sameKey (kf y.1))
      have hpw := Lib.hid (show pw y.2 = ((2 ^ y.2 : Nat) : Int) from rfl)
      have hbd := pw_bd y.2 hy8
      have hU1 : Upd (fun _ => False) w w1 := ⟨hg1.os.trans hU.os, hg1.tape.trans hU.tape, hg1.output.trans hU.output, Nat.le_trans hU.size hg1.size, fun k hk hs => (hg1.block k (Nat.lt_of_lt_of_le hk hU.size) (by intro e; injection e with e; omega)).trans (hU.block k hk hs)⟩
      have Hrg1 := Lib.hid hrg1
      clear hrg1 hwx hwc hlx hat hg1 hs1
      rw [hst.out] at hle
      have hle' : (b.n - b.res - metSum b.gave left : Nat) ≥ 0 := Nat.zero_le _
      have e1 := Lib.hid (show (((b.n - b.res - metSum b.gave left : Nat) : Int) - pw y.2) = ((b.n - b.res - metSum b.gave (fun z => left z && !z.sameKey (kf y.1)) : Nat) : Int) from by rw [hst.out, hpw.out]; have hp := Nat.two_pow_pos y.2; generalize 2 ^ y.2 = p at hp hle ⊢; omega)
      have hbd2 : b.n - b.res - metSum b.gave left ≤ 256 := by omega
      clear hle hle' hst hpw
      generalize b.n - b.res - metSum b.gave left = S at e1 hbd2 ⊢
      go_wp2_with (first
        | (with_reducible refine wpList_shl1 rfl _ _ _ _ rfl rfl y.2 hy8 rfl ?_)
        | go_in)
      exact ⟨⟨fun z => left z && !z.sameKey (kf y.1), cnt1, by rw [e1.out], Hrg1.out, hU1⟩, by rw [Hrg1.out.left_eq, hrg.left_eq]; exact hlt⟩
end Go.Proofs.YtfdnfllefednjaaDoor

/-
  Package buddy: free, which tells of each frame whether it is free.
-/
namespace Go.Proofs.YtfdnfllefednjaaDoor
open Go.ChangeShapes Go.WideShapes Go.ChangeAt Go.RowKit Go.Maps

/-! a block that is a row of whatever cells -/
theorem row_range {w : World} {b t : Nat} {C : List Value} (h : w.heap[b]? = some (.cells C.toArray t (0, 0))) : w.rangeAt b 0 C := by
  intro j v hv
  rw [Nat.zero_add, cell_of_row w b j _ _ _ h, List.getElem?_toArray]
  exact hv
theorem row_there {w : World} {b t : Nat} {C : List Value} (h : w.heap[b]? = some (.cells C.toArray t (0, 0))) (n : Nat) (hn : n ≤ C.length) : w.there b 0 n := fun j hj => by
  refine ⟨?_, frozen_block h _⟩
  rw [Nat.zero_add, cell_of_row w b j _ _ _ h, List.getElem?_toArray, List.getElem?_eq_getElem (by omega)]
  rfl
theorem fcells_len (n : Nat) (F : Nat → Bool) : (fcells n F).length = n := by simp [fcells]
theorem fcells_one (n : Nat) (F : Nat → Bool) : (fcells n F).toArray.all (·.oneCell') = true := all_oneCell_toArray fun v hv => by
  simp only [fcells, List.mem_map] at hv
  obtain ⟨i, _, rfl⟩ := hv
  rfl
theorem Upd.trans' {S : Nat → Prop} {a c d : World} {j : Nat} (h : Upd S a c) (k : Upd (· = j) c d) (hj : a.heap.size ≤ j) : Upd S a d :=
  ⟨k.os.trans h.os, k.tape.trans h.tape, k.output.trans h.output, Nat.le_trans h.size k.size, fun i hi hs => (k.block i (Nat.lt_of_lt_of_le hi h.size) (by omega)).trans (h.block i hi hs)⟩
theorem grown_setCell (w : World) (p : Addr) (u : Value) : w.grownBy (w.setCell p u) (some p.block) := ⟨rfl, rfl, rfl, by simp [World.setCell], fun k _ hne => Below.heap_setCell _ _ _ _ fun e => hne (by rw [e])⟩
/-- which frames are free, of the blocks that the loop has met -/
def metF (b : Bud) (left : Lit → Bool) : Nat → Bool := fun j => betw b.res b.n j && b.gave.all fun x => left (kf x.1) || !inBlk x j
theorem metF_start {b : Bud} {left : Lit → Bool} (h : ∀ x, x ∈ b.gave → left (kf x.1) = true) : metF b left = betw b.res b.n := by
  funext j
  unfold metF
  rw [List.all_eq_true.2 fun x hx => by rw [h x hx]; rfl, Bool.and_true]
theorem metF_end {b : Bud} (hb : b.Ok) {left : Lit → Bool} (h : ∀ kl, left kl = false) : metF b left = b.F := by
  funext j
  have e : metF b left j = true ↔ b.F j = true := by
    rw [hb.fr]
    unfold metF betw
    simp only [h, Bool.false_or, Bool.and_eq_true, decide_eq_true_eq, List.all_eq_true, Bool.not_eq_true', and_assoc]
  cases h1 : metF b left j <;> cases h2 : b.F j <;> simp_all
theorem metF_step {b : Bud} (hb : b.Ok) (left : Lit → Bool) {x : Nat × Nat} (hx : x ∈ b.gave) : cutTo (metF b left) x.1 (x.1 + 2 ^ x.2) = metF b (fun z => left z && !z.sameKey (kf x.1)) := by
  funext j
  have e : cutTo (metF b left) x.1 (x.1 + 2 ^ x.2) j = true ↔ metF b (fun z => left z && !z.sameKey (kf x.1)) j = true := by
    show (metF b left j && !inBlk x j) = true ↔ _
    unfold metF
    simp only [Bool.and_eq_true, List.all_eq_true, Bool.or_eq_true, Bool.not_eq_true', kf_same, decide_eq_false_iff_not]
    constructor
    · rintro ⟨⟨a1, a2⟩, a3⟩
      refine ⟨a1, fun y hy => ?_⟩
      by_cases hxy : y.1 = x.1
      · rw [hb.key hy hx hxy]; exact .inr a3
      · rcases a2 y hy with h | h
        · exact .inl ⟨h, hxy⟩
        · exact .inr h
    · rintro ⟨a1, a2⟩
      refine ⟨⟨a1, fun y hy => ?_⟩, ?_⟩
      · rcases a2 y hy with h | h
        · exact .inl h.1
        · exact .inr h
      · rcases a2 x hx with h | h
        · exact absurd rfl h.2
        · exact h
  cases h1 : cutTo (metF b left) x.1 (x.1 + 2 ^ x.2) j <;> cases h2 : metF b (fun z => left z && !z.sameKey (kf x.1)) j <;> simp_all

theorem zero_bools (w : World) : (zeroValue 166).run Tryd.prog w = .ok (.agg (fcells 256 fun _ => false).toArray) w := by kernel_rfl
theorem size_bools : (Tryd.prog.info? 166).map (·.size) = some 256 := by kernel_rfl

set_option maxRecDepth 100000 in
set_option maxHeartbeats 2000000 in
theorem bfree_any (A MA GB : Nat) (m : Mem) (b : Bud) (w : World) (h : BudAt w A MA GB b) (hm : MemAt w MA m) (hn : m.n = b.n) :
    Calls Tryd.prog 103 #[.pointer (some ⟨A, 0, none⟩)] w fun e w' => e = .returned (.agg (fcells 256 b.F).toArray) ∧ Upd (fun _ => False) w w' := by
  obtain ⟨N, hN⟩ : ∃ N, w.heap.size = N := ⟨_, rfl⟩
  have hz := zero_bools
  obtain ⟨Z, hZ⟩ : ∃ Z, (fcells 256 fun _ => false).toArray = Z := ⟨_, rfl⟩
  rw [hZ] at hz
  have HZ := Lib.hid hZ
  clear hZ
  go_enter Tryd.func103, Tryd.ntmps103
  go_upto_region 2 with fail
  obtain ⟨W, hWe⟩ : ∃ W, (w.alloc (.cells Z 166)).alloc (.cells Z 166) = W := ⟨_, rfl⟩
  have hU0 : Upd (fun _ => False) w W := by rw [← hWe]; exact ((Upd.refl _ _).alloc _).alloc _
  have hW0 : W.heap[N]? = some (.cells Z 166 (0, 0)) := by
    rw [← hWe, ← hN, Below.heap_alloc _ _ _ (by simp)]
    exact heap_alloc_last w _
  have hW1 : W.heap[N + 1]? = some (.cells (fcells 256 (betw b.res b.res)).toArray 166 (0, 0)) := by
    have := heap_alloc_last (w.alloc (.cells Z 166)) (.cells Z 166)
    rw [World.size_alloc, hN, hWe] at this
    rw [this, ← HZ.out, fcells_congr (F := betw b.res b.res) (G := fun _ => false) fun j _ => by unfold betw; simp]
  have hWs : W.heap.size = N + 2 := by rw [← hWe, ← hN]; simp
  rw [hWe]
  have hB0 := h.kept hU0 (fun h => h) (fun h => h)
  have hM0 := hm.kept hU0 (fun h => h) (fun h => h)
  have hc0 := hB0.c0
  have hc1 := hB0.c1
  have hb1 := h.ok.rs
  have hb2 := h.ok.hi
  have hl := h.lts
  clear hWe hz
  try rw [hN]
  go_wp2
  go_loopw [4] (fun t wr => ∃ i : Nat, b.res ≤ i ∧ i ≤ b.n ∧ t = .int .i64 i ∧ Hid (wr.heap[N]? = some (.cells Z 166 (0, 0))) ∧ Hid (wr.heap[N + 1]? = some (.cells (fcells 256 (betw b.res i)).toArray 166 (0, 0))) ∧ Upd (fun _ => False) w wr ∧ wr.heap.size = N + 2) (fun t _ => 256 - (intOf t).toNat)
  case atStart => exact ⟨b.res, Nat.le_refl _, hb1, rfl, Lib.hid hW0, Lib.hid hW1, hU0, hWs⟩
  case round =>
    obtain ⟨i, i1, i2, rfl, f0, f1, hU, hs⟩ := hrel
    have hB := h.kept hU (fun h => h) (fun h => h)
    have hM := hm.kept hU (fun h => h) (fun h => h)
    have hc0 := hB.c0
    have hc2 := hB.c2
    by_cases hlt : i < b.n
    · have hci := fcell f1.out i (by omega)
      have hfz := frozen_block f1.out i
      have hset := Lib.hid (show (wr.setCell ⟨N + 1, i, none⟩ (.bool true)).heap[N + 1]? = some (.cells (fcells 256 (betw b.res (i + 1))).toArray 166 (0, 0)) from by rw [heap_setCell_same f1.out i (.bool true), fcells_set, betw_step 256 b.res i i1])
      have hoth := Lib.hid (show (wr.setCell ⟨N + 1, i, none⟩ (.bool true)).heap[N]? = _ from (Below.heap_setCell _ _ _ _ (by simp)).trans f0.out)
      have hU' := hU.setCell (p := ⟨N + 1, i, none⟩) (by right; show w.heap.size ≤ N + 1; omega) (.bool true)
      have hs' := Lib.hid (show (wr.setCell ⟨N + 1, i, none⟩ (.bool true)).heap.size = N + 2 from by simp [World.setCell, hs])
      generalize betw b.res i i = bi at hci
      clear f0 f1 hU hB
      go_wp2_with fail
      refine (frames_any MA m _ hM).mono ?_
      rintro e w' ⟨rfl, rfl⟩
      rw [hn]
      go_wp2
      go_roundw
      case rel => exact ⟨i + 1, by omega, by omega, by go_num, hoth, hset, hU', hs'.out⟩
      case measure => simp [intOf]; omega
    · have e : i = b.n := by omega
      subst e
      obtain ⟨D, hD, hMp⟩ := hB.mp
      have hok := Lib.hid h.ok
      clear hB hlt
      go_wp2_with fail
      refine (frames_any MA m _ hM).mono ?_
      rintro e w' ⟨rfl, rfl⟩
      rw [hn]
      go_wp2_with (first
        | (at_range; refine wpList_range_own _ rfl _ 135 rfl 3 3 keyLaw Tryd.underlying135 _ GB 256 D rfl hD ?_; intro w0 hrg0 hg0 hs0)
        | go_in)
      go_frame
      rw [hs] at hrg0 ⊢
      have V1 : Upd (fun _ => False) w w0 := hU.trans (upd_grown0 hg0)
      have V2 := Lib.hid ((upd_grown0 (S := fun _ => False) hg0).at f0.out (fun h => h))
      have V3 := Lib.hid ((upd_grown0 (S := fun _ => False) hg0).at f1.out (fun h => h))
      have hst := Lib.hid (metF_start (b := b) (left := Maps.has D) fun x hx => hMp.mem hx)
      clear hg0 f0 f1 hU hs hs0 hD hc0 hc2 hM
      go_loopw [5, 6] (fun _ _ wr => ∃ (left : Lit → Bool) (cnt : Nat), Hid (wr.heap[N]? = some (.cells Z 166 (0, 0))) ∧ Hid (wr.heap[N + 1]? = some (.cells (fcells 256 (metF b left)).toArray 166 (0, 0))) ∧ wr.ranges Tryd.prog 3 (plainElem Tryd.prog 3) GB (N + 2) 256 D left cnt ∧ Upd (fun _ => False) w wr) (fun _ _ wr => wr.rangeLeft GB (N + 2))
      case atStart => exact ⟨_, _, V2, by rw [hst.out]; exact V3, hrg0, V1⟩
      case round =>
        obtain ⟨left, cnt, g0, g1, hrg, hU⟩ := hrel
        go_wp2_with (first
          | (at_next; refine wpList_next_ranges_ii _ rfl _ rfl 3 3 .i64 .i64 keyLaw Tryd.underlying3 Tryd.underlying3 GB (N + 2) 256 _ _ _ rfl hrg ?_ ?_)
          | go_in)
        · intro _ hl0
          obtain ⟨L, hL⟩ : ∃ L, fcells 256 b.F = L := ⟨_, rfl⟩
          have HL := Lib.hid (show L.length = 256 from by rw [← hL]; exact fcells_len _ _)
          have R1 := Lib.hid (show wr.rangeAt (N + 1) 0 L from row_range (t := 166) (by rw [← hL, ← metF_end hok.out hl0]; exact g1.out))
          have Z0 := Lib.hid (show wr.heap[N]? = some (.cells (fcells 256 fun _ => false).toArray 166 (0, 0)) from by rw [HZ.out]; exact g0.out)
          have T1 := Lib.hid (row_there Z0.out 256 (by rw [fcells_len]; exact Nat.le_refl _))
          have O1 := Lib.hid (show L.toArray.all (·.oneCell') = true from by rw [← hL]; exact fcells_one _ _)
          have hNN : w.heap.size ≤ N := by omega
          have HL0 := Lib.hid hL
          clear hL g0 g1 hrg hl0 hst V1 V2 V3 hrg0
          go_wp2_with (first
            | (with_reducible refine wpList_load_sz rfl 166 (.tmp 3) rfl (N + 1) 0 rfl L _ R1.out Tryd.underlying166 rfl 256 HL.out size_bools ?_)
            | (with_reducible refine wpList_store_sz rfl 166 (.tmp 2) (.tmp 43) rfl N 0 L.toArray rfl rfl 256 (by simpa using HL.out) T1.out size_bools O1.out _ rfl ?_))
          have hld := heap_setCells_same N 166 L 0 wr _ Z0.out (by rw [fcells_len, HL.out]; exact Nat.le_refl _)
          rw [splice_all _ _ (by rw [fcells_len, HL.out])] at hld
          have hU2 : Upd (fun _ => False) w (wr.setCells N 0 L) := Upd.setCells (by right; exact hNN) _ _ hU
          exact bodyPost_ret (results_cell_row rfl _ _ N _ L.toArray _ _ rfl hld Tryd.underlying166 rfl (by rw [size_bools]; simp [HL.out])) rfl ⟨by rw [HL0.out], hU2⟩
        · intro x c w1 cnt1 hwx hwc hlx hat hrg1 hlt hg1 hs1 hen
          obtain ⟨y, hy, rfl, rfl⟩ := hMp.entry hat
          obtain ⟨y8, yal, yr, yn⟩ := hok.out.blk y hy
          have V4 : Upd (fun _ => False) w w1 := hU.trans' (upd_grown hg1) (by omega)
          have V5 := Lib.hid ((upd_grown hg1).at g0.out (by show ¬ N = N + 2; omega))
          have V6 := Lib.hid ((upd_grown hg1).at g1.out (by show ¬ N + 1 = N + 2; omega))
          have hst2 := Lib.hid (metF_step hok.out left hy)
          have hpw := Lib.hid (show pw y.2 = ((2 ^ y.2 : Nat) : Int) from rfl)
          have hbd := pw_bd y.2 y8
          have hyn : (y.1 : Int) + pw y.2 ≤ 256 := by have := hpw.out; omega
          have Hrg1 := Lib.hid (show w1.ranges Tryd.prog 3 (plainElem Tryd.prog 3) GB (N + 2) 256 D (fun z => left z && !z.sameKey (kf y.1)) cnt1 from hrg1)
          have hcnt : Hid (wr.rangeLeft GB (N + 2) = cnt) := Lib.hid hrg.left_eq
          have hGB := hrg.ne
          have hG2 := h.lts.2
          clear hrg1 hwx hwc hlx hat hg1 hs1 g0 g1 hU hrg hst V1 V2 V3 hrg0 yal yr yn
          go_wp2_with (first
            | (with_reducible refine wpList_shl1 rfl _ _ _ _ rfl rfl y.2 y8 rfl ?_)
            | go_in)
          go_loopw [35, 7] (fun t _ wr => ∃ k : Nat, (k : Int) ≤ pw y.2 ∧ t = .int .i64 k ∧ Hid (wr.heap[N]? = some (.cells Z 166 (0, 0))) ∧ Hid (wr.heap[N + 1]? = some (.cells (fcells 256 (cutTo (metF b left) y.1 (y.1 + k))).toArray 166 (0, 0))) ∧ Hid (wr.ranges Tryd.prog 3 (plainElem Tryd.prog 3) GB (N + 2) 256 D (fun z => left z && !z.sameKey (kf y.1)) cnt1) ∧ Upd (fun _ => False) w wr) (fun t _ _ => 256 - (intOf t).toNat)
          case atStart => exact ⟨0, by omega, rfl, V5, Lib.hid (by have := V6.out; rw [← cutTo_start (metF b left) y.1] at this; exact this), Hrg1, V4⟩
          case round =>
            obtain ⟨k, hk, rfl, k0, k1, hrg, hU⟩ := hrel
            by_cases hkl : (k : Int) < pw y.2
            · have hci := fcell k1.out (y.1 + k) (by omega)
              have hfz := frozen_block k1.out (y.1 + k)
              have hset := Lib.hid (show (wr.setCell ⟨N + 1, y.1 + k, none⟩ (.bool false)).heap[N + 1]? = some (.cells (fcells 256 (cutTo (metF b left) y.1 (y.1 + (k + 1)))).toArray 166 (0, 0)) from by rw [heap_setCell_same k1.out (y.1 + k) (.bool false), fcells_set, cutTo_step 256 _ y.1 (y.1 + k) (by omega)]; rfl)
              have hoth := Lib.hid (show (wr.setCell ⟨N + 1, y.1 + k, none⟩ (.bool false)).heap[N]? = _ from (Below.heap_setCell _ _ _ _ (by simp)).trans k0.out)
              have hrg' := Lib.hid (hrg.out.kept (grown_setCell wr ⟨N + 1, y.1 + k, none⟩ (.bool false)) (by intro e; injection e with e; simp only at e; omega) (by intro e; injection e with e; simp only at e; omega))
              have hU' := hU.setCell (p := ⟨N + 1, y.1 + k, none⟩) (by right; show w.heap.size ≤ N + 1; omega) (.bool false)
              generalize cutTo (metF b left) y.1 (y.1 + k) (y.1 + k) = bi at hci
              clear k0 k1 hrg hU
              go_wp2
              exact ⟨⟨k + 1, by omega, by go_num, hoth, hset, hrg', hU'⟩, by simp [intOf]; omega⟩
            · have e : (k : Int) = pw y.2 := by omega
              have hfin := Lib.hid (show wr.heap[N + 1]? = some (.cells (fcells 256 (metF b fun z => left z && !z.sameKey (kf y.1))).toArray 166 (0, 0)) from by rw [← hst2.out, show 2 ^ y.2 = k from by have := hpw.out; omega]; exact k1.out)
              clear k1 hst2 hpw
              go_wp2
              exact ⟨⟨_, cnt1, k0, hfin, hrg.out, hU⟩, by rw [hrg.out.left_eq, hcnt.out]; exact hlt⟩
end Go.Proofs.YtfdnfllefednjaaDoor

/-
  Package buddy: longest, the greatest free block that begins at a frame.
-/
namespace Go.Proofs.YtfdnfllefednjaaDoor
open Go.ChangeShapes Go.WideShapes Go.ChangeAt Go.RowKit Go.Maps

/-- what longest tells where the greatest order is bt, or none -/
def lres (i : Nat) (bt : Int) : Value := if bt < 0 then .tuple #[.agg #[.int .i64 0, .int .i64 0], .bool false] else .tuple #[.agg #[.int .i64 i, .int .i64 bt], .bool true]
theorem size_block : (Tryd.prog.info? 161).map (·.size) = some 2 := by kernel_rfl
theorem mul_fit {i k : Nat} (hi : i < 256) (hk : k ≤ 8) (h : i % 2 ^ k = 0) : i + 2 ^ k ≤ 256 := by
  obtain ⟨d, hd⟩ := Nat.le.dest hk
  have e : 256 = 2 ^ k * 2 ^ d := by rw [← Nat.pow_add, hd]
  obtain ⟨c, hc⟩ := Nat.dvd_of_mod_eq_zero h
  have hp := Nat.two_pow_pos k
  rw [hc, e] at hi
  have := Nat.lt_of_mul_lt_mul_left hi
  have h2 : 2 ^ k * (c + 1) ≤ 2 ^ k * 2 ^ d := Nat.mul_le_mul_left _ (by omega)
  rw [hc]
  rw [Nat.mul_succ] at h2
  omega
theorem two_sz (x y : Int) : (#[.int .i64 x, .int .i64 y] : Array Value).size = 2 := rfl
theorem two_one (x y : Int) : (#[.int .i64 x, .int .i64 y] : Array Value).all (·.oneCell') = true := all_oneCell_toArray (cs := [.int .i64 x, .int .i64 y]) fun v hv => by
  simp at hv
  rcases hv with rfl | rfl <;> rfl
theorem two_ls (x y : Int) : (#[.int .i64 x, .int .i64 y] : Array Value).toList = [.int .i64 x, .int .i64 y] := rfl
set_option maxRecDepth 100000 in
set_option maxHeartbeats 2000000 in
theorem blong_any (F : Nat → Bool) (n i : Nat) (w : World) (hi : i < 256) (_hn : n ≤ 256) (hF : ∀ j, F j = true → j < n) :
    Calls Tryd.prog 104 #[.agg (fcells 256 F).toArray, .int .i64 i] w fun e w' => e = .returned (lres i (bestTo F n i 9)) ∧ Upd (fun _ => False) w w' := by
  obtain ⟨N, hN⟩ : ∃ N, w.heap.size = N := ⟨_, rfl⟩
  obtain ⟨L, hL⟩ : ∃ L, fcells 256 F = L := ⟨_, rfl⟩
  rw [hL]
  obtain ⟨W, hWe⟩ : ∃ W, (w.alloc (.cells L.toArray 166)).alloc (.cells #[.int .i64 0, .int .i64 0] 161) = W := ⟨_, rfl⟩
  have hU0 : Upd (fun _ => False) w W := by rw [← hWe]; exact ((Upd.refl _ _).alloc _).alloc _
  have hW0 := Lib.hid (show W.heap[N]? = some (.cells (fcells 256 F).toArray 166 (0, 0)) from by
    rw [← hWe, ← hN, Below.heap_alloc _ _ _ (by simp), hL]
    exact heap_alloc_last w _)
  have hW1 := Lib.hid (show W.heap[N + 1]? = some (.cells #[.int .i64 0, .int .i64 0] 161 (0, 0)) from by
    have := heap_alloc_last (w.alloc (.cells L.toArray 166)) (.cells #[.int .i64 0, .int .i64 0] 161)
    rwa [World.size_alloc, hN, hWe] at this)
  clear hL
  go_enter Tryd.func104, Tryd.ntmps104
  go_upto_region 1 with fail
  clear hWe
  go_wp2
  go_step3
  go_wp2
  go_step3
  go_wp2
  go_loopg [6] 9 (fun g t wr => g ≤ 9 ∧ t = .int .i64 ((g : Int) - 1) ∧ wr = W ∧ Hid (bestTo F n i 9 = bestTo F n i g))
  case atStart => exact ⟨Nat.le_refl _, rfl, rfl, Lib.hid rfl⟩
  case round =>
    obtain ⟨hg, rfl, rfl, hbt⟩ := hrel
    cases gk with
    | zero =>
      have hv := Lib.hid (show lres i (bestTo F n i 9) = .tuple #[.agg #[.int .i64 0, .int .i64 0], .bool false] from by rw [hbt.out]; rfl)
      have hT1 := Lib.hid (row_there (C := [.int .i64 0, .int .i64 0]) hW1.out 2 (Nat.le_refl _))
      have hNN : w.heap.size ≤ N + 1 := by omega
      clear hF hbt
      go_wp2_with (first
        | (with_reducible refine wpList_store_sz rfl 161 (.tmp 4) (.tmp 33) rfl (N + 1) 0 #[.int .i64 0, .int .i64 0] rfl rfl 2 (two_sz _ _) hT1.out size_block (two_one _ _) [.int .i64 0, .int .i64 0] (two_ls _ _) ?_))
      have hfin := heap_setCells_same (N + 1) 161 [.int .i64 0, .int .i64 0] 0 wr [.int .i64 0, .int .i64 0] hW1.out (Nat.le_refl _)
      rw [splice_all _ _ rfl] at hfin
      have hU2 : Upd (fun _ => False) w (wr.setCells (N + 1) 0 [.int .i64 0, .int .i64 0]) := Upd.setCells (by right; exact hNN) _ _ hU0
      generalize wr.setCells (N + 1) 0 [.int .i64 0, .int .i64 0] = W2 at hfin hU2 ⊢
      try rw [Exit.noGoto_ret]
      refine bodyPost_ret (v := .tuple #[.agg #[.int .i64 0, .int .i64 0], .bool false]) ?_ rfl ⟨by rw [hv.out], hU2⟩
      have := run_loadVar_mid (P := Tryd.prog) W2 (N + 1) 0 161 [.int .i64 0, .int .i64 0] _ (row_range hfin) Tryd.underlying161 rfl size_block
      simp [results, Tryd.results104, asAddr, this]
    | succ k =>
      have hk8 : k ≤ 8 := by omega
      have hbd := pw_bd k hk8
      have hst := Lib.hid (show bestTo F n i (k + 1) = if (decide (i % 2 ^ k = 0) && freeAll F n i (2 ^ k)) = true then (k : Int) else bestTo F n i k from by rw [bestTo, blkB_free])
      have hmod : (i : Int) % pw k = 0 ↔ i % 2 ^ k = 0 := by
        unfold pw
        rw [← Int.natCast_emod]
        omega
      have hne : ¬ pw k = 0 := by omega
      have hk1 : ((k + 1 : Nat) : Int) - 1 = (k : Int) := by omega
      rw [hk1]
      by_cases hal : i % 2 ^ k = 0
      · have hm := hmod.2 hal
        have hfit := mul_fit hi hk8 hal
        have hpw := Lib.hid (show pw k = ((2 ^ k : Nat) : Int) from rfl)
        have hyes := Lib.hid (show (∀ y, y < 2 ^ k → F (i + y) = true) → bestTo F n i 9 = (k : Int) from fun ha => by
          have hp := Nat.two_pow_pos k
          have hlast := hF _ (ha (2 ^ k - 1) (by omega))
          rw [hbt.out, hst.out, decide_eq_true hal, freeAll_yes (by omega) fun j h1 h2 => by have := ha (j - i) (by omega); rwa [show i + (j - i) = j from by omega] at this]
          rfl)
        have hno := Lib.hid (show ∀ y, y < 2 ^ k → F (i + y) = false → bestTo F n i 9 = bestTo F n i k from fun y hy hf => by
          rw [hbt.out, hst.out, freeAll_hit (j := i + y) (by omega) (by omega) hf, Bool.and_false]
          rfl)
        have hfit2 : (i : Int) + pw k ≤ 256 := by have := hpw.out; omega
        clear hmod hst hbt hal hF hfit
        go_wp2_with (first
          | (with_reducible refine wpList_shl1 rfl _ _ _ _ rfl rfl k hk8 rfl ?_)
          | go_in)
        go_loopg [20] 256 (fun g t wr' => ∃ x : Nat, (x : Int) ≤ pw k ∧ x + g = 256 ∧ t = .int .i64 x ∧ wr' = wr ∧ Hid (∀ y, y < x → F (i + y) = true))
        case atStart => exact ⟨0, by omega, by omega, rfl, rfl, Lib.hid fun y hy => by omega⟩
        case round =>
          obtain ⟨x, hx, hxg, rfl, rfl, hall⟩ := hrel
          by_cases hxl : (x : Int) < pw k
          · have hci := fcell hW0.out (i + x) (by omega)
            cases hFx : F (i + x)
            · have hnx := Lib.hid (hno.out x (by have := hpw.out; omega) hFx)
              rw [hFx] at hci
              clear hyes hno hpw hall hFx
              go_wp2
              go_roundg k
              case measure => omega
              case rel => exact ⟨by omega, by go_num, rfl, hnx⟩
            · rw [hFx] at hci
              have hall' := Lib.hid (show ∀ y, y < x + 1 → F (i + y) = true from fun y hy => by
                rcases Nat.lt_or_ge y x with h1 | h1
                · exact hall.out y h1
                · rw [show y = x from by omega]; exact hFx)
              clear hyes hno hpw hall hFx
              go_wp2
              go_roundg (gk - 1)
              case measure => omega
              case rel => exact ⟨x + 1, by omega, by omega, by go_num, rfl, hall'⟩
          · have e := Lib.hid (hyes.out fun y hy => hall.out y (by have := hpw.out; omega))
            have hv := Lib.hid (show lres i (bestTo F n i 9) = .tuple #[.agg #[.int .i64 i, .int .i64 k], .bool true] from by rw [e.out]; unfold lres; rw [if_neg (by omega)])
            have hT1 := Lib.hid (row_there (C := [.int .i64 0, .int .i64 0]) hW1.out 2 (Nat.le_refl _))
            have hNN : w.heap.size ≤ N + 1 := by omega
            clear hyes hno hpw hall e
            go_wp2_with (first
              | (with_reducible refine wpList_store_sz rfl 161 (.tmp 4) (.tmp 32) rfl (N + 1) 0 #[.int .i64 i, .int .i64 k] rfl rfl 2 (two_sz _ _) hT1.out size_block (two_one _ _) [.int .i64 i, .int .i64 k] (two_ls _ _) ?_))
            have hfin := heap_setCells_same (N + 1) 161 [.int .i64 i, .int .i64 k] 0 wr [.int .i64 0, .int .i64 0] hW1.out (Nat.le_refl _)
            rw [splice_all ([.int .i64 0, .int .i64 0] : List Value) [.int .i64 i, .int .i64 k] rfl] at hfin
            have hU2 : Upd (fun _ => False) w (wr.setCells (N + 1) 0 [.int .i64 i, .int .i64 k]) := Upd.setCells (by right; exact hNN) _ _ hU0
            generalize wr.setCells (N + 1) 0 [.int .i64 i, .int .i64 k] = W2 at hfin hU2 ⊢
            refine bodyPost_ret (v := .tuple #[.agg #[.int .i64 i, .int .i64 k], .bool true]) ?_ rfl ⟨by rw [hv.out], hU2⟩
            have := run_loadVar_mid (P := Tryd.prog) W2 (N + 1) 0 161 [.int .i64 i, .int .i64 k] _ (row_range hfin) Tryd.underlying161 rfl size_block
            simp [results, Tryd.results104, asAddr, this]
      · have hm : ¬ (i : Int) % pw k = 0 := fun h => hal (hmod.1 h)
        have hnx := Lib.hid (show bestTo F n i 9 = bestTo F n i k from by rw [hbt.out, hst.out, decide_eq_false hal]; rfl)
        clear hmod hst hbt hal hF
        go_wp2_with (first
          | (with_reducible refine wpList_shl1 rfl _ _ _ _ rfl rfl k hk8 rfl ?_)
          | go_in)
        go_roundg k
        case measure => omega
        case rel => exact ⟨by omega, by go_num, rfl, hnx⟩
end Go.Proofs.YtfdnfllefednjaaDoor

/-
  Package buddy: Blocks.
-/
namespace Go.Proofs.YtfdnfllefednjaaDoor
open Go.ChangeShapes Go.WideShapes Go.ChangeAt Go.RowKit Go.Maps

theorem mxTo_over {F : Nat → Bool} {n : Nat} (hF : ∀ j, F j = true → j < n) : ∀ d, mxTo F n (n + d) = mxTo F n n
  | 0 => rfl
  | d + 1 => by
    have : F (n + d) = false := by
      cases h : F (n + d)
      · rfl
      · have := hF _ h; omega
    rw [← Nat.add_assoc, mxTo_skip this, mxTo_over hF d]
theorem Bud.Ok.low {b : Bud} (h : b.Ok) (j : Nat) (hj : b.F j = true) : j < b.n := ((h.fr j).1 hj).2.1
theorem info_block : (Tryd.prog.info? 161).map (fun i => (i.zero, i.size, i.bytes)) = some (some (.agg #[.int .i64 0, .int .i64 0]), 2, 16) := by kernel_rfl
theorem alloc_two (w : World) (x y : Int) (t : TypeId) :
    ((w.alloc (.cells #[.int .i64 0, .int .i64 0] t)).setCells w.heap.size 0 [.int .i64 x, .int .i64 y]).heap[w.heap.size]? = some (.cells #[.int .i64 x, .int .i64 y] t (0, 0)) ∧
    Upd (fun _ => False) w ((w.alloc (.cells #[.int .i64 0, .int .i64 0] t)).setCells w.heap.size 0 [.int .i64 x, .int .i64 y]) ∧ (w.alloc (.cells #[.int .i64 0, .int .i64 0] t)).there w.heap.size 0 2 :=
  alloc_store w .i64 [0, 0] [x, y] t rfl

set_option maxRecDepth 100000 in
set_option maxHeartbeats 2000000 in
theorem bBlocks_any (A MA GB : Nat) (m : Mem) (b : Bud) (w : World) (h : BudAt w A MA GB b) (hm : MemAt w MA m) (hn : m.n = b.n) :
    Calls Tryd.prog 97 #[.pointer (some ⟨A, 0, none⟩)] w fun e w' => ∃ v, e = .returned v ∧ w'.ownsRow w.heap.size 161 2 v (blocks b.F b.n).length (bcells (blocks b.F b.n)) ∧ Upd (fun _ => False) w w' := by
  obtain ⟨i0, hi, hz0, hz1, hz2⟩ := info_parts info_block
  have hb2 := h.ok.hi
  have hz := zero_bools
  obtain ⟨Z, hZ⟩ : ∃ Z, (fcells 256 fun _ => false) = Z := ⟨_, rfl⟩
  rw [hZ] at hz
  have HZ := Lib.hid (show Z.length = 256 from by rw [← hZ]; exact fcells_len _ _)
  clear hZ
  obtain ⟨L, hL⟩ : ∃ L, fcells 256 b.F = L := ⟨_, rfl⟩
  have HL := Lib.hid (show L.length = 256 from by rw [← hL]; exact fcells_len _ _)
  have O1 := Lib.hid (show L.toArray.all (·.oneCell') = true from by rw [← hL]; exact fcells_one _ _)
  have hok := Lib.hid h.ok
  have hfree := Lib.hid (bfree_any A MA GB m b w h hm hn)
  have hlong := Lib.hid (fun i W hi' => blong_any b.F b.n i W hi' h.ok.hi h.ok.low)
  rw [hL] at hfree hlong
  clear hL
  obtain ⟨N, hN⟩ : ∃ N, w.heap.size = N := ⟨_, rfl⟩
  rw [hN]
  go_enter Tryd.func97, Tryd.ntmps97
  go_wp2_with fail
  refine hfree.out.mono ?_
  rintro e w1 ⟨rfl, U1⟩
  clear hfree
  have hal := heap_alloc_last w1 (.cells Z.toArray 166)
  have T1 := Lib.hid (row_there hal 256 (by rw [HZ.out]; exact Nat.le_refl _))
  have hld := heap_setCells_same w1.heap.size 166 L 0 (w1.alloc (.cells Z.toArray 166)) _ hal (by rw [HZ.out, HL.out]; exact Nat.le_refl _)
  rw [splice_all _ _ (by rw [HZ.out, HL.out])] at hld
  have U2 : Upd (fun _ => False) w ((w1.alloc (.cells Z.toArray 166)).setCells w1.heap.size 0 L) := U1.trans (Upd.setCells (by right; exact Nat.le_refl _) _ _ ((Upd.refl _ _).alloc _))
  have U1s := U1.size
  have HLd := Lib.hid hld
  clear hal hld U1
  go_upto_region 3 with ((with_reducible refine wpList_store_sz rfl 166 (.tmp 4) (.tmp 9) rfl w1.heap.size 0 L.toArray rfl rfl 256 (by simpa using HL.out) T1.out size_bools O1.out _ rfl ?_))
  generalize (w1.alloc (.cells Z.toArray 166)).setCells w1.heap.size 0 L = W at HLd U2 ⊢
  generalize w1.heap.size = K at HLd U1s ⊢
  clear T1 hz HZ O1
  go_wp2
  go_loopw [3, 5] (fun v t wr => ∃ i : Nat, i ≤ 256 ∧ t = .int .i64 i ∧ wr.ownsRow N 161 2 v (mxTo b.F b.n i).length (bcells (mxTo b.F b.n i)) ∧ Upd (fun _ => False) w wr ∧ Hid (wr.heap[K]? = some (.cells L.toArray 166 (0, 0))) ∧ Hid (Edge b.F b.n i)) (fun _ t _ => 256 - (intOf t).toNat)
  case atStart => exact ⟨0, by omega, rfl, World.ownsRow_nil _ _ _ _, U2, HLd, Lib.hid (edge_zero _ _)⟩
  case round =>
    obtain ⟨i, hi', rfl, hrow, hU, hK, hE⟩ := hrel
    have hsize := hU.size
    by_cases hlt : i < 256
    · have R1 := Lib.hid (row_range hK.out)
      have hlg := Lib.hid (fun W => hlong.out i W hlt)
      cases hF : b.F i
      · have hv := Lib.hid (show lres i (bestTo b.F b.n i 9) = .tuple #[.agg #[.int .i64 0, .int .i64 0], .bool false] from by rw [bestTo_none hF 9]; rfl)
        have hE' := Lib.hid (edge_skip hF hE.out)
        have hm' := Lib.hid (mxTo_skip (n := b.n) hF)
        go_wp2_with (with_reducible refine wpList_load_sz rfl 166 (.tmp 4) rfl K 0 rfl L _ R1.out Tryd.underlying166 rfl 256 HL.out size_bools ?_)
        refine (hlg.out _).mono ?_
        rintro e w3 ⟨rfl, U3⟩
        rw [hv.out]
        obtain ⟨a1, a2, a3⟩ := alloc_two w3 0 0 161
        have A3 := Lib.hid a3
        have hrow3 := row_kept hrow (U3.trans a2) (fun _ _ h => h)
        have hK3 := Lib.hid ((U3.trans a2).at hK.out (fun h => h))
        have hU3 := hU.trans (U3.trans a2)
        clear a1 a3 a2 U3 hlong hlg R1 hK hU hE hrow hF
        go_upto_region 6 with ((with_reducible refine wpList_store_sz rfl 161 (.tmp 6) (.tmp 16) rfl w3.heap.size 0 #[.int .i64 0, .int .i64 0] rfl rfl 2 (two_sz _ _) A3.out size_block (two_one _ _) [.int .i64 0, .int .i64 0] (two_ls _ _) ?_))
        generalize (w3.alloc (.cells #[.int .i64 0, .int .i64 0] 161)).setCells w3.heap.size 0 [.int .i64 0, .int .i64 0] = W3 at hrow3 hK3 hU3 ⊢
        clear A3
        go_wp2
        exact ⟨⟨i + 1, by omega, by go_num, by rw [hm'.out]; exact hrow3, hU3, hK3, hE'⟩, by simp [intOf]; omega⟩
      · have hin := hok.out.low i hF
        obtain ⟨q, hq, hmax⟩ := edge_mx hE.out hF hin
        have hv := Lib.hid (show lres i (bestTo b.F b.n i 9) = .tuple #[.agg #[.int .i64 i, .int .i64 q], .bool true] from by
          rw [bestTo_is hq.b hq.hi hmax 9 (by have := hq.hi; omega) (by omega)]
          unfold lres
          rw [if_neg (by omega)])
        have hE' := Lib.hid (edge_jump hq hE.out)
        have hm' := Lib.hid (mxTo_jump hq)
        have hql := hq.b.le
        have hq8 := hq.hi
        have hbd := pw_bd q hq8
        have hpw := Lib.hid (show pw q = ((2 ^ q : Nat) : Int) from rfl)
        have hfit : (i : Int) + pw q ≤ 256 := by have := hpw.out; omega
        have hml : (mxTo b.F b.n i).length ≤ i := mxTo_len _ _ _
        obtain ⟨o, cap, rfl⟩ := slice2 hrow
        clear hmax hq
        go_wp2_with (with_reducible refine wpList_load_sz rfl 166 (.tmp 4) rfl K 0 rfl L _ R1.out Tryd.underlying166 rfl 256 HL.out size_bools ?_)
        refine (hlg.out _).mono ?_
        rintro e w3 ⟨rfl, U3⟩
        rw [hv.out]
        have hlo := fun j ej => ((row_kept hrow U3 (fun _ _ h => h)).lt j ej).2
        obtain ⟨a1, a2, a3⟩ := alloc_two w3 i q 161
        have A3 := Lib.hid a3
        have hrow3 := row_kept hrow (U3.trans a2) (fun _ _ h => h)
        have hK3 := Lib.hid ((U3.trans a2).at hK.out (fun h => h))
        have hU3 := hU.trans (U3.trans a2)
        clear a3 a2 U3 hlong hlg R1 hK hU hE hrow hF
        go_upto_region 6 with ((with_reducible refine wpList_store_sz rfl 161 (.tmp 6) (.tmp 16) rfl w3.heap.size 0 #[.int .i64 i, .int .i64 q] rfl rfl 2 (two_sz _ _) A3.out size_block (two_one _ _) [.int .i64 i, .int .i64 q] (two_ls _ _) ?_))
        generalize (w3.alloc (.cells #[.int .i64 0, .int .i64 0] 161)).setCells w3.heap.size 0 [.int .i64 i, .int .i64 q] = W3 at hrow3 hK3 hU3 a1 ⊢
        obtain ⟨b0, b1⟩ := box2 a1
        generalize w3.heap.size = M at a1 b0 b1 hlo ⊢
        clear A3
        have hs3 := hU3.size
        have hNe := ty_ne hrow3 hK3.out (by decide)
        go_upto_region 9 with ((at_builtin; refine wpList_append_own _ rfl _ _ 158 rfl N 161 i0 (.agg #[.int .i64 0, .int .i64 0]) 2 16 Tryd.underlying158 hi hz0 hz1 hz2 rfl (by decide) _ _ _ rfl (hrow3.alloc _) ⟨W3.heap.size, 0, none⟩ 1 1 [.int .i64 i, .int .i64 q] rfl rfl (cell_two _ _ _ _) (by simp [Value.oneCell']) (by simp [maxLen]; omega) (by omega) (by simp; omega) ?_; intro v' w4 hown' hgrow _; obtain ⟨g', cap', rfl⟩ := ownsRow_succ hown'))
        rename_i hnl
        have hgr : (W3.alloc (.cells #[.int .i64 i, .int .i64 q] 161)).grownBy w4 (Value.slice o (mxTo b.F b.n i).length cap).ownBlock := hgrow
        have hM3 := lt_of_heap a1
        have hat : ∀ (k : Nat) (ob : Obj), W3.heap[k]? = some ob → (∀ j, (Value.slice o (mxTo b.F b.n i).length cap).ownBlock = some j → ¬ j = k) → w4.heap[k]? = some ob := fun k ob hk hne => by
          have hlt := lt_of_heap hk
          rw [hgr.block k (by simp; omega) (fun e => hne k e.symm rfl), Below.heap_alloc _ _ _ hlt]
          exact hk
        have a4 := hat M _ a1 (fun j ej => by have := hlo j ej; omega)
        have hK4 := Lib.hid (hat K _ hK3.out hNe)
        have hU4 : Upd (fun _ => False) w w4 := ⟨hgr.os.trans hU3.os, hgr.tape.trans hU3.tape, hgr.output.trans hU3.output, by have := hgr.size; simp at this; omega, fun k hk hs => by
          rw [hgr.block k (by simp; omega) (fun e => by have := (hrow3.lt k e.symm).1; omega), Below.heap_alloc _ _ _ (by omega)]
          exact hU3.block k hk hs⟩
        obtain ⟨b40, b41⟩ := box2 a4
        have hown4 := Lib.hid hown'
        clear hnl hgrow hgr hat hown' hK3 hU3 a1 a4 b0 b1 hrow3 hlo hNe
        go_wp2_with (first
          | (with_reducible refine wpList_shl1 rfl _ _ _ _ rfl rfl q hq8 rfl ?_)
          | go_in)
        have hp2 := Nat.two_pow_pos q
        exact ⟨⟨i + 2 ^ q, by omega, by rw [hpw.out]; congr 1, by rw [hm'.out, bcells_app, List.length_append]; exact hown4.out, hU4, hK4, hE'⟩, by rw [hpw.out]; simp only [intOf]; omega⟩
    · have e : i = 256 := by omega
      subst e
      obtain ⟨o, cap, rfl⟩ := slice2 hrow
      have Hrow := Lib.hid (show wr.ownsRow N 161 2 (.slice o (mxTo b.F b.n 256).length cap) (blocks b.F b.n).length (bcells (blocks b.F b.n)) from by
        have e : mxTo b.F b.n 256 = blocks b.F b.n := by
          have := mxTo_over hok.out.low (256 - b.n)
          rwa [show b.n + (256 - b.n) = 256 from by omega] at this
        rw [e] at hrow ⊢
        exact hrow)
      clear hrow
      go_wp2
      go_ret
      exact ⟨_, rfl, Hrow.out, hU⟩
end Go.Proofs.YtfdnfllefednjaaDoor

/-
  Package buddy, in plain numbers: what the laws ask of an allocator's state.
-/
namespace Go.Proofs.YtfdnfllefednjaaDoor

theorem mxAt_le (F : Nat → Bool) (n m : Nat) : (mxAt F n m).Pairwise fun x y => x.1 < y.1 := by
  by_cases h : ∃ k, Mx F n m k
  · obtain ⟨k, hk⟩ := h
    rw [mxAt_one hk]; simp
  · rw [mxAt_none fun k hk => h ⟨k, hk⟩]; simp
theorem mxTo_rises (F : Nat → Bool) (n : Nat) : ∀ m, (mxTo F n m).Pairwise fun x y => x.1 < y.1
  | 0 => by simp [mxTo]
  | m + 1 => by
    rw [mxTo_succ, List.pairwise_append]
    refine ⟨mxTo_rises F n m, mxAt_le F n m, fun x hx y hy => ?_⟩
    have h1 := (mem_mxTo.1 hx).1
    have h2 := (mem_mxAt.1 hy).1
    omega
theorem blocks_rises (F : Nat → Bool) (n : Nat) : (blocks F n).Pairwise fun x y => x.1 < y.1 := mxTo_rises F n n
theorem blocks_nodup (F : Nat → Bool) (n : Nat) : (blocks F n).Nodup := (blocks_rises F n).imp fun {x y} h e => by subst e; omega

/-! each frame once -/
def hits (l : List (Nat × Nat)) (j : Nat) : Nat := (l.filter fun x => inBlk x j).length
theorem hits_app (l l' : List (Nat × Nat)) (j : Nat) : hits (l ++ l') j = hits l j + hits l' j := by simp [hits]
theorem hits_none {l : List (Nat × Nat)} {j : Nat} (h : ∀ x, x ∈ l → inBlk x j = false) : hits l j = 0 := by
  unfold hits
  rw [List.filter_eq_nil_iff.2 fun x hx => by rw [h x hx]; decide]
  rfl
theorem hits_one {l : List (Nat × Nat)} {j : Nat} {x : Nat × Nat} (hn : l.Nodup) (hx : x ∈ l) (hj : inBlk x j = true) (hu : ∀ y, y ∈ l → inBlk y j = true → y = x) : hits l j = 1 := by
  unfold hits
  rw [filter_one l _ x hn hx hj hu]
  rfl
theorem blocks_free {b : Bud} (h : b.Ok) {j : Nat} (hF : b.F j = true) : hits (blocks b.F b.n) j = 1 ∧ hits b.gave j = 0 := by
  have hj := (h.fr j).1 hF
  obtain ⟨k, hk⟩ := exists_mx hF hj.2.1
  have h1 := st_le j k
  have h2 := st_lt j k
  refine ⟨hits_one (blocks_nodup _ _) (x := (st j k, k)) (mem_blocks.2 hk) (inBlk_iff.2 ⟨h1, h2⟩) fun y hy hyj => ?_, hits_none hj.2.2⟩
  have hy' := inBlk_iff.1 hyj
  have := (mem_blocks.1 hy).unique hk hy'.1 hy'.2 h1 h2
  exact Prod.ext this.1 this.2
theorem blocks_not {b : Bud} {j : Nat} (hF : b.F j = false) : hits (blocks b.F b.n) j = 0 := hits_none fun x hx => by
  rw [inBlk_no]
  intro hj
  have := (mem_blocks.1 hx).b.fr j hj.1 hj.2
  rw [hF] at this; cases this
theorem each_once {b : Bud} (h : b.Ok) (j : Nat) : hits (blocks b.F b.n ++ b.gave) j = if b.res ≤ j ∧ j < b.n then 1 else 0 := by
  rw [hits_app]
  by_cases hr : b.res ≤ j ∧ j < b.n
  · rw [if_pos hr]
    cases hF : b.F j
    · have hex : ∃ x, x ∈ b.gave ∧ inBlk x j = true := by
        refine Classical.byContradiction fun hno => ?_
        have : b.F j = true := (h.fr j).2 ⟨hr.1, hr.2, fun x hx => by
          cases hb : inBlk x j
          · rfl
          · exact absurd ⟨x, hx, hb⟩ hno⟩
        rw [hF] at this; cases this
      obtain ⟨x, hx, hj⟩ := hex
      rw [blocks_not hF, hits_one h.nodup hx hj fun y hy hyj => by
        refine Classical.byContradiction fun hne => ?_
        have := h.two hx hy (fun e => hne e.symm) j hj
        rw [hyj] at this; cases this]
    · rw [(blocks_free h hF).1, (blocks_free h hF).2]
  · rw [if_neg hr]
    have hF : b.F j = false := by
      cases hF : b.F j
      · rfl
      · have := (h.fr j).1 hF; exact absurd ⟨this.1, this.2.1⟩ hr
    rw [blocks_not hF, hits_none fun x hx => by
      rw [inBlk_no]
      intro hj
      obtain ⟨_, _, h3, h4⟩ := h.blk x hx
      exact hr ⟨by omega, by omega⟩]
/-- what a free block is like -/
theorem blocks_blk {b : Bud} (h : b.Ok) {x : Nat × Nat} (hx : x ∈ blocks b.F b.n) : x.2 ≤ 8 ∧ x.1 % 2 ^ x.2 = 0 ∧ b.res ≤ x.1 ∧ x.1 + 2 ^ x.2 ≤ b.n := by
  have hm := mem_blocks.1 hx
  have hp := Nat.two_pow_pos x.2
  exact ⟨hm.hi, hm.b.al, ((h.fr x.1).1 (hm.b.fr x.1 (Nat.le_refl _) (by omega))).1, hm.b.le⟩

/-! a free block is as great as it can be -/
theorem halves {F : Nat → Bool} {n : Nat} {x y : Nat × Nat} (hx : Mx F n x.1 x.2) (hy : Mx F n y.1 y.2) (hk : x.2 = y.2) (h8 : x.2 < 8) (hp : x.1 / (2 * 2 ^ x.2) = y.1 / (2 * 2 ^ x.2)) (hlt : x.1 < y.1) : False := by
  obtain ⟨a, k⟩ := x
  obtain ⟨c, k'⟩ := y
  simp only at hx hy hk h8 hp hlt
  subst hk
  have hpos := Nat.two_pow_pos k
  have e2 : 2 * 2 ^ k = 2 ^ (k + 1) := by rw [Nat.pow_succ, Nat.mul_comm]
  rw [e2] at hp
  have hs : st a (k + 1) = st c (k + 1) := by unfold st; rw [hp]
  have h1 := st_le a (k + 1)
  have h2 := st_lt c (k + 1)
  have h3 := st_nest a (show k ≤ k + 1 by omega)
  have h4 := st_nest c (show k ≤ k + 1 by omega)
  rw [st_self hx.b.al] at h3
  rw [st_self hy.b.al] at h4
  obtain ⟨qa, ha⟩ := Nat.dvd_of_mod_eq_zero hx.b.al
  obtain ⟨qc, hc⟩ := Nat.dvd_of_mod_eq_zero hy.b.al
  have hge : a + 2 ^ k ≤ c := by
    have : qa < qc := by
      refine Nat.lt_of_not_le fun h => ?_
      have := Nat.mul_le_mul_left (2 ^ k) h
      omega
    have := Nat.mul_le_mul_left (2 ^ k) this
    rw [Nat.mul_succ] at this
    omega
  have e3 : 2 ^ (k + 1) = 2 ^ k + 2 ^ k := by rw [Nat.pow_succ]; omega
  have ea : st a (k + 1) = a := by omega
  have ec : c = a + 2 ^ k := by omega
  refine hx.top h8 ⟨st_mod _ _, by rw [ea, e3]; have := hy.b.le; omega, fun j j1 j2 => ?_⟩
  rw [ea] at j1 j2
  rcases Nat.lt_or_ge j (a + 2 ^ k) with h | h
  · exact hx.b.fr j j1 h
  · exact hy.b.fr j (by omega) (by omega)

/-! as many blocks as fit -/
theorem covers_len : ∀ (N : Nat) (l : List Nat), (∀ q, q < N → q ∈ l) → N ≤ l.length
  | 0, _, _ => Nat.zero_le _
  | N + 1, l, h => by
    have hN := h N (by omega)
    have := covers_len N (l.erase N) fun q hq => (List.mem_erase_of_ne (by omega)).2 (h q (by omega))
    rw [List.length_erase_of_mem hN] at this
    have : 0 < l.length := List.length_pos_of_mem hN
    omega
theorem many_some {b : Bud} (h : b.Ok) (h0 : b.res = 0) {k : Nat} (hk : k ≤ 8) (hall : ∀ x, x ∈ b.gave → x.2 = k) (hlt : b.gave.length < b.n / 2 ^ k) : ∃ x, b.sel k = some x := by
  have hp := Nat.two_pow_pos k
  have hex : ∃ q, q < b.n / 2 ^ k ∧ q ∉ b.gave.map fun x => x.1 / 2 ^ k := by
    refine Classical.byContradiction fun hno => ?_
    have := covers_len (b.n / 2 ^ k) (b.gave.map fun x => x.1 / 2 ^ k) fun q hq => Classical.byContradiction fun hn => hno ⟨q, hq, hn⟩
    rw [List.length_map] at this
    omega
  obtain ⟨q, hq, hno⟩ := hex
  have hle : (q + 1) * 2 ^ k ≤ b.n := Nat.le_trans (Nat.mul_le_mul_right _ hq) (Nat.div_mul_le_self _ _)
  rw [Nat.add_mul, Nat.one_mul] at hle
  have hb : Blk b.F b.n (q * 2 ^ k) k := ⟨Nat.mul_mod_left _ _, hle, fun j j1 j2 => (h.fr j).2 ⟨by omega, by omega, fun x hx => by
    rw [inBlk_no]
    intro hj
    obtain ⟨_, hal, _, _⟩ := h.blk x hx
    rw [hall x hx] at hal hj
    have e1 := st_of hal hj.1 hj.2
    have e2 := st_of (Nat.mul_mod_left q (2 ^ k)) j1 j2
    apply hno
    rw [List.mem_map]
    refine ⟨x, hx, ?_⟩
    rw [← e1, e2]
    exact Nat.mul_div_cancel _ hp⟩⟩
  obtain ⟨l, hl, hm⟩ := hb.in_mx hk
  cases hs : b.sel k with
  | some x => exact ⟨x, rfl⟩
  | none =>
    have := pick_none hs (st (q * 2 ^ k) l, l) (mem_blocks.2 hm)
    simp only at this
    omega
theorem many_none {b : Bud} {k : Nat} (hk : b.left < 2 ^ k) : b.sel k = none := by
  cases hs : b.sel k with
  | none => rfl
  | some x =>
    obtain ⟨h1, h2⟩ := sel_blk hs
    have := left_give (h1.b.head h2)
    omega
end Go.Proofs.YtfdnfllefednjaaDoor

/-
  Package buddy, in plain numbers: the given blocks in the order of their frames.
-/
namespace Go.Proofs.YtfdnfllefednjaaDoor

def ins (l : List (Nat × Nat)) (x : Nat × Nat) : List (Nat × Nat) := l.takeWhile (fun y => decide (y.1 < x.1)) ++ ([x] ++ l.dropWhile (fun y => decide (y.1 < x.1)))
def heldOf (g : List (Nat × Nat)) : List (Nat × Nat) := g.foldl ins []
theorem heldOf_snoc (g : List (Nat × Nat)) (x : Nat × Nat) : heldOf (g ++ [x]) = ins (heldOf g) x := by simp [heldOf]
theorem ins_mem {l : List (Nat × Nat)} {x y : Nat × Nat} : y ∈ ins l x ↔ y = x ∨ y ∈ l := by
  unfold ins
  have h := List.takeWhile_append_dropWhile (p := fun y : Nat × Nat => decide (y.1 < x.1)) (l := l)
  have : y ∈ l ↔ y ∈ l.takeWhile (fun y => decide (y.1 < x.1)) ∨ y ∈ l.dropWhile (fun y => decide (y.1 < x.1)) := by
    rw [← List.mem_append, h]
  rw [this]
  simp only [List.mem_append, List.mem_singleton]
  constructor
  · rintro (h | h | h)
    · exact .inr (.inl h)
    · exact .inl h
    · exact .inr (.inr h)
  · rintro (h | h | h)
    · exact .inr (.inl h)
    · exact .inl h
    · exact .inr (.inr h)
/-- where the search stops, all before it being below -/
theorem ins_at (l : List (Nat × Nat)) (x : Nat × Nat) : ∀ i, i ≤ l.length → (∀ j, j < i → (l.getD j (0, 0)).1 < x.1) → (i < l.length → ¬ (l.getD i (0, 0)).1 < x.1) → ins l x = l.take i ++ ([x] ++ l.drop i) := by
  induction l with
  | nil => intro i hi; simp at hi; subst hi; simp [ins]
  | cons y r ih =>
    intro i hi hb hs
    cases i with
    | zero =>
      have : ¬ y.1 < x.1 := hs (by simp)
      unfold ins
      rw [List.takeWhile_cons, List.dropWhile_cons, decide_eq_false this]
      simp
    | succ i =>
      have hy : y.1 < x.1 := hb 0 (by omega)
      have := ih i (by simpa using hi) (fun j hj => hb (j + 1) (by omega)) (fun h => hs (by simpa using h))
      unfold ins at this ⊢
      rw [List.takeWhile_cons, List.dropWhile_cons, decide_eq_true hy]
      exact congrArg (List.cons y) this
theorem takeWhile_all {l : List (Nat × Nat)} {p : Nat × Nat → Bool} {y : Nat × Nat} (h : y ∈ l.takeWhile p) : p y = true := by
  induction l with
  | nil => cases h
  | cons z r ih =>
    rw [List.takeWhile_cons] at h
    by_cases hz : p z = true
    · rw [if_pos hz] at h
      rcases List.mem_cons.1 h with e | e
      · rw [e]; exact hz
      · exact ih e
    · rw [if_neg hz] at h; cases h
theorem ins_rises {l : List (Nat × Nat)} {x : Nat × Nat} (h : l.Pairwise fun a b => a.1 < b.1) (hx : ∀ y, y ∈ l → y.1 ≠ x.1) : (ins l x).Pairwise fun a b => a.1 < b.1 := by
  induction l with
  | nil => simp [ins]
  | cons y r ih =>
    rw [List.pairwise_cons] at h
    have hyx := hx y (by simp)
    by_cases hy : y.1 < x.1
    · have e : ins (y :: r) x = y :: ins r x := by
        unfold ins
        rw [List.takeWhile_cons, List.dropWhile_cons, decide_eq_true hy]
        simp
      rw [e, List.pairwise_cons]
      refine ⟨fun z hz => ?_, ih h.2 fun z hz => hx z (by simp [hz])⟩
      rcases ins_mem.1 hz with rfl | hz
      · exact hy
      · exact h.1 z hz
    · have e : ins (y :: r) x = x :: y :: r := by
        unfold ins
        rw [List.takeWhile_cons, List.dropWhile_cons, decide_eq_false hy]
        simp
      rw [e, List.pairwise_cons, List.pairwise_cons]
      refine ⟨fun z hz => ?_, h⟩
      rcases List.mem_cons.1 hz with rfl | hz
      · omega
      · have := h.1 z hz; omega
theorem heldOf_mem (g : List (Nat × Nat)) : ∀ {y : Nat × Nat}, y ∈ heldOf g ↔ y ∈ g := by
  induction g using snoc_induction with
  | h0 => intro y; rfl
  | h1 l x ih =>
    intro y
    rw [heldOf_snoc, ins_mem, ih, List.mem_append, List.mem_singleton]
    exact Or.comm
theorem heldOf_rises {g : List (Nat × Nat)} (h : g.Pairwise fun a b => a.1 ≠ b.1) : (heldOf g).Pairwise fun a b => a.1 < b.1 := by
  induction g using snoc_induction with
  | h0 => exact List.Pairwise.nil
  | h1 l x ih =>
    rw [List.pairwise_append] at h
    rw [heldOf_snoc]
    exact ins_rises (ih h.1) fun y hy => h.2.2 y ((heldOf_mem l).1 hy) x (by simp)
theorem Bud.Ok.frames {b : Bud} (h : b.Ok) : b.gave.Pairwise fun x y => x.1 ≠ y.1 := h.apart.imp fun {x y} hxy e => by
  have h1 := Nat.two_pow_pos x.2
  have h2 := Nat.two_pow_pos y.2
  have := hxy x.1 (inBlk_iff.2 ⟨Nat.le_refl _, by omega⟩)
  rw [inBlk_iff.2 ⟨by omega, by omega⟩] at this
  cases this
/-- two lists that rise and have the same in them are the same -/
theorem rises_ext : ∀ {l l' : List (Nat × Nat)}, l.Pairwise (fun a b => a.1 < b.1) → l'.Pairwise (fun a b => a.1 < b.1) → (∀ x, x ∈ l ↔ x ∈ l') → l = l'
  | [], [], _, _, _ => rfl
  | [], y :: r, _, _, h => by have := (h y).2 (by simp); cases this
  | x :: r, [], _, _, h => by have := (h x).1 (by simp); cases this
  | x :: r, y :: s, h1, h2, h => by
    rw [List.pairwise_cons] at h1 h2
    have e : x = y := by
      rcases List.mem_cons.1 ((h x).1 (by simp)) with e | hx
      · exact e
      · rcases List.mem_cons.1 ((h y).2 (by simp)) with e | hy
        · exact e.symm
        · have := h1.1 y hy; have := h2.1 x hx; omega
    subst e
    rw [rises_ext h1.2 h2.2 fun z => ?_]
    constructor
    · intro hz
      rcases List.mem_cons.1 ((h z).1 (by simp [hz])) with e | hz'
      · subst e; have := h1.1 z hz; omega
      · exact hz'
    · intro hz
      rcases List.mem_cons.1 ((h z).2 (by simp [hz])) with e | hz'
      · subst e; have := h2.1 z hz; omega
      · exact hz'
def Bud.held (b : Bud) : List (Nat × Nat) := heldOf b.gave
theorem held_len (b : Bud) : b.held.length = b.gave.length := by
  unfold Bud.held
  generalize b.gave = g
  induction g using snoc_induction with
  | h0 => rfl
  | h1 l x ih =>
    rw [heldOf_snoc]
    unfold ins
    have := congrArg List.length (List.takeWhile_append_dropWhile (p := fun y : Nat × Nat => decide (y.1 < x.1)) (l := heldOf l))
    simp only [List.length_append, List.length_singleton] at this ⊢
    omega
end Go.Proofs.YtfdnfllefednjaaDoor

/-
  The library's maps.Keys, slices.Sorted and slices.Sort as they stand in this program: which of the shelf's numbers is which of the program's.
-/
namespace Go.Proofs.YtfdnfllefednjaaDoor
open Go.RowKit Go.Maps Go.Sort Go.Shelf

end Go.Proofs.YtfdnfllefednjaaDoor

/-
  The library's maps.Keys and slices.Sorted over a map of numbers by numbers.
-/
namespace Go.Proofs.YtfdnfllefednjaaDoor
open Go.ChangeShapes Go.WideShapes Go.ChangeAt Go.RowKit Go.Maps Go.Sort Go.Shelf

theorem zero_int (w : World) : (zeroValue 3).run Tryd.prog w = .ok (.int .i64 0) w := by kernel_rfl
theorem slice1 {w : World} {base : Nat} {e : TypeId} {v : Value} {k : Nat} {xs : List Value} (h : w.ownsRow base e 1 v k xs) : ∃ o cap, v = .slice o k cap ∧ ∀ (j : Nat) (u : Value), xs[j]? = some u → ∃ g, o = some ⟨g, 0, none⟩ ∧ w.cell? ⟨g, j, none⟩ = some u := by
  rcases h.2 with ⟨rfl, rfl⟩ | ⟨g, cap, cur, rfl, _⟩
  · refine ⟨none, 0, rfl, fun j u hu => ?_⟩
    have : xs = [] := List.length_eq_zero_iff.1 (by have := h.1; omega)
    rw [this] at hu; simp at hu
  · exact ⟨_, _, rfl, fun j u hu => ⟨g, rfl, by have := h.cells (g := g) rfl j u hu; rwa [add_mid0, Nat.zero_add] at this⟩⟩
theorem wf_frame {n : Nat} (h : n ≤ 256) : (Lit.int .i64 (n : Int)).wf = true := by
  show (decide (IntKind.i64.min ≤ (n : Int)) && decide ((n : Int) ≤ IntKind.i64.max)) = true
  rw [decide_eq_true (show IntKind.i64.min ≤ (n : Int) by show -9223372036854775808 ≤ (n : Int); omega), decide_eq_true (show (n : Int) ≤ IntKind.i64.max by show (n : Int) ≤ 9223372036854775807; omega)]
  rfl
end Go.Proofs.YtfdnfllefednjaaDoor

/-
  Package buddy: Held.
-/
namespace Go.Proofs.YtfdnfllefednjaaDoor
open Go.ChangeShapes Go.WideShapes Go.ChangeAt Go.RowKit Go.Maps Go.Sort Go.Shelf

/-- the frames of the given blocks, as they rise -/
def heldF (b : Bud) : List Int := b.held.map fun x => (x.1 : Int)
theorem heldF_len (b : Bud) : (heldF b).length = b.held.length := by simp [heldF]
theorem sorted_held {b : Bud} (h : b.Ok) {D : DataW Unit} (hM : MapOf D b.gave) (hE : ∃ es, D = .map es ∧ es.Pairwise (fun p q => p.1 ≠ q.1) ∧ ∀ p ∈ es, WideAt.IsKeyLit p.1) {ss : List Int} (hp : ss.Perm (intKeys D)) :
    (ss.mergeSort fun x y => decide (x ≤ y)) = heldF b := by
  obtain ⟨es, rfl, hpw, hkey⟩ := hE
  have hr := heldOf_rises h.frames
  have hr2 : (heldF b).Pairwise fun x y => x < y := List.pairwise_map.2 (hr.imp fun {x y} hxy => by omega)
  have hk : ∀ p ∈ es, ∃ x, p.1 = .int .i64 x := fun p hp => by
    have : Maps.has (.map es) p.1 = true := by
      rw [has_eq, List.any_eq_true]
      exact ⟨p, hp, WideAt.sameKey_self (hkey p hp)⟩
    obtain ⟨x, _, e⟩ := hM.has _ this
    exact ⟨x.1, e⟩
  have h1 : (heldF b).Perm (intKeys (.map es)) := by
    refine perm_intKeys hpw hk (hr2.imp fun {x y} hxy e => by omega) fun k => ?_
    constructor
    · intro hk'
      obtain ⟨x, hx, rfl⟩ := List.mem_map.1 hk'
      exact hM.mem ((heldOf_mem _).1 hx)
    · intro hk'
      obtain ⟨x, hx, e⟩ := hM.has _ hk'
      refine List.mem_map.2 ⟨x, (heldOf_mem _).2 hx, ?_⟩
      unfold kf at e
      injection e with _ e
      exact e.symm
  have h2 := mergeSort_of_perm_i (hp.trans h1.symm)
  show ss.mergeSort leI = _
  rw [h2]
  exact List.mergeSort_of_pairwise (hr2.imp fun {x y} hxy => by simp only [leI, decide_eq_true_eq]; omega)

theorem take_snoc' (l : List (Nat × Nat)) (k : Nat) (h : k < l.length) : l.take (k + 1) = l.take k ++ [l.getD k (0, 0)] := by
  rw [List.take_add_one, List.getElem?_eq_getElem h]
  simp [List.getD_eq_getElem?_getD, List.getElem?_eq_getElem h]
theorem upd_app {S : Nat → Prop} {a W w4 : World} {X : Obj} {base sz k : Nat} {e : TypeId} {v : Value} {xs : List Value} (hU : Upd S a W) (hrow : W.ownsRow base e sz v k xs) (hb : a.heap.size ≤ base) (hgr : (W.alloc X).grownBy w4 v.ownBlock) : Upd S a w4 :=
  ⟨hgr.os.trans hU.os, hgr.tape.trans hU.tape, hgr.output.trans hU.output, by have h1 := hgr.size; have h2 := hU.size; simp at h1; omega, fun k hk hs => by
    have h2 := hU.size
    rw [hgr.block k (by simp; omega) (fun e => by have := (hrow.lt k e.symm).1; omega), Below.heap_alloc _ _ _ (by omega)]
    exact hU.block k hk hs⟩

end Go.Proofs.YtfdnfllefednjaaDoor

/-
  Package buddy: Alloc.
-/
namespace Go.Proofs.YtfdnfllefednjaaDoor
open Go.ChangeShapes Go.WideShapes Go.ChangeAt Go.RowKit Go.Maps

theorem pick_stay {o : Nat} {x : Nat × Nat} : ∀ (R : List (Nat × Nat)), (∀ y, y ∈ R → o ≤ y.2 → x.2 ≤ y.2) → R.foldl (better o) (some x) = some x
  | [], _ => rfl
  | y :: R, h => by
    rw [List.foldl_cons]
    have : better o (some x) y = some x := by
      show (if o ≤ y.2 ∧ y.2 < x.2 then some y else some x) = some x
      rw [if_neg]
      rintro ⟨h1, h2⟩
      have := h y (by simp) h1
      omega
    rw [this]
    exact pick_stay R fun z hz => h z (by simp [hz])
theorem pick_at {o k i : Nat} {L : List (Nat × Nat)} (hi : i < L.length) (hk : o ≤ k) (h1 : ∀ y, y ∈ L → o ≤ y.2 → k ≤ y.2) (h2 : ∀ j, j < i → (L.getD j (0, 0)).2 ≠ k) (h3 : (L.getD i (0, 0)).2 = k) : pick o L = some (L.getD i (0, 0)) := by
  have e : L = L.take (i + 1) ++ L.drop (i + 1) := (List.take_append_drop _ _).symm
  have hx : L.getD i (0, 0) ∈ L := by rw [List.getD_eq_getElem?_getD, List.getElem?_eq_getElem hi]; exact List.getElem_mem _
  have hs : pick o (L.take (i + 1)) = some (L.getD i (0, 0)) := by
    rw [take_snoc L i hi, pick_snoc]
    cases hp : pick o (L.take i) with
    | none => show (if o ≤ (L.getD i (0, 0)).2 then some (L.getD i (0, 0)) else none) = _; rw [if_pos (by omega)]
    | some y =>
      obtain ⟨p1, p2, _⟩ := pick_some hp
      show (if o ≤ (L.getD i (0, 0)).2 ∧ (L.getD i (0, 0)).2 < y.2 then some (L.getD i (0, 0)) else some y) = _
      obtain ⟨j, hj, hje⟩ := List.getElem_of_mem p1
      rw [List.length_take] at hj
      have hy : y = L.getD j (0, 0) := by
        rw [← hje, List.getElem_take, List.getD_eq_getElem?_getD, List.getElem?_eq_getElem (by omega)]; rfl
      have hym : y ∈ L := List.mem_of_mem_take p1
      have a1 := h1 y hym p2
      have a2 := h2 j (by omega)
      rw [← hy] at a2
      rw [if_pos ⟨by omega, by omega⟩]
  have : pick o L = (L.drop (i + 1)).foldl (better o) (pick o (L.take (i + 1))) := by
    conv => lhs; rw [e]
    unfold pick
    rw [List.foldl_append]
  rw [this, hs]
  exact pick_stay _ fun y hy ho => by rw [h3]; exact h1 y (List.mem_of_mem_drop hy) ho
theorem pick_no {o : Nat} {L : List (Nat × Nat)} (h8 : ∀ y, y ∈ L → y.2 ≤ 8) (h1 : ∀ y, y ∈ L → o ≤ y.2 → 9 ≤ y.2) : pick o L = none := by
  cases hp : pick o L with
  | none => rfl
  | some x =>
    obtain ⟨p1, p2, _⟩ := pick_some hp
    have := h1 x p1 p2
    have := h8 x p1
    omega
theorem blocks_hi {F : Nat → Bool} {n : Nat} {y : Nat × Nat} (h : y ∈ blocks F n) : y.2 ≤ 8 := (mem_blocks.1 h).hi
theorem blocks_len (F : Nat → Bool) (n : Nat) : (blocks F n).length ≤ n := mxTo_len F n n

set_option maxHeartbeats 400000 in
theorem bAlloc_bad (A : Nat) (o : Int) (w : World) (hb : o < 0 ∨ 8 < o) :
    Calls Tryd.prog 86 #[.pointer (some ⟨A, 0, none⟩), .int .i64 o] w fun e w' => e = .returned (.tuple #[.int .i64 0, .int .i64 1]) ∧ w = w' := by
  by_cases h0 : o < 0
  all_goals
    go_enter Tryd.func86, Tryd.ntmps86
    go_wp2
    go_ret2
    exact ⟨rfl, rfl⟩

set_option maxRecDepth 100000 in
set_option maxHeartbeats 4000000 in
theorem bAlloc_any (A MA GB : Nat) (m : Mem) (b : Bud) (o : Nat) (w : World) (h : BudAt w A MA GB b) (hm : MemAt w MA m) (hn : m.n = b.n) (ho : o ≤ 8) :
    Calls Tryd.prog 86 #[.pointer (some ⟨A, 0, none⟩), .int .i64 o] w fun e w' =>
      (b.sel o = none ∧ e = .returned (.tuple #[.int .i64 0, .int .i64 6]) ∧ Upd (fun _ => False) w w') ∨
      (∃ x, b.sel o = some x ∧ e = .returned (.tuple #[.int .i64 (x.1 : Int), .int .i64 0]) ∧ BudAt w' A MA GB (b.give (x.1, o)) ∧ Upd (· = GB) w w') := by
  have hb2 := h.ok.hi
  have hl := h.lts
  have hAG := h.ne
  have hok := Lib.hid h.ok
  have hbl := Lib.hid (bBlocks_any A MA GB m b w h hm hn)
  go_enter Tryd.func86, Tryd.ntmps86
  go_wp2_with fail
  refine hbl.out.mono ?_
  rintro e w1 ⟨v, rfl, hrow, U1⟩
  have hrow' := brow_of hrow
  have hLn := blocks_len b.F b.n
  have h8 := Lib.hid (fun y (hy : y ∈ blocks b.F b.n) => blocks_hi hy)
  have hsel := Lib.hid (show b.sel o = pick o (blocks b.F b.n) from rfl)
  have hblk := Lib.hid (fun y (hy : y ∈ blocks b.F b.n) => (mem_blocks.1 hy).b)
  clear hrow hbl
  generalize blocks b.F b.n = L at hrow' hLn h8 hsel hblk
  obtain ⟨ao, cap, rfl, hc⟩ := hrow'
  obtain ⟨ln, hln⟩ : ∃ ln, L.length = ln := ⟨_, rfl⟩
  rw [hln] at hc hLn ⊢
  have Hln := Lib.hid hln
  clear hln
  go_wp2
  go_loopw [7] (fun t wr => ∃ k : Nat, o ≤ k ∧ k ≤ 9 ∧ t = .int .i64 k ∧ Upd (fun _ => False) w1 wr ∧ Hid (∀ y, y ∈ L → o ≤ y.2 → k ≤ y.2)) (fun t _ => 9 - (intOf t).toNat)
  case atStart => exact ⟨o, Nat.le_refl _, by omega, rfl, Upd.refl _ _, Lib.hid fun y _ hy => hy⟩
  case round =>
    obtain ⟨k, k1, k2, rfl, hU, hk⟩ := hrel
    by_cases hlt : k ≤ 8
    · have hk8 : decide ((k : Int) ≤ 8) = true := decide_eq_true (by omega)
      go_wp2
      try rw [hk8]
      go_loopw [25] (fun t wr => ∃ i : Nat, i ≤ ln ∧ t = .int .i64 i ∧ Upd (fun _ => False) w1 wr ∧ Hid (∀ j, j < i → (L.getD j (0, 0)).2 ≠ k)) (fun t _ => ln - (intOf t).toNat)
      case atStart => exact ⟨0, by omega, rfl, hU, Lib.hid fun j hj => by omega⟩
      case round =>
        clear hU
        obtain ⟨i, i1, rfl, hU, hne⟩ := hrel
        by_cases hil : i < ln
        · obtain ⟨g, rfl, hg0, hg1⟩ := hc i hil
          have hg0' := hU.cell hg0 (fun h => h)
          have hg1' := hU.cell hg1 (fun h => h)
          have hxm : L.getD i (0, 0) ∈ L := by rw [List.getD_eq_getElem?_getD, List.getElem?_eq_getElem (by rw [Hln.out]; exact hil)]; exact List.getElem_mem _
          obtain ⟨a1, a2, a3⟩ := alloc_two wr (L.getD i (0, 0)).1 (L.getD i (0, 0)).2 161
          have A3 := Lib.hid a3
          have hU' := hU.trans a2
          have hwM := Nat.le_trans U1.size hU.size
          have hpick := Lib.hid (show (L.getD i (0, 0)).2 = k → pick o L = some (L.getD i (0, 0)) from fun e => pick_at (by rw [Hln.out]; exact hil) k1 hk.out hne.out e)
          have hstep := Lib.hid (show (L.getD i (0, 0)).2 ≠ k → ∀ j, j < i + 1 → (L.getD j (0, 0)).2 ≠ k from fun e j hj => by
            rcases Nat.lt_or_ge j i with h1 | h1
            · exact hne.out j h1
            · rw [show j = i from by omega]; exact e)
          generalize L.getD i (0, 0) = x at hg0' hg1' hxm a1 a2 A3 hU' hpick hstep
          clear a3 hg0 hg1 hc hne hU
          go_upto_region 10 with ((with_reducible refine wpList_store_sz rfl 161 (.tmp 9) (.tmp 28) rfl wr.heap.size 0 #[.int .i64 x.1, .int .i64 x.2] rfl rfl 2 (two_sz _ _) A3.out size_block (two_one _ _) [.int .i64 x.1, .int .i64 x.2] (two_ls _ _) ?_))
          generalize (wr.alloc (.cells #[.int .i64 0, .int .i64 0] 161)).setCells wr.heap.size 0 [.int .i64 x.1, .int .i64 x.2] = W at a1 a2 hU' ⊢
          have hMw := lt_of_heap a1
          generalize wr.heap.size = M at a1 hMw hwM ⊢
          obtain ⟨b0, b1⟩ := box2 a1
          clear A3 a2
          by_cases hxk : x.2 = k
          · have hB := h.kept (U1.trans hU') (fun h => h) (fun h => h)
            obtain ⟨D, hD, hMp⟩ := hB.mp
            have hp := Lib.hid (hsel.out.trans (hpick.out hxk))
            have hfree := Lib.hid ((hblk.out x hxm).head (show o ≤ x.2 by omega))
            have hput := Lib.hid (hMp.put (hD.tidy keyLaw) x.1 o fun y hy e => by
              have hf := (hok.out.fr x.1).1 (hfree.out.fr x.1 (Nat.le_refl _) (by have := Nat.two_pow_pos o; omega))
              have := hf.2.2 y hy
              rw [inBlk_iff.2 ⟨by omega, by have := Nat.two_pow_pos y.2; omega⟩] at this
              cases this)
            have hgive := Lib.hid (hok.out.give ho hfree.out)
            have hfl := hfree.out.le
            have hwf := Lib.hid (wf_frame (n := x.1) (by have := Nat.two_pow_pos o; omega))
            have hwo := Lib.hid (wf_frame (n := o) (by omega))
            have hU2 := U1.trans hU'
            subst hxk
            clear hpick hstep hg0' hg1' hk h8 hsel hblk hMp hfl hU' U1
            go_upto_region 11 with fail
            refine wp_region_tail 7 (by kernel_rfl) (by kernel_rfl) ?_
            simp only [List.take_succ_cons, List.take_zero, List.drop_succ_cons, List.drop_zero]
            intro w2 hw2
            have hU3 := hU2.drew
            have hB2 := hB.kept (Upd.refl (fun _ => False) W).drew (fun h => h) (fun h => h)
            have hD2 := map_kept hD (Upd.refl (fun _ => False) W).drew (fun h => h)
            have a2 := (Upd.refl (fun _ => False) W).drew.at a1 (fun h => h)
            rw [← hw2] at hU3 hB2 hD2 a2
            clear hw2
            have hc2 := hB2.c2
            obtain ⟨b20, b21⟩ := box2 a2
            repeat still_step
            refine wpStill_nil ?_
            go_upto_region 12 with ((at_mapUpdate; refine wpList_mapUpdate_own _ rfl _ _ _ 135 rfl 3 3 keyLaw Tryd.underlying135 _ GB 256 D rfl hD2 (by decide) _ _ (kf x.1) rfl rfl (keyOf_int_mk Tryd.underlying3 hwf.out) _ [] (plainElem_int Tryd.underlying3 hwo.out) ?_; intro w3 hown3 hgrow3))
            have hU4 := hU3.mono (T := (· = GB)) (fun _ _ h => h.elim) |>.trans (upd_grown hgrow3)
            have hB4 : BudAt w3 A MA GB (b.give (x.1, o)) := ⟨(upd_grown hgrow3).at hB2.head hAG, ⟨_, map_tight hown3 256 (by rw [hput.out.sz]; exact hgive.out.gave_len), hput.out⟩, hgive.out⟩
            have a4 := (upd_grown hgrow3).at a2 (by show ¬ M = GB; omega)
            obtain ⟨b40, b41⟩ := box2 a4
            clear b20 b21 b0 b1 hgrow3 hown3 hB2 hD2 hU3 hc2
            go_wp2
            go_ret2
            exact .inr ⟨x, hp.out, rfl, hB4, hU4⟩
          · have hst := Lib.hid (hstep.out hxk)
            have hb1 : ((x.2 : Int) == (k : Int)) = false := by simp; omega
            clear hpick hstep hg0' hg1'
            go_wp2
            go_roundw
            case rel => exact ⟨i + 1, by omega, by go_num, hU', hst⟩
            case measure => simp [intOf]; omega
        · have e : i = ln := by omega
          subst e
          have hk' := Lib.hid (show ∀ y, y ∈ L → o ≤ y.2 → k + 1 ≤ y.2 from fun y hy hoy => by
            have a1 := hk.out y hy hoy
            obtain ⟨j, hj, hje⟩ := List.getElem_of_mem hy
            have a2 := hne.out j (by rw [← Hln.out]; exact hj)
            rw [List.getD_eq_getElem?_getD, List.getElem?_eq_getElem hj] at a2
            rw [← hje] at a1 ⊢
            simp at a2
            omega)
          clear hk hne hc
          go_wp2
          exact ⟨⟨k + 1, by omega, by omega, by go_num, hU, hk'⟩, by simp [intOf]; omega⟩
    · have e : k = 9 := by omega
      subst e
      have hv := Lib.hid (hsel.out.trans (pick_no h8.out hk.out))
      clear hc
      go_wp2
      go_ret2
      exact .inl ⟨hv.out, rfl, U1.trans hU⟩
end Go.Proofs.YtfdnfllefednjaaDoor

/-
  The document's own allocator: Free.
-/
namespace Go.Proofs.YtfdnfllefednjaaDoor
open Go.ChangeShapes Go.WideShapes Go.ChangeAt Go.RowKit

theorem erase_at (l : List (Nat × Nat)) (x : Nat × Nat) : ∀ i, i < l.length → (∀ j, j < i → l.getD j (0, 0) ≠ x) → l.getD i (0, 0) = x → l.erase x = l.take i ++ l.drop (i + 1) := by
  induction l with
  | nil => intro i hi; simp at hi
  | cons y r ih =>
    intro i hi hno hx
    cases i with
    | zero =>
      have : y = x := hx
      subst this
      simp
    | succ i =>
      have h0 : y ≠ x := hno 0 (by omega)
      rw [List.erase_cons_tail (by simpa using h0), ih i (by simpa using hi) (fun j hj => hno (j + 1) (by omega)) hx]
      simp
/-- which of the given blocks are it? -/
def isB (x : Nat × Nat) (f o : Int) : Bool := decide ((x.1 : Int) = f ∧ (x.2 : Int) = o)

/-- given back from f up to i -/
def addTo (F : Nat → Bool) (f i : Nat) : Nat → Bool := fun j => F j || (decide (f ≤ j) && decide (j < i))
theorem addTo_start (F : Nat → Bool) (f : Nat) : addTo F f f = F := by
  funext j
  unfold addTo
  rw [show (decide (f ≤ j) && decide (j < f)) = false from by simp]
  simp
theorem addTo_step (n : Nat) (F : Nat → Bool) (f i : Nat) (h : f ≤ i) : fcells n (updF (addTo F f i) i true) = fcells n (addTo F f (i + 1)) := fcells_congr fun j _ => by
  unfold updF addTo
  by_cases e : j = i
  · rw [if_pos e, e]; simp [h]
  · rw [if_neg e]
    by_cases h2 : j < i
    · simp [h2, Nat.lt_succ_of_lt h2]
    · simp [h2, show ¬ j < i + 1 from by omega]
/-! parts of a slice of blocks -/
theorem bcells_take (l : List (Nat × Nat)) (i : Nat) : (bcells l).take (i * 2) = bcells (l.take i) := by
  induction l generalizing i with
  | nil => simp [bcells]
  | cons x r ih =>
    cases i with
    | zero => simp [bcells]
    | succ i =>
      rw [show x :: r = [x] ++ r from rfl, bcells_app, show (i + 1) * 2 = i * 2 + 2 from by omega, List.take_append]
      have e : (bcells [x]).length = 2 := rfl
      rw [e, List.take_of_length_le (by rw [e]; omega), show i * 2 + 2 - 2 = i * 2 from by omega, ih]
      simp [bcells]
theorem bcells_drop (l : List (Nat × Nat)) (i : Nat) : (bcells l).drop (i * 2) = bcells (l.drop i) := by
  induction l generalizing i with
  | nil => simp [bcells]
  | cons x r ih =>
    cases i with
    | zero => simp
    | succ i =>
      rw [show x :: r = [x] ++ r from rfl, bcells_app, show (i + 1) * 2 = i * 2 + 2 from by omega, List.drop_append]
      have e : (bcells [x]).length = 2 := rfl
      rw [e, List.drop_eq_nil_of_le (by rw [e]; omega), show i * 2 + 2 - 2 = i * 2 from by omega, ih]
      simp
-- s[:i]
theorem row_cap {w : World} {base sz k n cap : Nat} {e : TypeId} {o : Option Addr} {xs : List Value} (h : w.ownsRow base e sz (.slice o n cap) k xs) : k ≤ cap := by
  rcases h.2 with ⟨h1, h2⟩ | ⟨g, cap', cur, h1, _, _, h3, _⟩
  · omega
  · simp at h1; omega
/-- onto a new empty slice: nothing that was there has turned -/
theorem app_upd {wr w4 : World} {e : TypeId} (g4 : ((wr.alloc (.cells #[] e)).drew).grownBy w4 (Value.slice (some ⟨wr.heap.size, 0, none⟩) 0 0).ownBlock) : Upd (fun _ => False) wr w4 := by
  refine ⟨g4.os, g4.tape, g4.output, by have := g4.size; simp at this; omega, fun k hk _ => ?_⟩
  rw [g4.block k (by simp; omega) (fun e' => by simp [Value.ownBlock] at e'; omega)]
  exact Below.heap_alloc _ _ _ hk
theorem app_upd2 {wr w4 w5 : World} {v : Value} (u : Upd (fun _ => False) wr w4) (g5 : w4.grownBy w5 v.ownBlock) (h4 : ∀ k, v.ownBlock = some k → wr.heap.size ≤ k) : Upd (fun _ => False) wr w5 :=
  ⟨g5.os.trans u.os, g5.tape.trans u.tape, g5.output.trans u.output, Nat.le_trans u.size g5.size, fun k hk _ => (g5.block k (Nat.lt_of_lt_of_le hk u.size) (fun e' => by have := h4 k e'.symm; omega)).trans (u.block k hk (fun h => h))⟩
end Go.Proofs.YtfdnfllefednjaaDoor

/-
  Package buddy: Free.
-/
namespace Go.Proofs.YtfdnfllefednjaaDoor
open Go.ChangeShapes Go.WideShapes Go.ChangeAt Go.RowKit Go.Maps

theorem wpStill_shl1 {P : Program} {ops : Array Oper} {rest : List Oper} {op : Oper} {a : Act} {w : World} {Q : Act → Prop} (hw : Region.wanted op (yielded ops a.tmps) = true) (t u : TypeId) (x y : Operand) (ho : op.op = .binOp .shl t x y u)
    (hx : a.eval x = .int .i64 1) (k : Nat) (hk : k ≤ 8) (hy : a.eval y = .int .i64 k) (h : wpStill P ops w Q rest (a.put op.dst (.int .i64 (pw k)))) : wpStill P ops w Q (op :: rest) a := by
  refine wpStill_step fun K hK => ?_
  rw [if_pos hw]
  unfold Oper.still execOp
  simp only [ho, hx, hy, eqGuard_shl, binOp_shl, shift_shl_any _ _ _ _ (Int.natCast_nonneg k), Sem.run_bind, Sem.run_pure, Result.andThen_ok, shl_pw k hk]
  exact ⟨rfl, hK _ h⟩
theorem BudAt.apart {w : World} {A MA GB : Nat} {b : Bud} {m : Mem} (h : BudAt w A MA GB b) (hm : MemAt w MA m) : A ≠ MA ∧ A ≠ m.B ∧ GB ≠ MA ∧ GB ≠ m.B := by
  obtain ⟨D, ⟨es, c, hb, _⟩, _⟩ := h.mp
  refine ⟨fun e => ?_, fun e => ?_, fun e => ?_, fun e => ?_⟩
  · have h1 := h.head; rw [e, hm.head] at h1; simp at h1
  · have h1 := h.head; rw [e, hm.body] at h1; simp at h1
  · rw [e, hm.head] at hb; cases hb
  · rw [e, hm.body] at hb; cases hb

set_option maxRecDepth 100000 in
set_option maxHeartbeats 4000000 in
theorem bFree_any (A MA GB : Nat) (m : Mem) (b : Bud) (f o : Int) (w : World) (h : BudAt w A MA GB b) (hm : MemAt w MA m) (hwf : (Lit.int .i64 f).wf = true) :
    Calls Tryd.prog 92 #[.pointer (some ⟨A, 0, none⟩), .int .i64 f, .int .i64 o] w fun e w' =>
      ((∀ x, x ∈ b.gave → isB x f o = false) ∧ e = .returned (.int .i64 2) ∧ w = w') ∨
      (∃ x, x ∈ b.gave ∧ (x.1 : Int) = f ∧ (x.2 : Int) = o ∧ e = .returned (.int .i64 0) ∧ BudAt w' A MA GB (b.take x) ∧ MemAt w' MA (m.scrub f ((2 ^ x.2 : Nat) : Int)) ∧ Upd (fun k => k = GB ∨ k = m.B) w w') := by
  have hc0 := h.c0
  have hc2 := h.c2
  have hz := zero_int
  have HW := Lib.hid hwf
  have hok := Lib.hid h.ok
  obtain ⟨D, hD, hM⟩ := h.mp
  by_cases hx : ∃ x, x ∈ b.gave ∧ (x.1 : Int) = f
  · obtain ⟨x, hx, rfl⟩ := hx
    have hhas := Lib.hid (show Maps.has D (.int .i64 (x.1 : Int)) = true from hM.mem hx)
    have hget := Lib.hid (hM.get x hx (.lit (.int .i64 0)))
    obtain ⟨x8, xal, xr, xn⟩ := h.ok.blk x hx
    by_cases hxo : (x.2 : Int) = o
    · subst hxo
      clear hwf
      go_enter Tryd.func92, Tryd.ntmps92
      go_upto_region 2 with ((at_lookup; refine wpList_lookup_own_ok_int _ rfl _ _ 135 rfl 3 3 .i64 keyLaw Tryd.underlying135 Tryd.underlying3 (hz _) GB 256 D rfl hD _ (.int .i64 (x.1 : Int)) rfl (keyOf_int_mk Tryd.underlying3 HW.out) ?_; intro c hat hwc; obtain rfl : (x.2 : Int) = c := by { rw [show (Lit.int .i64 (x.1 : Int)) = kf x.1 from rfl, hget.out] at hat; injection hat with hat; injection hat }))
      rw [hhas.out]
      go_upto_region 4 with fail
      refine wp_region_tail 7 (by kernel_rfl) (by kernel_rfl) ?_
      simp only [List.take_succ_cons, List.take_zero, List.drop_succ_cons, List.drop_zero]
      intro w2 hw2
      have hU2 := (Upd.refl (fun k => k = GB ∨ k = m.B) w).drew
      have hB2 := h.kept (Upd.refl (fun _ => False) w).drew (fun h => h) (fun h => h)
      have hM2 := hm.kept (Upd.refl (fun _ => False) w).drew (fun h => h) (fun h => h)
      rw [← hw2] at hU2 hB2 hM2
      clear hw2
      have hc0 := hB2.c0
      have hbd := pw_bd x.2 x8
      have hpw := Lib.hid (show pw x.2 = ((2 ^ x.2 : Nat) : Int) from rfl)
      repeat (first | (with_reducible refine wpStill_shl1 rfl _ _ _ _ rfl rfl x.2 x8 rfl ?_) | still_step)
      refine wpStill_nil ?_
      go_wp2_with fail
      refine (scrub_any MA m _ _ _ hM2 (by omega)).mono ?_
      rintro e w3 ⟨rfl, hM3, hU3⟩
      obtain ⟨n1, n2, n3, n4⟩ := h.apart hm
      have hB3 := hB2.kept hU3 n2 n4
      have hc2 := hB3.c2
      obtain ⟨D3, hD3, hMp3⟩ := hB3.mp
      have hdel := Lib.hid (hMp3.del (hD3.tidy keyLaw) hx hok.out.nodup fun y hy e => hok.out.key hy hx e)
      have htake := Lib.hid (hok.out.take hx)
      rw [hpw.out] at hM3
      generalize errI (m.ex x.1 (pw x.2)) = er
      clear hB2 hM2 hc0
      go_upto_region 6 with ((at_delete; refine wpList_delete_own _ rfl _ _ 135 3 rfl 3 keyLaw Tryd.underlying135 _ GB 256 D3 rfl hD3 _ _ rfl (keyOf_int_mk Tryd.underlying3 HW.out) ?_; intro w4 hown4 hturn4))
      have hg4 := upd_grown hturn4.grown
      have hB4 : BudAt w4 A MA GB (b.take x) := ⟨hg4.at hB3.head h.ne, ⟨_, hown4, hdel.out⟩, htake.out⟩
      have hM4 := hM3.kept hg4 (by show ¬ MA = GB; exact fun e => n3 e.symm) (by rw [Mem.scrub_B]; show ¬ m.B = GB; exact fun e => n4 e.symm)
      have hU4 : Upd (fun k => k = GB ∨ k = m.B) w w4 := (hU2.trans (hU3.mono fun _ _ e => .inr e)).trans (hg4.mono fun _ _ e => .inl e)
      clear hg4 hturn4 hown4 hM3 hU3 hB3
      go_wp2
      go_ret
      exact .inr ⟨x, hx, rfl, rfl, rfl, hB4, hM4, hU4⟩
    · have hbo : ((x.2 : Int) != o) = true := by simp; exact hxo
      have hno := Lib.hid (show ∀ y, y ∈ b.gave → isB y (x.1 : Int) o = false from fun y hy => decide_eq_false fun e => hxo (by
        have : y = x := h.ok.key hy hx (by omega)
        rw [← this]; exact e.2))
      clear hwf
      go_enter Tryd.func92, Tryd.ntmps92
      go_upto_region 2 with ((at_lookup; refine wpList_lookup_own_ok_int _ rfl _ _ 135 rfl 3 3 .i64 keyLaw Tryd.underlying135 Tryd.underlying3 (hz _) GB 256 D rfl hD _ (.int .i64 (x.1 : Int)) rfl (keyOf_int_mk Tryd.underlying3 HW.out) ?_; intro c hat hwc; obtain rfl : (x.2 : Int) = c := by { rw [show (Lit.int .i64 (x.1 : Int)) = kf x.1 from rfl, hget.out] at hat; injection hat with hat; injection hat }))
      rw [hhas.out]
      go_wp2
      go_ret
      exact .inl ⟨hno.out, rfl, rfl⟩
  · have hhas := Lib.hid (show Maps.has D (.int .i64 f) = false from hM.no fun x hx' e => hx ⟨x, hx', by unfold kf at e; injection e with _ e; exact e.symm⟩)
    have hno := Lib.hid (show ∀ y, y ∈ b.gave → isB y f o = false from fun y hy => decide_eq_false fun e => hx ⟨y, hy, e.1⟩)
    clear hwf hx
    go_enter Tryd.func92, Tryd.ntmps92
    go_upto_region 2 with ((at_lookup; refine wpList_lookup_own_ok_int _ rfl _ _ 135 rfl 3 3 .i64 keyLaw Tryd.underlying135 Tryd.underlying3 (hz _) GB 256 D rfl hD _ (.int .i64 f) rfl (keyOf_int_mk Tryd.underlying3 HW.out) ?_; intro c hat hwc))
    rw [hhas.out]
    clear hat hwc
    go_wp2
    go_ret
    exact .inl ⟨hno.out, rfl, rfl⟩
end Go.Proofs.YtfdnfllefednjaaDoor

/-
  The document's own allocator: Held.
-/
namespace Go.Proofs.YtfdnfllefednjaaDoor
open Go.ChangeShapes Go.WideShapes Go.ChangeAt Go.RowKit

theorem Src.upd {w w' : World} {x : Value} {m size : Nat} {news : List Value} (h : Src w x m size news) (u : Upd (fun _ => False) w w') : Src w' x m size news := by
  rcases h with h | ⟨b, off, c, rfl, h1, h2⟩
  · exact .inl h
  · exact .inr ⟨b, off, c, rfl, h1, fun j v hv => u.cell (h2 j v hv) (fun h => h)⟩
theorem grow_upd {W X w4 : World} {v : Value} (u : Upd (fun _ => False) W X) (g : X.grownBy w4 v.ownBlock) (hv : ∀ k, v.ownBlock = some k → W.heap.size ≤ k) : Upd (fun _ => False) W w4 := app_upd2 u g hv

end Go.Proofs.YtfdnfllefednjaaDoor

/-
  The laws' same: two slices of blocks.
-/
namespace Go.Proofs.YtfdnfllefednjaaDoor
open Go.ChangeShapes Go.WideShapes Go.ChangeAt Go.RowKit

end Go.Proofs.YtfdnfllefednjaaDoor

/-
  The laws' begun and awake.
-/
namespace Go.Proofs.YtfdnfllefednjaaDoor
open Go.ChangeShapes Go.WideShapes Go.ChangeAt Go.RowKit Go.Maps

/-- an allocator and its memory, by their places -/
structure Duo (w : World) (A MA GB : Nat) (m : Mem) (b : Bud) : Prop where
  B : BudAt w A MA GB b
  M : MemAt w MA m
  n : m.n = b.n
theorem Duo.kept {S : Nat → Prop} {w w' : World} {A MA GB : Nat} {m : Mem} {b : Bud} (h : Duo w A MA GB m b) (u : Upd S w w') (h1 : ¬ S A) (h2 : ¬ S GB) (h3 : ¬ S MA) (h4 : ¬ S m.B) : Duo w' A MA GB m b :=
  ⟨h.B.kept u h1 h2, h.M.kept u h3 h4, h.n⟩
theorem Duo.still {w w' : World} {A MA GB : Nat} {m : Mem} {b : Bud} (h : Duo w A MA GB m b) (u : Upd (fun _ => False) w w') : Duo w' A MA GB m b := h.kept u (fun h => h) (fun h => h) (fun h => h) (fun h => h)
/-- nothing of it was there before block B -/
structure Since (B A MA GB : Nat) (m : Mem) : Prop where
  a : B ≤ A
  ma : B ≤ MA
  gb : B ≤ GB
  mb : B ≤ m.B

theorem aw1 : (blocks (bud0 8 1).F 8).length = 3 := by decide
theorem aw2 : (bud0 8 1).sel 1 = some (2, 1) := by decide
theorem aw3 : ((bud0 8 1).give (2, 1)).sel 1 = some (4, 2) := by decide
theorem aw4 : (((bud0 8 1).give (2, 1)).give (4, 1)).left = 3 := by decide
end Go.Proofs.YtfdnfllefednjaaDoor

/-
  What the laws do with an allocator: an Alloc of whatever order, a Free of a block that is given; the operations' cells.
-/
namespace Go.Proofs.YtfdnfllefednjaaDoor
open Go.ChangeShapes Go.WideShapes Go.ChangeAt Go.RowKit Go.Maps

theorem below_none {w w' : World} (h : Upd (fun _ => False) w w') : Below w.heap.size w w' := h.below (Nat.le_refl _) (fun _ _ e => e)
/-- an operation's four cells -/
theorem op_cells {w : World} {ao : Option Addr} {n b off : Nat} {E : Nat → Nat → Value} (R : Fr.RowArg w ao n b off [some .i64, some .i64, some .i64, some .u64] E) (i : Nat) (hi : i < n) :
    ∃ d N o W : Int, w.cell? ⟨b, off + i * 4, none⟩ = some (.int .i64 d) ∧ w.cell? ⟨b, off + i * 4 + 1, none⟩ = some (.int .i64 N) ∧ w.cell? ⟨b, off + i * 4 + 2, none⟩ = some (.int .i64 o) ∧ w.cell? ⟨b, off + i * 4 + 3, none⟩ = some (.int .u64 W) ∧
      (Lit.int .i64 d).wf = true ∧ (Lit.int .i64 N).wf = true ∧ (Lit.int .i64 o).wf = true ∧ (Lit.int .u64 W).wf = true := by
  obtain ⟨d, e0, w0⟩ := R.ok i hi 0 _ rfl
  obtain ⟨N, e1, w1⟩ := R.ok i hi 1 _ rfl
  obtain ⟨o, e2, w2⟩ := R.ok i hi 2 _ rfl
  obtain ⟨W, e3, w3⟩ := R.ok i hi 3 _ rfl
  refine ⟨d, N, o, W, ?_, ?_, ?_, ?_, w0, w1, w2, w3⟩
  · have := R.cell i hi 0 (by decide); rw [e0] at this; simpa [Nat.add_assoc] using this
  · have := R.cell i hi 1 (by decide); rw [e1] at this; simpa [Nat.add_assoc] using this
  · have := R.cell i hi 2 (by decide); rw [e2] at this; simpa [Nat.add_assoc] using this
  · have := R.cell i hi 3 (by decide); rw [e3] at this; simpa [Nat.add_assoc] using this
theorem Duo.ne {w : World} {A MA GB : Nat} {m : Mem} {b : Bud} (h : Duo w A MA GB m b) : A ≠ GB ∧ A ≠ MA ∧ A ≠ m.B ∧ GB ≠ MA ∧ GB ≠ m.B ∧ MA ≠ m.B := by
  obtain ⟨a1, a2, a3, a4⟩ := h.B.apart h.M
  exact ⟨h.B.ne, a1, a2, a3, a4, h.M.ne⟩
theorem Duo.gb {w w' : World} {A MA GB : Nat} {m : Mem} {b b' : Bud} (h : Duo w A MA GB m b) (B : BudAt w' A MA GB b') (u : Upd (· = GB) w w') (hn : b'.n = b.n) : Duo w' A MA GB m b' :=
  ⟨B, h.M.kept u (fun e => h.ne.2.2.2.1 e.symm) (fun e => h.ne.2.2.2.2.1 e.symm), by rw [hn]; exact h.n⟩
/-- an Alloc of whatever order -/
theorem balloc_all (A MA GB : Nat) (m : Mem) (b : Bud) (o : Int) (w : World) (h : Duo w A MA GB m b) :
    Calls Tryd.prog 86 #[.pointer (some ⟨A, 0, none⟩), .int .i64 o] w fun e w' => ∃ (x y : Int) (b' : Bud), e = .returned (.tuple #[.int .i64 x, .int .i64 y]) ∧ Duo w' A MA GB m b' ∧ b'.n = b.n ∧ b'.res = b.res ∧ Upd (· = GB) w w' := by
  by_cases ho : 0 ≤ o ∧ o ≤ 8
  · obtain ⟨k, rfl⟩ := Int.eq_ofNat_of_zero_le ho.1
    refine (bAlloc_any A MA GB m b k w h.B h.M h.n (by omega)).mono ?_
    rintro e w' (⟨_, rfl, U⟩ | ⟨x, _, rfl, B, U⟩)
    · exact ⟨_, _, b, rfl, h.still U, rfl, rfl, U.mono fun _ _ h => h.elim⟩
    · exact ⟨_, _, _, rfl, h.gb B U rfl, rfl, rfl, U⟩
  · refine (bAlloc_bad A o w (by omega)).mono ?_
    rintro e w' ⟨rfl, rfl⟩
    exact ⟨_, _, b, rfl, h, rfl, rfl, Upd.refl _ _⟩
/-- a Free of a block that is given -/
theorem bfree_yes (A MA GB : Nat) (m : Mem) (b : Bud) (x : Nat × Nat) (w : World) (h : Duo w A MA GB m b) (hx : x ∈ b.gave) :
    Calls Tryd.prog 92 #[.pointer (some ⟨A, 0, none⟩), .int .i64 x.1, .int .i64 x.2] w fun e w' => e = .returned (.int .i64 0) ∧ Duo w' A MA GB (m.scrub x.1 ((2 ^ x.2 : Nat) : Int)) (b.take x) ∧ Upd (fun k => k = GB ∨ k = m.B) w w' := by
  obtain ⟨x8, xal, xr, xn⟩ := h.B.ok.blk x hx
  have hhi := h.B.ok.hi
  refine (bFree_any A MA GB m b x.1 x.2 w h.B h.M (wf_frame (by have := Nat.two_pow_pos x.2; omega))).mono ?_
  rintro e w' (⟨hno, _⟩ | ⟨y, hy, e1, e2, rfl, B, M, U⟩)
  · have := hno x hx
    simp [isB] at this
  · obtain rfl : y = x := Prod.ext (by omega) (by omega)
    exact ⟨rfl, ⟨B, M, by rw [Mem.scrub_n]; exact h.n⟩, U⟩
theorem Since.kept {B A MA GB : Nat} {m m' : Mem} (h : Since B A MA GB m) (e : m'.B = m.B) : Since B A MA GB m' := ⟨h.a, h.ma, h.gb, by rw [e]; exact h.mb⟩
theorem Upd.since {S : Nat → Prop} {a c d : World} (h : Upd (fun _ => False) a c) (k : Upd S c d) (hs : ∀ j, S j → a.heap.size ≤ j) : Upd (fun _ => False) a d :=
  ⟨k.os.trans h.os, k.tape.trans h.tape, k.output.trans h.output, Nat.le_trans h.size k.size, fun i hi hf => (k.block i (Nat.lt_of_lt_of_le hi h.size) fun hj => by have := hs i hj; omega).trans (h.block i hi hf)⟩
/-- 1 << k at a step of a region that draws -/
theorem step_shl1 {P : Program} {ops : Array Oper} {o : Oper} {a : Act} {w : World} {K : Act → World → Prop} {Q : Exit → Act → World → Prop} {E : Prop} (hw : Region.wanted o (yielded ops a.tmps) = true) (t u : TypeId) (x y : Operand) (ho : o.op = .binOp .shl t x y u)
    (hx : a.eval x = .int .i64 1) (k : Nat) (hk : k ≤ 8) (hy : a.eval y = .int .i64 k) (h : K (a.put o.dst (.int .i64 (pw k))) w) :
    if Region.wanted o (yielded ops a.tmps) = true then Oper.wp P o a w K Q else E := by
  rw [if_pos hw]
  unfold Oper.wp execOp
  simp only [ho, hx, hy, eqGuard_shl, binOp_shl, shift_shl_any _ _ _ _ (Int.natCast_nonneg k), Sem.run_bind, Sem.run_pure, Result.andThen_ok, shl_pw k hk]
  exact h
theorem shl_pw2 (k : Nat) (hk : k ≤ 8) : IntKind.i64.wrap ((2 : Int) ^ k) = pw k := by
  unfold pw
  match k, hk with
  | 0, _ | 1, _ | 2, _ | 3, _ | 4, _ | 5, _ | 6, _ | 7, _ | 8, _ => rfl
theorem and7 (n : Int) : bits .and .i64 n 7 = n % 8 := by
  have h : (BitVec.ofInt 64 7).toNat = 2 ^ 3 - 1 := by decide
  have key : (BitVec.ofInt 64 n &&& BitVec.ofInt 64 7).toNat = (n % ((2 ^ 64 : Nat) : Int)).toNat % 2 ^ 3 := by
    rw [BitVec.toNat_and, BitVec.toNat_ofInt, h, Nat.and_two_pow_sub_one_eq_mod]
  show IntKind.i64.wrap ((BitVec.ofInt 64 n &&& BitVec.ofInt 64 7).toNat : Nat) = n % 8
  rw [key, IntKind.wrap_i64]
  omega
theorem and15 (n : Int) : bits .and .i64 n 15 = n % 16 := by
  have h : (BitVec.ofInt 64 15).toNat = 2 ^ 4 - 1 := by decide
  have key : (BitVec.ofInt 64 n &&& BitVec.ofInt 64 15).toNat = (n % ((2 ^ 64 : Nat) : Int)).toNat % 2 ^ 4 := by
    rw [BitVec.toNat_and, BitVec.toNat_ofInt, h, Nat.and_two_pow_sub_one_eq_mod]
  show IntKind.i64.wrap ((BitVec.ofInt 64 n &&& BitVec.ofInt 64 15).toNat : Nat) = n % 16
  rw [key, IntKind.wrap_i64]
  omega
/-- x == y at a step of a region that draws, its answer known -/
theorem step_eql {P : Program} {ops : Array Oper} {o : Oper} {a : Act} {w : World} {K : Act → World → Prop} {Q : Exit → Act → World → Prop} {E : Prop} (hw : Region.wanted o (yielded ops a.tmps) = true) (t u : TypeId) (x y : Operand) (ho : o.op = .binOp .eql t x y u)
    (k : IntKind) (p q : Int) (hx : a.eval x = .int k p) (hy : a.eval y = .int k q) (r : Bool) (hr : (p == q) = r) (h : K (a.put o.dst (.bool r)) w) :
    if Region.wanted o (yielded ops a.tmps) = true then Oper.wp P o a w K Q else E := by
  subst hr
  rw [if_pos hw]
  unfold Oper.wp execOp
  simp only [ho, hx, hy, eqGuard_at_int, binOp_eql, Sem.run_bind, Sem.run_pure, Result.andThen_ok]
  exact h
end Go.Proofs.YtfdnfllefednjaaDoor
