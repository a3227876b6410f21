/-
  Texts that the laws stand on, joined: BuH, Lay, BgF, BgG, BuV, BgH, BuW, BuY, BgI, BgJ, TbA, WkE, WkL, WkO, TbC, TbG.
-/
import Derived.Deep.CutBlock
import Derived.Deep.DeepCutAuto
import Derived.Deep.RegionHeld3
import Derived.Deep.RegionLaw
import Derived.Shelf.Abstract
import Derived.Shelf.SlIterI.Nil
import Derived.Shelf.SortM.Plain
import Derived.Shelf.SortM.SortNone
import Derived.WalkMore
import Derived.Test.YtpfpcmadhbejiaaDoorPart3

/-
  Package buddy, in plain numbers: the given blocks in the order of their frames.
-/
namespace Go.Proofs.YtpfpcmadhbejiaaDoor

def ins (l : List (Nat × Nat)) (x : Nat × Nat) : List (Nat × Nat) := l.takeWhile (fun y => decide (y.1 < x.1)) ++ ([x] ++ l.dropWhile (fun y => decide (y.1 < x.1)))
def heldOf (g : List (Nat × Nat)) : List (Nat × Nat) := g.foldl ins []
theorem heldOf_snoc (g : List (Nat × Nat)) (x : Nat × Nat) : heldOf (g ++ [x]) = ins (heldOf g) x := by simp [heldOf]
theorem ins_mem {l : List (Nat × Nat)} {x y : Nat × Nat} : y ∈ ins l x ↔ y = x ∨ y ∈ l := by
  unfold ins
  have h := List.takeWhile_append_dropWhile (p := fun y : Nat × Nat => decide (y.1 < x.1)) (l := l)
  have : y ∈ l ↔ y ∈ l.takeWhile (fun y => decide (y.1 < x.1)) ∨ y ∈ l.dropWhile (fun y => decide (y.1 < x.1)) := by
    rw [← List.mem_append, h]
  rw [this]
  simp only [List.mem_append, List.mem_singleton]
  constructor
  · rintro (h | h | h)
    · exact .inr (.inl h)
    · exact .inl h
    · exact .inr (.inr h)
  · rintro (h | h | h)
    · exact .inr (.inl h)
    · exact .inl h
    · exact .inr (.inr h)
/-- where the search stops, all before it being below -/
theorem ins_at (l : List (Nat × Nat)) (x : Nat × Nat) : ∀ i, i ≤ l.length → (∀ j, j < i → (l.getD j (0, 0)).1 < x.1) → (i < l.length → ¬ (l.getD i (0, 0)).1 < x.1) → ins l x = l.take i ++ ([x] ++ l.drop i) := by
  induction l with
  | nil => intro i hi; simp at hi; subst hi; simp [ins]
  | cons y r ih =>
    intro i hi hb hs
    cases i with
    | zero =>
      have : ¬ y.1 < x.1 := hs (by simp)
      unfold ins
      rw [List.takeWhile_cons, List.dropWhile_cons, decide_eq_false this]
      simp
    | succ i =>
      have hy : y.1 < x.1 := hb 0 (by omega)
      have := ih i (by simpa using hi) (fun j hj => hb (j + 1) (by omega)) (fun h => hs (by simpa using h))
      unfold ins at this ⊢
      rw [List.takeWhile_cons, List.dropWhile_cons, decide_eq_true hy]
      exact congrArg (List.cons y) this
theorem takeWhile_all {l : List (Nat × Nat)} {p : Nat × Nat → Bool} {y : Nat × Nat} (h : y ∈ l.takeWhile p) : p y = true := by
  induction l with
  | nil => cases h
  | cons z r ih =>
    rw [List.takeWhile_cons] at h
    by_cases hz : p z = true
    · rw [if_pos hz] at h
      rcases List.mem_cons.1 h with e | e
      · rw [e]; exact hz
      · exact ih e
    · rw [if_neg hz] at h; cases h
theorem ins_rises {l : List (Nat × Nat)} {x : Nat × Nat} (h : l.Pairwise fun a b => a.1 < b.1) (hx : ∀ y, y ∈ l → y.1 ≠ x.1) : (ins l x).Pairwise fun a b => a.1 < b.1 := by
  induction l with
  | nil => simp [ins]
  | cons y r ih =>
    rw [List.pairwise_cons] at h
    have hyx := hx y (by simp)
    by_cases hy : y.1 < x.1
    · have e : ins (y :: r) x = y :: ins r x := by
        unfold ins
        rw [List.takeWhile_cons, List.dropWhile_cons, decide_eq_true hy]
        simp
      rw [e, List.pairwise_cons]
      refine ⟨fun z hz => ?_, ih h.2 fun z hz => hx z (by simp [hz])⟩
      rcases ins_mem.1 hz with rfl | hz
      · exact hy
      · exact h.1 z hz
    · have e : ins (y :: r) x = x :: y :: r := by
        unfold ins
        rw [List.takeWhile_cons, List.dropWhile_cons, decide_eq_false hy]
        simp
      rw [e, List.pairwise_cons, List.pairwise_cons]
      refine ⟨fun z hz => ?_, h⟩
      rcases List.mem_cons.1 hz with rfl | hz
      · omega
      · have := h.1 z hz; omega
theorem heldOf_mem (g : List (Nat × Nat)) : ∀ {y : Nat × Nat}, y ∈ heldOf g ↔ y ∈ g := by
  induction g using snoc_induction with
  | h0 => intro y; rfl
  | h1 l x ih =>
    intro y
    rw [heldOf_snoc, ins_mem, ih, List.mem_append, List.mem_singleton]
    exact Or.comm
theorem heldOf_rises {g : List (Nat × Nat)} (h : g.Pairwise fun a b => a.1 ≠ b.1) : (heldOf g).Pairwise fun a b => a.1 < b.1 := by
  induction g using snoc_induction with
  | h0 => exact List.Pairwise.nil
  | h1 l x ih =>
    rw [List.pairwise_append] at h
    rw [heldOf_snoc]
    exact ins_rises (ih h.1) fun y hy => h.2.2 y ((heldOf_mem l).1 hy) x (by simp)
theorem Bud.Ok.frames {b : Bud} (h : b.Ok) : b.gave.Pairwise fun x y => x.1 ≠ y.1 := h.apart.imp fun {x y} hxy e => by
  have h1 := Nat.two_pow_pos x.2
  have h2 := Nat.two_pow_pos y.2
  have := hxy x.1 (inBlk_iff.2 ⟨Nat.le_refl _, by omega⟩)
  rw [inBlk_iff.2 ⟨by omega, by omega⟩] at this
  cases this
/-- two lists that rise and have the same in them are the same -/
theorem rises_ext : ∀ {l l' : List (Nat × Nat)}, l.Pairwise (fun a b => a.1 < b.1) → l'.Pairwise (fun a b => a.1 < b.1) → (∀ x, x ∈ l ↔ x ∈ l') → l = l'
  | [], [], _, _, _ => rfl
  | [], y :: r, _, _, h => by have := (h y).2 (by simp); cases this
  | x :: r, [], _, _, h => by have := (h x).1 (by simp); cases this
  | x :: r, y :: s, h1, h2, h => by
    rw [List.pairwise_cons] at h1 h2
    have e : x = y := by
      rcases List.mem_cons.1 ((h x).1 (by simp)) with e | hx
      · exact e
      · rcases List.mem_cons.1 ((h y).2 (by simp)) with e | hy
        · exact e.symm
        · have := h1.1 y hy; have := h2.1 x hx; omega
    subst e
    rw [rises_ext h1.2 h2.2 fun z => ?_]
    constructor
    · intro hz
      rcases List.mem_cons.1 ((h z).1 (by simp [hz])) with e | hz'
      · subst e; have := h1.1 z hz; omega
      · exact hz'
    · intro hz
      rcases List.mem_cons.1 ((h z).2 (by simp [hz])) with e | hz'
      · subst e; have := h2.1 z hz; omega
      · exact hz'
def Bud.held (b : Bud) : List (Nat × Nat) := heldOf b.gave
theorem held_len (b : Bud) : b.held.length = b.gave.length := by
  unfold Bud.held
  generalize b.gave = g
  induction g using snoc_induction with
  | h0 => rfl
  | h1 l x ih =>
    rw [heldOf_snoc]
    unfold ins
    have := congrArg List.length (List.takeWhile_append_dropWhile (p := fun y : Nat × Nat => decide (y.1 < x.1)) (l := heldOf l))
    simp only [List.length_append, List.length_singleton] at this ⊢
    omega
end Go.Proofs.YtpfpcmadhbejiaaDoor

/-
  The library's maps.Keys, slices.Sorted and slices.Sort as they stand in this program: which of the shelf's numbers is which of the program's.
-/
namespace Go.Proofs.YtpfpcmadhbejiaaDoor
open Go.RowKit Go.Maps Go.Sort Go.Shelf

def sortA_ren : Go.Shelf.Ren := ⟨fun | 5 => 39 | 8 => 58 | 7 => 57 | 19 => 74 | 20 => 75 | 10 => 65 | 11 => 66 | 12 => 67 | 13 => 68 | 14 => 69 | 15 => 70 | 16 => 71 | 17 => 72 | 18 => 73 | 30 => 79 | 31 => 80 | 32 => 81 | 33 => 82 | 34 => 83 | 35 => 84 | 40 => 88 | n => n, fun | 23 => 44 | 25 => 3 | 3 => 3 | 32 => 108 | 22 => 44 | 0 => 0 | 44 => 126 | 46 => 95 | 4 => 4 | 36 => 119 | 35 => 118 | 41 => 114 | 5 => 5 | 9 => 9 | 53 => 133 | 57 => 137 | 63 => 141 | 64 => 142 | n => n, fun | n => n⟩
theorem sortA : Go.Proofs.SlLaysM.n5 Tryd.prog sortA_ren where
  mixed := by kernel_rfl
  f5 := ⟨ "slices.Sort[[]int,int]", by decide, Tryd.func39.trans (congrArg some (by kernel_rfl))⟩
  f7 := ⟨ "slices.pdqsortOrdered[int]", by decide, Tryd.func57.trans (congrArg some (by kernel_rfl))⟩
  f8 := Tryd.func58.trans (congrArg some (by kernel_rfl))
  f10 := ⟨ "slices.insertionSortOrdered[int]", by decide, Tryd.func65.trans (congrArg some (by kernel_rfl))⟩
  f11 := ⟨ "slices.heapSortOrdered[int]", by decide, Tryd.func66.trans (congrArg some (by kernel_rfl))⟩
  f12 := ⟨ "slices.breakPatternsOrdered[int]", by decide, Tryd.func67.trans (congrArg some (by kernel_rfl))⟩
  f13 := ⟨ "slices.choosePivotOrdered[int]", by decide, Tryd.func68.trans (congrArg some (by kernel_rfl))⟩
  f14 := ⟨ "slices.reverseRangeOrdered[int]", by decide, Tryd.func69.trans (congrArg some (by kernel_rfl))⟩
  f15 := ⟨ "slices.partialInsertionSortOrdered[int]", by decide, Tryd.func70.trans (congrArg some (by kernel_rfl))⟩
  f16 := ⟨ "cmp.Less[int]", by decide, Tryd.func71.trans (congrArg some (by kernel_rfl))⟩
  f17 := ⟨ "slices.partitionEqualOrdered[int]", by decide, Tryd.func72.trans (congrArg some (by kernel_rfl))⟩
  f18 := ⟨ "slices.partitionOrdered[int]", by decide, Tryd.func73.trans (congrArg some (by kernel_rfl))⟩
  f19 := Tryd.func74.trans (congrArg some (by kernel_rfl))
  f20 := Tryd.func75.trans (congrArg some (by kernel_rfl))
  f30 := ⟨ "slices.siftDownOrdered[int]", by decide, Tryd.func79.trans (congrArg some (by kernel_rfl))⟩
  f31 := Tryd.func80.trans (congrArg some (by kernel_rfl))
  f32 := Tryd.func81.trans (congrArg some (by kernel_rfl))
  f33 := ⟨ "slices.medianAdjacentOrdered[int]", by decide, Tryd.func82.trans (congrArg some (by kernel_rfl))⟩
  f34 := ⟨ "slices.medianOrdered[int]", by decide, Tryd.func83.trans (congrArg some (by kernel_rfl))⟩
  f35 := ⟨ "cmp.isNaN[int]", by decide, Tryd.func84.trans (congrArg some (by kernel_rfl))⟩
  f40 := ⟨ "slices.order2Ordered[int]", by decide, Tryd.func88.trans (congrArg some (by kernel_rfl))⟩
  t0 := Tryd.underlying0
  a0 := Tryd.isAgg0
  z0 := Tryd.sizeOf0
  v0 := Tryd.zeroValue0
  t3 := Tryd.underlying3
  a3 := Tryd.isAgg3
  z3 := Tryd.sizeOf3
  v3 := Tryd.zeroValue3
  t4 := Tryd.underlying4
  a4 := Tryd.isAgg4
  z4 := Tryd.sizeOf4
  v4 := Tryd.zeroValue4
  t5 := Tryd.underlying5
  a5 := Tryd.isAgg5
  z5 := Tryd.sizeOf5
  v5 := Tryd.zeroValue5
  t9 := Tryd.underlying9
  a9 := Tryd.isAgg9
  z9 := Tryd.sizeOf9
  v9 := Tryd.zeroValue9
  t22 := Tryd.underlying44
  a22 := Tryd.isAgg44
  z22 := Tryd.sizeOf44
  v22 := Tryd.zeroValue44
  t23 := Tryd.underlying44
  a23 := Tryd.isAgg44
  z23 := Tryd.sizeOf44
  v23 := Tryd.zeroValue44
  t25 := Tryd.underlying3
  a25 := Tryd.isAgg3
  z25 := Tryd.sizeOf3
  v25 := Tryd.zeroValue3
  t32 := Tryd.underlying108
  a32 := Tryd.isAgg108
  z32 := Tryd.sizeOf108
  v32 := Tryd.zeroValue108
  t35 := Tryd.underlying118
  a35 := Tryd.isAgg118
  z35 := Tryd.sizeOf118
  v35 := Tryd.zeroValue118
  t36 := Tryd.underlying119
  a36 := Tryd.isAgg119
  z36 := Tryd.sizeOf119
  v36 := Tryd.zeroValue119
  t41 := Tryd.underlying114
  a41 := Tryd.isAgg114
  z41 := Tryd.sizeOf114
  v41 := Tryd.zeroValue114
  t44 := Tryd.underlying126
  a44 := Tryd.isAgg126
  z44 := Tryd.sizeOf126
  v44 := Tryd.zeroValue126
  t46 := Tryd.underlying95
  a46 := Tryd.isAgg95
  z46 := Tryd.sizeOf95
  v46 := Tryd.zeroValue95
  t53 := Tryd.underlying133
  a53 := Tryd.isAgg133
  z53 := Tryd.sizeOf133
  v53 := Tryd.zeroValue133
  t57 := Tryd.underlying137
  a57 := Tryd.isAgg137
  z57 := Tryd.sizeOf137
  v57 := Tryd.zeroValue137
  t63 := Tryd.underlying141
  a63 := Tryd.isAgg141
  z63 := Tryd.sizeOf141
  v63 := Tryd.zeroValue141
  t64 := Tryd.underlying142
  a64 := Tryd.isAgg142
  z64 := Tryd.sizeOf142
  v64 := Tryd.zeroValue142
end Go.Proofs.YtpfpcmadhbejiaaDoor

/-
  Package buddy: Held.
-/
namespace Go.Proofs.YtpfpcmadhbejiaaDoor
open Go.ChangeShapes Go.WideShapes Go.ChangeAt Go.RowKit Go.Maps Go.Sort Go.Shelf

/-- the frames of the given blocks, as they rise -/
def heldF (b : Bud) : List Int := b.held.map fun x => (x.1 : Int)
theorem heldF_len (b : Bud) : (heldF b).length = b.held.length := by simp [heldF]
theorem sorted_held {b : Bud} (h : b.Ok) {D : DataW Unit} (hM : MapOf D b.gave) (hE : ∃ es, D = .map es ∧ es.Pairwise (fun p q => p.1 ≠ q.1) ∧ ∀ p ∈ es, WideAt.IsKeyLit p.1) {ss : List Int} (hp : ss.Perm (intKeys D)) :
    (ss.mergeSort fun x y => decide (x ≤ y)) = heldF b := by
  obtain ⟨es, rfl, hpw, hkey⟩ := hE
  have hr := heldOf_rises h.frames
  have hr2 : (heldF b).Pairwise fun x y => x < y := List.pairwise_map.2 (hr.imp fun {x y} hxy => by omega)
  have hk : ∀ p ∈ es, ∃ x, p.1 = .int .i64 x := fun p hp => by
    have : Maps.has (.map es) p.1 = true := by
      rw [has_eq, List.any_eq_true]
      exact ⟨p, hp, WideAt.sameKey_self (hkey p hp)⟩
    obtain ⟨x, _, e⟩ := hM.has _ this
    exact ⟨x.1, e⟩
  have h1 : (heldF b).Perm (intKeys (.map es)) := by
    refine perm_intKeys hpw hk (hr2.imp fun {x y} hxy e => by omega) fun k => ?_
    constructor
    · intro hk'
      obtain ⟨x, hx, rfl⟩ := List.mem_map.1 hk'
      exact hM.mem ((heldOf_mem _).1 hx)
    · intro hk'
      obtain ⟨x, hx, e⟩ := hM.has _ hk'
      refine List.mem_map.2 ⟨x, (heldOf_mem _).2 hx, ?_⟩
      unfold kf at e
      injection e with _ e
      exact e.symm
  have h2 := mergeSort_of_perm_i (hp.trans h1.symm)
  show ss.mergeSort leI = _
  rw [h2]
  exact List.mergeSort_of_pairwise (hr2.imp fun {x y} hxy => by simp only [leI, decide_eq_true_eq]; omega)

theorem zero_int (w : World) : (zeroValue 3).run Tryd.prog w = .ok (.int .i64 0) w := by kernel_rfl
theorem slice1 {w : World} {base : Nat} {e : TypeId} {v : Value} {k : Nat} {xs : List Value} (h : w.ownsRow base e 1 v k xs) : ∃ o cap, v = .slice o k cap ∧ ∀ (j : Nat) (u : Value), xs[j]? = some u → ∃ g, o = some ⟨g, 0, none⟩ ∧ w.cell? ⟨g, j, none⟩ = some u := by
  rcases h.2 with ⟨rfl, rfl⟩ | ⟨g, cap, cur, rfl, _⟩
  · refine ⟨none, 0, rfl, fun j u hu => ?_⟩
    have : xs = [] := List.length_eq_zero_iff.1 (by have := h.1; omega)
    rw [this] at hu; simp at hu
  · exact ⟨_, _, rfl, fun j u hu => ⟨g, rfl, by have := h.cells (g := g) rfl j u hu; rwa [add_mid0, Nat.zero_add] at this⟩⟩
theorem take_snoc' (l : List (Nat × Nat)) (k : Nat) (h : k < l.length) : l.take (k + 1) = l.take k ++ [l.getD k (0, 0)] := by
  rw [List.take_add_one, List.getElem?_eq_getElem h]
  simp [List.getD_eq_getElem?_getD, List.getElem?_eq_getElem h]
theorem wf_frame {n : Nat} (h : n ≤ 256) : (Lit.int .i64 (n : Int)).wf = true := by
  show (decide (IntKind.i64.min ≤ (n : Int)) && decide ((n : Int) ≤ IntKind.i64.max)) = true
  rw [decide_eq_true (show IntKind.i64.min ≤ (n : Int) by show -9223372036854775808 ≤ (n : Int); omega), decide_eq_true (show (n : Int) ≤ IntKind.i64.max by show (n : Int) ≤ 9223372036854775807; omega)]
  rfl
theorem upd_app {S : Nat → Prop} {a W w4 : World} {X : Obj} {base sz k : Nat} {e : TypeId} {v : Value} {xs : List Value} (hU : Upd S a W) (hrow : W.ownsRow base e sz v k xs) (hb : a.heap.size ≤ base) (hgr : (W.alloc X).grownBy w4 v.ownBlock) : Upd S a w4 :=
  ⟨hgr.os.trans hU.os, hgr.tape.trans hU.tape, hgr.output.trans hU.output, by have h1 := hgr.size; have h2 := hU.size; simp at h1; omega, fun k hk hs => by
    have h2 := hU.size
    rw [hgr.block k (by simp; omega) (fun e => by have := (hrow.lt k e.symm).1; omega), Below.heap_alloc _ _ _ (by omega)]
    exact hU.block k hk hs⟩

end Go.Proofs.YtpfpcmadhbejiaaDoor

/-
  Package buddy: Alloc.
-/
namespace Go.Proofs.YtpfpcmadhbejiaaDoor
open Go.ChangeShapes Go.WideShapes Go.ChangeAt Go.RowKit Go.Maps

theorem pick_stay {o : Nat} {x : Nat × Nat} : ∀ (R : List (Nat × Nat)), (∀ y, y ∈ R → o ≤ y.2 → x.2 ≤ y.2) → R.foldl (better o) (some x) = some x
  | [], _ => rfl
  | y :: R, h => by
    rw [List.foldl_cons]
    have : better o (some x) y = some x := by
      show (if o ≤ y.2 ∧ y.2 < x.2 then some y else some x) = some x
      rw [if_neg]
      rintro ⟨h1, h2⟩
      have := h y (by simp) h1
      omega
    rw [this]
    exact pick_stay R fun z hz => h z (by simp [hz])
theorem pick_at {o k i : Nat} {L : List (Nat × Nat)} (hi : i < L.length) (hk : o ≤ k) (h1 : ∀ y, y ∈ L → o ≤ y.2 → k ≤ y.2) (h2 : ∀ j, j < i → (L.getD j (0, 0)).2 ≠ k) (h3 : (L.getD i (0, 0)).2 = k) : pick o L = some (L.getD i (0, 0)) := by
  have e : L = L.take (i + 1) ++ L.drop (i + 1) := (List.take_append_drop _ _).symm
  have hx : L.getD i (0, 0) ∈ L := by rw [List.getD_eq_getElem?_getD, List.getElem?_eq_getElem hi]; exact List.getElem_mem _
  have hs : pick o (L.take (i + 1)) = some (L.getD i (0, 0)) := by
    rw [take_snoc L i hi, pick_snoc]
    cases hp : pick o (L.take i) with
    | none => show (if o ≤ (L.getD i (0, 0)).2 then some (L.getD i (0, 0)) else none) = _; rw [if_pos (by omega)]
    | some y =>
      obtain ⟨p1, p2, _⟩ := pick_some hp
      show (if o ≤ (L.getD i (0, 0)).2 ∧ (L.getD i (0, 0)).2 < y.2 then some (L.getD i (0, 0)) else some y) = _
      obtain ⟨j, hj, hje⟩ := List.getElem_of_mem p1
      rw [List.length_take] at hj
      have hy : y = L.getD j (0, 0) := by
        rw [← hje, List.getElem_take, List.getD_eq_getElem?_getD, List.getElem?_eq_getElem (by omega)]; rfl
      have hym : y ∈ L := List.mem_of_mem_take p1
      have a1 := h1 y hym p2
      have a2 := h2 j (by omega)
      rw [← hy] at a2
      rw [if_pos ⟨by omega, by omega⟩]
  have : pick o L = (L.drop (i + 1)).foldl (better o) (pick o (L.take (i + 1))) := by
    conv => lhs; rw [e]
    unfold pick
    rw [List.foldl_append]
  rw [this, hs]
  exact pick_stay _ fun y hy ho => by rw [h3]; exact h1 y (List.mem_of_mem_drop hy) ho
theorem pick_no {o : Nat} {L : List (Nat × Nat)} (h8 : ∀ y, y ∈ L → y.2 ≤ 8) (h1 : ∀ y, y ∈ L → o ≤ y.2 → 9 ≤ y.2) : pick o L = none := by
  cases hp : pick o L with
  | none => rfl
  | some x =>
    obtain ⟨p1, p2, _⟩ := pick_some hp
    have := h1 x p1 p2
    have := h8 x p1
    omega
theorem blocks_hi {F : Nat → Bool} {n : Nat} {y : Nat × Nat} (h : y ∈ blocks F n) : y.2 ≤ 8 := (mem_blocks.1 h).hi
theorem blocks_len (F : Nat → Bool) (n : Nat) : (blocks F n).length ≤ n := mxTo_len F n n

set_option maxHeartbeats 400000 in
theorem bAlloc_bad (A : Nat) (o : Int) (w : World) (hb : o < 0 ∨ 8 < o) :
    Calls Tryd.prog 50 #[.pointer (some ⟨A, 0, none⟩), .int .i64 o] w fun e w' => e = .returned (.tuple #[.int .i64 0, .int .i64 1]) ∧ w = w' := by
  by_cases h0 : o < 0
  all_goals
    go_enter Tryd.func50, Tryd.ntmps50
    go_wp2
    go_ret2
    exact ⟨rfl, rfl⟩

set_option maxRecDepth 100000 in
set_option maxHeartbeats 4000000 in
theorem bAlloc_any (A MA GB : Nat) (m : Mem) (b : Bud) (o : Nat) (w : World) (h : BudAt w A MA GB b) (hm : MemAt w MA m) (hn : m.n = b.n) (ho : o ≤ 8) :
    Calls Tryd.prog 50 #[.pointer (some ⟨A, 0, none⟩), .int .i64 o] w fun e w' =>
      (b.sel o = none ∧ e = .returned (.tuple #[.int .i64 0, .int .i64 6]) ∧ Upd (fun _ => False) w w') ∨
      (∃ x, b.sel o = some x ∧ e = .returned (.tuple #[.int .i64 (x.1 : Int), .int .i64 0]) ∧ BudAt w' A MA GB (b.give (x.1, o)) ∧ Upd (· = GB) w w') := by
  have hb2 := h.ok.hi
  have hl := h.lts
  have hAG := h.ne
  have hok := Lib.hid h.ok
  have hbl := Lib.hid (bBlocks_any A MA GB m b w h hm hn)
  go_enter Tryd.func50, Tryd.ntmps50
  go_wp2_with fail
  refine hbl.out.mono ?_
  rintro e w1 ⟨v, rfl, hrow, U1⟩
  have hrow' := brow_of hrow
  have hLn := blocks_len b.F b.n
  have h8 := Lib.hid (fun y (hy : y ∈ blocks b.F b.n) => blocks_hi hy)
  have hsel := Lib.hid (show b.sel o = pick o (blocks b.F b.n) from rfl)
  have hblk := Lib.hid (fun y (hy : y ∈ blocks b.F b.n) => (mem_blocks.1 hy).b)
  clear hrow hbl
  generalize blocks b.F b.n = L at hrow' hLn h8 hsel hblk
  obtain ⟨ao, cap, rfl, hc⟩ := hrow'
  obtain ⟨ln, hln⟩ : ∃ ln, L.length = ln := ⟨_, rfl⟩
  rw [hln] at hc hLn ⊢
  have Hln := Lib.hid hln
  clear hln
  go_wp2
  go_loopw [7] (fun t wr => ∃ k : Nat, o ≤ k ∧ k ≤ 9 ∧ t = .int .i64 k ∧ Upd (fun _ => False) w1 wr ∧ Hid (∀ y, y ∈ L → o ≤ y.2 → k ≤ y.2)) (fun t _ => 9 - (intOf t).toNat)
  case atStart => exact ⟨o, Nat.le_refl _, by omega, rfl, Upd.refl _ _, Lib.hid fun y _ hy => hy⟩
  case round =>
    obtain ⟨k, k1, k2, rfl, hU, hk⟩ := hrel
    by_cases hlt : k ≤ 8
    · have hk8 : decide ((k : Int) ≤ 8) = true := decide_eq_true (by omega)
      go_wp2
      try rw [hk8]
      go_loopw [25] (fun t wr => ∃ i : Nat, i ≤ ln ∧ t = .int .i64 i ∧ Upd (fun _ => False) w1 wr ∧ Hid (∀ j, j < i → (L.getD j (0, 0)).2 ≠ k)) (fun t _ => ln - (intOf t).toNat)
      case atStart => exact ⟨0, by omega, rfl, hU, Lib.hid fun j hj => by omega⟩
      case round =>
        clear hU
        obtain ⟨i, i1, rfl, hU, hne⟩ := hrel
        by_cases hil : i < ln
        · obtain ⟨g, rfl, hg0, hg1⟩ := hc i hil
          have hg0' := hU.cell hg0 (fun h => h)
          have hg1' := hU.cell hg1 (fun h => h)
          have hxm : L.getD i (0, 0) ∈ L := by rw [List.getD_eq_getElem?_getD, List.getElem?_eq_getElem (by rw [Hln.out]; exact hil)]; exact List.getElem_mem _
          obtain ⟨a1, a2, a3⟩ := alloc_two wr (L.getD i (0, 0)).1 (L.getD i (0, 0)).2 91
          have A3 := Lib.hid a3
          have hU' := hU.trans a2
          have hwM := Nat.le_trans U1.size hU.size
          have hpick := Lib.hid (show (L.getD i (0, 0)).2 = k → pick o L = some (L.getD i (0, 0)) from fun e => pick_at (by rw [Hln.out]; exact hil) k1 hk.out hne.out e)
          have hstep := Lib.hid (show (L.getD i (0, 0)).2 ≠ k → ∀ j, j < i + 1 → (L.getD j (0, 0)).2 ≠ k from fun e j hj => by
            rcases Nat.lt_or_ge j i with h1 | h1
            · exact hne.out j h1
            · rw [show j = i from by omega]; exact e)
          generalize L.getD i (0, 0) = x at hg0' hg1' hxm a1 a2 A3 hU' hpick hstep
          clear a3 hg0 hg1 hc hne hU
          go_upto_region 10 with ((with_reducible refine wpList_store_sz rfl 91 (.tmp 9) (.tmp 28) rfl wr.heap.size 0 #[.int .i64 x.1, .int .i64 x.2] rfl rfl 2 (two_sz _ _) A3.out size_block (two_one _ _) [.int .i64 x.1, .int .i64 x.2] (two_ls _ _) ?_))
          generalize (wr.alloc (.cells #[.int .i64 0, .int .i64 0] 91)).setCells wr.heap.size 0 [.int .i64 x.1, .int .i64 x.2] = W at a1 a2 hU' ⊢
          have hMw := lt_of_heap a1
          generalize wr.heap.size = M at a1 hMw hwM ⊢
          obtain ⟨b0, b1⟩ := box2 a1
          clear A3 a2
          by_cases hxk : x.2 = k
          · have hB := h.kept (U1.trans hU') (fun h => h) (fun h => h)
            obtain ⟨D, hD, hMp⟩ := hB.mp
            have hp := Lib.hid (hsel.out.trans (hpick.out hxk))
            have hfree := Lib.hid ((hblk.out x hxm).head (show o ≤ x.2 by omega))
            have hput := Lib.hid (hMp.put (hD.tidy keyLaw) x.1 o fun y hy e => by
              have hf := (hok.out.fr x.1).1 (hfree.out.fr x.1 (Nat.le_refl _) (by have := Nat.two_pow_pos o; omega))
              have := hf.2.2 y hy
              rw [inBlk_iff.2 ⟨by omega, by have := Nat.two_pow_pos y.2; omega⟩] at this
              cases this)
            have hgive := Lib.hid (hok.out.give ho hfree.out)
            have hfl := hfree.out.le
            have hwf := Lib.hid (wf_frame (n := x.1) (by have := Nat.two_pow_pos o; omega))
            have hwo := Lib.hid (wf_frame (n := o) (by omega))
            have hU2 := U1.trans hU'
            subst hxk
            clear hpick hstep hg0' hg1' hk h8 hsel hblk hMp hfl hU' U1
            go_upto_region 11 with fail
            refine wp_region_tail 7 (by kernel_rfl) (by kernel_rfl) ?_
            simp only [List.take_succ_cons, List.take_zero, List.drop_succ_cons, List.drop_zero]
            intro w2 hw2
            have hU3 := hU2.drew
            have hB2 := hB.kept (Upd.refl (fun _ => False) W).drew (fun h => h) (fun h => h)
            have hD2 := map_kept hD (Upd.refl (fun _ => False) W).drew (fun h => h)
            have a2 := (Upd.refl (fun _ => False) W).drew.at a1 (fun h => h)
            rw [← hw2] at hU3 hB2 hD2 a2
            clear hw2
            have hc2 := hB2.c2
            obtain ⟨b20, b21⟩ := box2 a2
            repeat still_step
            refine wpStill_nil ?_
            go_upto_region 12 with ((at_mapUpdate; refine wpList_mapUpdate_own _ rfl _ _ _ 81 rfl 3 3 keyLaw Tryd.underlying81 _ GB 256 D rfl hD2 (by decide) _ _ (kf x.1) rfl rfl (keyOf_int_mk Tryd.underlying3 hwf.out) _ [] (plainElem_int Tryd.underlying3 hwo.out) ?_; intro w3 hown3 hgrow3))
            have hU4 := hU3.mono (T := (· = GB)) (fun _ _ h => h.elim) |>.trans (upd_grown hgrow3)
            have hB4 : BudAt w3 A MA GB (b.give (x.1, o)) := ⟨(upd_grown hgrow3).at hB2.head hAG, ⟨_, map_tight hown3 256 (by rw [hput.out.sz]; exact hgive.out.gave_len), hput.out⟩, hgive.out⟩
            have a4 := (upd_grown hgrow3).at a2 (by show ¬ M = GB; omega)
            obtain ⟨b40, b41⟩ := box2 a4
            clear b20 b21 b0 b1 hgrow3 hown3 hB2 hD2 hU3 hc2
            go_wp2
            go_ret2
            exact .inr ⟨x, hp.out, rfl, hB4, hU4⟩
          · have hst := Lib.hid (hstep.out hxk)
            have hb1 : ((x.2 : Int) == (k : Int)) = false := by simp; omega
            clear hpick hstep hg0' hg1'
            go_wp2
            go_roundw
            case rel => exact ⟨i + 1, by omega, by go_num, hU', hst⟩
            case measure => simp [intOf]; omega
        · have e : i = ln := by omega
          subst e
          have hk' := Lib.hid (show ∀ y, y ∈ L → o ≤ y.2 → k + 1 ≤ y.2 from fun y hy hoy => by
            have a1 := hk.out y hy hoy
            obtain ⟨j, hj, hje⟩ := List.getElem_of_mem hy
            have a2 := hne.out j (by rw [← Hln.out]; exact hj)
            rw [List.getD_eq_getElem?_getD, List.getElem?_eq_getElem hj] at a2
            rw [← hje] at a1 ⊢
            simp at a2
            omega)
          clear hk hne hc
          go_wp2
          exact ⟨⟨k + 1, by omega, by omega, by go_num, hU, hk'⟩, by simp [intOf]; omega⟩
    · have e : k = 9 := by omega
      subst e
      have hv := Lib.hid (hsel.out.trans (pick_no h8.out hk.out))
      clear hc
      go_wp2
      go_ret2
      exact .inl ⟨hv.out, rfl, U1.trans hU⟩
end Go.Proofs.YtpfpcmadhbejiaaDoor

/-
  The document's own allocator: Free.
-/
namespace Go.Proofs.YtpfpcmadhbejiaaDoor
open Go.ChangeShapes Go.WideShapes Go.ChangeAt Go.RowKit

theorem erase_at (l : List (Nat × Nat)) (x : Nat × Nat) : ∀ i, i < l.length → (∀ j, j < i → l.getD j (0, 0) ≠ x) → l.getD i (0, 0) = x → l.erase x = l.take i ++ l.drop (i + 1) := by
  induction l with
  | nil => intro i hi; simp at hi
  | cons y r ih =>
    intro i hi hno hx
    cases i with
    | zero =>
      have : y = x := hx
      subst this
      simp
    | succ i =>
      have h0 : y ≠ x := hno 0 (by omega)
      rw [List.erase_cons_tail (by simpa using h0), ih i (by simpa using hi) (fun j hj => hno (j + 1) (by omega)) hx]
      simp
/-- which of the given blocks are it? -/
def isB (x : Nat × Nat) (f o : Int) : Bool := decide ((x.1 : Int) = f ∧ (x.2 : Int) = o)

/-- given back from f up to i -/
def addTo (F : Nat → Bool) (f i : Nat) : Nat → Bool := fun j => F j || (decide (f ≤ j) && decide (j < i))
theorem addTo_start (F : Nat → Bool) (f : Nat) : addTo F f f = F := by
  funext j
  unfold addTo
  rw [show (decide (f ≤ j) && decide (j < f)) = false from by simp]
  simp
theorem addTo_step (n : Nat) (F : Nat → Bool) (f i : Nat) (h : f ≤ i) : fcells n (updF (addTo F f i) i true) = fcells n (addTo F f (i + 1)) := fcells_congr fun j _ => by
  unfold updF addTo
  by_cases e : j = i
  · rw [if_pos e, e]; simp [h]
  · rw [if_neg e]
    by_cases h2 : j < i
    · simp [h2, Nat.lt_succ_of_lt h2]
    · simp [h2, show ¬ j < i + 1 from by omega]
/-! parts of a slice of blocks -/
theorem bcells_take (l : List (Nat × Nat)) (i : Nat) : (bcells l).take (i * 2) = bcells (l.take i) := by
  induction l generalizing i with
  | nil => simp [bcells]
  | cons x r ih =>
    cases i with
    | zero => simp [bcells]
    | succ i =>
      rw [show x :: r = [x] ++ r from rfl, bcells_app, show (i + 1) * 2 = i * 2 + 2 from by omega, List.take_append]
      have e : (bcells [x]).length = 2 := rfl
      rw [e, List.take_of_length_le (by rw [e]; omega), show i * 2 + 2 - 2 = i * 2 from by omega, ih]
      simp [bcells]
theorem bcells_drop (l : List (Nat × Nat)) (i : Nat) : (bcells l).drop (i * 2) = bcells (l.drop i) := by
  induction l generalizing i with
  | nil => simp [bcells]
  | cons x r ih =>
    cases i with
    | zero => simp
    | succ i =>
      rw [show x :: r = [x] ++ r from rfl, bcells_app, show (i + 1) * 2 = i * 2 + 2 from by omega, List.drop_append]
      have e : (bcells [x]).length = 2 := rfl
      rw [e, List.drop_eq_nil_of_le (by rw [e]; omega), show i * 2 + 2 - 2 = i * 2 from by omega, ih]
      simp
-- s[:i]
theorem row_cap {w : World} {base sz k n cap : Nat} {e : TypeId} {o : Option Addr} {xs : List Value} (h : w.ownsRow base e sz (.slice o n cap) k xs) : k ≤ cap := by
  rcases h.2 with ⟨h1, h2⟩ | ⟨g, cap', cur, h1, _, _, h3, _⟩
  · omega
  · simp at h1; omega
/-- onto a new empty slice: nothing that was there has turned -/
theorem app_upd {wr w4 : World} {e : TypeId} (g4 : ((wr.alloc (.cells #[] e)).drew).grownBy w4 (Value.slice (some ⟨wr.heap.size, 0, none⟩) 0 0).ownBlock) : Upd (fun _ => False) wr w4 := by
  refine ⟨g4.os, g4.tape, g4.output, by have := g4.size; simp at this; omega, fun k hk _ => ?_⟩
  rw [g4.block k (by simp; omega) (fun e' => by simp [Value.ownBlock] at e'; omega)]
  exact Below.heap_alloc _ _ _ hk
theorem app_upd2 {wr w4 w5 : World} {v : Value} (u : Upd (fun _ => False) wr w4) (g5 : w4.grownBy w5 v.ownBlock) (h4 : ∀ k, v.ownBlock = some k → wr.heap.size ≤ k) : Upd (fun _ => False) wr w5 :=
  ⟨g5.os.trans u.os, g5.tape.trans u.tape, g5.output.trans u.output, Nat.le_trans u.size g5.size, fun k hk _ => (g5.block k (Nat.lt_of_lt_of_le hk u.size) (fun e' => by have := h4 k e'.symm; omega)).trans (u.block k hk (fun h => h))⟩
end Go.Proofs.YtpfpcmadhbejiaaDoor

/-
  Package buddy: Free.
-/
namespace Go.Proofs.YtpfpcmadhbejiaaDoor
open Go.ChangeShapes Go.WideShapes Go.ChangeAt Go.RowKit Go.Maps

theorem wpStill_shl1 {P : Program} {ops : Array Oper} {rest : List Oper} {op : Oper} {a : Act} {w : World} {Q : Act → Prop} (hw : Region.wanted op (yielded ops a.tmps) = true) (t u : TypeId) (x y : Operand) (ho : op.op = .binOp .shl t x y u)
    (hx : a.eval x = .int .i64 1) (k : Nat) (hk : k ≤ 8) (hy : a.eval y = .int .i64 k) (h : wpStill P ops w Q rest (a.put op.dst (.int .i64 (pw k)))) : wpStill P ops w Q (op :: rest) a := by
  refine wpStill_step fun K hK => ?_
  rw [if_pos hw]
  unfold Oper.still execOp
  simp only [ho, hx, hy, eqGuard_shl, binOp_shl, shift_shl_any _ _ _ _ (Int.natCast_nonneg k), Sem.run_bind, Sem.run_pure, Result.andThen_ok, shl_pw k hk]
  exact ⟨rfl, hK _ h⟩
theorem BudAt.apart {w : World} {A MA GB : Nat} {b : Bud} {m : Mem} (h : BudAt w A MA GB b) (hm : MemAt w MA m) : A ≠ MA ∧ A ≠ m.B ∧ GB ≠ MA ∧ GB ≠ m.B := by
  obtain ⟨D, ⟨es, c, hb, _⟩, _⟩ := h.mp
  refine ⟨fun e => ?_, fun e => ?_, fun e => ?_, fun e => ?_⟩
  · have h1 := h.head; rw [e, hm.head] at h1; simp at h1
  · have h1 := h.head; rw [e, hm.body] at h1; simp at h1
  · rw [e, hm.head] at hb; cases hb
  · rw [e, hm.body] at hb; cases hb

set_option maxRecDepth 100000 in
set_option maxHeartbeats 4000000 in
theorem bFree_any (A MA GB : Nat) (m : Mem) (b : Bud) (f o : Int) (w : World) (h : BudAt w A MA GB b) (hm : MemAt w MA m) (hwf : (Lit.int .i64 f).wf = true) :
    Calls Tryd.prog 49 #[.pointer (some ⟨A, 0, none⟩), .int .i64 f, .int .i64 o] w fun e w' =>
      ((∀ x, x ∈ b.gave → isB x f o = false) ∧ e = .returned (.int .i64 2) ∧ w = w') ∨
      (∃ x, x ∈ b.gave ∧ (x.1 : Int) = f ∧ (x.2 : Int) = o ∧ e = .returned (.int .i64 0) ∧ BudAt w' A MA GB (b.take x) ∧ MemAt w' MA (m.scrub f ((2 ^ x.2 : Nat) : Int)) ∧ Upd (fun k => k = GB ∨ k = m.B) w w') := by
  have hc0 := h.c0
  have hc2 := h.c2
  have hz := zero_int
  have HW := Lib.hid hwf
  have hok := Lib.hid h.ok
  obtain ⟨D, hD, hM⟩ := h.mp
  by_cases hx : ∃ x, x ∈ b.gave ∧ (x.1 : Int) = f
  · obtain ⟨x, hx, rfl⟩ := hx
    have hhas := Lib.hid (show Maps.has D (.int .i64 (x.1 : Int)) = true from hM.mem hx)
    have hget := Lib.hid (hM.get x hx (.lit (.int .i64 0)))
    obtain ⟨x8, xal, xr, xn⟩ := h.ok.blk x hx
    by_cases hxo : (x.2 : Int) = o
    · subst hxo
      clear hwf
      go_enter Tryd.func49, Tryd.ntmps49
      go_upto_region 2 with ((at_lookup; refine wpList_lookup_own_ok_int _ rfl _ _ 81 rfl 3 3 .i64 keyLaw Tryd.underlying81 Tryd.underlying3 (hz _) GB 256 D rfl hD _ (.int .i64 (x.1 : Int)) rfl (keyOf_int_mk Tryd.underlying3 HW.out) ?_; intro c hat hwc; obtain rfl : (x.2 : Int) = c := by { rw [show (Lit.int .i64 (x.1 : Int)) = kf x.1 from rfl, hget.out] at hat; injection hat with hat; injection hat }))
      rw [hhas.out]
      go_upto_region 4 with fail
      refine wp_region_tail 7 (by kernel_rfl) (by kernel_rfl) ?_
      simp only [List.take_succ_cons, List.take_zero, List.drop_succ_cons, List.drop_zero]
      intro w2 hw2
      have hU2 := (Upd.refl (fun k => k = GB ∨ k = m.B) w).drew
      have hB2 := h.kept (Upd.refl (fun _ => False) w).drew (fun h => h) (fun h => h)
      have hM2 := hm.kept (Upd.refl (fun _ => False) w).drew (fun h => h) (fun h => h)
      rw [← hw2] at hU2 hB2 hM2
      clear hw2
      have hc0 := hB2.c0
      have hbd := pw_bd x.2 x8
      have hpw := Lib.hid (show pw x.2 = ((2 ^ x.2 : Nat) : Int) from rfl)
      repeat (first | (with_reducible refine wpStill_shl1 rfl _ _ _ _ rfl rfl x.2 x8 rfl ?_) | still_step)
      refine wpStill_nil ?_
      go_wp2_with fail
      refine (scrub_any MA m _ _ _ hM2 (by omega)).mono ?_
      rintro e w3 ⟨rfl, hM3, hU3⟩
      obtain ⟨n1, n2, n3, n4⟩ := h.apart hm
      have hB3 := hB2.kept hU3 n2 n4
      have hc2 := hB3.c2
      obtain ⟨D3, hD3, hMp3⟩ := hB3.mp
      have hdel := Lib.hid (hMp3.del (hD3.tidy keyLaw) hx hok.out.nodup fun y hy e => hok.out.key hy hx e)
      have htake := Lib.hid (hok.out.take hx)
      rw [hpw.out] at hM3
      generalize errI (m.ex x.1 (pw x.2)) = er
      clear hB2 hM2 hc0
      go_upto_region 6 with ((at_delete; refine wpList_delete_own _ rfl _ _ 81 3 rfl 3 keyLaw Tryd.underlying81 _ GB 256 D3 rfl hD3 _ _ rfl (keyOf_int_mk Tryd.underlying3 HW.out) ?_; intro w4 hown4 hturn4))
      have hg4 := upd_grown hturn4.grown
      have hB4 : BudAt w4 A MA GB (b.take x) := ⟨hg4.at hB3.head h.ne, ⟨_, hown4, hdel.out⟩, htake.out⟩
      have hM4 := hM3.kept hg4 (by show ¬ MA = GB; exact fun e => n3 e.symm) (by rw [Mem.scrub_B]; show ¬ m.B = GB; exact fun e => n4 e.symm)
      have hU4 : Upd (fun k => k = GB ∨ k = m.B) w w4 := (hU2.trans (hU3.mono fun _ _ e => .inr e)).trans (hg4.mono fun _ _ e => .inl e)
      clear hg4 hturn4 hown4 hM3 hU3 hB3
      go_wp2
      go_ret
      exact .inr ⟨x, hx, rfl, rfl, rfl, hB4, hM4, hU4⟩
    · have hbo : ((x.2 : Int) != o) = true := by simp; exact hxo
      have hno := Lib.hid (show ∀ y, y ∈ b.gave → isB y (x.1 : Int) o = false from fun y hy => decide_eq_false fun e => hxo (by
        have : y = x := h.ok.key hy hx (by omega)
        rw [← this]; exact e.2))
      clear hwf
      go_enter Tryd.func49, Tryd.ntmps49
      go_upto_region 2 with ((at_lookup; refine wpList_lookup_own_ok_int _ rfl _ _ 81 rfl 3 3 .i64 keyLaw Tryd.underlying81 Tryd.underlying3 (hz _) GB 256 D rfl hD _ (.int .i64 (x.1 : Int)) rfl (keyOf_int_mk Tryd.underlying3 HW.out) ?_; intro c hat hwc; obtain rfl : (x.2 : Int) = c := by { rw [show (Lit.int .i64 (x.1 : Int)) = kf x.1 from rfl, hget.out] at hat; injection hat with hat; injection hat }))
      rw [hhas.out]
      go_wp2
      go_ret
      exact .inl ⟨hno.out, rfl, rfl⟩
  · have hhas := Lib.hid (show Maps.has D (.int .i64 f) = false from hM.no fun x hx' e => hx ⟨x, hx', by unfold kf at e; injection e with _ e; exact e.symm⟩)
    have hno := Lib.hid (show ∀ y, y ∈ b.gave → isB y f o = false from fun y hy => decide_eq_false fun e => hx ⟨y, hy, e.1⟩)
    clear hwf hx
    go_enter Tryd.func49, Tryd.ntmps49
    go_upto_region 2 with ((at_lookup; refine wpList_lookup_own_ok_int _ rfl _ _ 81 rfl 3 3 .i64 keyLaw Tryd.underlying81 Tryd.underlying3 (hz _) GB 256 D rfl hD _ (.int .i64 f) rfl (keyOf_int_mk Tryd.underlying3 HW.out) ?_; intro c hat hwc))
    rw [hhas.out]
    clear hat hwc
    go_wp2
    go_ret
    exact .inl ⟨hno.out, rfl, rfl⟩
end Go.Proofs.YtpfpcmadhbejiaaDoor

/-
  The document's own allocator: Held.
-/
namespace Go.Proofs.YtpfpcmadhbejiaaDoor
open Go.ChangeShapes Go.WideShapes Go.ChangeAt Go.RowKit

theorem Src.upd {w w' : World} {x : Value} {m size : Nat} {news : List Value} (h : Src w x m size news) (u : Upd (fun _ => False) w w') : Src w' x m size news := by
  rcases h with h | ⟨b, off, c, rfl, h1, h2⟩
  · exact .inl h
  · exact .inr ⟨b, off, c, rfl, h1, fun j v hv => u.cell (h2 j v hv) (fun h => h)⟩
theorem grow_upd {W X w4 : World} {v : Value} (u : Upd (fun _ => False) W X) (g : X.grownBy w4 v.ownBlock) (hv : ∀ k, v.ownBlock = some k → W.heap.size ≤ k) : Upd (fun _ => False) W w4 := app_upd2 u g hv

end Go.Proofs.YtpfpcmadhbejiaaDoor

/-
  The laws' same: two slices of blocks.
-/
namespace Go.Proofs.YtpfpcmadhbejiaaDoor
open Go.ChangeShapes Go.WideShapes Go.ChangeAt Go.RowKit

end Go.Proofs.YtpfpcmadhbejiaaDoor

/-
  The laws' begun and awake.
-/
namespace Go.Proofs.YtpfpcmadhbejiaaDoor
open Go.ChangeShapes Go.WideShapes Go.ChangeAt Go.RowKit Go.Maps

/-- an allocator and its memory, by their places -/
structure Duo (w : World) (A MA GB : Nat) (m : Mem) (b : Bud) : Prop where
  B : BudAt w A MA GB b
  M : MemAt w MA m
  n : m.n = b.n
theorem Duo.kept {S : Nat → Prop} {w w' : World} {A MA GB : Nat} {m : Mem} {b : Bud} (h : Duo w A MA GB m b) (u : Upd S w w') (h1 : ¬ S A) (h2 : ¬ S GB) (h3 : ¬ S MA) (h4 : ¬ S m.B) : Duo w' A MA GB m b :=
  ⟨h.B.kept u h1 h2, h.M.kept u h3 h4, h.n⟩
theorem Duo.still {w w' : World} {A MA GB : Nat} {m : Mem} {b : Bud} (h : Duo w A MA GB m b) (u : Upd (fun _ => False) w w') : Duo w' A MA GB m b := h.kept u (fun h => h) (fun h => h) (fun h => h) (fun h => h)
/-- nothing of it was there before block B -/
structure Since (B A MA GB : Nat) (m : Mem) : Prop where
  a : B ≤ A
  ma : B ≤ MA
  gb : B ≤ GB
  mb : B ≤ m.B

theorem aw1 : (blocks (bud0 8 1).F 8).length = 3 := by decide
theorem aw2 : (bud0 8 1).sel 1 = some (2, 1) := by decide
theorem aw3 : ((bud0 8 1).give (2, 1)).sel 1 = some (4, 2) := by decide
theorem aw4 : (((bud0 8 1).give (2, 1)).give (4, 1)).left = 3 := by decide
end Go.Proofs.YtpfpcmadhbejiaaDoor

/-
  What the laws do with an allocator: an Alloc of whatever order, a Free of a block that is given; the operations' cells.
-/
namespace Go.Proofs.YtpfpcmadhbejiaaDoor
open Go.ChangeShapes Go.WideShapes Go.ChangeAt Go.RowKit Go.Maps

theorem below_none {w w' : World} (h : Upd (fun _ => False) w w') : Below w.heap.size w w' := h.below (Nat.le_refl _) (fun _ _ e => e)
/-- an operation's four cells -/
theorem op_cells {w : World} {ao : Option Addr} {n b off : Nat} {E : Nat → Nat → Value} (R : Fr.RowArg w ao n b off [some .i64, some .i64, some .i64, some .u64] E) (i : Nat) (hi : i < n) :
    ∃ d N o W : Int, w.cell? ⟨b, off + i * 4, none⟩ = some (.int .i64 d) ∧ w.cell? ⟨b, off + i * 4 + 1, none⟩ = some (.int .i64 N) ∧ w.cell? ⟨b, off + i * 4 + 2, none⟩ = some (.int .i64 o) ∧ w.cell? ⟨b, off + i * 4 + 3, none⟩ = some (.int .u64 W) ∧
      (Lit.int .i64 d).wf = true ∧ (Lit.int .i64 N).wf = true ∧ (Lit.int .i64 o).wf = true ∧ (Lit.int .u64 W).wf = true := by
  obtain ⟨d, e0, w0⟩ := R.ok i hi 0 _ rfl
  obtain ⟨N, e1, w1⟩ := R.ok i hi 1 _ rfl
  obtain ⟨o, e2, w2⟩ := R.ok i hi 2 _ rfl
  obtain ⟨W, e3, w3⟩ := R.ok i hi 3 _ rfl
  refine ⟨d, N, o, W, ?_, ?_, ?_, ?_, w0, w1, w2, w3⟩
  · have := R.cell i hi 0 (by decide); rw [e0] at this; simpa [Nat.add_assoc] using this
  · have := R.cell i hi 1 (by decide); rw [e1] at this; simpa [Nat.add_assoc] using this
  · have := R.cell i hi 2 (by decide); rw [e2] at this; simpa [Nat.add_assoc] using this
  · have := R.cell i hi 3 (by decide); rw [e3] at this; simpa [Nat.add_assoc] using this
theorem Duo.ne {w : World} {A MA GB : Nat} {m : Mem} {b : Bud} (h : Duo w A MA GB m b) : A ≠ GB ∧ A ≠ MA ∧ A ≠ m.B ∧ GB ≠ MA ∧ GB ≠ m.B ∧ MA ≠ m.B := by
  obtain ⟨a1, a2, a3, a4⟩ := h.B.apart h.M
  exact ⟨h.B.ne, a1, a2, a3, a4, h.M.ne⟩
theorem Duo.gb {w w' : World} {A MA GB : Nat} {m : Mem} {b b' : Bud} (h : Duo w A MA GB m b) (B : BudAt w' A MA GB b') (u : Upd (· = GB) w w') (hn : b'.n = b.n) : Duo w' A MA GB m b' :=
  ⟨B, h.M.kept u (fun e => h.ne.2.2.2.1 e.symm) (fun e => h.ne.2.2.2.2.1 e.symm), by rw [hn]; exact h.n⟩
/-- an Alloc of whatever order -/
theorem balloc_all (A MA GB : Nat) (m : Mem) (b : Bud) (o : Int) (w : World) (h : Duo w A MA GB m b) :
    Calls Tryd.prog 50 #[.pointer (some ⟨A, 0, none⟩), .int .i64 o] w fun e w' => ∃ (x y : Int) (b' : Bud), e = .returned (.tuple #[.int .i64 x, .int .i64 y]) ∧ Duo w' A MA GB m b' ∧ b'.n = b.n ∧ b'.res = b.res ∧ Upd (· = GB) w w' := by
  by_cases ho : 0 ≤ o ∧ o ≤ 8
  · obtain ⟨k, rfl⟩ := Int.eq_ofNat_of_zero_le ho.1
    refine (bAlloc_any A MA GB m b k w h.B h.M h.n (by omega)).mono ?_
    rintro e w' (⟨_, rfl, U⟩ | ⟨x, _, rfl, B, U⟩)
    · exact ⟨_, _, b, rfl, h.still U, rfl, rfl, U.mono fun _ _ h => h.elim⟩
    · exact ⟨_, _, _, rfl, h.gb B U rfl, rfl, rfl, U⟩
  · refine (bAlloc_bad A o w (by omega)).mono ?_
    rintro e w' ⟨rfl, rfl⟩
    exact ⟨_, _, b, rfl, h, rfl, rfl, Upd.refl _ _⟩
/-- a Free of a block that is given -/
theorem bfree_yes (A MA GB : Nat) (m : Mem) (b : Bud) (x : Nat × Nat) (w : World) (h : Duo w A MA GB m b) (hx : x ∈ b.gave) :
    Calls Tryd.prog 49 #[.pointer (some ⟨A, 0, none⟩), .int .i64 x.1, .int .i64 x.2] w fun e w' => e = .returned (.int .i64 0) ∧ Duo w' A MA GB (m.scrub x.1 ((2 ^ x.2 : Nat) : Int)) (b.take x) ∧ Upd (fun k => k = GB ∨ k = m.B) w w' := by
  obtain ⟨x8, xal, xr, xn⟩ := h.B.ok.blk x hx
  have hhi := h.B.ok.hi
  refine (bFree_any A MA GB m b x.1 x.2 w h.B h.M (wf_frame (by have := Nat.two_pow_pos x.2; omega))).mono ?_
  rintro e w' (⟨hno, _⟩ | ⟨y, hy, e1, e2, rfl, B, M, U⟩)
  · have := hno x hx
    simp [isB] at this
  · obtain rfl : y = x := Prod.ext (by omega) (by omega)
    exact ⟨rfl, ⟨B, M, by rw [Mem.scrub_n]; exact h.n⟩, U⟩
theorem Since.kept {B A MA GB : Nat} {m m' : Mem} (h : Since B A MA GB m) (e : m'.B = m.B) : Since B A MA GB m' := ⟨h.a, h.ma, h.gb, by rw [e]; exact h.mb⟩
theorem Upd.since {S : Nat → Prop} {a c d : World} (h : Upd (fun _ => False) a c) (k : Upd S c d) (hs : ∀ j, S j → a.heap.size ≤ j) : Upd (fun _ => False) a d :=
  ⟨k.os.trans h.os, k.tape.trans h.tape, k.output.trans h.output, Nat.le_trans h.size k.size, fun i hi hf => (k.block i (Nat.lt_of_lt_of_le hi h.size) fun hj => by have := hs i hj; omega).trans (h.block i hi hf)⟩
/-- 1 << k at a step of a region that draws -/
theorem step_shl1 {P : Program} {ops : Array Oper} {o : Oper} {a : Act} {w : World} {K : Act → World → Prop} {Q : Exit → Act → World → Prop} {E : Prop} (hw : Region.wanted o (yielded ops a.tmps) = true) (t u : TypeId) (x y : Operand) (ho : o.op = .binOp .shl t x y u)
    (hx : a.eval x = .int .i64 1) (k : Nat) (hk : k ≤ 8) (hy : a.eval y = .int .i64 k) (h : K (a.put o.dst (.int .i64 (pw k))) w) :
    if Region.wanted o (yielded ops a.tmps) = true then Oper.wp P o a w K Q else E := by
  rw [if_pos hw]
  unfold Oper.wp execOp
  simp only [ho, hx, hy, eqGuard_shl, binOp_shl, shift_shl_any _ _ _ _ (Int.natCast_nonneg k), Sem.run_bind, Sem.run_pure, Result.andThen_ok, shl_pw k hk]
  exact h
theorem shl_pw2 (k : Nat) (hk : k ≤ 8) : IntKind.i64.wrap ((2 : Int) ^ k) = pw k := by
  unfold pw
  match k, hk with
  | 0, _ | 1, _ | 2, _ | 3, _ | 4, _ | 5, _ | 6, _ | 7, _ | 8, _ => rfl
theorem and7 (n : Int) : bits .and .i64 n 7 = n % 8 := by
  have h : (BitVec.ofInt 64 7).toNat = 2 ^ 3 - 1 := by decide
  have key : (BitVec.ofInt 64 n &&& BitVec.ofInt 64 7).toNat = (n % ((2 ^ 64 : Nat) : Int)).toNat % 2 ^ 3 := by
    rw [BitVec.toNat_and, BitVec.toNat_ofInt, h, Nat.and_two_pow_sub_one_eq_mod]
  show IntKind.i64.wrap ((BitVec.ofInt 64 n &&& BitVec.ofInt 64 7).toNat : Nat) = n % 8
  rw [key, IntKind.wrap_i64]
  omega
theorem and15 (n : Int) : bits .and .i64 n 15 = n % 16 := by
  have h : (BitVec.ofInt 64 15).toNat = 2 ^ 4 - 1 := by decide
  have key : (BitVec.ofInt 64 n &&& BitVec.ofInt 64 15).toNat = (n % ((2 ^ 64 : Nat) : Int)).toNat % 2 ^ 4 := by
    rw [BitVec.toNat_and, BitVec.toNat_ofInt, h, Nat.and_two_pow_sub_one_eq_mod]
  show IntKind.i64.wrap ((BitVec.ofInt 64 n &&& BitVec.ofInt 64 15).toNat : Nat) = n % 16
  rw [key, IntKind.wrap_i64]
  omega
/-- x == y at a step of a region that draws, its answer known -/
theorem step_eql {P : Program} {ops : Array Oper} {o : Oper} {a : Act} {w : World} {K : Act → World → Prop} {Q : Exit → Act → World → Prop} {E : Prop} (hw : Region.wanted o (yielded ops a.tmps) = true) (t u : TypeId) (x y : Operand) (ho : o.op = .binOp .eql t x y u)
    (k : IntKind) (p q : Int) (hx : a.eval x = .int k p) (hy : a.eval y = .int k q) (r : Bool) (hr : (p == q) = r) (h : K (a.put o.dst (.bool r)) w) :
    if Region.wanted o (yielded ops a.tmps) = true then Oper.wp P o a w K Q else E := by
  subst hr
  rw [if_pos hw]
  unfold Oper.wp execOp
  simp only [ho, hx, hy, eqGuard_at_int, binOp_eql, Sem.run_bind, Sem.run_pure, Result.andThen_ok]
  exact h
end Go.Proofs.YtpfpcmadhbejiaaDoor

/-
  Package tables: where a space lies; contracts of its small functions, of each, and of the library's search.
-/
namespace Go.Proofs.YtpfpcmadhbejiaaDoor
open Go.ChangeShapes Go.WideShapes Go.ChangeAt Go.RowKit Go.Shelf

/-- a space in memory: its memory, its allocator, its root -/
def SpAt (w : World) (S MA A : Nat) (root : Int) : Prop := w.heap[S]? = some (.cells #[.pointer (some ⟨MA, 0, none⟩), .pointer (some ⟨A, 0, none⟩), .int .i64 root] 61 (0, 0))
theorem SpAt.c0 {w : World} {S MA A : Nat} {root : Int} (h : SpAt w S MA A root) : w.cell? ⟨S, 0, none⟩ = some (.pointer (some ⟨MA, 0, none⟩)) := by rw [cell_of_row w S 0 _ _ _ h]; rfl
theorem SpAt.c1 {w : World} {S MA A : Nat} {root : Int} (h : SpAt w S MA A root) : w.cell? ⟨S, 1, none⟩ = some (.pointer (some ⟨A, 0, none⟩)) := by rw [cell_of_row w S 1 _ _ _ h]; rfl
theorem SpAt.c2 {w : World} {S MA A : Nat} {root : Int} (h : SpAt w S MA A root) : w.cell? ⟨S, 2, none⟩ = some (.int .i64 root) := by rw [cell_of_row w S 2 _ _ _ h]; rfl
theorem SpAt.kept {T : Nat → Prop} {w w' : World} {S MA A : Nat} {root : Int} (h : SpAt w S MA A root) (u : Upd T w w') (hs : ¬ T S) : SpAt w' S MA A root := u.at h hs

set_option maxHeartbeats 400000 in
theorem lacks_any (S MA A : Nat) (root : Int) (m : Mem) (f : Int) (w : World) (h : SpAt w S MA A root) (hm : MemAt w MA m) :
    Calls Tryd.prog 30 #[.pointer (some ⟨S, 0, none⟩), .int .i64 f] w fun e w' => e = .returned (.bool (!m.ex f 1)) ∧ w = w' := by
  have hc := h.c0
  have hn := hm.hi
  by_cases h0 : f < 0
  · have hv := Lib.hid (show (!m.ex f 1) = true from by unfold Mem.ex; simp; omega)
    go_enter Tryd.func30, Tryd.ntmps30
    go_wp2_with (go_at_call 19; refine (frames_any MA m _ hm).mono ?_; rintro e w' ⟨rfl, rfl⟩)
    go_ret
    exact ⟨by rw [hv.out]; rfl, rfl⟩
  · have hv := Lib.hid (show (!m.ex f 1) = decide ((m.n : Int) ≤ f) from by unfold Mem.ex; rw [Bool.eq_iff_iff]; simp; omega)
    go_enter Tryd.func30, Tryd.ntmps30
    go_wp2_with (go_at_call 19; refine (frames_any MA m _ hm).mono ?_; rintro e w' ⟨rfl, rfl⟩)
    go_ret
    exact ⟨by rw [hv.out]; rfl, rfl⟩

set_option maxHeartbeats 400000 in
theorem sroot_any (S MA A : Nat) (root : Int) (w : World) (h : SpAt w S MA A root) :
    Calls Tryd.prog 14 #[.pointer (some ⟨S, 0, none⟩)] w fun e w' => e = .returned (.int .i64 root) ∧ w = w' := by
  have hc := h.c2
  go_enter Tryd.func14, Tryd.ntmps14
  go_wp2
  go_ret
  exact ⟨rfl, rfl⟩

set_option maxHeartbeats 400000 in
theorem sclear_any (S MA A : Nat) (root : Int) (m : Mem) (f : Int) (w : World) (h : SpAt w S MA A root) (hm : MemAt w MA m) :
    Calls Tryd.prog 52 #[.pointer (some ⟨S, 0, none⟩), .int .i64 f] w fun e w' => e = .returned (.tuple #[]) ∧ MemAt w' MA (m.scrub f 1) ∧ Upd (· = m.B) w w' := by
  have hc := h.c0
  go_enter Tryd.func52, Tryd.ntmps52
  go_wp2_with (go_at_call 62; refine (scrub_any MA m f 1 _ hm (by omega)).mono ?_; rintro e w' ⟨rfl, hm', u⟩)
  go_end0
  exact ⟨rfl, hm', u⟩

set_option maxHeartbeats 400000 in
theorem sfree_any (S MA A GB : Nat) (root : Int) (m : Mem) (b : Bud) (f : Int) (w : World) (h : SpAt w S MA A root) (hd : Duo w A MA GB m b) (h0 : 0 ≤ f) (hf : ((f.toNat, 0) : Nat × Nat) ∈ b.gave) :
    Calls Tryd.prog 29 #[.pointer (some ⟨S, 0, none⟩), .int .i64 f] w fun e w' => e = .returned (.tuple #[]) ∧ Duo w' A MA GB (m.scrub f 1) (b.take (f.toNat, 0)) ∧ Upd (fun k => k = GB ∨ k = m.B) w w' := by
  have hc := h.c1
  obtain ⟨j, rfl⟩ := Int.eq_ofNat_of_zero_le h0
  have hb := bfree_yes A MA GB m b (j, 0) w hd hf
  go_enter Tryd.func29, Tryd.ntmps29
  go_wp2_with (go_at_call 49; refine hb.mono ?_; rintro e w' ⟨rfl, hd', u⟩)
  go_end0
  exact ⟨rfl, hd', u⟩

set_option maxHeartbeats 400000 in
/-- each does the same to all of the frames -/
theorem each_any (g : Nat) (eg : Enters Tryd.prog g) (S : Nat) (o : Option Addr) (L cap : Nat) (c : Nat → Int) (J : Nat → World → Prop) (w : World) (hL : L ≤ 1000) (h0 : J 0 w)
    (hcell : ∀ k W, J k W → k < L → ∃ b, o = some ⟨b, 0, none⟩ ∧ W.cell? ⟨b, k, none⟩ = some (.int .i64 (c k)))
    (hstep : ∀ k W, J k W → k < L → Calls Tryd.prog g #[.pointer (some ⟨S, 0, none⟩), .int .i64 (c k)] W fun e W' => e = .returned (.tuple #[]) ∧ J (k + 1) W') :
    Calls Tryd.prog 41 #[.slice o L cap, .func (.func g) #[.pointer (some ⟨S, 0, none⟩)] #[]] w fun e W' => e = .returned (.tuple #[]) ∧ J L W' := by
  have eg2 : ∀ args w, Sem.run Tryd.prog (callFunc g args) w = .ok (.enter g args) w := eg
  go_enter Tryd.func41, Tryd.ntmps41
  go_wp2_with fail
  go_loopw [8] (fun t wr => ∃ k : Nat, k ≤ L ∧ t = .int .i64 k ∧ J k wr) (fun t _ => L - (intOf t).toNat)
  case atStart => exact ⟨0, by omega, rfl, h0⟩
  case round =>
    obtain ⟨k, hk, rfl, hJ⟩ := hrel
    by_cases hlt : k < L
    · obtain ⟨b, rfl, hc⟩ := hcell k wr hJ hlt
      have hs := hstep k wr hJ hlt
      go_wp2_with (go_at_fn g; refine hs.mono ?_; rintro e W' ⟨rfl, hJ'⟩)
      go_roundw
      case rel => exact ⟨k + 1, by omega, by go_num, hJ'⟩
      case measure => simp [intOf]; omega
    · obtain rfl : k = L := by omega
      go_wp2
      go_end0
      exact ⟨rfl, hJ⟩

set_option maxHeartbeats 400000 in
/-- a search that finds none -/
theorem idxf_any (g : Nat) (eg : Enters Tryd.prog g) (S : Nat) (o : Option Addr) (L cap : Nat) (c : Nat → Int) (w : World) (hL : L ≤ 1000)
    (hcell : ∀ k, k < L → ∃ b, o = some ⟨b, 0, none⟩ ∧ w.cell? ⟨b, k, none⟩ = some (.int .i64 (c k)))
    (hstep : ∀ k, k < L → Calls Tryd.prog g #[.pointer (some ⟨S, 0, none⟩), .int .i64 (c k)] w fun e W' => e = .returned (.bool false) ∧ w = W') :
    Calls Tryd.prog 63 #[.slice o L cap, .func (.func g) #[.pointer (some ⟨S, 0, none⟩)] #[]] w fun e W' => e = .returned (.int .i64 (-1)) ∧ w = W' := by
  have eg2 : ∀ args w, Sem.run Tryd.prog (callFunc g args) w = .ok (.enter g args) w := eg
  go_enter Tryd.func63, Tryd.ntmps63
  go_wp2_with fail
  go_loopw [8] (fun t wr => ∃ k : Nat, k ≤ L ∧ t = .int .i64 k ∧ w = wr) (fun t _ => L - (intOf t).toNat)
  case atStart => exact ⟨0, by omega, rfl, rfl⟩
  case round =>
    obtain ⟨k, hk, rfl, rfl⟩ := hrel
    by_cases hlt : k < L
    · obtain ⟨b, rfl, hc⟩ := hcell k hlt
      have hs := hstep k hlt
      go_wp2_with (go_at_fn g; refine hs.mono ?_; rintro e W' ⟨rfl, rfl⟩)
      go_roundw
      case rel => exact ⟨k + 1, by omega, by go_num, trivial⟩
      case measure => simp [intOf]; omega
    · obtain rfl : k = L := by omega
      go_wp2
      go_ret
      exact ⟨rfl, rfl⟩
set_option maxHeartbeats 400000 in
theorem contf_any (g : Nat) (eg : Enters Tryd.prog g) (S : Nat) (o : Option Addr) (L cap : Nat) (c : Nat → Int) (w : World) (hL : L ≤ 1000)
    (hcell : ∀ k, k < L → ∃ b, o = some ⟨b, 0, none⟩ ∧ w.cell? ⟨b, k, none⟩ = some (.int .i64 (c k)))
    (hstep : ∀ k, k < L → Calls Tryd.prog g #[.pointer (some ⟨S, 0, none⟩), .int .i64 (c k)] w fun e W' => e = .returned (.bool false) ∧ w = W') :
    Calls Tryd.prog 51 #[.slice o L cap, .func (.func g) #[.pointer (some ⟨S, 0, none⟩)] #[]] w fun e W' => e = .returned (.bool false) ∧ w = W' := by
  have hi := idxf_any g eg S o L cap c w hL hcell hstep
  clear hcell hstep
  go_enter Tryd.func51, Tryd.ntmps51
  go_wp2_with (go_at_call 63; refine hi.mono ?_; rintro e W' ⟨rfl, rfl⟩)
  go_ret
  exact ⟨rfl, rfl⟩
end Go.Proofs.YtpfpcmadhbejiaaDoor

/-
  Contracts of package walk: Walk.
-/
namespace Go.Proofs.YtpfpcmadhbejiaaDoor
open Go.ChangeShapes Go.WideShapes Go.ChangeAt Go.RowKit

set_option maxRecDepth 100000 in
set_option maxHeartbeats 2000000 in
theorem wwalk_any (A : Nat) (m : Mem) (root q : Int) (w : World) (h : MemAt w A m) (T : Tab w) (hg : m.good) :
    Calls Tryd.prog 13 #[.pointer (some ⟨A, 0, none⟩), .int .i64 root, .int .i64 q] w fun e w' => ∃ v, e = .returned (.tuple #[(m.wE root q).val, v, .int .i64 (m.wX root q)]) ∧
      w'.ownsRow w.heap.size 66 2 v (m.wN root q) (m.wS root q (m.wN root q)) ∧ Upd (fun _ => False) w w' := by
  obtain ⟨i0, hi, hz0, hz1, hz2⟩ := info_parts info_step
  have cI := Lib.hid (fun W (T : Tab W) => windices_any q W T)
  have cX := Lib.hid (fun W (h : MemAt W A m) => wexists_any A m root W h)
  have cG := Lib.hid (fun f p W (h : MemAt W A m) (T : Tab W) => wget_any A m f p W h T hg)
  have k0 : Hid (EntAt (w.alloc (.cells #[.bool false, .bool false, .bool false, .int .i64 0] 37)) w.heap.size false false false 0) := Lib.hid (heap_alloc_last w _)
  clear hg
  obtain ⟨p0, e0⟩ : ∃ p, p = idxI q 0 := ⟨_, rfl⟩
  obtain ⟨p1, e1⟩ : ∃ p, p = idxI q 1 := ⟨_, rfl⟩
  obtain ⟨p2, e2⟩ : ∃ p, p = idxI q 2 := ⟨_, rfl⟩
  rw [← e0, ← e1, ← e2] at cI
  have hP := Lib.hid (And.intro e0 (And.intro e1 e2))
  clear e0 e1 e2
  cases hw : m.wB root q
  · obtain ⟨n1, n2, n3⟩ := m.walk_no root q hw
    rw [n1, n2, n3]
    clear n1 n2 n3 cG hP
    cases hq : pageB q
    · rw [hq] at cI
      clear hq hw cX
      go_enter Tryd.func13, Tryd.ntmps13
      go_wp2
      go_step3
      go_wp2_with fail
      refine (cI.out _ (T.kept ((Upd.refl _ _).alloc _))).mono ?_
      rintro e w1 ⟨rfl, u⟩
      rw [show errB false = 1 from rfl]
      have k1 : Hid (EntAt w1 w.heap.size false false false 0) := Lib.hid (k0.out.kept u id)
      have U := Lib.hid (((Upd.refl (fun _ => False) w).alloc _).trans u)
      clear u k0 T h cI
      obtain ⟨a1, a2, a3⟩ := arr_box w1 p0 p1 p2
      have A3 := Lib.hid a3
      have U2 := Lib.hid (U.out.trans a2)
      have k2 := Lib.hid (k1.out.kept a2 id)
      clear a1 a2 a3 U k1
      obtain ⟨B, hB⟩ : ∃ B, B = w.heap.size := ⟨_, rfl⟩
      rw [← hB] at k2 ⊢
      have hB' := Lib.hid hB
      clear hB
      go_upto_region 2 with ((with_reducible refine wpList_store_sz rfl 74 (.tmp 9) (.tmp 22) rfl w1.heap.size 0 #[.int .i64 p0, .int .i64 p1, .int .i64 p2] rfl rfl 3 (arr3_sz _ _ _) A3.out size_arr3 (arr3_one _ _ _) [.int .i64 p0, .int .i64 p1, .int .i64 p2] (arr3_ls _ _ _) ?_))
      generalize (w1.alloc (.cells #[.int .i64 0, .int .i64 0, .int .i64 0] 74)).setCells w1.heap.size 0 [.int .i64 p0, .int .i64 p1, .int .i64 p2] = w2 at U2 k2 ⊢
      clear A3
      go_wp2_with (with_reducible refine wpList_store_sz rfl 37 (.tmp 6) (.tmp 32) rfl B 0 #[.bool false, .bool false, .bool false, .int .i64 0] rfl rfl 4 (ent_sz _ _ _ _) k2.out.there size_ent (ent_one _ _ _ _) [.bool false, .bool false, .bool false, .int .i64 0] (ent_ls _ _ _ _) ?_)
      (try simp only [Exit.inBlock, Exit.then])
      (try rw [Exit.noGoto_ret])
      refine bodyPost_ret (ret_ent2 rfl _ _ B false false false 0 rfl (k2.out.set false false false 0)) rfl ⟨_, rfl, World.ownsRow_nil _ _ _ _, ?_⟩
      exact Upd.setCells (.inr (Nat.le_of_eq hB'.out.symm)) _ _ U2.out
    · have hr : m.ex root 1 = false := by unfold Mem.wB at hw; rw [hq, Bool.and_true] at hw; exact hw
      rw [hq] at cI
      rw [hr] at cX
      clear hq hw hr
      go_enter Tryd.func13, Tryd.ntmps13
      go_wp2
      go_step3
      go_wp2_with fail
      refine (cI.out _ (T.kept ((Upd.refl _ _).alloc _))).mono ?_
      rintro e w1 ⟨rfl, u⟩
      rw [show errB true = 0 from rfl]
      have k1 : Hid (EntAt w1 w.heap.size false false false 0) := Lib.hid (k0.out.kept u id)
      have U := Lib.hid (((Upd.refl (fun _ => False) w).alloc _).trans u)
      clear u k0 T cI
      obtain ⟨a1, a2, a3⟩ := arr_box w1 p0 p1 p2
      have A3 := Lib.hid a3
      have U2 := Lib.hid (U.out.trans a2)
      have k2 := Lib.hid (k1.out.kept a2 id)
      clear a1 a2 a3 U k1
      obtain ⟨B, hB⟩ : ∃ B, B = w.heap.size := ⟨_, rfl⟩
      rw [← hB] at k2 ⊢
      have hB' := Lib.hid hB
      clear hB
      go_upto_region 2 with ((with_reducible refine wpList_store_sz rfl 74 (.tmp 9) (.tmp 22) rfl w1.heap.size 0 #[.int .i64 p0, .int .i64 p1, .int .i64 p2] rfl rfl 3 (arr3_sz _ _ _) A3.out size_arr3 (arr3_one _ _ _) [.int .i64 p0, .int .i64 p1, .int .i64 p2] (arr3_ls _ _ _) ?_))
      generalize (w1.alloc (.cells #[.int .i64 0, .int .i64 0, .int .i64 0] 74)).setCells w1.heap.size 0 [.int .i64 p0, .int .i64 p1, .int .i64 p2] = w2 at U2 k2 ⊢
      clear A3
      go_wp2_with fail
      refine (cX.out _ (h.kept U2.out id id)).mono ?_
      rintro e w3 ⟨rfl, rfl⟩
      go_wp2_with (with_reducible refine wpList_store_sz rfl 37 (.tmp 6) (.tmp 32) rfl B 0 #[.bool false, .bool false, .bool false, .int .i64 0] rfl rfl 4 (ent_sz _ _ _ _) k2.out.there size_ent (ent_one _ _ _ _) [.bool false, .bool false, .bool false, .int .i64 0] (ent_ls _ _ _ _) ?_)
      (try simp only [Exit.inBlock, Exit.then])
      (try rw [Exit.noGoto_ret])
      refine bodyPost_ret (ret_ent2 rfl _ _ B false false false 0 rfl (k2.out.set false false false 0)) rfl ⟨_, rfl, World.ownsRow_nil _ _ _ _, ?_⟩
      exact Upd.setCells (.inr (Nat.le_of_eq hB'.out.symm)) _ _ U2.out
  · obtain ⟨hr, hq⟩ : m.ex root 1 = true ∧ pageB q = true := by simpa [Mem.wB] using hw
    rw [hq] at cI
    rw [hr] at cX
    have hw' := Lib.hid hw
    clear hq hr hw
    go_enter Tryd.func13, Tryd.ntmps13
    go_wp2
    go_step3
    go_wp2_with fail
    refine (cI.out _ (T.kept ((Upd.refl _ _).alloc _))).mono ?_
    rintro e w1 ⟨rfl, u⟩
    rw [show errB true = 0 from rfl]
    have k1 : Hid (EntAt w1 w.heap.size false false false 0) := Lib.hid (k0.out.kept u id)
    have U := Lib.hid (((Upd.refl (fun _ => False) w).alloc _).trans u)
    clear u k0 cI
    obtain ⟨a1, a2, a3⟩ := arr_box w1 p0 p1 p2
    have A1 := Lib.hid a1
    have A3 := Lib.hid a3
    have U2 := Lib.hid (U.out.trans a2)
    have k2 := Lib.hid (k1.out.kept a2 id)
    have hs1 := lt_of_heap k1.out
    clear a1 a2 a3 U k1
    obtain ⟨R, hR⟩ : ∃ R, R = w.heap.size := ⟨_, rfl⟩
    rw [← hR] at k2 hs1 ⊢
    have hRN := Lib.hid (Nat.le_of_eq hR.symm)
    clear hR
    have hRF1 := Lib.hid (lt_of_heap A1.out)
    have hs2 := Lib.hid hs1
    clear hs1
    go_upto_region 2 with ((with_reducible refine wpList_store_sz rfl 74 (.tmp 9) (.tmp 22) rfl w1.heap.size 0 #[.int .i64 p0, .int .i64 p1, .int .i64 p2] rfl rfl 3 (arr3_sz _ _ _) A3.out size_arr3 (arr3_one _ _ _) [.int .i64 p0, .int .i64 p1, .int .i64 p2] (arr3_ls _ _ _) ?_))
    generalize (w1.alloc (.cells #[.int .i64 0, .int .i64 0, .int .i64 0] 74)).setCells w1.heap.size 0 [.int .i64 p0, .int .i64 p1, .int .i64 p2] = w2 at U2 k2 A1 hRF1 ⊢
    generalize w1.heap.size = Bx at A1 hRF1 hs2 ⊢
    have hRF2 : Hid (R < w2.heap.size) := Lib.hid (Nat.lt_trans hs2.out hRF1.out)
    clear A3 hs2 hRF1
    go_wp2_with fail
    refine (cX.out _ (h.kept U2.out id id)).mono ?_
    rintro e w3 ⟨rfl, rfl⟩
    have u3 := (Upd.refl (fun _ => False) w2).alloc (.cells #[.bool false, .bool false, .bool false, .int .i64 0] 37)
    have A2 := Lib.hid (A1.out.kept u3 id)
    have k3 := Lib.hid (k2.out.kept u3 id)
    have kF : Hid (EntAt (w2.alloc (.cells #[.bool false, .bool false, .bool false, .int .i64 0] 37)) w2.heap.size false false false 0) := Lib.hid (heap_alloc_last w2 _)
    have U3 := U2.out.trans u3
    have hFN := Lib.hid U2.out.size
    clear u3 k2 A1 U2 cX
    go_wp2
    go_step3
    generalize w2.alloc (.cells #[.bool false, .bool false, .bool false, .int .i64 0] 37) = W at A2 k3 kF U3 ⊢
    obtain ⟨F, hF⟩ : ∃ F, F = w2.heap.size := ⟨_, rfl⟩
    rw [← hF] at kF hFN hRF2 ⊢
    have hRF0 := hRF2
    clear hF hRF2
    go_wp2_with (with_reducible refine wpList_load_sz rfl 74 (.tmp 9) rfl Bx 0 rfl [.int .i64 p0, .int .i64 p1, .int .i64 p2] _ A2.out.range Tryd.underlying74 rfl 3 (arr_len _ _ _) size_arr3 ?_)
    go_loopw [12, 13, 14, 35] (fun s t x c wr => ∃ k : Nat, k ≤ 3 ∧ c = .int .i64 k ∧ x = .int .i64 0 ∧ (∃ z, t = .int .i64 z ∧ Hid (k < 3 → z = m.wF root q k)) ∧ Hid (wr.ownsRow w.heap.size 66 2 s k (m.wS root q k)) ∧ Upd (fun _ => False) w wr ∧ Hid (EntAt wr R false false false 0) ∧
      (∃ E : En, Hid (EntAt wr F E.v E.r E.t E.f) ∧ Hid (k < 3 → E = En.zero) ∧ Hid (k = 3 → E = m.getE (m.wF root q 2) (idxI q 2))) ∧ Hid (∀ j, j < k → m.wC root q j = 0)) (fun _ _ _ c _ => 3 - (intOf c).toNat)
    case atStart => exact ⟨0, by omega, rfl, rfl, ⟨root, rfl, Lib.hid fun _ => rfl⟩, Lib.hid (World.ownsRow_nil _ _ _ _), U3, k3, ⟨En.zero, kF, Lib.hid fun _ => rfl, Lib.hid fun h => absurd h (by omega)⟩, Lib.hid fun j hj => absurd hj (by omega)⟩
    case round =>
      obtain ⟨k, hk, rfl, rfl, ⟨z, rfl, hz⟩, hrow, hU, KR, ⟨E, KF, hE0, hE3⟩, hC⟩ := hrel
      clear A2 k3 kF U3
      by_cases hlt : k < 3
      · obtain rfl := hE0.out hlt
        have hz' := Lib.hid (hz.out hlt)
        obtain ⟨y, hy⟩ : ∃ y, y = [p0, p1, p2].getD k 0 := ⟨_, rfl⟩
        have hx : ∀ w, (Instr.index 74 (.agg #[.int .i64 p0, .int .i64 p1, .int .i64 p2]) (.int .i64 k)).run Tryd.prog w = .ok (.int .i64 y) w := run_index_ints (P := Tryd.prog) Tryd.underlying74 Tryd.underlying3 (by kernel_rfl) [p0, p1, p2] rfl .i64 k hlt y hy.symm
        have hy' : Hid (y = idxI q k) := Lib.hid (by
          rw [hy]
          have := hP.out
          match k, hlt with
          | 0, _ => exact this.1
          | 1, _ => exact this.2.1
          | 2, _ => exact this.2.2)
        clear hy hE0 hE3 hz
        obtain ⟨o, cap, rfl⟩ := wk_slice hrow.out
        have hsz := hU.size
        have ck := Lib.hid (fun W hM hT => cG.out z y W hM hT)
        have hcd : Hid (m.wC root q k = codeI (m.getE z y) (m.getX z y) k) := Lib.hid (by rw [hz'.out, hy'.out]; rfl)
        have hFn : Hid (m.wF root q (k + 1) = (m.getE z y).f) := Lib.hid (by rw [hz'.out, hy'.out]; rfl)
        have hE2 : Hid (k = 2 → m.getE (m.wF root q 2) (idxI q 2) = m.getE z y) := Lib.hid (by rw [hz'.out, hy'.out]; rintro rfl; rfl)
        have hSn : Hid (m.wS root q (k + 1) = m.wS root q k ++ [.int .i64 z, .int .i64 y]) := Lib.hid (by rw [hz'.out, hy'.out]; rfl)
        generalize m.getE z y = G at ck hcd hFn hE2
        generalize m.getX z y = X at ck hcd
        obtain ⟨v, r, t, f⟩ := G
        clear cG hz' hy' hP
        go_upto_region 11 with ((at_builtin; refine wpList_append_own _ rfl _ _ 40 rfl w.heap.size 66 i0 (.agg #[.int .i64 0, .int .i64 0]) 2 16 Tryd.underlying40 hi hz0 hz1 hz2 rfl (by decide) _ _ _ rfl (hrow.out.alloc _) ⟨wr.heap.size, 0, none⟩ 1 1 [.int .i64 z, .int .i64 y] rfl rfl (wk_two _ _ _ _) (by simp [Value.oneCell']) (by simp [maxLen]; omega) (by omega) (by simp; omega) ?_; intro v' w4 hown' hgrow _; obtain ⟨g', cap', rfl⟩ := ownsRow_succ hown'))
        obtain ⟨U4, hat⟩ := wk_grown hrow.out hgrow hU (Nat.le_refl _)
        have KR4 : Hid (EntAt w4 R false false false 0) := Lib.hid (hat R _ _ KR.out (by decide))
        have KF4 : Hid (EntAt w4 F false false false 0) := Lib.hid (hat F _ _ KF.out (by decide))
        rw [← hSn.out] at hown'
        have hrow4 := Lib.hid hown'
        have ck4 := Lib.hid (ck.out w4 (h.kept U4 id id) (T.kept U4))
        clear hown' hgrow hat hrow hU KR KF hSn hx hsz ck
        go_wp2_with fail
        refine ck4.out.mono ?_
        rintro e w5 ⟨rfl, u⟩
        clear ck4
        obtain ⟨a1, a2, a3, a4⟩ := ent_box w5 v r t f
        have u5 := u.trans a2
        have hU5 := U4.trans u5
        have KR5 := Lib.hid (KR4.out.kept u5 id)
        have KF5 := Lib.hid (KF4.out.kept u5 id)
        have hrow5 := Lib.hid (wk_kept hrow4.out u5 (fun _ _ => id))
        have A1 := Lib.hid a1
        have A3 := Lib.hid a3
        have b0 := a1.range 0 _ rfl
        have b2 := a1.range 2 _ rfl
        have b3 := a1.range 3 _ rfl
        clear a1 a2 a3 a4 u u5 U4 KR4 KF4 hrow4
        go_upto_region 13 with ((with_reducible refine wpList_store_sz rfl 37 (.tmp 17) (.tmp 50) rfl w5.heap.size 0 #[.bool v, .bool r, .bool t, .int .i64 f] rfl rfl 4 (ent_sz _ _ _ _) A3.out size_ent (ent_one _ _ _ _) [.bool v, .bool r, .bool t, .int .i64 f] (ent_ls _ _ _ _) ?_))
        generalize (w5.alloc (.cells #[.bool false, .bool false, .bool false, .int .i64 0] 37)).setCells w5.heap.size 0 [.bool v, .bool r, .bool t, .int .i64 f] = w6 at A1 b0 b2 b3 hU5 KR5 KF5 hrow5 ⊢
        generalize w5.heap.size = Eb at A1 b0 b2 b3 ⊢
        clear A3
        by_cases hX : X = 0
        · subst hX
          cases v
          · have hc : m.wC root q k = 10 := by rw [hcd.out]; simp [codeI]
            have hS0 := m.walk_stop root q hw'.out k hlt hC.out (by rw [hc]; decide)
            rw [hc] at hS0
            have hS := Lib.hid hS0
            clear hc hS0 hcd hFn hE2 hC A1 hw'
            go_wp2_with (first
              | (with_reducible refine wpList_load_sz rfl 37 (.tmp 11) rfl F 0 rfl [.bool false, .bool false, .bool false, .int .i64 0] _ KF5.out.range Tryd.underlying37 rfl 4 (ent_len _ _ _ _) size_ent ?_)
              | (with_reducible refine wpList_store_sz rfl 37 (.tmp 6) (.tmp 72) rfl R 0 #[.bool false, .bool false, .bool false, .int .i64 0] rfl rfl 4 (ent_sz _ _ _ _) KR5.out.there size_ent (ent_one _ _ _ _) [.bool false, .bool false, .bool false, .int .i64 0] (ent_ls _ _ _ _) ?_))
            (try simp only [Exit.inBlock, Exit.then])
            (try rw [Exit.noGoto_ret])
            refine bodyPost_ret (ret_ent2 rfl _ _ R false false false 0 rfl (KR5.out.set false false false 0)) rfl ⟨_, by rw [hS.out.2.1, hS.out.2.2]; rfl, ?_, ?_⟩
            · rw [hS.out.1]
              exact wk_kept hrow5.out (Upd.setCells (S := (· = R)) (.inl rfl) _ _ (Upd.refl _ _)) (fun j hj e => wk_ne hrow5.out KR5.out (by decide) j hj e)
            · exact Upd.setCells (.inr hRN.out) _ _ hU5
          · by_cases ht : t = decide (k < 2)
            · have hc : m.wC root q k = 0 := by rw [hcd.out]; simp [codeI, ht]
              have hC' : Hid (∀ j, j < k + 1 → m.wC root q j = 0) := Lib.hid (fun j hj => by
                by_cases e : j = k
                · rw [e]; exact hc
                · exact hC.out j (by omega))
              clear hc hcd hC
              by_cases h2 : k < 2
              · obtain rfl : t = true := by rw [ht]; exact decide_eq_true h2
                have hdec : decide ((k : Int) < 2) = true := decide_eq_true (by omega)
                clear ht A1 hE2
                go_wp2
                exact ⟨⟨k + 1, by omega, by go_num, rfl, ⟨f, rfl, Lib.hid fun _ => hFn.out.symm⟩, hrow5, hU5, KR5, ⟨En.zero, KF5, Lib.hid fun _ => rfl, Lib.hid fun h => absurd h (by omega)⟩, hC'⟩, by simp [intOf]; omega⟩
              · obtain rfl : t = false := by rw [ht]; exact decide_eq_false h2
                obtain rfl : k = 2 := by omega
                have hE2' := Lib.hid (hE2.out rfl)
                clear ht hE2
                go_wp2_with (first
                  | (with_reducible refine wpList_load_sz rfl 37 (.tmp 17) rfl Eb 0 rfl [.bool true, .bool r, .bool false, .int .i64 f] _ A1.out.range Tryd.underlying37 rfl 4 (ent_len _ _ _ _) size_ent ?_)
                  | (with_reducible refine wpList_store_sz rfl 37 (.tmp 11) (.tmp 52) rfl F 0 #[.bool true, .bool r, .bool false, .int .i64 f] rfl rfl 4 (ent_sz _ _ _ _) KF5.out.there size_ent (ent_one _ _ _ _) [.bool true, .bool r, .bool false, .int .i64 f] (ent_ls _ _ _ _) ?_))
                have hRF : ¬ R = F := fun e => by have := hRF0.out; omega
                have us := Upd.setCells (S := (· = F)) (.inl rfl) [.bool true, .bool r, .bool false, .int .i64 f] 0 (Upd.refl _ w6)
                exact ⟨⟨2 + 1, by omega, by go_num, rfl, ⟨z, rfl, Lib.hid fun h => absurd h (by omega)⟩, Lib.hid (wk_kept hrow5.out us (fun j hj e => wk_ne hrow5.out KF5.out (by decide) j hj e)), Upd.setCells (.inr hFN.out) _ _ hU5, Lib.hid (KR5.out.kept us hRF),
                  ⟨⟨true, r, false, f⟩, Lib.hid (KF5.out.set true r false f), Lib.hid fun h => absurd h (by omega), Lib.hid fun _ => hE2'.out.symm⟩, hC'⟩, by simp [intOf]⟩
            · have hc : m.wC root q k = 11 := by rw [hcd.out]; simp [codeI, ht]
              have hS0 := m.walk_stop root q hw'.out k hlt hC.out (by rw [hc]; decide)
              rw [hc] at hS0
              have hS := Lib.hid hS0
              clear hc hS0 hcd hFn hE2 hC A1 hw'
              by_cases h2 : k < 2
              · obtain rfl : t = false := by simpa [h2] using ht
                have hdec : decide ((k : Int) < 2) = true := decide_eq_true (by omega)
                clear ht
                go_wp2_with (first
                  | (with_reducible refine wpList_load_sz rfl 37 (.tmp 11) rfl F 0 rfl [.bool false, .bool false, .bool false, .int .i64 0] _ KF5.out.range Tryd.underlying37 rfl 4 (ent_len _ _ _ _) size_ent ?_)
                  | (with_reducible refine wpList_store_sz rfl 37 (.tmp 6) (.tmp 72) rfl R 0 #[.bool false, .bool false, .bool false, .int .i64 0] rfl rfl 4 (ent_sz _ _ _ _) KR5.out.there size_ent (ent_one _ _ _ _) [.bool false, .bool false, .bool false, .int .i64 0] (ent_ls _ _ _ _) ?_))
                (try simp only [Exit.inBlock, Exit.then])
                (try rw [Exit.noGoto_ret])
                refine bodyPost_ret (ret_ent2 rfl _ _ R false false false 0 rfl (KR5.out.set false false false 0)) rfl ⟨_, by rw [hS.out.2.1, hS.out.2.2]; rfl, ?_, ?_⟩
                · rw [hS.out.1]
                  exact wk_kept hrow5.out (Upd.setCells (S := (· = R)) (.inl rfl) _ _ (Upd.refl _ _)) (fun j hj e => wk_ne hrow5.out KR5.out (by decide) j hj e)
                · exact Upd.setCells (.inr hRN.out) _ _ hU5
              · obtain rfl : t = true := by simpa [h2] using ht
                have hdec : decide ((k : Int) < 2) = false := decide_eq_false (by omega)
                clear ht
                go_wp2_with (first
                  | (with_reducible refine wpList_load_sz rfl 37 (.tmp 11) rfl F 0 rfl [.bool false, .bool false, .bool false, .int .i64 0] _ KF5.out.range Tryd.underlying37 rfl 4 (ent_len _ _ _ _) size_ent ?_)
                  | (with_reducible refine wpList_store_sz rfl 37 (.tmp 6) (.tmp 72) rfl R 0 #[.bool false, .bool false, .bool false, .int .i64 0] rfl rfl 4 (ent_sz _ _ _ _) KR5.out.there size_ent (ent_one _ _ _ _) [.bool false, .bool false, .bool false, .int .i64 0] (ent_ls _ _ _ _) ?_))
                (try simp only [Exit.inBlock, Exit.then])
                (try rw [Exit.noGoto_ret])
                refine bodyPost_ret (ret_ent2 rfl _ _ R false false false 0 rfl (KR5.out.set false false false 0)) rfl ⟨_, by rw [hS.out.2.1, hS.out.2.2]; rfl, ?_, ?_⟩
                · rw [hS.out.1]
                  exact wk_kept hrow5.out (Upd.setCells (S := (· = R)) (.inl rfl) _ _ (Upd.refl _ _)) (fun j hj e => wk_ne hrow5.out KR5.out (by decide) j hj e)
                · exact Upd.setCells (.inr hRN.out) _ _ hU5
        · have hc : m.wC root q k = 11 := by rw [hcd.out]; simp [codeI, hX]
          have hS0 := m.walk_stop root q hw'.out k hlt hC.out (by rw [hc]; decide)
          rw [hc] at hS0
          have hS := Lib.hid hS0
          clear hc hS0 hcd hFn hE2 hC A1 hw'
          go_wp2_with (first
            | (with_reducible refine wpList_load_sz rfl 37 (.tmp 11) rfl F 0 rfl [.bool false, .bool false, .bool false, .int .i64 0] _ KF5.out.range Tryd.underlying37 rfl 4 (ent_len _ _ _ _) size_ent ?_)
            | (with_reducible refine wpList_store_sz rfl 37 (.tmp 6) (.tmp 72) rfl R 0 #[.bool false, .bool false, .bool false, .int .i64 0] rfl rfl 4 (ent_sz _ _ _ _) KR5.out.there size_ent (ent_one _ _ _ _) [.bool false, .bool false, .bool false, .int .i64 0] (ent_ls _ _ _ _) ?_))
          (try simp only [Exit.inBlock, Exit.then])
          (try rw [Exit.noGoto_ret])
          refine bodyPost_ret (ret_ent2 rfl _ _ R false false false 0 rfl (KR5.out.set false false false 0)) rfl ⟨_, by rw [hS.out.2.1, hS.out.2.2]; rfl, ?_, ?_⟩
          · rw [hS.out.1]
            exact wk_kept hrow5.out (Upd.setCells (S := (· = R)) (.inl rfl) _ _ (Upd.refl _ _)) (fun j hj e => wk_ne hrow5.out KR5.out (by decide) j hj e)
          · exact Upd.setCells (.inr hRN.out) _ _ hU5
      · obtain rfl : k = 3 := by omega
        obtain ⟨v, r, t, f⟩ := E
        have hE := hE3.out rfl
        have hS0 := m.walk_end root q hw'.out hC.out
        rw [← hE] at hS0
        have hS := Lib.hid hS0
        obtain ⟨o, cap, rfl⟩ := wk_slice hrow.out
        clear hS0 hE hE3 hE0 hC hz hw' cG
        go_wp2_with (first
          | (with_reducible refine wpList_load_sz rfl 37 (.tmp 11) rfl F 0 rfl [.bool v, .bool r, .bool t, .int .i64 f] _ KF.out.range Tryd.underlying37 rfl 4 (ent_len _ _ _ _) size_ent ?_)
          | (with_reducible refine wpList_store_sz rfl 37 (.tmp 6) (.tmp 72) rfl R 0 #[.bool v, .bool r, .bool t, .int .i64 f] rfl rfl 4 (ent_sz _ _ _ _) KR.out.there size_ent (ent_one _ _ _ _) [.bool v, .bool r, .bool t, .int .i64 f] (ent_ls _ _ _ _) ?_))
        (try simp only [Exit.inBlock, Exit.then])
        (try rw [Exit.noGoto_ret])
        refine bodyPost_ret (ret_ent2 rfl _ _ R v r t f rfl (KR.out.set v r t f)) rfl ⟨_, by rw [hS.out.2.1, hS.out.2.2]; rfl, ?_, ?_⟩
        · rw [hS.out.1]
          exact wk_kept hrow.out (Upd.setCells (S := (· = R)) (.inl rfl) _ _ (Upd.refl _ _)) (fun j hj e => wk_ne hrow.out KR.out (by decide) j hj e)
        · exact Upd.setCells (.inr hRN.out) _ _ hU
end Go.Proofs.YtpfpcmadhbejiaaDoor

/-
  The laws' tables and awake over package walk.
-/
namespace Go.Proofs.YtpfpcmadhbejiaaDoor
open Go.ChangeShapes Go.WideShapes Go.ChangeAt Go.RowKit

/-- three tables -/
def Mem.tabs (m : Mem) : Mem := ((m.put 0 1 ⟨true, false, true, 1⟩).put 1 2 ⟨true, false, true, 2⟩).put 2 3 ⟨true, true, false, 7⟩
theorem Mem.tabs_B (m : Mem) : m.tabs.B = m.B := by unfold Mem.tabs; rw [Mem.put_B, Mem.put_B, Mem.put_B]
theorem Mem.tabs_n (m : Mem) : m.tabs.n = m.n := by unfold Mem.tabs; rw [Mem.put_n, Mem.put_n, Mem.put_n]
theorem Mem.tabs_ok (m : Mem) (h : m.ok) : m.tabs.ok := Mem.put_ok _ (Mem.put_ok _ (Mem.put_ok _ h ..) ..) ..
theorem Mem.tabs_good (m : Mem) (h : m.ok) (hg : m.good) : m.tabs.good := by
  have h1 := m.put_good h hg 0 1 ⟨true, false, true, 1⟩
  have k1 := m.put_ok h 0 1 ⟨true, false, true, 1⟩
  have h2 := Mem.put_good _ k1 h1 1 2 ⟨true, false, true, 2⟩
  have k2 := Mem.put_ok _ k1 1 2 ⟨true, false, true, 2⟩
  exact Mem.put_good _ k2 h2 2 3 ⟨true, true, false, 7⟩
theorem wk_aw (B : Nat) : (memNew B 4).tabs.wE 0 291 = ⟨true, true, false, 7⟩ ∧ (memNew B 4).tabs.wX 0 291 = 0 ∧ (memNew B 4).tabs.wN 0 291 = 3 ∧ (memNew B 4).tabs.wX 0 547 = 10 ∧ (memNew B 4).tabs.wN 0 547 = 1 ∧
    (memNew B 4).tabs.zero 3 = true ∧ (memNew B 4).tabs.zero 1 = false := ⟨by kernel_rfl, by kernel_rfl, by kernel_rfl, by kernel_rfl, by kernel_rfl, by kernel_rfl, by kernel_rfl⟩
/-- a memory that the call itself made -/
theorem Upd.fresh {a b c : World} {B : Nat} (h : Upd (fun _ => False) a b) (u : Upd (· = B) b c) (hB : a.heap.size ≤ B) : Upd (fun _ => False) a c :=
  ⟨u.os.trans h.os, u.tape.trans h.tape, u.output.trans h.output, Nat.le_trans h.size u.size, fun k hk hs => (u.block k (Nat.lt_of_lt_of_le hk h.size) (by omega)).trans (h.block k hk hs)⟩
end Go.Proofs.YtpfpcmadhbejiaaDoor

/-
  Rows of the laws' Ops in memory; what a walk's codes say.
-/
namespace Go.Proofs.YtpfpcmadhbejiaaDoor
open Go.ChangeShapes Go.WideShapes Go.ChangeAt Go.RowKit

abbrev opKs : List (Option IntKind) := [some .i64, some .i64, none, none, none, some .i64, none, some .u64]
/-- the cells of an Op in a row of them -/
structure OpIn (w : World) (b o : Nat) (x y : Int) (e : En) (raw : Bool) (u : Int) : Prop where
  c0 : w.cell? ⟨b, o, none⟩ = some (.int .i64 x)
  c1 : w.cell? ⟨b, o + 1, none⟩ = some (.int .i64 y)
  rg : w.rangeAt b (o + 2) [.bool e.v, .bool e.r, .bool e.t, .int .i64 e.f]
  all : w.rangeAt b o [.int .i64 x, .int .i64 y, .bool e.v, .bool e.r, .bool e.t, .int .i64 e.f, .bool raw, .int .u64 u]
  wx : (Lit.int .i64 x).wf = true
  wy : (Lit.int .i64 y).wf = true
  wf : (Lit.int .i64 e.f).wf = true
  wu : (Lit.int .u64 u).wf = true
theorem op8 {w : World} {ao : Option Addr} {n b off : Nat} {E : Nat → Nat → Value} (R : Fr.RowArg w ao n b off opKs E) (i : Nat) (hi : i < n) :
    ∃ (x y : Int) (e : En) (raw : Bool) (u : Int), OpIn w b (off + i * 8) x y e raw u := by
  obtain ⟨x, hx, wx⟩ := R.ok i hi 0 _ rfl
  obtain ⟨y, hy, wy⟩ := R.ok i hi 1 _ rfl
  obtain ⟨v, hv⟩ := R.ok i hi 2 _ rfl
  obtain ⟨r, hr⟩ := R.ok i hi 3 _ rfl
  obtain ⟨t, ht⟩ := R.ok i hi 4 _ rfl
  obtain ⟨f, hf, wf⟩ := R.ok i hi 5 _ rfl
  obtain ⟨raw, hq⟩ := R.ok i hi 6 _ rfl
  obtain ⟨u, hu, wu⟩ := R.ok i hi 7 _ rfl
  have c : ∀ j, j < 8 → w.cell? ⟨b, off + i * 8 + j, none⟩ = some (E i j) := fun j hj => by
    have := R.cell i hi j hj
    rwa [show off + (i * opKs.length + j) = off + i * 8 + j from by show off + (i * 8 + j) = _; omega] at this
  have c0 := c 0 (by omega)
  have c1 := c 1 (by omega)
  have c2 := c 2 (by omega)
  have c3 := c 3 (by omega)
  have c4 := c 4 (by omega)
  have c5 := c 5 (by omega)
  have c6 := c 6 (by omega)
  have c7 := c 7 (by omega)
  rw [hx] at c0
  rw [hy] at c1
  rw [hv] at c2
  rw [hr] at c3
  rw [ht] at c4
  rw [hf] at c5
  rw [hq] at c6
  rw [hu] at c7
  refine ⟨x, y, ⟨v, r, t, f⟩, raw, u, c0, c1, ?_, ?_, wx, wy, wf, wu⟩
  · intro j z hz
    match j, hz with
    | 0, hz => simp at hz; subst hz; exact c2
    | 1, hz => simp at hz; subst hz; exact c3
    | 2, hz => simp at hz; subst hz; exact c4
    | 3, hz => simp at hz; subst hz; exact c5
    | j + 4, hz => simp at hz
  · intro j z hz
    match j, hz with
    | 0, hz => simp at hz; subst hz; exact c0
    | 1, hz => simp at hz; subst hz; exact c1
    | 2, hz => simp at hz; subst hz; exact c2
    | 3, hz => simp at hz; subst hz; exact c3
    | 4, hz => simp at hz; subst hz; exact c4
    | 5, hz => simp at hz; subst hz; exact c5
    | 6, hz => simp at hz; subst hz; exact c6
    | 7, hz => simp at hz; subst hz; exact c7
    | j + 8, hz => simp at hz
theorem OpIn.drew {w : World} {b o : Nat} {x y : Int} {e : En} {raw : Bool} {u : Int} (h : OpIn w b o x y e raw u) : OpIn w.drew b o x y e raw u := ⟨h.c0, h.c1, h.rg, h.all, h.wx, h.wy, h.wf, h.wu⟩
/-- what the laws keep of a memory of four frames -/
structure Four (N : Nat) (M : Mem) : Prop where
  ok : M.ok
  good : M.good
  B : M.B = N
  n : M.n = 4
theorem Four.new (N : Nat) : Four N (memNew N 4).tabs :=
  ⟨Mem.tabs_ok _ (Mem.new_ok _ 4), Mem.tabs_good _ (Mem.new_ok _ 4) (Mem.new_good _ 4), by rw [Mem.tabs_B]; rfl, by rw [Mem.tabs_n]; rfl⟩
theorem Four.put {N : Nat} {M : Mem} (h : Four N M) (f p : Int) (e : En) : Four N (M.put f p e) :=
  ⟨M.put_ok h.ok f p e, M.put_good h.ok h.good f p e, by rw [Mem.put_B]; exact h.B, by rw [Mem.put_n]; exact h.n⟩
theorem Four.wB {N : Nat} {M : Mem} (h : Four N M) (q : Int) : M.wB 0 q = pageB q := by
  unfold Mem.wB Mem.ex
  rw [h.n]
  rfl
theorem codeI_vals (E : En) (X : Int) (k : Nat) : codeI E X k = 0 ∨ codeI E X k = 10 ∨ codeI E X k = 11 := by
  unfold codeI
  split
  · exact .inr (.inr rfl)
  · split
    · exact .inr (.inl rfl)
    · split
      · exact .inr (.inr rfl)
      · exact .inl rfl
theorem codeI_zero {E : En} {X : Int} {k : Nat} (h : codeI E X k = 0) : X = 0 ∧ E.v = true ∧ E.t = decide (k < 2) := by
  unfold codeI at h
  split at h
  · cases h
  · rename_i h1
    split at h
    · cases h
    · rename_i h2
      split at h
      · cases h
      · rename_i h3
        exact ⟨by simpa using h1, by simpa using h2, by simpa using h3⟩
theorem Mem.wC_vals (m : Mem) (root q : Int) (k : Nat) : m.wC root q k = 0 ∨ m.wC root q k = 10 ∨ m.wC root q k = 11 := codeI_vals _ _ _
theorem Mem.wX_arg (m : Mem) (root q : Int) : m.wX root q = 1 ↔ m.wB root q = false := by
  unfold Mem.wX
  cases m.wB root q
  · simp
  · simp only [if_true]
    constructor
    · intro h
      exfalso
      revert h
      rcases m.wC_vals root q 0 with c | c | c <;> rw [c]
      · rcases m.wC_vals root q 1 with d | d | d <;> rw [d]
        · rcases m.wC_vals root q 2 with e | e | e <;> rw [e] <;> simp
        · simp
        · simp
      · simp
      · simp
    · intro h; cases h
theorem Mem.wN_bd (m : Mem) (root q : Int) (h : m.wB root q = true) : 1 ≤ m.wN root q ∧ m.wN root q ≤ 3 := by
  unfold Mem.wN
  rw [if_pos h]
  split
  · omega
  · split <;> omega
theorem Mem.wN_on (m : Mem) (root q : Int) (j : Nat) (h : j + 1 < m.wN root q) : m.wC root q j = 0 := by
  unfold Mem.wN at h
  cases hb : m.wB root q
  · rw [hb] at h; simp at h
  · rw [hb] at h
    simp only [if_true] at h
    split at h
    · omega
    · rename_i h0
      split at h
      · match j, h with
        | 0, _ => simpa using h0
      · rename_i h1
        match j, h with
        | 0, _ => simpa using h0
        | 1, _ => simpa using h1
theorem Mem.wX_ok (m : Mem) (root q : Int) (h : m.wX root q = 0) : m.wN root q = 3 ∧ m.wE root q = m.getE (m.wF root q 2) (idxI q 2) ∧ m.wC root q 2 = 0 := by
  cases hb : m.wB root q
  · rw [(m.walk_no root q hb).2.1] at h; cases h
  · by_cases h0 : m.wC root q 0 = 0
    · by_cases h1 : m.wC root q 1 = 0
      · by_cases h2 : m.wC root q 2 = 0
        · have := m.walk_end root q hb (fun j hj => by match j, hj with | 0, _ => exact h0 | 1, _ => exact h1 | 2, _ => exact h2)
          exact ⟨this.1, this.2.2, h2⟩
        · have := m.walk_stop root q hb 2 (by omega) (fun j hj => by match j, hj with | 0, _ => exact h0 | 1, _ => exact h1) h2
          rw [this.2.1] at h; exact absurd h h2
      · have := m.walk_stop root q hb 1 (by omega) (fun j hj => by match j, hj with | 0, _ => exact h0) h1
        rw [this.2.1] at h; exact absurd h h1
    · have := m.walk_stop root q hb 0 (by omega) (fun j hj => absurd hj (by omega)) h0
      rw [this.2.1] at h; exact absurd h h0
/-- the cells of a walk's steps -/
theorem steps_cells {w : World} {base : Nat} {v : Value} {m : Mem} {root q : Int} {n : Nat} (h : w.ownsRow base 66 2 v n (m.wS root q n)) (hn : 0 < n) : ∃ g cap, v = .slice (some ⟨g, 0, none⟩) n cap ∧ base ≤ g ∧
    ∀ j, j < n → w.cell? ⟨g, j * 2, none⟩ = some (.int .i64 (m.wF root q j)) ∧ w.cell? ⟨g, j * 2 + 1, none⟩ = some (.int .i64 (idxI q j)) := by
  rcases h.2 with ⟨_, rfl⟩ | ⟨g, cap, cur, rfl, hb, _⟩
  · omega
  · refine ⟨g, cap, rfl, hb, fun j hj => ?_⟩
    obtain ⟨a, b⟩ := m.wS_at root q j n hj
    have c0 := h.cells (g := g) rfl (j * 2) _ a
    have c1 := h.cells (g := g) rfl (j * 2 + 1) _ b
    rw [add_mid0, Nat.zero_add] at c0 c1
    exact ⟨c0, c1⟩
/-- a whole row stored, as a step of a region that draws -/
theorem step_store_sz {P : Program} {ops : Array Oper} {o : Oper} {a : Act} {w : World} {K : Act → World → Prop} {Q : Exit → Act → World → Prop} {E : Prop} (hw : Region.wanted o (yielded ops a.tmps) = true) (ty : TypeId) (x y : Operand) (ho : o.op = .store ty x y)
    (b f : Nat) (cells : Array Value) (hx : a.eval x = .pointer (some ⟨b, f, none⟩)) (hy : a.eval y = .agg cells) (k : Nat) (hk : cells.size = k)
    (ht : w.there b f k) (hi : (P.info? ty).map (·.size) = some k) (h1 : cells.all (·.oneCell') = true) (cs : List Value) (hcs : cells.toList = cs)
    (h : K (a.put o.dst undef) (w.setCells b f cs)) : if Region.wanted o (yielded ops a.tmps) = true then Oper.wp P o a w K Q else E := by
  subst hk hcs
  rw [if_pos hw]
  exact wp_store_mid ty x y ho b f cells hx hy ht hi h1 h
/-- a whole row loaded, as a step of a region that draws -/
theorem step_load_sz {P : Program} {ops : Array Oper} {o : Oper} {a : Act} {w : World} {K : Act → World → Prop} {Q : Exit → Act → World → Prop} {E : Prop} (hw : Region.wanted o (yielded ops a.tmps) = true) (ty : TypeId) (x : Operand) (ho : o.op = .load ty x)
    (b f : Nat) (hx : a.eval x = .pointer (some ⟨b, f, none⟩)) (cs : List Value) (d : TypeDesc) (hc : w.rangeAt b f cs)
    (hu : P.underlying ty = some d) (hd : d.isRow = true) (k : Nat) (hk : cs.length = k) (hi : (P.info? ty).map (·.size) = some k)
    (h : K (a.put o.dst (.agg cs.toArray)) w) : if Region.wanted o (yielded ops a.tmps) = true then Oper.wp P o a w K Q else E := by
  subst hk
  rw [if_pos hw]
  exact wp_load_mid ty x ho b f hx cs d hc hu hd hi h
/-- an entry's cells, and that they may be written -/
theorem EntAt.eight {w : World} {b : Nat} {v r t : Bool} {f : Int} (h : EntAt w b v r t f) : w.cell? ⟨b, 0, none⟩ = some (.bool v) ∧ w.cell? ⟨b, 1, none⟩ = some (.bool r) ∧ w.cell? ⟨b, 2, none⟩ = some (.bool t) ∧ w.cell? ⟨b, 3, none⟩ = some (.int .i64 f) ∧
    w.frozen? ⟨b, 0, none⟩ = false ∧ w.frozen? ⟨b, 1, none⟩ = false ∧ w.frozen? ⟨b, 2, none⟩ = false ∧ w.frozen? ⟨b, 3, none⟩ = false :=
  ⟨h.range 0 _ rfl, h.range 1 _ rfl, h.range 2 _ rfl, h.range 3 _ rfl, frozen_block h _, frozen_block h _, frozen_block h _, frozen_block h _⟩
end Go.Proofs.YtpfpcmadhbejiaaDoor

/-
  Package tables: Find and Protect, over the words of the memory.
-/
namespace Go.Proofs.YtpfpcmadhbejiaaDoor
open Go.ChangeShapes Go.WideShapes Go.ChangeAt Go.RowKit Go.Shelf

theorem Mem.wX_three (m : Mem) (root q : Int) (h : m.wX root q = 0) : m.wN root q = 3 := by
  unfold Mem.wX at h
  unfold Mem.wN
  cases hb : m.wB root q
  · rw [hb] at h; simp at h
  · rw [hb] at h
    simp only [if_true] at h ⊢
    split at h
    · rename_i h0; exact absurd h h0
    · rename_i h0
      split at h
      · rename_i h1; exact absurd h h1
      · rename_i h1; rw [if_neg h0, if_neg h1]
theorem row_mono {w : World} {base b' sz k : Nat} {e : TypeId} {v : Value} {xs : List Value} (h : w.ownsRow base e sz v k xs) (hb : b' ≤ base) : w.ownsRow b' e sz v k xs := by
  refine ⟨h.1, ?_⟩
  rcases h.2 with hn | ⟨g, cap, cur, rfl, hbg, rest⟩
  · exact .inl hn
  · exact .inr ⟨g, cap, cur, rfl, Nat.le_trans hb hbg, rest⟩
/-- what a walk hands on, wherever its row of steps lies -/
theorem walk_row {A : Nat} {m : Mem} {root q : Int} {w : World} (N : Nat) (hN : N ≤ w.heap.size) (h : MemAt w A m) (T : Tab w) (hg : m.good) :
    Calls Tryd.prog 13 #[.pointer (some ⟨A, 0, none⟩), .int .i64 root, .int .i64 q] w fun e w' => ∃ o cap, e = .returned (.tuple #[(m.wE root q).val, .slice o (m.wN root q) cap, .int .i64 (m.wX root q)]) ∧
      Hid (w'.ownsRow N 66 2 (.slice o (m.wN root q) cap) (m.wN root q) (m.wS root q (m.wN root q))) ∧ Upd (fun _ => False) w w' := by
  refine (wwalk_any A m root q w h T hg).mono ?_
  rintro e w' ⟨v, rfl, hr, u⟩
  obtain ⟨o, cap, rfl⟩ := wk_slice hr
  exact ⟨o, cap, rfl, Lib.hid (row_mono hr hN), u⟩

set_option maxRecDepth 100000 in
set_option maxHeartbeats 2000000 in
theorem sfind_any (S MA A : Nat) (root : Int) (m : Mem) (q : Int) (w : World) (h : SpAt w S MA A root) (hm : MemAt w MA m) (T : Tab w) (hg : m.good) :
    Calls Tryd.prog 12 #[.pointer (some ⟨S, 0, none⟩), .int .i64 q] w fun e w' => e = .returned (.tuple #[(m.wE root q).val, .int .i64 (m.wX root q)]) ∧ Upd (fun _ => False) w w' := by
  have cW := Lib.hid (fun (W : World) (hW : w.heap.size ≤ W.heap.size) (h : MemAt W MA m) (T : Tab W) => walk_row (root := root) (q := q) w.heap.size hW h T hg)
  clear hg
  generalize m.wN root q = n at cW
  generalize m.wX root q = X at cW ⊢
  generalize m.wE root q = E at cW ⊢
  generalize m.wS root q n = xs at cW
  obtain ⟨ev, er, et, ef⟩ := E
  have k0 : Hid (EntAt (w.alloc (.cells #[.bool false, .bool false, .bool false, .int .i64 0] 37)) w.heap.size false false false 0) := Lib.hid (heap_alloc_last w _)
  have U0 := (Upd.refl (fun _ => False) w).alloc (.cells #[.bool false, .bool false, .bool false, .int .i64 0] 37)
  have h1 := h.kept U0 id
  have M1 := hm.kept U0 id id
  have T1 := T.kept U0
  go_enter Tryd.func12, Tryd.ntmps12
  go_upto_region 1 with fail
  generalize w.alloc (.cells #[.bool false, .bool false, .bool false, .int .i64 0] 37) = wr at k0 U0 h1 M1 T1 ⊢
  have hsz := Lib.hid U0.size
  generalize eN : w.heap.size = N at k0 cW hsz ⊢
  have hR := Lib.hid (Nat.le_of_eq eN)
  clear eN
  have c0 := h1.c0
  have c2 := h1.c2
  have hS := Lib.hid (show ∀ (W' : World), Upd (fun _ => False) wr W' → W'.cell? ⟨S, 0, none⟩ = some (.pointer (some ⟨MA, 0, none⟩)) ∧ W'.cell? ⟨S, 2, none⟩ = some (.int .i64 root) ∧ Upd (fun _ => False) wr W' from fun W' u => ⟨u.cell c0 id, u.cell c2 id, u⟩)
  go_cut [6, 7, 8] (fun s6 s7 s8 wx => ∃ (D : Nat) (o : Option Addr) (cap : Nat), s6 = .pointer (some ⟨D, 0, none⟩) ∧ s7 = .slice o n cap ∧ s8 = .int .i64 X ∧ Hid (EntAt wx D ev er et ef) ∧ Upd (fun _ => False) wr wx)
  case first =>
    go_region_held3 (fun w' => w'.cell? ⟨S, 0, none⟩ = some (.pointer (some ⟨MA, 0, none⟩)) ∧ w'.cell? ⟨S, 2, none⟩ = some (.int .i64 root) ∧ Upd (fun _ => False) wr w')
      (first
        | assumption
        | exact hS.out _ (Upd.refl _ _).drew
        | exact hS.out _ ((Upd.refl _ _).drew.alloc _)
        | exact hS.out _ u7
        | exact hS.out _ (u7.alloc _)
        | exact hS.out _ ((((u7.setCell (.inr (Nat.le_refl _)) _).setCell (.inr (Nat.le_refl _)) _).setCell (.inr (Nat.le_refl _)) _).setCell (.inr (Nat.le_refl _)) _)
        | exact hS.out _ (((((u7.alloc _).setCell (.inr u7.size) _).setCell (.inr u7.size) _).setCell (.inr u7.size) _).setCell (.inr u7.size) _))
      (first
        | (go_at_call 13; go_split_ands; rename_i s1 s2 s3; refine (cW.out (wr.alloc (.cells #[.bool false, .bool false, .bool false, .int .i64 0] 37)).drew (Nat.le_trans hsz.out s3.size) (M1.kept s3 id id) (T1.kept s3)).mono ?_; rintro e w6 ⟨o, cap, rfl, -, u6⟩; have u7 := s3.trans u6; have e7 : Hid (EntAt w6 wr.heap.size false false false 0) := Lib.hid (u6.at (heap_alloc_last wr _) id); obtain ⟨e0, e1, e2, e3, z0, z1, z2, z3⟩ := e7.out.eight)
        | (go_at_call 13; go_split_ands; rename_i s1 s2 s3; refine (cW.out _ (Nat.le_trans hsz.out s3.size) (M1.kept s3 id id) (T1.kept s3)).mono ?_; rintro e w6 ⟨o, cap, rfl, -, u6⟩; have u7 := s3.trans u6))
    all_goals (go_wp2_with fail)
    all_goals go_meet
    all_goals
      first
        | exact ⟨wr.heap.size, o, cap, rfl, rfl, rfl, Lib.hid (e7.out.set ev er et ef), (((u7.setCell (.inr (Nat.le_refl _)) _).setCell (.inr (Nat.le_refl _)) _).setCell (.inr (Nat.le_refl _)) _).setCell (.inr (Nat.le_refl _)) _⟩
        | exact ⟨w6.heap.size, o, cap, rfl, rfl, rfl, Lib.hid (heap_alloc_last w6 _), u7.alloc _⟩
  case rest =>
    obtain ⟨D, o, cap, rfl, rfl, rfl, hD, u8⟩ := hcut
    have k1 := Lib.hid (k0.out.kept u8 id)
    have U := Lib.hid (U0.trans u8)
    clear hS c0 c2 h1 M1 T1 cW k0 u8 U0
    go_wp2_with first
      | (with_reducible refine wpList_load_sz rfl 37 (.tmp 6) rfl D 0 rfl [.bool ev, .bool er, .bool et, .int .i64 ef] _ hD.out.range Tryd.underlying37 rfl 4 (ent_len _ _ _ _) size_ent ?_)
      | (with_reducible refine wpList_store_sz rfl 37 (.tmp 4) (.tmp 23) rfl N 0 #[.bool ev, .bool er, .bool et, .int .i64 ef] rfl rfl 4 (ent_sz _ _ _ _) k1.out.there size_ent (ent_one _ _ _ _) [.bool ev, .bool er, .bool et, .int .i64 ef] (ent_ls _ _ _ _) ?_)
    (try simp only [Exit.inBlock, Exit.then])
    refine bodyPost_ret (ret_ent rfl _ _ N ev er et ef rfl (k1.out.set ev er et ef)) rfl ⟨rfl, ?_⟩
    exact Upd.setCells (.inr hR.out) _ _ U.out

theorem size_step : (Tryd.prog.info? 66).map (·.size) = some 2 := by kernel_rfl
end Go.Proofs.YtpfpcmadhbejiaaDoor

/-
  Package tables: a visit of all valid entries, for whatever function it calls.
-/
namespace Go.Proofs.YtpfpcmadhbejiaaDoor
open Go.ChangeShapes Go.WideShapes Go.ChangeAt Go.RowKit Go.Shelf

/-- what a visit of k levels from the table d of level l on tells -/
def Sp.vis (s : Sp) : Nat → Nat → Nat → List (Nat × En)
  | 0, _, _ => []
  | k + 1, l, d => (List.range 16).flatMap fun p => if (s.E (l + 1) (16 * d + p)).v = true then (16 * d + p, s.E (l + 1) (16 * d + p)) :: s.vis k (l + 1) (16 * d + p) else []
/-- .. of the first places -/
def Sp.visTo (s : Sp) (k l d P : Nat) : List (Nat × En) := (List.range P).flatMap fun p => if (s.E (l + 1) (16 * d + p)).v = true then (16 * d + p, s.E (l + 1) (16 * d + p)) :: s.vis k (l + 1) (16 * d + p) else []
theorem Sp.visTo_all (s : Sp) (k l d : Nat) : s.visTo k l d 16 = s.vis (k + 1) l d := rfl
theorem Sp.visTo_no (s : Sp) (k l d P : Nat) (h : (s.E (l + 1) (16 * d + P)).v = false) : s.visTo k l d (P + 1) = s.visTo k l d P := by
  unfold Sp.visTo
  rw [List.range_succ, List.flatMap_append]
  simp [h]
theorem Sp.visTo_yes (s : Sp) (k l d P : Nat) (h : (s.E (l + 1) (16 * d + P)).v = true) : s.visTo k l d (P + 1) = s.visTo k l d P ++ [(16 * d + P, s.E (l + 1) (16 * d + P))] ++ s.vis k (l + 1) (16 * d + P) := by
  unfold Sp.visTo
  rw [List.range_succ, List.flatMap_append]
  simp [h]

theorem Sp.visTo_mono (s : Sp) (k l d P : Nat) : (s.visTo k l d P).length ≤ (s.visTo k l d (P + 1)).length := by
  cases h : (s.E (l + 1) (16 * d + P)).v
  · rw [s.visTo_no k l d P h]; exact Nat.le_refl _
  · rw [s.visTo_yes k l d P h]; simp
theorem Sp.visTo_le (s : Sp) (k l d : Nat) : ∀ j P, P + j = 16 → (s.visTo k l d P).length ≤ (s.vis (k + 1) l d).length
  | 0, P, h => by rw [show P = 16 from by omega, s.visTo_all]; exact Nat.le_refl _
  | j + 1, P, h => Nat.le_trans (s.visTo_mono k l d P) (s.visTo_le k l d j (P + 1) (by omega))
theorem Sp.visTo_bd (s : Sp) (k l d c : Nat) (hc : ∀ d', (s.vis k (l + 1) d').length ≤ c) : ∀ P, (s.visTo k l d P).length ≤ P * (c + 1)
  | 0 => by simp [Sp.visTo]
  | P + 1 => by
    have ih := s.visTo_bd k l d c hc P
    have h1 := hc (16 * d + P)
    rw [Nat.add_mul]
    cases h : (s.E (l + 1) (16 * d + P)).v
    · rw [s.visTo_no k l d P h]; omega
    · rw [s.visTo_yes k l d P h]; simp; omega
theorem Sp.vis_bd (s : Sp) : (s.vis 3 0 0).length ≤ 4368 := by
  have h1 : ∀ d, (s.vis 1 2 d).length ≤ 16 := fun d => by have := s.visTo_bd 0 2 d 0 (fun _ => by simp [Sp.vis]) 16; rwa [s.visTo_all] at this
  have h2 : ∀ d, (s.vis 2 1 d).length ≤ 272 := fun d => by have := s.visTo_bd 1 1 d 16 h1 16; rwa [s.visTo_all] at this
  have := s.visTo_bd 2 0 0 272 h2 16
  rwa [s.visTo_all] at this

/-- what is asked of the function that is called with each entry -/
structure Sees (g B MA A S : Nat) (root : Int) (m : Mem) (J : List (Nat × En) → World → Prop) : Prop where
  has : ∀ pre W, J pre W → MemAt W MA m ∧ Tab W ∧ SpAt W S MA A root
  keep : ∀ pre W W', J pre W → Upd (fun _ => False) W W' → J pre W'
  see : ∀ pre (x : Nat × En) W, pre.length < 5000 → J pre W → Calls Tryd.prog g #[.int .i64 (x.1 : Nat), x.2.val, .pointer (some ⟨B, 0, none⟩)] W fun e W' => e = .returned (.tuple #[]) ∧ J (pre ++ [x]) W' ∧ ∀ D v r t f, EntAt W D v r t f → EntAt W' D v r t f

set_option maxRecDepth 100000 in
set_option maxHeartbeats 1000000 in
theorem visit_step (g B MA A S : Nat) (root : Int) (m : Mem) (s : Sp) (J : List (Nat × En) → World → Prop) (eg : Enters Tryd.prog g) (hJ : Sees g B MA A S root m J) (hIn : s.In m) (hOk : s.Ok m.n) (hg : m.good) (hn : m.n ≤ 256)
    (l d k : Nat) (hl : l + k = 2) (ho : s.on l d = true)
    (ih : l < 2 → ∀ d', s.on (l + 1) d' = true → ∀ pre w, pre.length + (s.vis k (l + 1) d').length ≤ 5000 → J pre w → Calls Tryd.prog 56 #[.pointer (some ⟨S, 0, none⟩), .int .i64 (s.fr (l + 1) d'), .int .i64 ((l + 1 : Nat) : Int), .int .i64 (d' : Nat), .func (.func g) #[] #[.pointer (some ⟨B, 0, none⟩)]] w fun e W' => e = .returned (.tuple #[]) ∧ J (pre ++ s.vis k (l + 1) d') W')
    (pre : List (Nat × En)) (w : World) (hpre : pre.length + (s.vis (k + 1) l d).length ≤ 5000) (h0 : J pre w) :
    Calls Tryd.prog 56 #[.pointer (some ⟨S, 0, none⟩), .int .i64 (s.fr l d), .int .i64 (l : Nat), .int .i64 (d : Nat), .func (.func g) #[] #[.pointer (some ⟨B, 0, none⟩)]] w fun e W' => e = .returned (.tuple #[]) ∧ J (pre ++ s.vis (k + 1) l d) W' := by
  have eg2 : ∀ args w, Sem.run Tryd.prog (callFunc g args) w = .ok (.enter g args) w := eg
  have hd : d < 256 := by
    have := hOk.ond (by omega) ho
    have h16 : 16 ^ l ≤ 16 ^ 2 := Nat.pow_le_pow_right (by decide) (by omega)
    have : (16 : Nat) ^ 2 = 256 := rfl
    omega
  have hGet := Lib.hid (fun (p : Nat) (hp : p < 16) (W : World) (M : MemAt W MA m) (T : Tab W) => (wget_any MA m (s.fr l d) p W M T hg).mono (fun e w' x => by
    have := hIn.get hOk hn (p := p) (by omega) ho hp
    rw [this.2.1, this.2.2] at x
    exact x))
  have hvv := Lib.hid (fun p (hp : p < 16) (hv : (s.E (l + 1) (16 * d + p)).v = true) => And.intro (show (s.E (l + 1) (16 * d + p)).t = decide (l < 2) from by
    by_cases h2 : l < 2
    · rw [(hOk.tb _ _ hv (by omega)).1]; simp [h2]
    · obtain rfl : l = 2 := by omega
      rw [hOk.pg _ hv]; rfl) (hOk.f _ _ hv))
  have hfr := Lib.hid (show ∀ d', s.fr (l + 1) d' = (s.E (l + 1) d').f from fun d' => s.frS l d')
  have hon := Lib.hid (show ∀ d', s.on (l + 1) d' = (s.E (l + 1) d').v from fun d' => s.onS l d')
  have hno := Lib.hid (fun p => s.visTo_no k l d p)
  have hyes := Lib.hid (fun p => s.visTo_yes k l d p)
  have hall := Lib.hid (s.visTo_all k l d)
  have h00 := Lib.hid (show s.visTo k l d 0 = [] from rfl)
  have IH := Lib.hid ih
  have hlen := Lib.hid (fun (p : Nat) (hp : p < 16) => show pre.length + (s.visTo k l d (p + 1)).length ≤ 5000 from by have := s.visTo_le k l d (15 - p) (p + 1) (by omega); omega)
  clear hIn hOk hg ih hpre
  generalize s.fr l d = fr0 at hGet ⊢
  go_enter Tryd.func56, Tryd.ntmps56
  go_wp2_with fail
  go_loopw [14] (fun t wr => ∃ p : Nat, p ≤ 16 ∧ t = .int .i64 p ∧ J (pre ++ s.visTo k l d p) wr) (fun t _ => 16 - (intOf t).toNat)
  case atStart => exact ⟨0, by omega, rfl, by rw [h00.out, List.append_nil]; exact h0⟩
  case round =>
    obtain ⟨p, hp, rfl, hj⟩ := hrel
    clear h0
    by_cases hlt : p < 16
    · obtain ⟨M, T, hs⟩ := hJ.has _ _ hj
      have c0 := hs.c0
      have hgp := Lib.hid (hGet.out p hlt wr M T)
      have hv1 := Lib.hid (hvv.out p hlt)
      have hf1 := Lib.hid (hfr.out (16 * d + p))
      have ho1 := Lib.hid (hon.out (16 * d + p))
      have hn1 := Lib.hid (hno.out p)
      have hy1 := Lib.hid (hyes.out p)
      have ih1 := Lib.hid (fun hl2 => IH.out hl2 (16 * d + p))
      rw [hf1.out, ho1.out] at ih1
      have hpg : (d : Int) * 16 + p = ((16 * d + p : Nat) : Int) := by omega
      clear hGet hvv hfr hon hno hyes IH hf1 ho1 M T
      generalize s.E (l + 1) (16 * d + p) = E at hgp hv1 hn1 hy1 ih1
      obtain ⟨ev, er, et, ef⟩ := E
      go_wp2_with fail
      refine hgp.out.mono ?_
      rintro e w1 ⟨rfl, u1⟩
      have a1 : Hid (EntAt (w1.alloc (.cells #[.bool ev, .bool er, .bool et, .int .i64 ef] 37)) w1.heap.size ev er et ef) := Lib.hid (heap_alloc_last w1 _)
      have u2 := u1.alloc (.cells #[.bool ev, .bool er, .bool et, .int .i64 ef] 37)
      have j2 := hJ.keep _ _ _ hj u2
      clear u1 u2 hj c0 hs hgp
      cases ev
      · rw [← hn1.out rfl] at j2
        go_wp2_with fail
        exact ⟨⟨p + 1, by omega, by go_num, j2⟩, by simp [intOf]; omega⟩
      · go_upto_region 4 with fail
        generalize w1.alloc (.cells #[.bool true, .bool er, .bool et, .int .i64 ef] 37) = w2 at a1 j2 ⊢
        generalize w1.heap.size = D at a1 ⊢
        obtain ⟨e1, e2⟩ := hv1.out (by trivial)
        (try dsimp only at e1 e2)
        obtain ⟨pg, hpgE⟩ : ∃ pg : Nat, pg = 16 * d + p := ⟨_, rfl⟩
        have hpb := Lib.hid (show pg ≤ 4095 from by omega)
        have hy2 := hy1.out (by trivial)
        have hl2 := hlen.out p hlt
        rw [hy2] at hl2
        simp only [List.length_append, List.length_cons, List.length_nil] at hl2
        have hsee := Lib.hid (hJ.see _ (16 * d + p, ⟨true, er, et, ef⟩) w2 (by rw [List.length_append]; omega) j2)
        have Hl2 := Lib.hid hl2
        clear hl2
        rw [← hpgE] at hsee hpg hy2 ih1 Hl2
        (try dsimp only at hsee)
        have Hy := Lib.hid hy2
        have b0 := a1.out.range 0 _ rfl
        rw [Nat.zero_add] at b0
        have hpgw : IntKind.i64.wrap ((d : Int) * 16 + p) = (pg : Int) := by rw [hpg, IntWalk.i64_in _ (by omega)]
        have hpgw2 : IntKind.i64.wrap ((d : Int) * 16) = (d : Int) * 16 := IntWalk.i64_in _ (by omega)
        clear hpg hpgE hy2 hy1 hn1 hv1 e2
        by_cases h2 : l < 2
        · obtain rfl : et = true := by rw [e1]; simp [h2]
          clear e1
          have ih2 := Lib.hid (fun pre w hh => ih1.out h2 (by trivial) pre w hh)
          (try dsimp only at ih2)
          have h2i : (l : Int) < 2 := by omega
          have hlw : IntKind.i64.wrap ((l : Int) + 1) = ((l + 1 : Nat) : Int) := by rw [IntWalk.i64_in _ (by omega)]; omega
          clear ih1
          go_upto_region 6 with fail
          clear b0 hpgw hpgw2
          go_wp2_with first
            | (with_reducible refine wpList_load_sz rfl 37 (.tmp 11) rfl D 0 rfl [.bool true, .bool er, .bool true, .int .i64 ef] _ a1.out.range Tryd.underlying37 rfl 4 (ent_len _ _ _ _) size_ent ?_)
            | (go_at_fn g; refine hsee.out.mono ?_; rintro e w3 ⟨rfl, j3, hk3⟩; have b2 := (hk3 _ _ _ _ _ a1.out).range 2 _ rfl; have b3 := (hk3 _ _ _ _ _ a1.out).range 3 _ rfl; rw [Nat.zero_add] at b2 b3)
            | (go_at_call 56; refine (ih2.out _ _ (by have := Hl2.out; simp only [List.length_append, List.length_cons, List.length_nil]; omega) j3).mono ?_; rintro e w4 ⟨rfl, j4⟩)
          rw [List.append_assoc, List.append_assoc, ← List.append_assoc (s.visTo k l d p), ← Hy.out] at j4
          exact ⟨⟨p + 1, by omega, by go_num, j4⟩, by simp [intOf]; omega⟩
        · obtain rfl : et = false := by rw [e1]; simp [h2]
          clear e1 ih1
          have h2i : ¬ (l : Int) < 2 := by omega
          go_upto_region 6 with fail
          clear b0 hpgw hpgw2
          go_wp2_with first
            | (with_reducible refine wpList_load_sz rfl 37 (.tmp 11) rfl D 0 rfl [.bool true, .bool er, .bool false, .int .i64 ef] _ a1.out.range Tryd.underlying37 rfl 4 (ent_len _ _ _ _) size_ent ?_)
            | (go_at_fn g; refine hsee.out.mono ?_; rintro e w3 ⟨rfl, j3, hk3⟩; have b2 := (hk3 _ _ _ _ _ a1.out).range 2 _ rfl; have b3 := (hk3 _ _ _ _ _ a1.out).range 3 _ rfl; rw [Nat.zero_add] at b2 b3)
          obtain rfl : k = 0 := by omega
          rw [show s.vis 0 (l + 1) pg = [] from rfl, List.append_nil] at Hy
          rw [List.append_assoc, ← Hy.out] at j3
          exact ⟨⟨p + 1, by omega, by go_num, j3⟩, by simp [intOf]; omega⟩
    · obtain rfl : p = 16 := by omega
      rw [hall.out] at hj
      go_wp2
      go_end0
      exact ⟨rfl, hj⟩

theorem visit_all (g B MA A S : Nat) (root : Int) (m : Mem) (s : Sp) (J : List (Nat × En) → World → Prop) (eg : Enters Tryd.prog g) (hJ : Sees g B MA A S root m J) (hIn : s.In m) (hOk : s.Ok m.n) (hg : m.good) (hn : m.n ≤ 256) :
    ∀ (k l : Nat), l + k = 2 → ∀ d, s.on l d = true → ∀ pre w, pre.length + (s.vis (k + 1) l d).length ≤ 5000 → J pre w → Calls Tryd.prog 56 #[.pointer (some ⟨S, 0, none⟩), .int .i64 (s.fr l d), .int .i64 (l : Nat), .int .i64 (d : Nat), .func (.func g) #[] #[.pointer (some ⟨B, 0, none⟩)]] w fun e W' => e = .returned (.tuple #[]) ∧ J (pre ++ s.vis (k + 1) l d) W' := by
  intro k
  induction k with
  | zero => intro l hl d ho pre w hp h0; exact visit_step g B MA A S root m s J eg hJ hIn hOk hg hn l d 0 hl ho (fun h => by omega) pre w hp h0
  | succ k ih =>
    intro l hl d ho pre w hp h0
    exact visit_step g B MA A S root m s J eg hJ hIn hOk hg hn l d (k + 1) hl ho (fun _ d' ho' pre' w' hp' h' => ih (l + 1) (by omega) d' ho' pre' w' hp' h') pre w hp h0
set_option maxHeartbeats 400000 in
theorem svisit_any (g B MA A S : Nat) (m : Mem) (s : Sp) (J : List (Nat × En) → World → Prop) (eg : Enters Tryd.prog g) (hJ : Sees g B MA A S s.root m J) (hIn : s.In m) (hOk : s.Ok m.n) (hg : m.good) (hn : m.n ≤ 256) (w : World) (h0 : J [] w) :
    Calls Tryd.prog 36 #[.pointer (some ⟨S, 0, none⟩), .func (.func g) #[] #[.pointer (some ⟨B, 0, none⟩)]] w fun e W' => e = .returned (.tuple #[]) ∧ J (s.vis 3 0 0) W' := by
  have hc := (hJ.has _ _ h0).2.2.c2
  have hv := Lib.hid (visit_all g B MA A S s.root m s J eg hJ hIn hOk hg hn 2 0 rfl 0 rfl [] w (by have := s.vis_bd; simp; omega) h0)
  rw [s.fr0] at hv
  clear hJ hIn hOk hg hn
  go_enter Tryd.func36, Tryd.ntmps36
  go_wp2_with (go_at_call 56; refine hv.out.mono ?_; rintro e w' ⟨rfl, j⟩)
  go_end0
  exact ⟨rfl, j⟩
end Go.Proofs.YtpfpcmadhbejiaaDoor
