/-
  Texts that the laws stand on, joined: Cut, TrO, TrP, TrQ, TrR, TrS, TrT, TrU, TrV, TrW.
-/
import Derived.Deep.RegionLaw
import Derived.Test.YtdapmcclplfpfaaGreatDoorPart8

/-
  Rows of structs as lists: their cells, parts of slices of them, appended onto a new slice.
-/
namespace Go.Proofs.YtdapmcclplfpfaaGreatDoor
open Go.RowKit

/-- the cells of a list of structs -/
def listC {α : Type} (c : α → List Value) (l : List α) : List Value := l.flatMap c
section
variable {α : Type} {c : α → List Value} {k : Nat}
theorem listC_nil : listC c [] = [] := rfl
theorem listC_app (l l' : List α) : listC c (l ++ l') = listC c l ++ listC c l' := List.flatMap_append
theorem listC_one (x : α) : listC c [x] = c x := by simp [listC]
theorem listC_len (hk : ∀ a, (c a).length = k) (l : List α) : (listC c l).length = l.length * k := by
  induction l with
  | nil => simp [listC]
  | cons x r ih => rw [show x :: r = [x] ++ r from rfl, listC_app, List.length_append, ih, listC_one, hk, List.length_append, Nat.add_mul]; simp
theorem listC_take (hk : ∀ a, (c a).length = k) (l : List α) (i : Nat) : (listC c l).take (i * k) = listC c (l.take i) := by
  induction l generalizing i with
  | nil => simp [listC]
  | cons x r ih =>
    cases i with
    | zero => simp [listC]
    | succ i =>
      rw [show x :: r = [x] ++ r from rfl, listC_app, listC_one, show (i + 1) * k = k + i * k from by rw [Nat.add_mul]; omega, List.take_append, hk, List.take_of_length_le (by rw [hk]; omega), show k + i * k - k = i * k from by omega, ih]
      show c x ++ listC c (r.take i) = listC c ([x] ++ r.take i)
      rw [listC_app, listC_one]
theorem listC_drop (hk : ∀ a, (c a).length = k) (l : List α) (i : Nat) : (listC c l).drop (i * k) = listC c (l.drop i) := by
  induction l generalizing i with
  | nil => simp [listC]
  | cons x r ih =>
    cases i with
    | zero => simp
    | succ i =>
      rw [show x :: r = [x] ++ r from rfl, listC_app, listC_one, show (i + 1) * k = k + i * k from by rw [Nat.add_mul]; omega, List.drop_append, hk, List.drop_eq_nil_of_le (by rw [hk]; omega), show k + i * k - k = i * k from by omega, ih]
      rfl
theorem listC_get (hk : ∀ a, (c a).length = k) (d : α) (l : List α) (i j : Nat) (hi : i < l.length) (hj : j < k) : (listC c l)[i * k + j]? = (c (l.getD i d))[j]? := by
  have h1 := listC_drop (c := c) hk l i
  have h2 : (listC c l)[i * k + j]? = ((listC c l).drop (i * k))[j]? := by rw [List.getElem?_drop]
  rw [h2, h1, List.drop_eq_getElem_cons hi, show l[i] :: l.drop (i + 1) = [l[i]] ++ l.drop (i + 1) from rfl, listC_app, listC_one, List.getElem?_append_left (by rw [hk]; exact hj)]
  simp [List.getD_eq_getElem?_getD, List.getElem?_eq_getElem hi]
theorem listC_all {p : Value → Prop} (h : ∀ a, ∀ u ∈ c a, p u) (l : List α) : ∀ u ∈ listC c l, p u := by
  intro u hu
  simp only [listC, List.mem_flatMap] at hu
  obtain ⟨a, _, ha⟩ := hu
  exact h a u ha
end
/-- s[:i] -/
theorem cut_to {P : Program} {α : Type} {c : α → List Value} {k : Nat} (hk : ∀ a, (c a).length = k) (T : TypeId) (hu : P.underlying T = some (.slice (P.elem T))) (hz : ∀ w : World, (sizeOf (P.elem T)).run P w = .ok k w) (o : Option Addr) (ln cap i : Nat) (h1 : i ≤ cap) :
    ∃ y, (∀ w : World, (Instr.sliceAt T (.slice o ln cap) none (some (.int .i64 (i : Int))) none).run P w = .ok y w) ∧
    ∀ (w : World) (l : List α), Src w (.slice o ln cap) ln k (listC c l) → i ≤ l.length → l.length = ln → Src w y i k (listC c (l.take i)) := by
  refine ⟨.slice (if cap = 0 then o else o.map (·.add (0 * k))) (i - 0) (cap - 0), fun w => ?_, fun w l hs hi hl => ?_⟩
  · rw [run_sliceAt_slice w _ _ _ _ _ hu, run_slice_h w _ _ _ _ hu _ _ (by omega) (by omega), hz]
    simp [sliced]
  · rcases hs with ⟨h, rfl, h3⟩ | ⟨b, off, q, h, h2, h3⟩
    · simp at h
      obtain ⟨rfl, rfl⟩ := h
      have : i = 0 := by omega
      subst this
      exact .inl ⟨by simp, rfl, by simp [listC]⟩
    · simp at h
      obtain ⟨rfl, rfl⟩ := h
      refine .inr ⟨b, off, cap, by simp [Option.map, add_mid0], by rw [listC_len hk, List.length_take, Nat.min_eq_left hi], fun j u hu => h3 j u ?_⟩
      rw [← listC_take hk, List.getElem?_take] at hu
      split at hu
      · exact hu
      · cases hu
/-- s[i:] -/
theorem cut_from {P : Program} {α : Type} {c : α → List Value} {k : Nat} (hk : ∀ a, (c a).length = k) (T : TypeId) (hu : P.underlying T = some (.slice (P.elem T))) (hz : ∀ w : World, (sizeOf (P.elem T)).run P w = .ok k w) (o : Option Addr) (ln cap i : Nat) (h1 : i ≤ ln) (h2 : ln ≤ cap) :
    ∃ y, (∀ w : World, (Instr.sliceAt T (.slice o ln cap) (some (.int .i64 (i : Int))) none none).run P w = .ok y w) ∧
    ∀ (w : World) (l : List α), Src w (.slice o ln cap) ln k (listC c l) → l.length = ln → Src w y (ln - i) k (listC c (l.drop i)) := by
  refine ⟨.slice (if cap = i then o else o.map (·.add (i * k))) (ln - i) (cap - i), fun w => ?_, fun w l hs hl => ?_⟩
  · rw [run_sliceAt_slice w _ _ _ _ _ hu, run_slice_l w _ _ _ _ hu _ _ (by omega) (by omega), hz]
    simp [sliced]
  · rcases hs with ⟨h, rfl, h3⟩ | ⟨b, off, q, h, h4, h3⟩
    · simp at h
      obtain ⟨rfl, rfl⟩ := h
      have : i = 0 := by omega
      subst this
      exact .inl ⟨by simp, rfl, by simp; exact h3⟩
    · simp at h
      obtain ⟨rfl, rfl⟩ := h
      by_cases hci : cap = i
      · have hz : ln - i = 0 := by omega
        have hd : l.drop i = [] := List.drop_eq_nil_of_le (by omega)
        refine .inr ⟨b, off, cap - i, by simp [hci], by rw [hd, hz]; simp [listC], fun j u hu => ?_⟩
        rw [hd] at hu
        simp [listC] at hu
      · refine .inr ⟨b, off + i * k, cap - i, by simp [hci, add_mid0], by rw [listC_len hk, List.length_drop, hl], fun j u hu => ?_⟩
        rw [Nat.add_assoc]
        refine h3 (i * k + j) u ?_
        rw [← listC_drop hk, List.getElem?_drop] at hu
        exact hu
theorem cut_cap {w : World} {base sz k n cap : Nat} {e : TypeId} {o : Option Addr} {xs : List Value} (h : w.ownsRow base e sz (.slice o n cap) k xs) : k ≤ cap := by
  rcases h.2 with ⟨h1, h2⟩ | ⟨g, cap', cur, h1, _, _, h3, _⟩
  · omega
  · simp at h1; omega
/-- onto a new empty slice: nothing that was there has turned -/
theorem cut_upd {wr w4 : World} {e : TypeId} (g4 : ((wr.alloc (.cells #[] e)).drew).grownBy w4 (Value.slice (some ⟨wr.heap.size, 0, none⟩) 0 0).ownBlock) : Upd (fun _ => False) wr w4 := by
  refine ⟨g4.os, g4.tape, g4.output, by have := g4.size; simp at this; omega, fun k hk _ => ?_⟩
  rw [g4.block k (by simp; omega) (fun e' => by simp [Value.ownBlock] at e'; omega)]
  exact Below.heap_alloc _ _ _ hk
theorem cut_upd2 {wr w4 w5 : World} {v : Value} (u : Upd (fun _ => False) wr w4) (g5 : w4.grownBy w5 v.ownBlock) (h4 : ∀ k, v.ownBlock = some k → wr.heap.size ≤ k) : Upd (fun _ => False) wr w5 :=
  ⟨g5.os.trans u.os, g5.tape.trans u.tape, g5.output.trans u.output, Nat.le_trans u.size g5.size, fun k hk _ => (g5.block k (Nat.lt_of_lt_of_le hk u.size) (fun e' => by have := h4 k e'.symm; omega)).trans (u.block k hk (fun h => h))⟩
/-- 'append([]T{}, ..)': the new empty slice -/
theorem cut_made (w : World) (e : TypeId) (sz : Nat) : (((w.alloc (.cells #[] e)).drew).ownsRow w.heap.size e sz (.slice (some ⟨w.heap.size, 0, none⟩) 0 0) 0 []) :=
  ⟨by simp, .inr ⟨w.heap.size, 0, #[], rfl, Nat.le_refl _, heap_alloc_last w _, Nat.le_refl _, Nat.zero_le _, by simp, by simp⟩⟩
theorem cut_row {w : World} {base sz k : Nat} {e : TypeId} {v : Value} {xs : List Value} (h : w.ownsRow base e sz v k xs) (o : Obj) : ((w.alloc o).drew).ownsRow base e sz v k xs := rows_kept (S := fun _ => False) h ((Upd.refl _ _).alloc _).drew fun _ _ h => h
theorem cut_base {w : World} {b b' sz k : Nat} {e : TypeId} {v : Value} {xs : List Value} (h : w.ownsRow b e sz v k xs) (hb : b' ≤ b) : w.ownsRow b' e sz v k xs := by
  refine ⟨h.1, ?_⟩
  rcases h.2 with hn | ⟨g, cap, cur, h1, h2, rest⟩
  · exact .inl hn
  · exact .inr ⟨g, cap, cur, h1, Nat.le_trans hb h2, rest⟩
end Go.Proofs.YtdapmcclplfpfaaGreatDoor

/-
  The document's own spaces: a space with its memory and its allocator; drop.
-/
namespace Go.Proofs.YtdapmcclplfpfaaGreatDoor
open Go.ChangeShapes Go.WideShapes Go.ChangeAt Go.RowKit Go.Shelf Go.Sort

theorem rows_ty {w : World} {b1 b2 sz1 sz2 k1 k2 : Nat} {e1 e2 : TypeId} {v1 v2 : Value} {xs1 xs2 : List Value} (h1 : w.ownsRow b1 e1 sz1 v1 k1 xs1) (h2 : w.ownsRow b2 e2 sz2 v2 k2 xs2) (he : e1 ≠ e2) : ∀ j, v1.ownBlock = some j → v2.ownBlock ≠ some j := by
  intro j hj hj2
  rcases h1.2 with ⟨rfl, _⟩ | ⟨g, cap, cur, rfl, _, hg, _⟩
  · cases hj
  · rcases h2.2 with ⟨rfl, _⟩ | ⟨g2, cap2, cur2, rfl, _, hg2, _⟩
    · cases hj2
    · simp only [Value.ownBlock, Option.some.injEq] at hj hj2
      subst hj
      subst hj2
      rw [hg] at hg2
      simp at hg2
      exact he hg2.2
/-- the document's space, its memory, its allocator -/
structure DAt (w : World) (C MC BC FB : Nat) (L : List RPg) (T : List RTb) (vL vT g : Value) (m : Mem) (b : Bud) : Prop where
  a : RSpAt w C MC BC 0 L T vL vT
  r : RefAt w MC m
  d : RBud w BC MC FB g b
  n : m.n = b.n
theorem DAt.still {w w' : World} {C MC BC FB : Nat} {L : List RPg} {T : List RTb} {vL vT g : Value} {m : Mem} {b : Bud} (h : DAt w C MC BC FB L T vL vT g m b) (u : Upd (fun _ => False) w w') : DAt w' C MC BC FB L T vL vT g m b :=
  ⟨h.a.kept u id (fun _ _ => id) (fun _ _ => id), h.r.kept u id id, ⟨u.at h.d.head id, u.at h.d.fr id, row_kept h.d.gv u (fun _ _ => id), h.d.ok⟩, h.n⟩
/-- which blocks are which -/
structure DNe (C MC BC FB MB : Nat) (vL vT g : Value) : Prop where
  c : C ≠ MC ∧ C ≠ BC ∧ C ≠ FB ∧ C ≠ MB
  l : ∀ j, vL.ownBlock = some j → j ≠ C ∧ j ≠ MC ∧ j ≠ BC ∧ j ≠ FB ∧ j ≠ MB
  t : ∀ j, vT.ownBlock = some j → j ≠ C ∧ j ≠ MC ∧ j ≠ BC ∧ j ≠ FB ∧ j ≠ MB
  g : ∀ j, g.ownBlock = some j → j ≠ C ∧ j ≠ MC ∧ j ≠ BC ∧ j ≠ FB ∧ j ≠ MB
  m : MC ≠ BC ∧ MC ≠ FB ∧ MB ≠ BC ∧ MB ≠ FB
theorem heap_ne {w : World} {i j : Nat} {c c' : Array Value} {t t' : TypeId} (h : w.heap[i]? = some (.cells c t (0, 0))) (h' : w.heap[j]? = some (.cells c' t' (0, 0))) (hne : t ≠ t') : i ≠ j := by
  rintro rfl
  rw [h] at h'
  simp at h'
  exact hne h'.2
theorem DAt.ne {w : World} {C MC BC FB : Nat} {L : List RPg} {T : List RTb} {vL vT g : Value} {m : Mem} {b : Bud} (h : DAt w C MC BC FB L T vL vT g m b) : DNe C MC BC FB m.B vL vT g := by
  have c := h.a.head
  have r1 := h.r.head
  have r2 := h.r.body
  have d1 := h.d.head
  have d2 := h.d.fr
  refine ⟨⟨heap_ne c r1 (by decide), heap_ne c d1 (by decide), heap_ne c d2 (by decide), heap_ne c r2 (by decide)⟩, fun j hj => ?_, fun j hj => ?_, fun j hj => ?_, ⟨heap_ne r1 d1 (by decide), heap_ne r1 d2 (by decide), heap_ne r2 d1 (by decide), heap_ne r2 d2 (by decide)⟩⟩
  · exact ⟨ty_ne h.a.pages c (by decide) j hj, ty_ne h.a.pages r1 (by decide) j hj, ty_ne h.a.pages d1 (by decide) j hj, ty_ne h.a.pages d2 (by decide) j hj, ty_ne h.a.pages r2 (by decide) j hj⟩
  · exact ⟨ty_ne h.a.tabs c (by decide) j hj, ty_ne h.a.tabs r1 (by decide) j hj, ty_ne h.a.tabs d1 (by decide) j hj, ty_ne h.a.tabs d2 (by decide) j hj, ty_ne h.a.tabs r2 (by decide) j hj⟩
  · exact ⟨ty_ne h.d.gv c (by decide) j hj, ty_ne h.d.gv r1 (by decide) j hj, ty_ne h.d.gv d1 (by decide) j hj, ty_ne h.d.gv d2 (by decide) j hj, ty_ne h.d.gv r2 (by decide) j hj⟩
/-- behind what the allocator and the memory turn -/
theorem DAt.upd {w w' : World} {C MC BC FB : Nat} {L : List RPg} {T : List RTb} {vL vT g g' : Value} {m m' : Mem} {b b' : Bud} (h : DAt w C MC BC FB L T vL vT g m b) (u : Upd (fun k => k = BC ∨ k = FB ∨ k = m.B) w w') (r : RefAt w' MC m') (d : RBud w' BC MC FB g' b') (n : m'.n = b'.n) :
    DAt w' C MC BC FB L T vL vT g' m' b' := by
  obtain ⟨c, l, t, _, _⟩ := h.ne
  exact ⟨h.a.kept u (by omega) (fun j hj => by have := l j hj; omega) (fun j hj => by have := t j hj; omega), r, d, n⟩
/-- the pages laid anew -/
theorem DAt.setL {w w5 : World} {C MC BC FB : Nat} {L L' : List RPg} {T : List RTb} {vL vT g v : Value} {m : Mem} {b : Bud} (h : DAt w C MC BC FB L T vL vT g m b) (U : Upd (fun _ => False) w w5) (own : w5.ownsRow w.heap.size 92 3 v L'.length (pgC L')) :
    DAt (w5.setCell ⟨C, 2, none⟩ v) C MC BC FB L' T v vT g m b ∧ Upd (· = C) w (w5.setCell ⟨C, 2, none⟩ v) := by
  obtain ⟨c, l, t, gg, _⟩ := h.ne
  have u5 : Upd (· = C) w5 (w5.setCell ⟨C, 2, none⟩ v) := (Upd.refl (· = C) w5).setCell (.inl rfl) _
  have u : Upd (· = C) w (w5.setCell ⟨C, 2, none⟩ v) := (U.none' (S := (· = C))).trans u5
  have hCl := lt_of_heap h.a.head
  have hC5 : w5.heap[C]? = some (.cells [.pointer (some ⟨MC, 0, none⟩), .pointer (some ⟨BC, 0, none⟩), vL, vT].toArray 75 (0, 0)) := U.at h.a.head id
  refine ⟨⟨⟨heap_setCell_same hC5 2 v, row_base (row_kept own u5 (fun k hk e => by have := (own.lt k hk).1; omega)) (Nat.zero_le _), row_kept h.a.tabs u (fun j hj e => (t j hj).1 e)⟩, h.r.kept u (fun e => c.1 e.symm) (fun e => c.2.2.2 e.symm), ⟨u.at h.d.head (fun e => c.2.1 e.symm), u.at h.d.fr (fun e => c.2.2.1 e.symm), row_kept h.d.gv u (fun j hj e => (gg j hj).1 e), h.d.ok⟩, h.n⟩, u⟩
/-- the tables laid anew -/
theorem DAt.setT {w w5 : World} {C MC BC FB : Nat} {L : List RPg} {T T' : List RTb} {vL vT g v : Value} {m : Mem} {b : Bud} (h : DAt w C MC BC FB L T vL vT g m b) (U : Upd (fun _ => False) w w5) (own : w5.ownsRow w.heap.size 71 3 v T'.length (tbC T')) :
    DAt (w5.setCell ⟨C, 3, none⟩ v) C MC BC FB L T' vL v g m b ∧ Upd (· = C) w (w5.setCell ⟨C, 3, none⟩ v) := by
  obtain ⟨c, l, t, gg, _⟩ := h.ne
  have u5 : Upd (· = C) w5 (w5.setCell ⟨C, 3, none⟩ v) := (Upd.refl (· = C) w5).setCell (.inl rfl) _
  have u : Upd (· = C) w (w5.setCell ⟨C, 3, none⟩ v) := (U.none' (S := (· = C))).trans u5
  have hCl := lt_of_heap h.a.head
  have hC5 : w5.heap[C]? = some (.cells [.pointer (some ⟨MC, 0, none⟩), .pointer (some ⟨BC, 0, none⟩), vL, vT].toArray 75 (0, 0)) := U.at h.a.head id
  refine ⟨⟨⟨heap_setCell_same hC5 3 v, row_kept h.a.pages u (fun j hj e => (l j hj).1 e), row_base (row_kept own u5 (fun k hk e => by have := (own.lt k hk).1; omega)) (Nat.zero_le _)⟩, h.r.kept u (fun e => c.1 e.symm) (fun e => c.2.2.2 e.symm), ⟨u.at h.d.head (fun e => c.2.1 e.symm), u.at h.d.fr (fun e => c.2.2.1 e.symm), row_kept h.d.gv u (fun j hj e => (gg j hj).1 e), h.d.ok⟩, h.n⟩, u⟩
theorem info_rtab : (Tryz.prog.info? 71).map (fun i => (i.zero, i.size, i.bytes)) = some (some (.agg #[.int .i64 0, .int .i64 0, .int .i64 0]), 3, 24) := by kernel_rfl
theorem run_size_rtabs (w : World) : (sizeOf (Tryz.prog.elem 72)).run Tryz.prog w = .ok 3 w := by kernel_rfl
theorem run_size_rpgs (w : World) : (sizeOf (Tryz.prog.elem 73)).run Tryz.prog w = .ok 3 w := by kernel_rfl
theorem RTb.c_one (x : RTb) : ∀ u ∈ x.c, u.oneCell' = true := by
  intro u hu
  simp only [RTb.c, List.mem_cons, List.not_mem_nil, or_false] at hu
  rcases hu with rfl | rfl | rfl <;> rfl
theorem RPg.c_one (x : RPg) : ∀ u ∈ x.c, u.oneCell' = true := by
  intro u hu
  simp only [RPg.c, List.mem_cons, List.not_mem_nil, or_false] at hu
  rcases hu with rfl | rfl | rfl <;> rfl
end Go.Proofs.YtdapmcclplfpfaaGreatDoor

/-
  The document's own spaces: drop.
-/
namespace Go.Proofs.YtdapmcclplfpfaaGreatDoor
open Go.ChangeShapes Go.WideShapes Go.ChangeAt Go.RowKit Go.Shelf Go.Sort

/-- a page of a table's, somewhere among the pages -/
def Sp.under (s : Sp) (q l : Nat) : Bool := s.pgs.any fun p => decide (fstI p l = fstI q l)
theorem Sp.pgL_at (s : Sp) {i : Nat} (hi : i < s.pgs.length) : ∃ p, s.pgs[i]? = some p ∧ p < 4096 ∧ s.pgL[i]? = some (pgOf s p) := by
  have h : s.pgs[i]? = some s.pgs[i] := List.getElem?_eq_getElem hi
  refine ⟨s.pgs[i], h, (Sp.mem_pgs.1 (List.getElem_mem hi)).1, ?_⟩
  unfold Sp.pgL
  rw [List.getElem?_map, h]; rfl
theorem fst_eq (q l p : Nat) (a b : Nat) (ha : fstI p l = a) (hb : fstI q l = b) : (((a : Nat) : Int) == ((b : Nat) : Int)) = decide (fstI p l = fstI q l) := by
  rw [ha, hb]
  by_cases h : a = b
  · subst h; simp
  · rw [decide_eq_false h]
    exact beq_false_of_ne (by omega)
set_option maxRecDepth 100000 in
set_option maxHeartbeats 4000000 in
theorem rdrop_any (C MC BC FB : Nat) (s : Sp) (T : List RTb) (vL vT g : Value) (m : Mem) (b : Bud) (q l : Nat) (hq : q < 4096) (w : World) (h : DAt w C MC BC FB s.pgL T vL vT g m b) (hT : T.length ≤ 256)
    (i : Nat) (x : RTb) (f : Nat) (hix : tbIx T l (fstI q l : Nat) = i) (hi : T[i]? = some x) (hxf : x.f = (f : Int)) (hg : ((f, 0) : Nat × Nat) ∈ b.gave) :
    Calls Tryz.prog 46 #[.pointer (some ⟨C, 0, none⟩), .int .i64 q, .int .i64 l] w fun e w' => e = .returned (.tuple #[]) ∧
      ((s.under q l = true ∧ w = w') ∨
       (s.under q l = false ∧ ∃ vT' g', DAt w' C MC BC FB s.pgL (T.take i ++ T.drop (i + 1)) vL vT' g' (m.scrub f 1) (b.take (f, 0)) ∧ Upd (fun k => k = C ∨ k = BC ∨ k = FB ∨ k = m.B) w w')) := by
  have hpl := s.pgs_le
  have hPl := s.pgL_len
  obtain ⟨oL, cL, rfl⟩ := rsp_slice h.a.pages
  obtain ⟨oT, caT, rfl⟩ := rsp_slice h.a.tabs
  have cLc := h.a.cL
  have hpages := Lib.hid h.a.pages
  have hat := Lib.hid (fun k (hk : k < s.pgs.length) => s.pgL_at hk)
  have hund := Lib.hid (show ∀ k, k < s.pgs.length → (∀ p, s.pgs[k]? = some p → fstI p l = fstI q l → s.under q l = true) from fun k hk p hp e => by
    unfold Sp.under
    rw [List.any_eq_true]
    exact ⟨p, List.mem_of_getElem? hp, decide_eq_true e⟩)
  have hnot := Lib.hid (show (∀ k, k < s.pgs.length → ∀ p, s.pgs[k]? = some p → fstI p l ≠ fstI q l) → s.under q l = false from fun hh => by
    unfold Sp.under
    rw [List.any_eq_false]
    intro p hp
    obtain ⟨k, hk⟩ := List.getElem?_of_mem hp
    have := hh k (List.getElem?_eq_some_iff.1 hk).1 p hk
    simpa using this)
  have cF := Lib.hid (fun p (hp : p < 4096) W => rfirst_any p l hp W)
  have cQ := Lib.hid (fun W => rfirst_any q l hq W)
  have H := Lib.hid h
  obtain ⟨n, hn⟩ : ∃ n, s.pgL.length = n := ⟨_, rfl⟩
  rw [hn] at cLc hpages H hPl
  obtain ⟨t, ht⟩ : ∃ t, T.length = t := ⟨_, rfl⟩
  rw [ht] at H hT
  have Hn := Lib.hid hn
  have Ht := Lib.hid ht
  have Hix := Lib.hid hix
  have Hi := Lib.hid hi
  have Hxf := Lib.hid hxf
  have Hg := Lib.hid hg
  rw [← hPl] at hat hund hnot hpl
  obtain ⟨b1, hb1⟩ : ∃ b1, fstI q l = b1 := ⟨_, rfl⟩
  rw [hb1] at cQ
  have Hb1 := Lib.hid hb1
  clear h hn ht hix hi hxf hg hPl hb1
  go_enter Tryz.func46, Tryz.ntmps46
  go_wp2_with fail
  go_loopw [6] (fun t wr => ∃ k : Nat, k ≤ n ∧ t = .int .i64 k ∧ wr = w ∧ Hid (∀ k', k' < k → ∀ p, s.pgs[k']? = some p → fstI p l ≠ fstI q l)) (fun t _ => n - (intOf t).toNat)
  case atStart => exact ⟨0, by omega, rfl, rfl, Lib.hid fun k' hk' => by omega⟩
  case round =>
    obtain ⟨k, hk, rfl, rfl, hno⟩ := hrel
    by_cases hlt : k < n
    · obtain ⟨p, hp, hp4, hpL⟩ := hat.out k hlt
      obtain ⟨gp, rfl, d0, -, -⟩ := pg_cells Hn.out hpages.out k _ hpL
      rw [show (pgOf s p).n = ((p : Nat) : Int) from rfl] at d0
      have k0 : (0 : Int) ≤ (k : Int) := by omega
      have k1 : (k : Int) < (n : Int) := by omega
      obtain ⟨a1, ha1⟩ : ∃ a1, fstI p l = a1 := ⟨_, rfl⟩
      have he := fst_eq q l p a1 b1 ha1 Hb1.out
      have cP := Lib.hid (cF.out p hp4)
      rw [ha1] at cP
      have Hp := Lib.hid hp
      clear ha1 hpL hp
      by_cases hab : fstI p l = fstI q l
      · rw [decide_eq_true hab] at he
        have hu := Lib.hid (hund.out k hlt p Hp.out hab)
        clear hab
        go_wp2_with fail
        refine (cP.out _).mono ?_
        rintro e w2 ⟨rfl, rfl⟩
        go_wp2_with fail
        refine (cQ.out _).mono ?_
        rintro e w2 ⟨rfl, rfl⟩
        go_wp2_with fail
        (try simp only [Exit.inBlock, Exit.then])
        refine bodyPost_ret (results_none rfl _ _ _) rfl ?_
        exact ⟨rfl, .inl ⟨hu.out, rfl⟩⟩
      · rw [decide_eq_false hab] at he
        have Hab := Lib.hid hab
        clear hab
        go_wp2_with fail
        refine (cP.out _).mono ?_
        rintro e w2 ⟨rfl, rfl⟩
        go_wp2_with fail
        refine (cQ.out _).mono ?_
        rintro e w2 ⟨rfl, rfl⟩
        go_wp2_with fail
        go_roundw
        case rel => exact ⟨k + 1, by omega, by go_num, by first | rfl | trivial, Lib.hid fun k' hk' p' hp' => by
          rcases Nat.lt_or_ge k' k with h1 | h1
          · exact hno.out k' h1 p' hp'
          · obtain rfl : k' = k := by omega
            rw [Hp.out] at hp'
            injection hp' with hp'
            subst hp'
            exact Hab.out⟩
        case measure => simp [intOf]; omega
    · have hkn : k = n := by omega
      have hu := Lib.hid (hnot.out (fun k' hk' => hno.out k' (by omega)))
      have hkI : ¬ ((k : Int) < (n : Int)) := by omega
      have hit : i < t := by have := (List.getElem?_eq_some_iff.1 Hi.out).1; have := Ht.out; omega
      have hR := Lib.hid (show ixN (tbIx T l (fstI q l : Nat)) T.length = (i : Int) from by rw [Hix.out, Ht.out]; unfold ixN; rw [if_pos hit])
      have cT := Lib.hid (rtable_any C MC BC 0 s.pgL T _ _ q l hq _ H.out.a (by have := Ht.out; omega))
      rw [hR.out] at cT
      clear cF cQ hat hund hnot hno hpages
      go_wp2_with fail
      refine cT.out.mono ?_
      rintro e w3 ⟨rfl, nq, rfl⟩
      have D3 := Lib.hid (H.out.still ((Upd.refl (fun _ => False) wr).drewN nq))
      have U3 := Lib.hid ((Upd.refl (fun _ => False) wr).drewN nq)
      clear cT
      go_upto_region 5 with fail
      generalize wr.drewN nq = w3 at D3 U3 ⊢
      refine wp_region_tail 12 (by kernel_rfl) (by kernel_rfl) ?_
      simp only [List.take_succ_cons, List.take_zero, List.drop_succ_cons, List.drop_zero]
      intro w9 hw9
      have D9 := Lib.hid (show DAt w9 C MC BC FB s.pgL T (.slice oL n cL) (.slice oT t caT) g m b from by rw [hw9]; exact D3.out.still (Upd.refl _ _).drew)
      have U9 := Lib.hid (show Upd (fun _ => False) wr w9 from by rw [hw9]; exact U3.out.drew)
      have d1 : w9.cell? ⟨C, 1, none⟩ = some (.pointer (some ⟨BC, 0, none⟩)) := D9.out.a.cB
      have d2 : w9.cell? ⟨C, 3, none⟩ = some (.slice oT t caT) := D9.out.a.cT
      have hrowT := D9.out.a.tabs
      rw [Ht.out] at hrowT
      obtain ⟨gT, rfl, -, -, d3⟩ := tb_cells Ht.out hrowT i x Hi.out
      rw [Hxf.out] at d3
      have k0 : (0 : Int) ≤ (i : Int) := by omega
      have k1 : (i : Int) < (t : Int) := by omega
      clear hw9 D3 U3 hrowT
      repeat still_step
      refine wpStill_nil ?_
      go_wp2_with fail
      refine (rFree_any BC MC FB g b m (f : Int) 0 w9 D9.out.d D9.out.r D9.out.n).mono ?_
      rintro e w10 (⟨hno2, _⟩ | ⟨y, g', hy, hy1, hy2, rfl, d10, r10, u10, hg'⟩)
      · have := hno2 (f, 0) Hg.out
        simp [isB] at this
      obtain rfl : y = (f, 0) := Prod.ext (by show y.1 = f; omega) (by show y.2 = 0; omega)
      have r10 : RefAt w10 MC (m.scrub f 1) := r10
      have D10 := Lib.hid (D9.out.upd u10 r10 d10 (by rw [Mem.scrub_n]; exact D9.out.n))
      have U10 := Lib.hid ((U9.out.none' (S := fun k => k = BC ∨ k = FB ∨ k = m.B)).trans u10)
      clear hy hy1 hy2 d10 r10 u10 D9 U9 d1 d2 d3 hg'
      have hc2 : w10.cell? ⟨C, 3, none⟩ = some (.slice (some ⟨gT, 0, none⟩) t caT) := D10.out.a.cT
      have hgv := D10.out.a.tabs
      rw [Ht.out] at hgv
      have hcap : t ≤ caT := cut_cap hgv
      have hgv : w10.ownsRow 0 71 3 (.slice (some ⟨gT, 0, none⟩) t caT) t (listC RTb.c T) := hgv
      have hdr : ((w10.alloc (.cells #[] 71)).drew).ownsRow 0 71 3 (.slice (some ⟨gT, 0, none⟩) t caT) t (listC RTb.c T) := cut_row hgv _
      have hmade := cut_made w10 71 3
      have hda : ((w10.alloc (.cells #[] 71)).drew).cell? ⟨C, 3, none⟩ = some (.slice (some ⟨gT, 0, none⟩) t caT) := ((Upd.refl (fun _ => False) w10).alloc (.cells #[] 71)).drew.cell hc2 id
      have hd : w10.drew.cell? ⟨C, 3, none⟩ = some (.slice (some ⟨gT, 0, none⟩) t caT) := by simpa using hc2
      obtain ⟨y1, hy1, hs1⟩ := cut_to RTb.c_len 72 Tryz.underlying72 run_size_rtabs (some ⟨gT, 0, none⟩) t caT i (by omega)
      obtain ⟨y2, hy2, hs2⟩ := cut_from RTb.c_len 72 Tryz.underlying72 run_size_rtabs (some ⟨gT, 0, none⟩) t caT (i + 1) (by omega) hcap
      have Hs1 := Lib.hid hs1
      have Hs2 := Lib.hid hs2
      have hy2' : ∀ w : World, (Instr.sliceAt 72 (.slice (some ⟨gT, 0, none⟩) t caT) (some (.int .i64 ((i : Int) + 1))) none none).run Tryz.prog w = .ok y2 w := hy2
      have hw1 : IntKind.i64.wrap ((i : Int) + 1) = i + 1 := IntWalk.i64_in _ (by omega)
      obtain ⟨i0, hi0, hz0, hz1, hz2⟩ := info_parts info_rtab
      have htl : T.length = t := Ht.out
      clear hs1 hs2 hy2
      go_upto_region 6 with fail
      go_region_law (first
        | (refine step_append_src _ (by rfl) (.tmp 49) (.tmp 55) 72 (by rfl) w10.heap.size 71 i0 (.agg #[.int .i64 0, .int .i64 0, .int .i64 0]) 3 24 Tryz.underlying72 hi0 hz0 hz1 hz2 rfl (by decide) (.slice (some ⟨w10.heap.size, 0, none⟩) 0 0) 0 [] (by rfl) hmade y1 i (listC RTb.c (T.take i)) (by rfl) (Hs1.out _ _ (Src.of_row hdr) (by omega) htl) (listC_all RTb.c_one _) (by simp [maxLen]; omega) (by omega) (by simp) ?_; intro v4 w4 own4 grow4; rw [Nat.zero_add, List.nil_append] at own4; obtain ⟨og4, cap4, rfl⟩ := rows_slice own4; have u4 := cut_upd grow4; have k4 := u4.cell hc2 id)
        | (refine step_append_src _ (by rfl) (.tmp 56) (.tmp 63) 72 (by rfl) w10.heap.size 71 i0 (.agg #[.int .i64 0, .int .i64 0, .int .i64 0]) 3 24 Tryz.underlying72 hi0 hz0 hz1 hz2 rfl (by decide) (.slice og4 i cap4) i (listC RTb.c (T.take i)) (by rfl) own4 y2 (t - (i + 1)) (listC RTb.c (T.drop (i + 1))) (by rfl) (Hs2.out _ _ (Src.of_row (rows_still hgv u4)) htl) (listC_all RTb.c_one _) (by simp [maxLen]; omega) (by omega) (by have := u4.size; omega) ?_; intro v5 w5 own5 grow5; rw [← listC_app] at own5; obtain ⟨og5, cap5, rfl⟩ := rows_slice own5; have u5 := cut_upd2 u4 grow5 (fun k hk => (own4.lt k hk).1); have k5 := u5.cell hc2 id; have hf5 := frozen_block (u5.at D10.out.a.head id) 3))
      all_goals
        have hlen : (T.take i ++ T.drop (i + 1)).length = i + (t - (i + 1)) := by
          rw [List.length_append, List.length_take, List.length_drop, htl]; omega
        obtain ⟨D11, u11⟩ := D10.out.setT u5 (T' := T.take i ++ T.drop (i + 1)) (by rw [hlen]; exact own5)
        have HD := Lib.hid D11
        have HU := Lib.hid (show Upd (fun k => k = C ∨ k = BC ∨ k = FB ∨ k = m.B) wr (w5.setCell ⟨C, 3, none⟩ (.slice og5 (i + (t - (i + 1))) cap5)) from (U10.out.mono fun _ _ e => .inr e).trans (u11.mono fun _ _ e => .inl e))
        clear D11 u11 D10 U10 own5 u5
        go_wp2_with fail
        go_end0
        exact ⟨rfl, .inr ⟨hu.out, .slice og5 (i + (t - (i + 1))) cap5, g', by rw [Hn.out]; exact HD.out, HU.out⟩⟩
end Go.Proofs.YtdapmcclplfpfaaGreatDoor

/-
  The document's own spaces, in plain numbers: what becomes of the nodes when a page goes.
-/
namespace Go.Proofs.YtdapmcclplfpfaaGreatDoor
open Go.ChangeShapes Go.WideShapes Go.ChangeAt Go.RowKit Go.Shelf Go.Sort

theorem erase_ix {α : Type} [BEq α] [LawfulBEq α] : ∀ {l : List α} {i : Nat} {x : α}, l.Nodup → l[i]? = some x → l.take i ++ l.drop (i + 1) = l.erase x
  | [], i, x, _, h => by simp at h
  | y :: l, 0, x, _, h => by
    obtain rfl : y = x := by simpa using h
    simp
  | y :: l, i + 1, x, hn, h => by
    obtain ⟨h1, h2⟩ := List.nodup_cons.1 hn
    have hx : l[i]? = some x := by simpa using h
    have hne : y ≠ x := fun e => h1 (e ▸ List.mem_of_getElem? hx)
    rw [List.erase_cons_tail (by simpa using hne), ← erase_ix h2 hx]
    simp
def dropN (c : Bool) (Nd : List (Nat × Nat)) (x : Nat × Nat) : List (Nat × Nat) := if c = true then Nd else Nd.erase x
theorem dropN_nd {c : Bool} {Nd : List (Nat × Nat)} {x : Nat × Nat} (h : Nd.Nodup) : (dropN c Nd x).Nodup := by
  unfold dropN
  split
  · exact h
  · exact h.erase _
theorem mem_dropN {c : Bool} {Nd : List (Nat × Nat)} {x y : Nat × Nat} (h : Nd.Nodup) : y ∈ dropN c Nd x ↔ y ∈ Nd ∧ (y = x → c = true) := by
  unfold dropN
  split
  · rename_i hc
    exact ⟨fun a => ⟨a, fun _ => hc⟩, fun a => a.1⟩
  · rename_i hc
    rw [h.mem_erase_iff]
    exact ⟨fun a => ⟨a.2, fun e => absurd e a.1⟩, fun a => ⟨fun e => hc (a.2 e), a.1⟩⟩
theorem map_take_drop {α β : Type} (f : α → β) (l : List α) (i : Nat) : (l.map f).take i ++ (l.map f).drop (i + 1) = (l.take i ++ l.drop (i + 1)).map f := by
  rw [List.map_append, List.map_take, List.map_drop]
/-- the document's space stands for a plain one -/
structure DSp (w : World) (C MC BC FB : Nat) (s : Sp) (Nd : List (Nat × Nat)) (vL vT g : Value) (m : Mem) (b : Bud) : Prop where
  D : DAt w C MC BC FB s.pgL (Nd.map (tbOf s)) vL vT g m b
  N : Nodes s Nd
  I : SpInv s m b Yn
  Z : Zs s m
theorem Sp.Ok.page_on {s : Sp} {n q : Nat} (h : s.Ok n) (hv : (s.E 3 q).v = true) : q < 4096 ∧ s.on 2 (nd q 2) = true ∧ s.on 1 (nd q 1) = true := by
  obtain ⟨h1, h2⟩ := Sp.page_dep h hv
  exact ⟨h2, Sp.dep_on h2 2 (by omega), Sp.dep_on h2 1 (by omega)⟩
/-- which tables are there: those that have a page -/
theorem on_page {s : Sp} {n : Nat} (h : s.Ok n) (hn : s.need) {l d : Nat} (h1 : 1 ≤ l) (h2 : l ≤ 2) : s.on l d = true ↔ ∃ p, (s.E 3 p).v = true ∧ nd p l = d := by
  constructor
  · intro ho
    have key : ∀ d, s.on 2 d = true → ∃ p, (s.E 3 p).v = true ∧ nd p 2 = d := fun d ho => by
      obtain ⟨p, hp, hv⟩ := hn 2 d (by omega) (by omega) ho
      exact ⟨16 * d + p, hv, by rw [nd2]; omega⟩
    by_cases e : l = 2
    · subst e; exact key d ho
    · obtain rfl : l = 1 := by omega
      obtain ⟨p, hp, hv⟩ := hn 1 d (by omega) (by omega) ho
      obtain ⟨p2, v2, e2⟩ := key (16 * d + p) (by rw [s.onS]; exact hv)
      refine ⟨p2, v2, ?_⟩
      rw [nd2] at e2
      rw [nd1]
      omega
  · rintro ⟨p, hv, rfl⟩
    obtain ⟨_, a, b⟩ := h.page_on hv
    have : l = 1 ∨ l = 2 := by omega
    rcases this with rfl | rfl
    · exact b
    · exact a
theorem under_iff {s : Sp} {n q l : Nat} (h : s.Ok n) (hq : q < 4096) (h1 : 1 ≤ l) (h2 : l ≤ 2) : s.under q l = true ↔ ∃ p, (s.E 3 p).v = true ∧ nd p l = nd q l := by
  unfold Sp.under
  rw [List.any_eq_true]
  have hp : 0 < 16 ^ (3 - l) := Nat.pow_pos (by decide)
  constructor
  · rintro ⟨p, hp', e⟩
    obtain ⟨a, b⟩ := Sp.mem_pgs.1 hp'
    have e := of_decide_eq_true e
    rw [fstI_nd a h2, fstI_nd hq h2] at e
    exact ⟨p, b, Nat.eq_of_mul_eq_mul_right hp e⟩
  · rintro ⟨p, hv, e⟩
    have hp4 := (h.page_on hv).1
    exact ⟨p, Sp.mem_pgs.2 ⟨hp4, hv⟩, decide_eq_true (by rw [fstI_nd hp4 h2, fstI_nd hq h2, e])⟩
/-- a page goes: what it needs goes with it -/
structure Gone (s s' : Sp) (n qn : Nat) : Prop where
  ok : s.Ok n
  ok' : s'.Ok n
  nee : s.need
  nee' : s'.need
  hv : (s.E 3 qn).v = true
  rt : s'.root = s.root
  e3 : ∀ q', s'.E 3 q' = if q' = qn then En.zero else s.E 3 q'
  e12 : ∀ l d, l ≤ 2 → s'.E l d = s.E l d ∨ s'.E l d = En.zero
theorem Gone.qn {s s' : Sp} {n qn : Nat} (h : Gone s s' n qn) : qn < 4096 := (h.ok.page_on h.hv).1
theorem Gone.page {s s' : Sp} {n qn : Nat} (h : Gone s s' n qn) (p : Nat) : (s'.E 3 p).v = true ↔ p ≠ qn ∧ (s.E 3 p).v = true := by
  rw [h.e3]
  by_cases e : p = qn
  · rw [if_pos e]; exact ⟨fun a => absurd a (by decide), fun a => absurd e a.1⟩
  · rw [if_neg e]; exact ⟨fun a => ⟨e, a⟩, fun a => a.2⟩
theorem Gone.on {s s' : Sp} {n qn : Nat} (h : Gone s s' n qn) {l d : Nat} (hl : l ≤ 2) : s'.on l d = true ↔ s.on l d = true ∧ (1 ≤ l → d = nd qn l → s'.under qn l = true) := by
  by_cases h0 : l = 0
  · subst h0
    show decide (d = 0) = true ↔ decide (d = 0) = true ∧ _
    exact ⟨fun a => ⟨a, fun c => by omega⟩, fun a => a.1⟩
  · have h1 : 1 ≤ l := by omega
    rw [on_page h.ok' h.nee' h1 hl, on_page h.ok h.nee h1 hl]
    constructor
    · rintro ⟨p, hv, rfl⟩
      exact ⟨⟨p, ((h.page p).1 hv).2, rfl⟩, fun _ e => (under_iff h.ok' h.qn h1 hl).2 ⟨p, hv, e⟩⟩
    · rintro ⟨⟨p, hv, rfl⟩, hu⟩
      by_cases e : nd p l = nd qn l
      · obtain ⟨p2, v2, e2⟩ := (under_iff h.ok' h.qn h1 hl).1 (hu h1 e)
        exact ⟨p2, v2, e2.trans e.symm⟩
      · exact ⟨p, (h.page p).2 ⟨fun c => e (by rw [c]), hv⟩, rfl⟩
theorem Gone.fr {s s' : Sp} {n qn : Nat} (h : Gone s s' n qn) {l d : Nat} (hl : l ≤ 2) (ho : s'.on l d = true) : s'.fr l d = s.fr l d := by
  cases l with
  | zero => exact h.rt
  | succ l =>
    rw [s'.frS, s.frS]
    rw [s'.onS] at ho
    rcases h.e12 (l + 1) d hl with e | e
    · rw [e]
    · rw [e] at ho; cases ho
/-- the nodes that are left -/
def goneN (s' : Sp) (qn : Nat) (Nd : List (Nat × Nat)) : List (Nat × Nat) := dropN (s'.under qn 1) (dropN (s'.under qn 2) Nd (2, nd qn 2)) (1, nd qn 1)
theorem Gone.nodes {s s' : Sp} {n qn : Nat} (h : Gone s s' n qn) {Nd : List (Nat × Nat)} (hN : Nodes s Nd) : Nodes s' (goneN s' qn Nd) := by
  refine ⟨dropN_nd (dropN_nd hN.nd), fun x => ?_⟩
  unfold goneN
  rw [mem_dropN (dropN_nd hN.nd), mem_dropN hN.nd, hN.mem]
  obtain ⟨l, d⟩ := x
  constructor
  · rintro ⟨⟨⟨a, b⟩, c⟩, e⟩
    refine ⟨a, (h.on a).2 ⟨b, fun h1 hd => ?_⟩⟩
    have a' : l ≤ 2 := a
    have : l = 1 ∨ l = 2 := by omega
    rcases this with rfl | rfl
    · exact e (by have hd : d = nd qn 1 := hd; rw [hd])
    · exact c (by have hd : d = nd qn 2 := hd; rw [hd])
  · rintro ⟨a, b⟩
    obtain ⟨b1, b2⟩ := (h.on a).1 b
    refine ⟨⟨⟨a, b1⟩, fun e => ?_⟩, fun e => ?_⟩
    · obtain ⟨rfl, rfl⟩ := Prod.mk.inj e
      exact b2 (by show 1 ≤ 2; omega) rfl
    · obtain ⟨rfl, rfl⟩ := Prod.mk.inj e
      exact b2 (by show 1 ≤ 1; omega) rfl
theorem Gone.tb {s s' : Sp} {n qn : Nat} (h : Gone s s' n qn) {Nd : List (Nat × Nat)} (hN : Nodes s Nd) : (goneN s' qn Nd).map (tbOf s) = (goneN s' qn Nd).map (tbOf s') :=
  List.map_congr_left fun x hx => by
    obtain ⟨a, b⟩ := ((h.nodes hN).mem x).1 hx
    unfold tbOf
    rw [h.fr a b]
theorem Gone.pgs {s s' : Sp} {n qn : Nat} (h : Gone s s' n qn) : s'.pgs = s.pgs.filter fun p => decide (p ≠ qn) := by
  unfold Sp.pgs
  rw [List.filter_filter]
  refine List.filter_congr fun p _ => ?_
  rw [Bool.eq_iff_iff, h.page p, Bool.and_eq_true, decide_eq_true_eq]
theorem Gone.pgL {s s' : Sp} {n qn i : Nat} (h : Gone s s' n qn) (hi : s.pgs[i]? = some qn) : s.pgL.take i ++ s.pgL.drop (i + 1) = s'.pgL := by
  unfold Sp.pgL
  have hnd : s.pgs.Nodup := s.pgs_rises.imp fun hab => Nat.ne_of_lt hab
  rw [map_take_drop, erase_ix hnd hi, hnd.erase_eq_filter, h.pgs]
  have e : (s.pgs.filter fun p => p != qn) = s.pgs.filter fun p => decide (p ≠ qn) := List.filter_congr fun p _ => by
    by_cases c : p = qn <;> simp [c]
  rw [e]
  refine List.map_congr_left fun p hp => ?_
  have := of_decide_eq_true (List.mem_filter.1 hp).2
  unfold pgOf
  rw [h.e3, if_neg this]
end Go.Proofs.YtdapmcclplfpfaaGreatDoor

/-
  The document's own spaces: Unmap.
-/
namespace Go.Proofs.YtdapmcclplfpfaaGreatDoor
open Go.ChangeShapes Go.WideShapes Go.ChangeAt Go.RowKit Go.Shelf Go.Sort

/-- a table goes, or stays, among the nodes -/
theorem rdropN (C MC BC FB : Nat) (s0 s : Sp) (Nd : List (Nat × Nat)) (vL vT g : Value) (m : Mem) (b : Bud) (q l : Nat) (hq : q < 4096) (hl : l ≤ 2) (w : World) (h : DAt w C MC BC FB s.pgL (Nd.map (tbOf s0)) vL vT g m b) (hT : Nd.length ≤ 256) (hnd : Nd.Nodup)
    (hm : (l, nd q l) ∈ Nd) (f : Nat) (hf : s0.fr l (nd q l) = (f : Int)) (hg : ((f, 0) : Nat × Nat) ∈ b.gave) :
    Calls Tryz.prog 46 #[.pointer (some ⟨C, 0, none⟩), .int .i64 q, .int .i64 l] w fun e w' => e = .returned (.tuple #[]) ∧
      ∃ vT' g', DAt w' C MC BC FB s.pgL ((dropN (s.under q l) Nd (l, nd q l)).map (tbOf s0)) vL vT' g' (if s.under q l = true then m else m.scrub f 1) (if s.under q l = true then b else b.take (f, 0)) ∧ Upd (fun k => k = C ∨ k = BC ∨ k = FB ∨ k = m.B) w w' := by
  obtain ⟨i, hi⟩ := List.getElem?_of_mem hm
  have hix := tbIx_of (s := s0) hnd hi
  rw [← fstI_nd hq hl] at hix
  refine (rdrop_any C MC BC FB s (Nd.map (tbOf s0)) vL vT g m b q l hq w h (by rw [List.length_map]; exact hT) i (tbOf s0 (l, nd q l)) f hix (by rw [List.getElem?_map, hi]; rfl) hf hg).mono ?_
  rintro e w' ⟨rfl, ⟨hu, rfl⟩ | ⟨hu, vT', g', D, U⟩⟩
  · refine ⟨rfl, vT, g, ?_, Upd.refl _ _⟩
    unfold dropN
    rw [if_pos hu, if_pos hu, if_pos hu]
    exact h
  · refine ⟨rfl, vT', g', ?_, U⟩
    have hf2 : ¬ (s.under q l = true) := by rw [hu]; decide
    unfold dropN
    rw [if_neg hf2, if_neg hf2, if_neg hf2, ← erase_ix hnd hi, ← map_take_drop]
    exact D
/-- the memory and the allocator behind a page's going -/
def goneM (s s' : Sp) (qn : Nat) (m : Mem) : Mem :=
  if s'.under qn 1 = true then (if s'.under qn 2 = true then m else m.scrub (s.fr 2 (nd qn 2)).toNat 1) else (if s'.under qn 2 = true then m else m.scrub (s.fr 2 (nd qn 2)).toNat 1).scrub (s.fr 1 (nd qn 1)).toNat 1
def goneB (s s' : Sp) (qn : Nat) (b : Bud) : Bud :=
  if s'.under qn 1 = true then (if s'.under qn 2 = true then b else b.take ((s.fr 2 (nd qn 2)).toNat, 0)) else (if s'.under qn 2 = true then b else b.take ((s.fr 2 (nd qn 2)).toNat, 0)).take ((s.fr 1 (nd qn 1)).toNat, 0)
/-- the document's space is right behind it -/
theorem Gone.inv {s s' : Sp} {m : Mem} {b : Bud} {qn : Nat} (h : Gone s s' m.n qn) (I : SpInv s m b Yn) (Z : Zs s m) {Nd : List (Nat × Nat)} (hN : Nodes s Nd) :
    SpInv s' (layM s' (goneN s' qn Nd) (goneM s s' qn m)) (goneB s s' qn b) Yn ∧ Zs s' (layM s' (goneN s' qn Nd) (goneM s s' qn m)) ∧ (goneM s s' qn m).n = m.n ∧ (goneM s s' qn m).B = m.B ∧ (goneM s s' qn m).ok ∧ (goneM s s' qn m).good := by
  obtain ⟨p1, p2, p3⟩ := h.ok.page_on h.hv
  have f2 := h.ok.frb p2
  have f1 := h.ok.frb p3
  obtain ⟨F2, hF2⟩ := Int.eq_ofNat_of_zero_le f2.1
  obtain ⟨F1, hF1⟩ := Int.eq_ofNat_of_zero_le f1.1
  have g2 := I.has (by omega) p2
  have g1 := I.has (by omega) p3
  have hne : F1 ≠ F2 := fun e => by
    have := h.ok.inj 1 (nd qn 1) 2 (nd qn 2) (by omega) (by omega) p3 p2 (by rw [hF1, hF2, e])
    omega
  have hm : (goneM s s' qn m).n = m.n ∧ (goneM s s' qn m).B = m.B ∧ (goneM s s' qn m).ok ∧ (goneM s s' qn m).good := by
    unfold goneM
    split <;> split
    · exact ⟨rfl, rfl, I.mo, I.hg⟩
    · exact ⟨Mem.scrub_n _ _ _, Mem.scrub_B _ _ _, Mem.ok_scrub _ I.mo _ _, Mem.scrub_good _ I.mo I.hg _⟩
    · exact ⟨Mem.scrub_n _ _ _, Mem.scrub_B _ _ _, Mem.ok_scrub _ I.mo _ _, Mem.scrub_good _ I.mo I.hg _⟩
    · have a := Mem.ok_scrub m I.mo (s.fr 2 (nd qn 2)).toNat 1
      have c := Mem.scrub_good m I.mo I.hg (s.fr 2 (nd qn 2)).toNat
      exact ⟨by rw [Mem.scrub_n, Mem.scrub_n], by rw [Mem.scrub_B, Mem.scrub_B], Mem.ok_scrub _ a _ _, Mem.scrub_good _ a c _⟩
  have e2 : (s.fr 2 (nd qn 2)).toNat = F2 := by omega
  have e1 : (s.fr 1 (nd qn 1)).toNat = F1 := by omega
  rw [e2] at g2
  rw [e1] at g1
  have hbn := I.bn
  have hw2 : ∀ g p : Nat, g < m.n → p < 16 → (if s'.under qn 2 = true then m else m.scrub F2 1).word (g : Nat) (p : Nat) = if s'.under qn 2 = false ∧ g = F2 then 0 else m.word (g : Nat) (p : Nat) := by
    intro g p hg hp
    cases hu : s'.under qn 2
    · rw [if_neg (by decide), Mem.word_scrub _ I.mo _ _ _ (decide_eq_true (by omega)) (by rw [Mem.slot_iff]; omega)]
      by_cases c : g = F2
      · rw [if_pos (by omega), if_pos ⟨rfl, c⟩]
      · rw [if_neg (by omega), if_neg (fun a => c a.2)]
    · rw [if_pos rfl, if_neg (by simp)]
  have hw : ∀ g p : Nat, g < m.n → p < 16 → (goneM s s' qn m).word (g : Nat) (p : Nat) = if (s'.under qn 2 = false ∧ g = F2) ∨ (s'.under qn 1 = false ∧ g = F1) then 0 else m.word (g : Nat) (p : Nat) := by
    intro g p hg hp
    unfold goneM
    rw [e2, e1]
    cases hu : s'.under qn 1
    · rw [if_neg (by decide), Mem.word_scrub _ (by split; exact I.mo; exact Mem.ok_scrub _ I.mo _ _) _ _ _ (decide_eq_true (by split <;> (try rw [Mem.scrub_n]) <;> omega)) (by rw [Mem.slot_iff]; split <;> (try rw [Mem.scrub_n]) <;> omega), hw2 g p hg hp]
      by_cases c : g = F1
      · rw [if_pos (by omega), if_pos (.inr ⟨rfl, c⟩)]
      · rw [if_neg (by omega)]
        by_cases c2 : s'.under qn 2 = false ∧ g = F2
        · rw [if_pos c2, if_pos (.inl c2)]
        · rw [if_neg c2, if_neg (by rintro (a | a); exact c2 a; exact c a.2)]
    · rw [if_pos rfl, hw2 g p hg hp]
      by_cases c2 : s'.under qn 2 = false ∧ g = F2
      · rw [if_pos c2, if_pos (.inl c2)]
      · rw [if_neg c2, if_neg (by rintro (a | a); exact c2 a; exact absurd a.1 (by simp))]
  -- the allocator
  have B2 : (if s'.under qn 2 = true then b else b.take (F2, 0)).Ok ∧ (∀ x, x ∈ (if s'.under qn 2 = true then b else b.take (F2, 0)).gave ↔ x ∈ b.gave ∧ (x = (F2, 0) → s'.under qn 2 = true)) ∧ (if s'.under qn 2 = true then b else b.take (F2, 0)).n = b.n := by
    cases hu : s'.under qn 2
    · rw [if_neg (by decide)]
      refine ⟨I.bk.take g2, fun x => ?_, rfl⟩
      show x ∈ b.gave.erase _ ↔ _
      rw [I.bk.nodup.mem_erase_iff]
      exact ⟨fun a => ⟨a.2, fun c => absurd c a.1⟩, fun a => ⟨fun c => absurd (a.2 c) (by decide), a.1⟩⟩
    · rw [if_pos rfl]
      exact ⟨I.bk, fun x => ⟨fun a => ⟨a, fun _ => rfl⟩, fun a => a.1⟩, rfl⟩
  have B1 : (goneB s s' qn b).Ok ∧ (∀ x, x ∈ (goneB s s' qn b).gave ↔ x ∈ b.gave ∧ (x = (F2, 0) → s'.under qn 2 = true) ∧ (x = (F1, 0) → s'.under qn 1 = true)) ∧ (goneB s s' qn b).n = b.n := by
    unfold goneB
    rw [e2, e1]
    obtain ⟨c1, c2, c3⟩ := B2
    generalize (if s'.under qn 2 = true then b else b.take (F2, 0)) = X at c1 c2 c3 ⊢
    cases hu : s'.under qn 1
    · rw [if_neg (by decide)]
      have g1' : ((F1, 0) : Nat × Nat) ∈ X.gave := (c2 _).2 ⟨g1, fun e => absurd (Prod.mk.inj e).1 hne⟩
      refine ⟨c1.take g1', fun x => ?_, c3⟩
      show x ∈ X.gave.erase _ ↔ _
      rw [c1.nodup.mem_erase_iff, c2]
      exact ⟨fun a => ⟨a.2.1, a.2.2, fun c => absurd c a.1⟩, fun a => ⟨fun c => absurd (a.2.2 c) (by decide), a.1, a.2.1⟩⟩
    · rw [if_pos rfl]
      exact ⟨c1, fun x => ⟨fun a => ⟨((c2 x).1 a).1, ((c2 x).1 a).2, fun _ => rfl⟩, fun a => (c2 x).2 ⟨a.1, a.2.1⟩⟩, c3⟩
  obtain ⟨b1, b2, b3⟩ := B1
  obtain ⟨m1, m2, m3, m4⟩ := hm
  have hs' : s'.Ok (goneM s s' qn m).n := by rw [m1]; exact h.ok'
  obtain ⟨L1, L2⟩ := lay_words hs' (by rw [m1]; exact I.hn) (h.nodes hN) (fun q => by rw [Sp.mem_pgs]; exact ⟨fun a => a.2, fun a => ⟨(h.ok'.page_on a).1, a⟩⟩) rfl m3 m4
  have K := layM_keep s' (goneN s' qn Nd) m3 m4
  have gone_of : ∀ l d, l ≤ 2 → s.on l d = true → s'.on l d = true ∨ (s.fr l d = (F2 : Int) ∧ s'.under qn 2 = false) ∨ (s.fr l d = (F1 : Int) ∧ s'.under qn 1 = false) := by
    intro l d hl ho
    by_cases c : s'.on l d = true
    · exact .inl c
    · right
      have c := fun a => c ((h.on hl).2 ⟨ho, a⟩)
      have : 1 ≤ l ∧ d = nd qn l ∧ s'.under qn l = false := by
        refine ⟨?_, ?_, ?_⟩
        · refine Decidable.byContradiction fun a => c fun b => absurd b a
        · refine Decidable.byContradiction fun a => c fun _ b => absurd b a
        · cases hu : s'.under qn l
          · rfl
          · exact absurd (fun _ _ => hu) c
      obtain ⟨a1, rfl, a3⟩ := this
      have : l = 1 ∨ l = 2 := by omega
      rcases this with rfl | rfl
      · exact .inr ⟨hF1, a3⟩
      · exact .inl ⟨hF2, a3⟩
  refine ⟨⟨by rw [K.n]; exact hs', L1, h.nee', K.ok, K.good, b1, by rw [K.n, m1, b3, hbn], fun x hx => hx.elim, fun x => ?_, fun _ _ _ _ hy => hy⟩, ?_, m1, m2, m3, m4⟩
  · rw [b2, I.gv]
    constructor
    · rintro ⟨(⟨l, d, hl, ho, rfl⟩ | hy), c2, c1⟩
      · rcases gone_of l d hl ho with c | ⟨c, u⟩ | ⟨c, u⟩
        · exact .inl ⟨l, d, hl, c, by rw [h.fr hl c]⟩
        · have := c2 (by rw [c]; rfl); rw [u] at this; cases this
        · have := c1 (by rw [c]; rfl); rw [u] at this; cases this
      · exact hy.elim
    · rintro (⟨l, d, hl, ho, rfl⟩ | hy)
      · obtain ⟨o1, o2⟩ := (h.on hl).1 ho
        rw [h.fr hl ho]
        have hb := h.ok.frb o1
        refine ⟨.inl ⟨l, d, hl, o1, rfl⟩, fun e => ?_, fun e => ?_⟩
        · have := (Prod.mk.inj e).1
          obtain ⟨rfl, rfl⟩ := h.ok.inj l d 2 (nd qn 2) hl (by omega) o1 p2 (by omega)
          exact o2 (by omega) rfl
        · have := (Prod.mk.inj e).1
          obtain ⟨rfl, rfl⟩ := h.ok.inj l d 1 (nd qn 1) hl (by omega) o1 p3 (by omega)
          exact o2 (by omega) rfl
      · exact hy.elim
  · intro g p hg hp hno
    rw [K.n, m1] at hg
    rw [L2 g p (by rw [m1]; exact hg) hp hno, hw g p hg hp]
    split
    · rfl
    · rename_i hn2
      refine Z g p hg hp fun l d hl ho e => ?_
      rcases gone_of l d hl ho with c | ⟨c, u⟩ | ⟨c, u⟩
      · exact hno l d hl c (by rw [h.fr hl c]; exact e)
      · exact hn2 (.inl ⟨u, by omega⟩)
      · exact hn2 (.inr ⟨u, by omega⟩)
end Go.Proofs.YtdapmcclplfpfaaGreatDoor

/-
  The document's own spaces: Unmap's walk; Protect where it refuses.
-/
namespace Go.Proofs.YtdapmcclplfpfaaGreatDoor
open Go.ChangeShapes Go.WideShapes Go.ChangeAt Go.RowKit Go.Shelf Go.Sort

theorem goneB_res (s s' : Sp) (qn : Nat) (b : Bud) : (goneB s s' qn b).res = b.res := by
  unfold goneB
  split <;> split <;> rfl
theorem DSp.still {w w' : World} {C MC BC FB : Nat} {s : Sp} {Nd : List (Nat × Nat)} {vL vT g : Value} {m : Mem} {b : Bud} (h : DSp w C MC BC FB s Nd vL vT g m b) (u : Upd (fun _ => False) w w') : DSp w' C MC BC FB s Nd vL vT g m b := ⟨h.D.still u, h.N, h.I, h.Z⟩
theorem SpInv.idx {s : Sp} {m : Mem} {b : Bud} {Y : Nat × Nat → Prop} (h : SpInv s m b Y) (q : Int) :
    (0 ≤ q ∧ q ≤ 4095 ∧ (s.E 3 q.toNat).v = false → ixN (pgIx s.pgL q) s.pgL.length = -1) := by
  rintro ⟨h1, h2, h3⟩
  rcases page_at h.ok q with ⟨i, j, hj, _, hv, _⟩ | ⟨h4, _⟩
  · have : q.toNat = j := by omega
    rw [this, hv] at h3
    cases h3
  · exact h4
set_option maxRecDepth 100000 in
set_option maxHeartbeats 2000000 in
theorem runmapS_no (C MC BC FB : Nat) (s : Sp) (Nd : List (Nat × Nat)) (vL vT g : Value) (m : Mem) (b : Bud) (q : Int) (w : World) (h : DSp w C MC BC FB s Nd vL vT g m b) (hq : ¬ (0 ≤ q ∧ q ≤ 4095) ∨ (s.E 3 q.toNat).v = false) :
    Calls Tryz.prog 12 #[.pointer (some ⟨C, 0, none⟩), .int .i64 q] w fun e w' => e = .returned (.tuple #[.int .i64 0, .int .i64 (if 0 ≤ q ∧ q ≤ 4095 then 10 else 1)]) ∧ w = w' := by
  by_cases h0 : q < 0
  · have hv : (if 0 ≤ q ∧ q ≤ 4095 then (10 : Int) else 1) = 1 := if_neg (by omega)
    rw [hv]
    clear hq hv
    go_enter Tryz.func12, Tryz.ntmps12
    go_wp2
    go_ret2
    exact ⟨rfl, rfl⟩
  · by_cases h1 : 4095 < q
    · have hv : (if 0 ≤ q ∧ q ≤ 4095 then (10 : Int) else 1) = 1 := if_neg (by omega)
      rw [hv]
      clear hq hv
      go_enter Tryz.func12, Tryz.ntmps12
      go_wp2
      go_ret2
      exact ⟨rfl, rfl⟩
    · have hr : 0 ≤ q ∧ q ≤ 4095 := by omega
      have hv : (if 0 ≤ q ∧ q ≤ 4095 then (10 : Int) else 1) = 10 := if_pos hr
      have hi := h.I.idx q ⟨hr.1, hr.2, hq.resolve_left (fun a => a hr)⟩
      have cA := Lib.hid (rpat_any C MC BC 0 s.pgL _ vL vT q w h.D.a (by rw [s.pgL_len]; have := s.pgs_le; omega))
      rw [hi] at cA
      rw [hv]
      have g0 : ¬ q < 0 := h0
      have g1 : ¬ 4095 < q := h1
      clear hq hv hi h hr
      go_enter Tryz.func12, Tryz.ntmps12
      go_wp2_with fail
      refine cA.out.mono ?_
      rintro e w1 ⟨rfl, rfl⟩
      go_wp2
      go_ret2
      exact ⟨rfl, rfl⟩
set_option maxRecDepth 100000 in
set_option maxHeartbeats 2000000 in
theorem rprotS_no (C MC BC FB : Nat) (s : Sp) (Nd : List (Nat × Nat)) (vL vT g : Value) (m : Mem) (b : Bud) (q : Int) (wb : Bool) (w : World) (h : DSp w C MC BC FB s Nd vL vT g m b) (hq : ¬ (0 ≤ q ∧ q ≤ 4095) ∨ (s.E 3 q.toNat).v = false) :
    Calls Tryz.prog 14 #[.pointer (some ⟨C, 0, none⟩), .int .i64 q, .bool wb] w fun e w' => e = .returned (.int .i64 (if 0 ≤ q ∧ q ≤ 4095 then 10 else 1)) ∧ w = w' := by
  by_cases h0 : q < 0
  · have hv : (if 0 ≤ q ∧ q ≤ 4095 then (10 : Int) else 1) = 1 := if_neg (by omega)
    rw [hv]
    clear hq hv
    go_enter Tryz.func14, Tryz.ntmps14
    go_wp2
    go_ret
    exact ⟨rfl, rfl⟩
  · by_cases h1 : 4095 < q
    · have hv : (if 0 ≤ q ∧ q ≤ 4095 then (10 : Int) else 1) = 1 := if_neg (by omega)
      rw [hv]
      clear hq hv
      go_enter Tryz.func14, Tryz.ntmps14
      go_wp2
      go_ret
      exact ⟨rfl, rfl⟩
    · have hr : 0 ≤ q ∧ q ≤ 4095 := by omega
      have hv : (if 0 ≤ q ∧ q ≤ 4095 then (10 : Int) else 1) = 10 := if_pos hr
      have hi := h.I.idx q ⟨hr.1, hr.2, hq.resolve_left (fun a => a hr)⟩
      have cA := Lib.hid (rpat_any C MC BC 0 s.pgL _ vL vT q w h.D.a (by rw [s.pgL_len]; have := s.pgs_le; omega))
      rw [hi] at cA
      rw [hv]
      have g0 : ¬ q < 0 := h0
      have g1 : ¬ 4095 < q := h1
      clear hq hv hi h hr
      go_enter Tryz.func14, Tryz.ntmps14
      go_wp2_with fail
      refine cA.out.mono ?_
      rintro e w1 ⟨rfl, rfl⟩
      go_wp2
      go_ret
      exact ⟨rfl, rfl⟩
set_option maxRecDepth 100000 in
set_option maxHeartbeats 4000000 in
theorem runmapS_yes (C MC BC FB : Nat) (s s' : Sp) (Nd : List (Nat × Nat)) (vL vT g : Value) (m : Mem) (b : Bud) (qn : Nat) (w : World) (h : DSp w C MC BC FB s Nd vL vT g m b) (G : Gone s s' m.n qn) :
    Calls Tryz.prog 12 #[.pointer (some ⟨C, 0, none⟩), .int .i64 qn] w fun e w' => e = .returned (.tuple #[.int .i64 (s.E 3 qn).f, .int .i64 0]) ∧
      ∃ vL' vT' g' m' b', DSp w' C MC BC FB s' (goneN s' qn Nd) vL' vT' g' m' b' ∧ m'.n = m.n ∧ m'.B = m.B ∧ b'.res = b.res ∧ Upd (fun k => k = C ∨ k = BC ∨ k = FB ∨ k = m.B) w w' := by
  have hq4 := G.qn
  obtain ⟨p1, p2, p3⟩ := G.ok.page_on G.hv
  obtain ⟨i, hi⟩ := List.getElem?_of_mem (Sp.mem_pgs.2 ⟨p1, G.hv⟩)
  obtain ⟨hix, hil⟩ := pgIx_yes hi
  have hpl := s.pgs_le
  have hPl := s.pgL_len
  have cA := Lib.hid (rpat_any C MC BC 0 s.pgL _ vL vT (qn : Nat) w h.D.a (by omega))
  rw [show ixN (pgIx s.pgL (qn : Nat)) s.pgL.length = (i : Int) from by rw [hix]; unfold ixN; rw [if_pos (by omega)]] at cA
  have hLi : s.pgL[i]? = some (pgOf s qn) := by unfold Sp.pgL; rw [List.getElem?_map, hi]; rfl
  have hL' := Lib.hid (G.pgL hi)
  obtain ⟨inv1, inv2, inv3, inv4, inv5, inv6⟩ := G.inv h.I h.Z h.N
  have HI := Lib.hid (And.intro inv1 inv2)
  have HM := Lib.hid (And.intro inv3 (And.intro inv4 (And.intro inv5 inv6)))
  have HN := Lib.hid (G.nodes h.N)
  have htb := Lib.hid (G.tb h.N)
  obtain ⟨F2, hF2⟩ := Int.eq_ofNat_of_zero_le (G.ok.frb p2).1
  obtain ⟨F1, hF1⟩ := Int.eq_ofNat_of_zero_le (G.ok.frb p3).1
  have g2 := Lib.hid (h.I.has (by omega) p2)
  have g1 := Lib.hid (h.I.has (by omega) p3)
  have hne : F1 ≠ F2 := fun e => by
    have := G.ok.inj 1 (nd qn 1) 2 (nd qn 2) (by omega) (by omega) p3 p2 (by rw [hF1, hF2, e])
    omega
  have hT := h.N.len h.I.ok
  have hn256 := h.I.hn
  obtain ⟨oL, cL, rfl⟩ := rsp_slice h.D.a.pages
  have hc2 := h.D.a.cL
  have hcM := h.D.a.cL
  have hpg := h.D.a.pages
  obtain ⟨gp, rfl, -, e1, -⟩ := pg_cells rfl hpg i _ hLi
  rw [show (pgOf s qn).f = (s.E 3 qn).f from rfl] at e1
  obtain ⟨n, hn⟩ : ∃ n, s.pgL.length = n := ⟨_, rfl⟩
  have H := Lib.hid h.D
  rw [hn] at hc2 hpg H
  have hin : i < n := by omega
  have hn4 : n ≤ 4096 := by omega
  have HG := Lib.hid G
  have HX := Lib.hid h
  have hcap : n ≤ cL := cut_cap hpg
  have hgv : w.ownsRow 0 92 3 (.slice (some ⟨gp, 0, none⟩) n cL) n (listC RPg.c s.pgL) := hpg
  have hdr : ((w.alloc (.cells #[] 92)).drew).ownsRow 0 92 3 (.slice (some ⟨gp, 0, none⟩) n cL) n (listC RPg.c s.pgL) := cut_row hgv _
  have hmade := cut_made w 92 3
  have hda : ((w.alloc (.cells #[] 92)).drew).cell? ⟨C, 2, none⟩ = some (.slice (some ⟨gp, 0, none⟩) n cL) := ((Upd.refl (fun _ => False) w).alloc (.cells #[] 92)).drew.cell hc2 id
  have hd : w.drew.cell? ⟨C, 2, none⟩ = some (.slice (some ⟨gp, 0, none⟩) n cL) := by simpa using hc2
  obtain ⟨y1, hy1, hs1⟩ := cut_to RPg.c_len 73 Tryz.underlying73 run_size_rpgs (some ⟨gp, 0, none⟩) n cL i (by omega)
  obtain ⟨y2, hy2, hs2⟩ := cut_from RPg.c_len 73 Tryz.underlying73 run_size_rpgs (some ⟨gp, 0, none⟩) n cL (i + 1) (by omega) hcap
  have Hs1 := Lib.hid hs1
  have Hs2 := Lib.hid hs2
  have hy2' : ∀ w : World, (Instr.sliceAt 73 (.slice (some ⟨gp, 0, none⟩) n cL) (some (.int .i64 ((i : Int) + 1))) none none).run Tryz.prog w = .ok y2 w := hy2
  have hw1 : IntKind.i64.wrap ((i : Int) + 1) = i + 1 := IntWalk.i64_in _ (by omega)
  obtain ⟨i0, hi0, hz0, hz1, hz2⟩ := info_parts info_rpage
  have q0 : ¬ (qn : Int) < 0 := by omega
  have q1 : ¬ (4095 : Int) < (qn : Int) := by omega
  have k0 : (0 : Int) ≤ (i : Int) := by omega
  have k1 : (i : Int) < (n : Int) := by omega
  generalize hfr : (s.E 3 qn).f = fr at e1 ⊢
  clear hs1 hs2 hy2 hix hi hLi G h hpg hcM hPl hpl hfr
  go_enter Tryz.func12, Tryz.ntmps12
  go_wp2_with fail
  refine cA.out.mono ?_
  rintro e w1 ⟨rfl, rfl⟩
  go_upto_region 7 with fail
  go_cut [43] (fun _ wx => ∃ (og5 : Option Addr) (cap5 : Nat) (w5 : World), Upd (fun _ => False) w w5 ∧ w5.ownsRow w.heap.size 92 3 (.slice og5 (i + (n - (i + 1))) cap5) (i + (n - (i + 1))) (listC RPg.c (s.pgL.take i ++ s.pgL.drop (i + 1))) ∧ wx = w5.setCell ⟨C, 2, none⟩ (.slice og5 (i + (n - (i + 1))) cap5))
  case first =>
    go_region_law (first
      | (refine step_append_src _ (by rfl) (.tmp 28) (.tmp 34) 73 (by rfl) w.heap.size 92 i0 (.agg #[.int .i64 0, .int .i64 0, .bool false]) 3 24 Tryz.underlying73 hi0 hz0 hz1 hz2 rfl (by decide) (.slice (some ⟨w.heap.size, 0, none⟩) 0 0) 0 [] (by rfl) hmade y1 i (listC RPg.c (s.pgL.take i)) (by rfl) (Hs1.out _ _ (Src.of_row hdr) (by omega) hn) (listC_all RPg.c_one _) (by simp [maxLen]; omega) (by omega) (by simp) ?_; intro v4 w4 own4 grow4; rw [Nat.zero_add, List.nil_append] at own4; obtain ⟨og4, cap4, rfl⟩ := rows_slice own4; have u4 := cut_upd grow4; have k4 := u4.cell hc2 id)
      | (refine step_append_src _ (by rfl) (.tmp 35) (.tmp 42) 73 (by rfl) w.heap.size 92 i0 (.agg #[.int .i64 0, .int .i64 0, .bool false]) 3 24 Tryz.underlying73 hi0 hz0 hz1 hz2 rfl (by decide) (.slice og4 i cap4) i (listC RPg.c (s.pgL.take i)) (by rfl) own4 y2 (n - (i + 1)) (listC RPg.c (s.pgL.drop (i + 1))) (by rfl) (Hs2.out _ _ (Src.of_row (rows_still hgv u4)) hn) (listC_all RPg.c_one _) (by simp [maxLen]; omega) (by omega) (by have := u4.size; omega) ?_; intro v5 w5 own5 grow5; rw [← listC_app] at own5; obtain ⟨og5, cap5, rfl⟩ := rows_slice own5; have u5 := cut_upd2 u4 grow5 (fun k hk => (own4.lt k hk).1); have k5 := u5.cell hc2 id; have hf5 := frozen_block (u5.at H.out.a.head id) 2))
    all_goals (go_wp2_with fail)
    all_goals go_meet
    all_goals exact ⟨og5, cap5, w5, u5, own5, rfl⟩
  case rest =>
    obtain ⟨og5, cap5, w5, u5, own5, rfl⟩ := hcut
    have hlen : (s.pgL.take i ++ s.pgL.drop (i + 1)).length = i + (n - (i + 1)) := by
      rw [List.length_append, List.length_take, List.length_drop, hn]; omega
    obtain ⟨D6, u6⟩ := H.out.setL u5 (L' := s.pgL.take i ++ s.pgL.drop (i + 1)) (by rw [hlen]; exact own5)
    rw [hL'.out] at D6
    have HD6 := Lib.hid D6
    have HU6 := Lib.hid u6
    clear D6 u6 own5 u5 hlen hw1 hc2 hda hd hdr hmade hgv H hcap e1
    generalize w5.setCell ⟨C, 2, none⟩ (.slice og5 (i + (n - (i + 1))) cap5) = w6 at HD6 HU6 ⊢
    generalize (Value.slice og5 (i + (n - (i + 1))) cap5) = vL6 at HD6
    have hnd := HX.out.N.nd
    have hm2 : ((2, nd qn 2) : Nat × Nat) ∈ Nd := (HX.out.N.mem _).2 ⟨Nat.le_refl _, p2⟩
    have hm1 : ((1, nd qn 1) : Nat × Nat) ∈ dropN (s'.under qn 2) Nd (2, nd qn 2) := (mem_dropN hnd).2 ⟨(HX.out.N.mem _).2 ⟨by show 1 ≤ 2; omega, p3⟩, fun e => by have := (Prod.mk.inj e).1; omega⟩
    have e2 : (s.fr 2 (nd qn 2)).toNat = F2 := by omega
    have e1 : (s.fr 1 (nd qn 1)).toNat = F1 := by omega
    rw [e2] at g2
    rw [e1] at g1
    have C2 := Lib.hid (rdropN C MC BC FB s s' Nd _ _ _ m b qn 2 hq4 (by omega) w6 HD6.out (by omega) hnd hm2 F2 hF2 g2.out)
    clear hm2
    go_wp2_with fail
    refine C2.out.mono ?_
    rintro e w7 ⟨rfl, vT7, g7, D7, U7⟩
    have hb1 : ((F1, 0) : Nat × Nat) ∈ (if s'.under qn 2 = true then b else b.take (F2, 0)).gave := by
      split
      · exact g1.out
      · exact (HX.out.I.bk.nodup.mem_erase_iff).2 ⟨fun e => absurd (Prod.mk.inj e).1 hne, g1.out⟩
    have hd256 : (dropN (s'.under qn 2) Nd (2, nd qn 2)).length ≤ 256 := by
      unfold dropN
      split
      · omega
      · have := List.length_erase_le (a := ((2, nd qn 2) : Nat × Nat)) (l := Nd); omega
    have hmB : (if s'.under qn 2 = true then m else m.scrub F2 1).B = m.B := by split; rfl; exact Mem.scrub_B _ _ _
    have C1 := Lib.hid (rdropN C MC BC FB s s' _ _ _ _ _ _ qn 1 hq4 (by omega) w7 D7 hd256 (dropN_nd hnd) hm1 F1 hF1 hb1)
    rw [hmB] at C1
    have HU7 := Lib.hid ((HU6.out.mono (T := fun k => k = C ∨ k = BC ∨ k = FB ∨ k = m.B) fun _ _ e => .inl e).trans U7)
    clear D7 U7 HD6 HU6 C2 hb1 hd256 hm1 hmB
    go_wp2_with fail
    refine C1.out.mono ?_
    rintro e w8 ⟨rfl, vT8, g8, D8, U8⟩
    have eM : (if s'.under qn 1 = true then (if s'.under qn 2 = true then m else m.scrub F2 1) else (if s'.under qn 2 = true then m else m.scrub F2 1).scrub F1 1) = goneM s s' qn m := by unfold goneM; rw [e2, e1]
    have eB : (if s'.under qn 1 = true then (if s'.under qn 2 = true then b else b.take (F2, 0)) else (if s'.under qn 2 = true then b else b.take (F2, 0)).take (F1, 0)) = goneB s s' qn b := by unfold goneB; rw [e2, e1]
    rw [eM, eB] at D8
    have D8 : DAt w8 C MC BC FB s'.pgL ((goneN s' qn Nd).map (tbOf s')) vL6 vT8 g8 (goneM s s' qn m) (goneB s s' qn b) := by rw [← htb.out]; exact D8
    obtain ⟨n1, n2, n3, n4⟩ := HM.out
    have HD8 := Lib.hid D8
    have HU8 := Lib.hid (HU7.out.trans U8)
    have C9 := Lib.hid (rlay_any C MC BC 0 s' (goneN s' qn Nd) vL6 vT8 (goneM s s' qn m) (by rw [n1]; exact HG.out.ok') HN.out n3 n4 w8 ⟨D8.a, D8.r⟩)
    clear D8 U8 HU7 C1 eM eB
    go_wp2_with fail
    refine C9.out.mono ?_
    rintro e w9 ⟨rfl, L9, U9⟩
    have K := layM_keep s' (goneN s' qn Nd) n3 n4
    obtain ⟨c, l, t, gg, mm⟩ := HD8.out.ne
    have D9 : DAt w9 C MC BC FB s'.pgL ((goneN s' qn Nd).map (tbOf s')) vL6 vT8 g8 (layM s' (goneN s' qn Nd) (goneM s s' qn m)) (goneB s s' qn b) :=
      ⟨L9.a, L9.r, ⟨U9.at HD8.out.d.head (fun e => mm.2.2.1 e.symm), U9.at HD8.out.d.fr (fun e => mm.2.2.2 e.symm), row_kept HD8.out.d.gv U9 (fun j hj e => (gg j hj).2.2.2.2 e), HD8.out.d.ok⟩, by rw [K.n]; exact HD8.out.n⟩
    have X9 := Lib.hid (show DSp w9 C MC BC FB s' (goneN s' qn Nd) vL6 vT8 g8 (layM s' (goneN s' qn Nd) (goneM s s' qn m)) (goneB s s' qn b) from ⟨D9, HN.out, HI.out.1, HI.out.2⟩)
    have HU9 := Lib.hid (HU8.out.trans (U9.mono (T := fun k => k = C ∨ k = BC ∨ k = FB ∨ k = m.B) fun _ _ e => .inr (.inr (.inr (e.trans n2)))))
    have HK := Lib.hid (And.intro (K.n.trans n1) (K.B.trans n2))
    clear D9 L9 U9 K c l t gg mm n1 n2 n3 n4 HD8 HU8 C9
    go_wp2_with fail
    go_ret2
    exact ⟨rfl, _, _, _, _, _, X9.out, HK.out.1, HK.out.2, goneB_res s s' qn b, HU9.out⟩
end Go.Proofs.YtdapmcclplfpfaaGreatDoor

/-
  The document's own spaces: Close.
-/
namespace Go.Proofs.YtdapmcclplfpfaaGreatDoor
open Go.ChangeShapes Go.WideShapes Go.ChangeAt Go.RowKit Go.Shelf Go.Sort

def Sp.frs (s : Sp) : List Int := s.pgs.map fun q => (s.E 3 q).f
theorem Sp.frs_len (s : Sp) : s.frs.length = s.pgs.length := by simp [Sp.frs]
/-- a node's frame as a block -/
def blkOf (s : Sp) (x : Nat × Nat) : Nat × Nat := ((s.fr x.1 x.2).toNat, 0)
/-- the first k of the tables are given back -/
structure Shut (w wr : World) (C MC BC FB MB NB : Nat) (s : Sp) (Nd : List (Nat × Nat)) (vL vT : Value) (b : Bud) (k : Nat) (n : Nat) (u : Value) : Prop where
  D : ∃ g' m' b', DAt wr C MC BC FB s.pgL (Nd.map (tbOf s)) vL vT g' m' b' ∧ m'.B = MB ∧ b'.n = b.n ∧ b'.res = b.res ∧ ∀ y, y ∈ b'.gave ↔ y ∈ b.gave ∧ ∀ j, j < k → ∀ z, Nd[j]? = some z → y ≠ blkOf s z
  U : Upd (fun k => k = BC ∨ k = FB ∨ k = MB) w wr
  R : wr.ownsRow NB 3 1 u n (i64s s.frs)
set_option maxRecDepth 100000 in
set_option maxHeartbeats 4000000 in
theorem rcloseS_any (C MC BC FB : Nat) (s : Sp) (Nd : List (Nat × Nat)) (vL vT g : Value) (m : Mem) (b : Bud) (w : World) (h : DSp w C MC BC FB s Nd vL vT g m b) :
    Calls Tryz.prog 26 #[.pointer (some ⟨C, 0, none⟩)] w fun e w' => ∃ v, e = .returned v ∧ w'.ownsRow w.heap.size 3 1 v s.frs.length (i64s s.frs) ∧
      (∃ g' b', RBud w' BC MC FB g' b' ∧ b'.n = b.n ∧ b'.res = b.res ∧ ∀ y, y ∉ b'.gave) ∧ Upd (fun k => k = BC ∨ k = FB ∨ k = m.B) w w' := by
  obtain ⟨i0, hi, hz0, hz1, hz2⟩ := info_parts info_rint
  have hpl := s.pgs_le
  have hT := h.N.len h.I.ok
  have hn256 := h.I.hn
  obtain ⟨oL, cL, rfl⟩ := rsp_slice h.D.a.pages
  obtain ⟨oT, caT, rfl⟩ := rsp_slice h.D.a.tabs
  rw [List.length_map] at h
  have h0 : w.ownsRow w.heap.size 3 1 (.slice none 0 0) 0 (i64s (s.frs.take 0)) := rows_new w _ _ _
  have hpi : s.frs.length = s.pgs.length := s.frs_len
  have hPl := s.pgL_len
  generalize hn : s.pgL.length = n at h hPl
  generalize ht : Nd.length = t at h hT
  have HN := Lib.hid hn
  have HTt := Lib.hid ht
  have hn4 : n ≤ 4096 := by omega
  have HP : Hid (s.frs.length = n) := Lib.hid (by omega)
  have hlt0 := h.D.d
  have hMB0 := lt_of_heap h.D.r.body
  have hBC0 := lt_of_heap h.D.d.head
  have hFB0 := lt_of_heap h.D.d.fr
  have H := Lib.hid h
  clear hn ht hpl hpi hPl h hlt0
  rw [HP.out]
  go_enter Tryz.func26, Tryz.ntmps26
  have cL0 := H.out.D.a.cL
  go_wp2_with fail
  go_loopw [4, 3] (fun t u wr => ∃ k : Nat, k ≤ n ∧ t = .int .i64 k ∧ Hid (wr.ownsRow w.heap.size 3 1 u k (i64s (s.frs.take k))) ∧ Upd (fun _ => False) w wr) (fun t _ _ => n - (intOf t).toNat)
  case atStart => exact ⟨0, by omega, rfl, Lib.hid h0, Upd.refl _ _⟩
  case round =>
    obtain ⟨k, hk, rfl, hrow, hU⟩ := hrel
    clear h0 cL0
    have hA := Lib.hid (H.out.still hU)
    have cL1 := hA.out.D.a.cL
    by_cases hlt : k < n
    · obtain ⟨q, hx⟩ : ∃ q, s.pgs[k]? = some q := ⟨_, List.getElem?_eq_getElem (by have := HN.out; rw [s.pgL_len] at this; omega)⟩
      obtain ⟨g, rfl, -, c0, -⟩ := pg_cells2 HN.out hA.out.D.a.pages k (pgOf s q) (by unfold Sp.pgL; rw [List.getElem?_map, hx]; rfl)
      rw [show (pgOf s q).f = (s.E 3 q).f from rfl] at c0
      have hs := Lib.hid (show s.frs.take (k + 1) = s.frs.take k ++ [(s.E 3 q).f] from take_next (by unfold Sp.frs; rw [List.getElem?_map, hx]; rfl))
      clear hx
      generalize (s.E 3 q).f = Q at c0 hs
      have hsz := hU.size
      obtain ⟨o, cap, rfl⟩ := rsp_slice hrow.out
      generalize hN : w.heap.size = NB at hrow hsz hMB0 hBC0 hFB0
      have HNB := Lib.hid hN
      generalize hLc : i64s (s.frs.take k) = xs at hrow
      have HU := Lib.hid hU
      have k0 : (0 : Int) ≤ (k : Int) := by omega
      have k1 : (k : Int) < (n : Int) := by omega
      have HLc := Lib.hid hLc
      clear hU hN hLc
      go_wp2_with (at_builtin; refine wpList_append_own _ rfl _ _ 50 rfl NB 3 i0 (.int .i64 0) 1 8 Tryz.underlying50 hi hz0 hz1 hz2 rfl (by decide) _ _ _ rfl (rows_still hrow.out ((Upd.refl _ _).alloc _)) ⟨wr.heap.size, 0, none⟩ 1 1 [.int .i64 Q] rfl rfl (rows_src _ _ _) (by simp [Value.oneCell']) (by simp [maxLen]; omega) (by omega) (by simp; omega) ?_; intro v' w4 hown' hgrow _)
      have U4 := rows_grown hrow.out hgrow HU.out (Nat.le_of_eq HNB.out)
      refine ⟨⟨k + 1, by omega, by go_num, Lib.hid ?_, U4⟩, by simp [intOf]; omega⟩
      rw [hs.out, show i64s (s.frs.take k ++ [Q]) = i64s (s.frs.take k) ++ [.int .i64 Q] from by unfold i64s; rw [List.map_append]; rfl, HLc.out]
      exact hown'
    · obtain rfl : k = n := by omega
      have hrow' : wr.ownsRow w.heap.size 3 1 u3 k (i64s s.frs) := by
        have := hrow.out
        rwa [List.take_of_length_le (by rw [HP.out]; omega)] at this
      have S0 : Shut w wr C MC BC FB m.B w.heap.size s Nd (.slice oL k cL) (.slice oT t caT) b 0 k u3 :=
        ⟨⟨g, m, b, hA.out.D, rfl, rfl, rfl, fun y => ⟨fun a => ⟨a, fun j hj => by omega⟩, fun a => a.1⟩⟩, hU.none', hrow'⟩
      have HS0 := Lib.hid S0
      clear hrow hrow' S0 hU
      go_wp2_with fail
      go_loopw [5] (fun x wr => ∃ j : Nat, j ≤ t ∧ x = .int .i64 j ∧ Hid (Shut w wr C MC BC FB m.B w.heap.size s Nd (.slice oL k cL) (.slice oT t caT) b j k u3)) (fun x _ => t - (intOf x).toNat)
      case atStart => exact ⟨0, by omega, rfl, HS0⟩
      case round =>
        clear hA cL1 HS0
        obtain ⟨j, hj, rfl, S⟩ := hrel
        obtain ⟨g', m', b', D, hB, hbn, hbr, hgv⟩ := S.out.D
        have HD := Lib.hid D
        have cT1 := D.a.cT
        by_cases hlt2 : j < t
        · obtain ⟨z, hz⟩ : ∃ z, Nd[j]? = some z := ⟨_, List.getElem?_eq_getElem (by have := HTt.out; omega)⟩
          have htab := D.a.tabs
          rw [List.length_map, HTt.out] at htab
          obtain ⟨z1, z2⟩ := (H.out.N.mem z).1 (List.mem_of_getElem? hz)
          obtain ⟨F, hF⟩ := Int.eq_ofNat_of_zero_le (H.out.I.ok.frb z2).1
          have hbz : blkOf s z = (F, 0) := by unfold blkOf; rw [hF]; rfl
          have hin : ((F, 0) : Nat × Nat) ∈ b'.gave := (hgv _).2 ⟨by rw [← hbz]; exact H.out.I.has z1 z2, fun j' hj' z' hz' e => by
            obtain ⟨y1, y2⟩ := (H.out.N.mem z').1 (List.mem_of_getElem? hz')
            have hb' := H.out.I.ok.frb y2
            have e2 := (Prod.mk.inj e).1
            obtain ⟨a1, a2⟩ := H.out.I.ok.inj _ _ _ _ y1 z1 y2 z2 (by omega)
            have hzz : z' = z := Prod.ext a1 a2
            subst hzz
            obtain ⟨l1, l2⟩ := List.getElem?_eq_some_iff.1 hz
            obtain ⟨l3, l4⟩ := List.getElem?_eq_some_iff.1 hz'
            exact List.pairwise_iff_getElem.1 H.out.N.nd j' j l3 l1 hj' (l4.trans l2.symm)⟩
          obtain ⟨gT, rfl, -, -, d3⟩ := tb_cells (by rw [List.length_map]; exact HTt.out) htab j (tbOf s z) (by rw [List.getElem?_map, hz]; rfl)
          rw [show (tbOf s z).f = (F : Int) from hF] at d3
          have Hin := Lib.hid hin
          have Hgv := Lib.hid hgv
          have Hz := Lib.hid hz
          have Hbz := Lib.hid hbz
          have k0 : (0 : Int) ≤ (j : Int) := by omega
          have k1 : (j : Int) < (t : Int) := by omega
          have dB := D.a.cB
          clear hgv hin htab z1 z2 hz hbz hF
          go_upto_region 9 with fail
          refine wp_region_tail 12 (by kernel_rfl) (by kernel_rfl) ?_
          simp only [List.take_succ_cons, List.take_zero, List.drop_succ_cons, List.drop_zero]
          intro w9 hw9
          have D9 := Lib.hid (show DAt w9 C MC BC FB s.pgL (Nd.map (tbOf s)) (.slice oL k cL) (.slice (some ⟨gT, 0, none⟩) t caT) g' m' b' from by rw [hw9]; exact D.still (Upd.refl _ _).drew)
          have U9 := Lib.hid (show Upd (fun k => k = BC ∨ k = FB ∨ k = m.B) w w9 from by rw [hw9]; exact S.out.U.drew)
          have R9 := Lib.hid (show w9.ownsRow w.heap.size 3 1 u3 k (i64s s.frs) from by rw [hw9]; exact rows_still S.out.R (Upd.refl _ _).drew)
          have e1 : w9.cell? ⟨C, 1, none⟩ = some (.pointer (some ⟨BC, 0, none⟩)) := D9.out.a.cB
          have e2 : w9.cell? ⟨C, 3, none⟩ = some (.slice (some ⟨gT, 0, none⟩) t caT) := D9.out.a.cT
          have e3 : w9.cell? ⟨gT, j * 3 + 2, none⟩ = some (.int .i64 F) := by rw [hw9]; exact d3
          clear hw9 S D HD cT1 d3 dB
          repeat still_step
          refine wpStill_nil ?_
          go_wp2_with fail
          refine (rFree_any BC MC FB g' b' m' (F : Int) 0 w9 D9.out.d D9.out.r D9.out.n).mono ?_
          rintro e w10 (⟨hno2, _⟩ | ⟨y, g2, hy, hy1, hy2, rfl, d10, r10, u10, hg'⟩)
          · have := hno2 (F, 0) Hin.out
            simp [isB] at this
          obtain rfl : y = (F, 0) := Prod.ext (by show y.1 = F; omega) (by show y.2 = 0; omega)
          have r10 : RefAt w10 MC (m'.scrub F 1) := r10
          have D10 := D9.out.upd u10 r10 d10 (by rw [Mem.scrub_n]; exact D9.out.n)
          rw [hB] at u10
          have S10 := Lib.hid (show Shut w w10 C MC BC FB m.B w.heap.size s Nd (.slice oL k cL) (.slice (some ⟨gT, 0, none⟩) t caT) b (j + 1) k u3 from
            ⟨⟨g2, _, _, D10, by rw [Mem.scrub_B]; exact hB, hbn, hbr, fun y => by
              show y ∈ b'.gave.erase _ ↔ _
              rw [D9.out.d.ok.nodup.mem_erase_iff, Hgv.out]
              constructor
              · rintro ⟨a1, a2, a3⟩
                refine ⟨a2, fun j' hj' z' hz' => ?_⟩
                rcases Nat.lt_or_ge j' j with c | c
                · exact a3 j' c z' hz'
                · obtain rfl : j' = j := by omega
                  rw [Hz.out] at hz'
                  injection hz' with hz'
                  subst hz'
                  rw [Hbz.out]
                  exact a1
              · rintro ⟨a2, a3⟩
                exact ⟨fun c => a3 j (by omega) z Hz.out (by rw [Hbz.out]; exact c), a2, fun j' hj' => a3 j' (by omega)⟩⟩, U9.out.trans u10, rows_under R9.out u10 (fun i hi => by omega)⟩)
          clear D10 D9 U9 R9 d10 r10 u10 hy hy1 hy2 e1 e2 e3
          go_wp2_with fail
          go_roundw
          case rel => exact ⟨j + 1, by omega, by go_num, S10⟩
          case measure => simp [intOf]; omega
        · obtain rfl : j = t := by omega
          have hjx : ¬ ((j : Int) < (j : Int)) := by omega
          go_wp2_with fail
          go_ret
          refine ⟨_, rfl, S.out.R, ⟨g', b', D.d, hbn, hbr, fun y1 y2 hy => ?_⟩, S.out.U⟩
          obtain ⟨a1, a2⟩ := (hgv (y1, y2)).1 hy
          rcases (H.out.I.gv (y1, y2)).1 a1 with ⟨l, d, hl, ho, hy1⟩ | hy'
          · obtain ⟨i, i1⟩ := List.getElem?_of_mem ((H.out.N.mem (l, d)).2 ⟨hl, ho⟩)
            exact a2 i (by have := (List.getElem?_eq_some_iff.1 i1).1; have := HTt.out; omega) (l, d) i1 hy1
          · exact hy'
end Go.Proofs.YtdapmcclplfpfaaGreatDoor

/-
  The document's own spaces: Tables.
-/
namespace Go.Proofs.YtdapmcclplfpfaaGreatDoor
open Go.ChangeShapes Go.WideShapes Go.ChangeAt Go.RowKit Go.Shelf Go.Sort

def intC (f : Int) : List Value := [.int .i64 f]
theorem intC_len (f : Int) : (intC f).length = 1 := rfl
theorem intC_one (f : Int) : ∀ u ∈ intC f, u.oneCell' = true := by intro u hu; simp [intC] at hu; subst hu; rfl
theorem listC_int : ∀ l : List Int, listC intC l = i64s l
  | [] => rfl
  | x :: l => by rw [show x :: l = [x] ++ l from rfl, listC_app, listC_int l]; rfl
theorem run_size_ints (w : World) : (sizeOf (Tryz.prog.elem 50)).run Tryz.prog w = .ok 1 w := by kernel_rfl
def rising (L : List Int) : Prop := L.Pairwise (· ≤ ·)
/-- one put in at its place -/
theorem put_rising {L : List Int} {x : Int} {a : Nat} (h : rising L) (ha : a ≤ L.length) (h1 : ∀ j, j < a → L.getD j 0 < x) (h2 : a < L.length → ¬ L.getD a 0 < x) : rising (L.take a ++ ([x] ++ L.drop a)) := by
  unfold rising at *
  have ht : ∀ y, y ∈ L.take a → y < x := fun y hy => by
    obtain ⟨j, hj, rfl⟩ := List.getElem_of_mem hy
    rw [List.length_take] at hj
    have := h1 j (by omega)
    rw [List.getD_eq_getElem?_getD, List.getElem?_eq_getElem (by omega)] at this
    rw [List.getElem_take]
    exact this
  have hdr : ∀ y, y ∈ L.drop a → x ≤ y := fun y hy => by
    obtain ⟨j, hj, rfl⟩ := List.getElem_of_mem hy
    rw [List.length_drop] at hj
    have hx := h2 (by omega)
    rw [List.getD_eq_getElem?_getD, List.getElem?_eq_getElem (by omega)] at hx
    rw [List.getElem_drop]
    have hx : x ≤ L[a] := by simpa using hx
    by_cases e : j = 0
    · subst e; simpa using hx
    · have := List.pairwise_iff_getElem.1 h a (a + j) (by omega) (by omega) (by omega)
      omega
  rw [List.pairwise_append]
  refine ⟨h.sublist (List.take_sublist _ _), ?_, fun y hy z hz => ?_⟩
  · rw [List.singleton_append, List.pairwise_cons]
    exact ⟨hdr, h.sublist (List.drop_sublist _ _)⟩
  · have hy' := ht y hy
    rcases List.mem_append.1 hz with hz | hz
    · simp only [List.mem_singleton] at hz; omega
    · have := hdr z hz; omega
theorem put_perm (L : List Int) (x : Int) (a : Nat) : (L.take a ++ ([x] ++ L.drop a)).Perm (L ++ [x]) := by
  have h1 : (L.take a ++ ([x] ++ L.drop a)).Perm ([x] ++ (L.take a ++ L.drop a)) := by
    rw [← List.append_assoc, ← List.append_assoc]
    exact List.Perm.append_right _ List.perm_append_comm
  rw [List.take_append_drop] at h1
  exact h1.trans List.perm_append_comm
theorem src_int (w : World) (f : Int) (t : TypeId) : Src (w.alloc (.cells #[.int .i64 f] t)) (.slice (some ⟨w.heap.size, 0, none⟩) 1 1) 1 1 (listC intC [f]) :=
  .inr ⟨w.heap.size, 0, 1, rfl, rfl, fun j u hu => by have := rows_src w [.int .i64 f] t j u hu; rwa [add_mid0] at this⟩
theorem ints_at {w : World} {base k cap : Nat} {e : TypeId} {o : Option Addr} {L : List Int} (h : w.ownsRow base e 1 (.slice o k cap) k (listC intC L)) (hk : L.length = k) (a : Nat) (ha : a < k) : ∃ g, o = some ⟨g, 0, none⟩ ∧ w.cell? ⟨g, a, none⟩ = some (.int .i64 (L.getD a 0)) := by
  obtain ⟨g, rfl, hc⟩ := rows_at h (by omega)
  refine ⟨g, rfl, hc a _ ?_⟩
  have := listC_get intC_len 0 L a 0 (by omega) (by omega)
  rwa [Nat.add_zero, Nat.mul_one] at this
def frsT (s : Sp) (Nd : List (Nat × Nat)) : List Int := Nd.map fun x => s.fr x.1 x.2
theorem frsT_tabs {s : Sp} {n : Nat} {Nd : List (Nat × Nat)} (hs : s.Ok n) (hN : Nodes s Nd) : (frsT s Nd).Perm s.tabs := by
  refine (List.perm_ext_iff_of_nodup ?_ hs.tabs_nodup).2 fun f => ?_
  · refine List.pairwise_map.2 (hN.nd.imp_of_mem fun {a b} ha hb hne e => hne ?_)
    obtain ⟨a1, a2⟩ := (hN.mem a).1 ha
    obtain ⟨b1, b2⟩ := (hN.mem b).1 hb
    obtain ⟨e1, e2⟩ := hs.inj _ _ _ _ a1 b1 a2 b2 e
    exact Prod.ext e1 e2
  · rw [hs.mem_tabs]
    unfold frsT
    rw [List.mem_map]
    constructor
    · rintro ⟨x, hx, rfl⟩
      obtain ⟨a, b⟩ := (hN.mem x).1 hx
      exact ⟨x.1, x.2, a, b, rfl⟩
    · rintro ⟨l, d, hl, ho, rfl⟩
      exact ⟨(l, d), (hN.mem _).2 ⟨hl, ho⟩, rfl⟩
theorem rising_tbs {s : Sp} {n : Nat} {Nd : List (Nat × Nat)} (hs : s.Ok n) (hN : Nodes s Nd) {O : List Int} (hO : rising O) (hp : O.Perm (frsT s Nd)) : O = s.tbs := by
  have h1 : O.Perm s.tabs := hp.trans (frsT_tabs hs hN)
  rw [show s.tbs = s.tabs.mergeSort Go.leI from rfl, ← mergeSort_of_perm_i h1]
  exact (List.mergeSort_of_pairwise (hO.imp fun {x y} hxy => by simp only [Go.leI, decide_eq_true_eq]; exact hxy)).symm
set_option maxRecDepth 100000 in
set_option maxHeartbeats 8000000 in
theorem rtablesS_any (C MC BC FB : Nat) (s : Sp) (Nd : List (Nat × Nat)) (vL vT g : Value) (m : Mem) (b : Bud) (w : World) (h : DSp w C MC BC FB s Nd vL vT g m b) :
    Calls Tryz.prog 21 #[.pointer (some ⟨C, 0, none⟩)] w fun e w' => ∃ v, e = .returned v ∧ w'.ownsRow w.heap.size 3 1 v s.tbs.length (i64s s.tbs) ∧ Upd (fun _ => False) w w' := by
  obtain ⟨i0, hi0, hz0, hz1, hz2⟩ := info_parts info_rint
  have hT := h.N.len h.I.ok
  have hn256 := h.I.hn
  obtain ⟨oT, caT, rfl⟩ := rsp_slice h.D.a.tabs
  rw [List.length_map] at h
  generalize ht : Nd.length = t at h hT
  have HTt := Lib.hid ht
  have HFl : Hid ((frsT s Nd).length = t) := Lib.hid (by unfold frsT; rw [List.length_map]; exact ht)
  have HFin := Lib.hid (fun O hO hp => rising_tbs (O := O) h.I.ok h.N hO hp)
  have H := Lib.hid h
  have ht256 : t ≤ 256 := by omega
  clear ht h hT
  go_enter Tryz.func21, Tryz.ntmps21
  have cT0 := H.out.D.a.cT
  go_wp2_with fail
  go_loopw [4, 3] (fun x u wr => ∃ (k : Nat) (O : List Int), k ≤ t ∧ x = .int .i64 k ∧ O.length = k ∧ Hid (rising O) ∧ Hid (O.Perm ((frsT s Nd).take k)) ∧ Hid (wr.ownsRow w.heap.size 3 1 u k (listC intC O)) ∧ Upd (fun _ => False) w wr) (fun x _ _ => t - (intOf x).toNat)
  case atStart => exact ⟨0, [], by omega, rfl, rfl, Lib.hid List.Pairwise.nil, Lib.hid (List.Perm.refl _), Lib.hid (rows_new w _ _ _), Upd.refl _ _⟩
  case round =>
    obtain ⟨k, O, hk, rfl, hOl, hOr, hOp, hrow, hU⟩ := hrel
    clear cT0
    have hA := Lib.hid (H.out.still hU)
    have cT1 := hA.out.D.a.cT
    by_cases hlt : k < t
    · obtain ⟨z, hz⟩ : ∃ z, Nd[k]? = some z := ⟨_, List.getElem?_eq_getElem (by have := HTt.out; omega)⟩
      have htab := hA.out.D.a.tabs
      rw [List.length_map, HTt.out] at htab
      obtain ⟨gT, rfl, -, -, d3⟩ := tb_cells (by rw [List.length_map]; exact HTt.out) htab k (tbOf s z) (by rw [List.getElem?_map, hz]; rfl)
      rw [show (tbOf s z).f = s.fr z.1 z.2 from rfl] at d3
      have hs := Lib.hid (show (frsT s Nd).take (k + 1) = (frsT s Nd).take k ++ [s.fr z.1 z.2] from take_next (by unfold frsT; rw [List.getElem?_map, hz]; rfl))
      generalize s.fr z.1 z.2 = x at d3 hs
      have k0 : (0 : Int) ≤ (k : Int) := by omega
      have k1 : (k : Int) < (t : Int) := by omega
      obtain ⟨o, cap, rfl⟩ := rows_slice hrow.out
      have HOl := Lib.hid hOl
      have HcO := Lib.hid (fun a (ha : a < k) => ints_at hrow.out hOl a ha)
      clear hz htab hOl
      go_upto_block 2 with fail
      go_cut [3, 5] (fun s3 s5 wx => s3 = .slice o k cap ∧ ∃ a q : Nat, a ≤ k ∧ s5 = .int .i64 a ∧ wx = wr.drewN q ∧ Hid ((∀ j, j < a → O.getD j 0 < x) ∧ (a < k → ¬ O.getD a 0 < x)))
      case first =>
        go_wp2_with fail
        go_loopw [5] (fun y wx => ∃ a q : Nat, a ≤ k ∧ y = .int .i64 a ∧ wx = wr.drewN q ∧ Hid (∀ j, j < a → O.getD j 0 < x)) (fun y _ => k - (intOf y).toNat)
        case atStart => exact ⟨0, 0, by omega, rfl, rfl, Lib.hid fun j hj => by omega⟩
        case round =>
          obtain ⟨a, q, ha, rfl, rfl, hlow⟩ := hrel
          by_cases hai : a < k
          · obtain ⟨ga, rfl, d0⟩ := HcO.out a hai
            obtain ⟨y, hy⟩ : ∃ y, O.getD a 0 = y := ⟨_, rfl⟩
            rw [hy] at d0
            have Hy := Lib.hid hy
            clear hy
            have hai' : (a : Int) < (k : Int) := by omega
            have a0 : (0 : Int) ≤ (a : Int) := by omega
            by_cases hyx : y < x
            · have hst := Lib.hid (show ∀ j, j < a + 1 → O.getD j 0 < x from fun j hj => by
                rcases Nat.lt_or_ge j a with h1 | h1
                · exact hlow.out j h1
                · rw [show j = a from by omega, Hy.out]; exact hyx)
              go_wp2
              go_quiet (fail)
              go_wp2
              go_roundw
              case rel => first | exact ⟨a + 1, _, by omega, by go_num, rfl, hst⟩ | exact ⟨a + 1, _, by omega, by go_num, by rw [World.drewN_drewN], hst⟩
              case measure => simp [intOf]; omega
            · have hfin := Lib.hid (And.intro hlow.out (fun (_ : a < k) => show ¬ O.getD a 0 < x from by rw [Hy.out]; exact hyx))
              go_wp2
              go_quiet (fail)
              go_wp2
              go_meet
              first | exact ⟨rfl, a, _, ha, rfl, by rw [World.drewN_drewN], hfin⟩ | exact ⟨rfl, a, _, ha, rfl, rfl, hfin⟩
          · have hfin := Lib.hid (And.intro hlow.out (fun (c : a < k) => show ¬ O.getD a 0 < x from absurd c hai))
            have e : a = k := by omega
            subst e
            go_wp2
            go_quiet (fail)
            go_wp2
            go_meet
            first | exact ⟨rfl, a, _, ha, rfl, by rw [World.drewN_drewN], hfin⟩ | exact ⟨rfl, a, _, ha, rfl, rfl, hfin⟩
      case rest =>
        obtain ⟨rfl, a, q, ha, rfl, rfl, hfin⟩ := hcut
        have hUW := hU.drewN q
        have hrowW : (wr.drewN q).ownsRow w.heap.size 3 1 (.slice o k cap) k (listC intC O) := hrow.out
        have c0W : (wr.drewN q).cell? ⟨gT, k * 3 + 2, none⟩ = some (.int .i64 x) := d3
        have c2W : (wr.drewN q).cell? ⟨C, 3, none⟩ = some (.slice (some ⟨gT, 0, none⟩) t caT) := cT1
        generalize wr.drewN q = W at hrowW hUW c0W c2W ⊢
        clear hrow hU d3 cT1 hA HcO
        obtain ⟨y1, hy1, hs1⟩ := cut_to intC_len 50 Tryz.underlying50 run_size_ints o k cap a (by have := cut_cap hrowW; omega)
        obtain ⟨y2, hy2, hs2⟩ := cut_from intC_len 50 Tryz.underlying50 run_size_ints o k cap a ha (cut_cap hrowW)
        have hsr := Src.of_row hrowW
        have HS1 := Lib.hid (hs1 W O hsr (by rw [HOl.out]; exact ha) HOl.out)
        have HS2 := Lib.hid (hs2 W O hsr HOl.out)
        have hBs := hUW.size
        have kept3 : ∀ w', Upd (fun _ => False) W w' → w'.cell? ⟨C, 3, none⟩ = some (.slice (some ⟨gT, 0, none⟩) t caT) ∧ w'.cell? ⟨gT, k * 3 + 2, none⟩ = some (.int .i64 x) := fun w' u => ⟨u.cell c2W id, u.cell c0W id⟩
        have HK := Lib.hid kept3
        clear kept3 hs1 hs2 hsr
        have emA : ((W.alloc (.cells #[] 3)).drew).ownsRow W.heap.size 3 1 (.slice (some ⟨W.heap.size, 0, none⟩) 0 0) 0 [] := World.ownsRow_made W #[] 0 (Nat.le_refl _) (by decide) rfl
        have emB : (((W.alloc (.cells #[] 3)).alloc (.cells #[.int .i64 x] 3)).drew).ownsRow W.heap.size 3 1 (.slice (some ⟨W.heap.size, 0, none⟩) 0 0) 0 [] := (World.ownsRow_made W #[] 0 (Nat.le_refl _) (by decide) rfl).alloc _
        have emC : (((W.alloc (.cells #[.int .i64 x] 3)).alloc (.cells #[] 3)).drew).ownsRow W.heap.size 3 1 (.slice (some ⟨W.heap.size + 1, 0, none⟩) 0 0) 0 [] := by
          have := World.ownsRow_made (base := W.heap.size) (e := 3) (size := 1) (W.alloc (.cells #[.int .i64 x] 3)) #[] 0 (by simp) (by decide) rfl
          rw [World.size_alloc] at this
          exact this
        have UA : Upd (fun _ => False) W ((W.alloc (.cells #[] 3)).drew) := ((Upd.refl _ _).alloc _).drew
        have UB : Upd (fun _ => False) W (((W.alloc (.cells #[] 3)).alloc (.cells #[.int .i64 x] 3)).drew) := (((Upd.refl _ _).alloc _).alloc _).drew
        have UC : Upd (fun _ => False) W (((W.alloc (.cells #[.int .i64 x] 3)).alloc (.cells #[] 3)).drew) := (((Upd.refl _ _).alloc _).alloc _).drew
        have sxB : Src (((W.alloc (.cells #[] 3)).alloc (.cells #[.int .i64 x] 3)).drew) (.slice (some ⟨W.heap.size + 1, 0, none⟩) 1 1) 1 1 (listC intC [x]) := by
          have := src_int (W.alloc (.cells #[] 3)) x 3
          rw [World.size_alloc] at this
          exact this
        have sxC : Src (((W.alloc (.cells #[.int .i64 x] 3)).alloc (.cells #[] 3)).drew) (.slice (some ⟨W.heap.size, 0, none⟩) 1 1) 1 1 (listC intC [x]) := (src_int W x 3).upd ((Upd.refl _ _).alloc _).drew
        have Hnew := Lib.hid (put_rising hOr.out (by rw [HOl.out]; exact ha) hfin.out.1 (fun c => hfin.out.2 (by rw [HOl.out] at c; exact c)))
        have Hper := Lib.hid (show (O.take a ++ ([x] ++ O.drop a)).Perm ((frsT s Nd).take (k + 1)) from by rw [hs.out]; exact (put_perm O x a).trans (hOp.out.append_right _))
        have Hol := Lib.hid (show (O.take a ++ ([x] ++ O.drop a)).length = k + 1 ∧ a + 1 + (k - a) = k + 1 from by
          rw [List.length_append, List.length_append, List.length_take, List.length_drop, HOl.out, List.length_singleton]; omega)
        clear hfin hOr hOp hs
        go_wp2_with fail
        go_region_held3 (fun w' => w'.cell? ⟨C, 3, none⟩ = some (.slice (some ⟨gT, 0, none⟩) t caT) ∧ w'.cell? ⟨gT, k * 3 + 2, none⟩ = some (.int .i64 x))
          (exact HK.out _ (by first | exact u6 | exact u5 | exact u4 | exact (u4.alloc _) | exact Upd.refl _ _ | exact (Upd.refl _ _).drew | exact (Upd.refl _ _).alloc _ | exact ((Upd.refl _ _).alloc _).drew | exact ((Upd.refl _ _).alloc _).alloc _ | exact (((Upd.refl _ _).alloc _).alloc _).drew))
          (first
            | (refine step_append_src _ (by rfl) (.tmp 36) (.tmp 39) 50 (by rfl) W.heap.size 3 i0 (.int .i64 0) 1 8 Tryz.underlying50 hi0 hz0 hz1 hz2 rfl (by decide) (.slice (some ⟨W.heap.size, 0, none⟩) 0 0) 0 [] (by rfl) emA y1 a (listC intC (O.take a)) (by rfl) (HS1.out.upd UA) (listC_all intC_one _) (by simp [maxLen]; omega) (by omega) (by simp) ?_; intro v4 w4 own4 grow4; rw [Nat.zero_add, List.nil_append] at own4; obtain ⟨og4, cap4, rfl⟩ := rows_slice own4; have u4 := grow_upd UA grow4 (fun k hk => (emA.lt k hk).1))
            | (refine step_append_src _ (by rfl) (.tmp 36) (.tmp 39) 50 (by rfl) W.heap.size 3 i0 (.int .i64 0) 1 8 Tryz.underlying50 hi0 hz0 hz1 hz2 rfl (by decide) (.slice (some ⟨W.heap.size, 0, none⟩) 0 0) 0 [] (by rfl) emB y1 a (listC intC (O.take a)) (by rfl) (HS1.out.upd UB) (listC_all intC_one _) (by simp [maxLen]; omega) (by omega) (by simp; omega) ?_; intro v4 w4 own4 grow4; rw [Nat.zero_add, List.nil_append] at own4; obtain ⟨og4, cap4, rfl⟩ := rows_slice own4; have u4 := grow_upd UB grow4 (fun k hk => (emB.lt k hk).1); have sx4 := sxB.kept (w' := w4) (fun k hk => by simp [Value.ownBlock] at hk; subst hk; exact grow4.block _ (by simp) (by simp [Value.ownBlock])))
            | (refine step_append_src _ (by rfl) (.tmp 36) (.tmp 39) 50 (by rfl) W.heap.size 3 i0 (.int .i64 0) 1 8 Tryz.underlying50 hi0 hz0 hz1 hz2 rfl (by decide) (.slice (some ⟨W.heap.size + 1, 0, none⟩) 0 0) 0 [] (by rfl) emC y1 a (listC intC (O.take a)) (by rfl) (HS1.out.upd UC) (listC_all intC_one _) (by simp [maxLen]; omega) (by omega) (by simp; omega) ?_; intro v4 w4 own4 grow4; rw [Nat.zero_add, List.nil_append] at own4; obtain ⟨og4, cap4, rfl⟩ := rows_slice own4; have u4 := grow_upd UC grow4 (fun k hk => (emC.lt k hk).1); have sx4 := sxC.kept (w' := w4) (fun k hk => by simp [Value.ownBlock] at hk; subst hk; exact grow4.block _ (by simp; omega) (by simp [Value.ownBlock])))
            | (refine step_append_src _ (by rfl) (.tmp 40) (.tmp 49) 50 (by rfl) W.heap.size 3 i0 (.int .i64 0) 1 8 Tryz.underlying50 hi0 hz0 hz1 hz2 rfl (by decide) (.slice og4 a cap4) a (listC intC (O.take a)) (by rfl) (own4.alloc _) (.slice (some ⟨w4.heap.size, 0, none⟩) 1 1) 1 (listC intC [x]) (by rfl) (src_int _ _ _) (listC_all intC_one _) (by simp [maxLen]; omega) (by omega) (by have := u4.size; simp; omega) ?_; intro v5 w5 own5 grow5; rw [← listC_app] at own5; obtain ⟨og5, cap5, rfl⟩ := rows_slice own5; have u5 := grow_upd (u4.alloc _) grow5 (fun k hk => (own4.lt k hk).1))
            | (refine step_append_src _ (by rfl) (.tmp 40) (.tmp 49) 50 (by rfl) W.heap.size 3 i0 (.int .i64 0) 1 8 Tryz.underlying50 hi0 hz0 hz1 hz2 rfl (by decide) (.slice og4 a cap4) a (listC intC (O.take a)) (by rfl) own4 _ 1 (listC intC [x]) (by rfl) sx4 (listC_all intC_one _) (by simp [maxLen]; omega) (by omega) u4.size ?_; intro v5 w5 own5 grow5; rw [← listC_app] at own5; obtain ⟨og5, cap5, rfl⟩ := rows_slice own5; have u5 := grow_upd u4 grow5 (fun k hk => (own4.lt k hk).1))
            | (refine step_append_src _ (by rfl) (.tmp 50) (.tmp 53) 50 (by rfl) W.heap.size 3 i0 (.int .i64 0) 1 8 Tryz.underlying50 hi0 hz0 hz1 hz2 rfl (by decide) (.slice og5 (a + 1) cap5) (a + 1) (listC intC (O.take a ++ [x])) (by rfl) own5 y2 (k - a) (listC intC (O.drop a)) (by rfl) (HS2.out.upd u5) (listC_all intC_one _) (by simp [maxLen]; omega) (by omega) u5.size ?_; intro v6 w6 own6 grow6; rw [← listC_app, List.append_assoc] at own6; obtain ⟨og6, cap6, rfl⟩ := rows_slice own6; have u6 := grow_upd u5 grow6 (fun k hk => (own5.lt k hk).1)))
        all_goals (go_wp2_with fail)
        all_goals exact ⟨⟨k + 1, O.take a ++ ([x] ++ O.drop a), by omega, by go_num, Hol.out.1, Hnew, Hper, Lib.hid (by have h := cut_base own6 hUW.size; rw [Hol.out.2] at h ⊢; exact h), hUW.trans u6⟩, by simp [intOf]; omega⟩
    · obtain rfl : k = t := by omega
      have hO := HFin.out O hOr.out (by have := hOp.out; rwa [List.take_of_length_le (by rw [HFl.out]; omega)] at this)
      have hlen : s.tbs.length = k := by rw [← hO]; exact hOl
      have hr := hrow.out
      rw [hO, listC_int, ← hlen] at hr
      have Hr := Lib.hid hr
      clear hr hlen hO hrow
      go_wp2_with fail
      go_ret
      exact ⟨_, rfl, Hr.out, hU⟩
end Go.Proofs.YtdapmcclplfpfaaGreatDoor

/-
  The document's own spaces, in plain numbers: what becomes of the nodes when a page comes; a space laid anew is right.
-/
namespace Go.Proofs.YtdapmcclplfpfaaGreatDoor
open Go.ChangeShapes Go.WideShapes Go.ChangeAt Go.RowKit Go.Shelf Go.Sort

/-- a space laid anew is right -/
theorem lay_inv {s : Sp} {m : Mem} {b : Bud} {Nd : List (Nat × Nat)} (ok : s.Ok m.n) (nee : s.need) (hN : Nodes s Nd) (hn : m.n ≤ 256) (mo : m.ok) (hg : m.good) (bk : b.Ok) (bn : m.n = b.n) (gv : ∀ x, x ∈ b.gave ↔ ∃ l d, l ≤ 2 ∧ s.on l d = true ∧ x = ((s.fr l d).toNat, 0)) (z : Zs s m) :
    SpInv s (layM s Nd m) b Yn ∧ Zs s (layM s Nd m) := by
  obtain ⟨L1, L2⟩ := lay_words ok hn hN (fun q => by rw [Sp.mem_pgs]; exact ⟨fun a => a.2, fun a => ⟨(ok.page_on a).1, a⟩⟩) rfl mo hg
  have K := layM_keep s Nd mo hg
  refine ⟨⟨by rw [K.n]; exact ok, L1, nee, K.ok, K.good, bk, by rw [K.n]; exact bn, fun x hx => hx.elim, fun x => ?_, fun _ _ _ _ hy => hy⟩, ?_⟩
  · rw [gv]
    exact ⟨.inl, fun a => a.resolve_right fun hy => hy⟩
  · intro g p hg' hp hno
    rw [K.n] at hg'
    rw [L2 g p hg' hp hno]
    exact z g p hg' hp hno
/-- a page comes, with the tables that it needs -/
structure Grown (s s' : Sp) (n qn : Nat) (b : Bud) (f : Int) (wb : Bool) : Prop where
  ok : s.Ok n
  ok' : s'.Ok n
  nee' : s'.need
  hq : qn < 4096
  hv : (s.E 3 qn).v = false
  rt : s'.root = s.root
  e3 : ∀ q', s'.E 3 q' = if q' = qn then ⟨true, wb, false, f⟩ else s.E 3 q'
  e12 : ∀ l d, l ≤ 2 → s'.E l d = if s.dep qn ≤ l ∧ d = nd qn l then tbE ((b.al (3 - s.dep qn)).1.getD (l - s.dep qn) 0 : Nat) else s.E l d
/-- the new nodes -/
def newN (s : Sp) (qn k : Nat) : List (Nat × Nat) := (List.range k).map fun i => (s.dep qn + i, nd qn (s.dep qn + i))
/-- their tables -/
def newT (s : Sp) (qn : Nat) (c : List Nat) (k : Nat) : List RTb := (List.range k).map fun i => ⟨((s.dep qn + i : Nat) : Int), ((fstI qn (s.dep qn + i) : Nat) : Int), ((c.getD i 0 : Nat) : Int)⟩
theorem newT_len (s : Sp) (qn : Nat) (c : List Nat) (k : Nat) : (newT s qn c k).length = k := by simp [newT]
theorem newT_succ (s : Sp) (qn : Nat) (c : List Nat) (k : Nat) : newT s qn c (k + 1) = newT s qn c k ++ [⟨((s.dep qn + k : Nat) : Int), ((fstI qn (s.dep qn + k) : Nat) : Int), ((c.getD k 0 : Nat) : Int)⟩] := by
  unfold newT
  rw [List.range_succ, List.map_append]
  rfl
theorem newT_congr (s : Sp) (qn : Nat) {c c' : List Nat} {k : Nat} (h : ∀ i, i < k → c.getD i 0 = c'.getD i 0) : newT s qn c k = newT s qn c' k := by
  unfold newT
  exact List.map_congr_left fun i hi => by rw [h i (List.mem_range.1 hi)]
theorem Grown.on {s s' : Sp} {n qn : Nat} {b : Bud} {f : Int} {wb : Bool} (h : Grown s s' n qn b f wb) {l d : Nat} (hl : l ≤ 2) : s'.on l d = true ↔ s.on l d = true ∨ (s.dep qn ≤ l ∧ d = nd qn l) := by
  have hd := s.dep_bd qn
  cases l with
  | zero => exact ⟨.inl, fun a => a.elim id fun c => by omega⟩
  | succ l =>
    rw [s'.onS, s.onS, h.e12 _ _ hl]
    by_cases c : s.dep qn ≤ l + 1 ∧ d = nd qn (l + 1)
    · rw [if_pos c]; exact ⟨fun _ => .inr c, fun _ => rfl⟩
    · rw [if_neg c]; exact ⟨.inl, fun a => a.elim id fun e => absurd e c⟩
theorem Grown.old {s s' : Sp} {n qn : Nat} {b : Bud} {f : Int} {wb : Bool} (h : Grown s s' n qn b f wb) {l d : Nat} (hl : l ≤ 2) (ho : s.on l d = true) : ¬ (s.dep qn ≤ l ∧ d = nd qn l) ∧ s'.fr l d = s.fr l d := by
  have hc : ¬ (s.dep qn ≤ l ∧ d = nd qn l) := by
    rintro ⟨c1, rfl⟩
    rw [Sp.dep_off h.ok l c1 hl] at ho
    cases ho
  refine ⟨hc, ?_⟩
  cases l with
  | zero => exact h.rt
  | succ l => rw [s'.frS, s.frS, h.e12 _ _ hl, if_neg hc]
theorem Grown.nodes {s s' : Sp} {n qn : Nat} {b : Bud} {f : Int} {wb : Bool} (h : Grown s s' n qn b f wb) {Nd : List (Nat × Nat)} (hN : Nodes s Nd) : Nodes s' (Nd ++ newN s qn (3 - s.dep qn)) := by
  have hd := s.dep_bd qn
  have hmem : ∀ x, x ∈ newN s qn (3 - s.dep qn) ↔ s.dep qn ≤ x.1 ∧ x.1 ≤ 2 ∧ x.2 = nd qn x.1 := fun x => by
    unfold newN
    rw [List.mem_map]
    constructor
    · rintro ⟨i, hi, rfl⟩
      have := List.mem_range.1 hi
      exact ⟨by show _ ≤ s.dep qn + i; omega, by show s.dep qn + i ≤ 2; omega, rfl⟩
    · rintro ⟨a, b, c⟩
      refine ⟨x.1 - s.dep qn, List.mem_range.2 (by omega), ?_⟩
      rw [show s.dep qn + (x.1 - s.dep qn) = x.1 from by omega, ← c]
  refine ⟨List.nodup_append.2 ⟨hN.nd, List.pairwise_map.2 (List.nodup_range.imp fun {i j} hij e => hij (by have := (Prod.mk.inj e).1; omega)), fun x hx y hy e => ?_⟩, fun x => ?_⟩
  · subst e
    obtain ⟨a1, a2⟩ := (hN.mem x).1 hx
    obtain ⟨b1, b2, b3⟩ := (hmem x).1 hy
    exact (h.old a1 a2).1 ⟨b1, b3⟩
  · rw [List.mem_append, hN.mem, hmem]
    constructor
    · rintro (⟨a, b⟩ | ⟨a, b, c⟩)
      · exact ⟨a, (h.on a).2 (.inl b)⟩
      · exact ⟨b, (h.on b).2 (.inr ⟨a, c⟩)⟩
    · rintro ⟨a, b⟩
      rcases (h.on a).1 b with c | c
      · exact .inl ⟨a, c⟩
      · exact .inr ⟨c.1, a, c.2⟩
theorem Grown.tb {s s' : Sp} {n qn : Nat} {b : Bud} {f : Int} {wb : Bool} (h : Grown s s' n qn b f wb) {Nd : List (Nat × Nat)} (hN : Nodes s Nd) :
    (Nd ++ newN s qn (3 - s.dep qn)).map (tbOf s') = Nd.map (tbOf s) ++ newT s qn (b.al (3 - s.dep qn)).1 (3 - s.dep qn) := by
  have hd := s.dep_bd qn
  rw [List.map_append]
  congr 1
  · exact List.map_congr_left fun x hx => by
      obtain ⟨a1, a2⟩ := (hN.mem x).1 hx
      unfold tbOf
      rw [(h.old a1 a2).2]
  · unfold newN newT
    rw [List.map_map]
    refine List.map_congr_left fun i hi => ?_
    have hi := List.mem_range.1 hi
    show tbOf s' (s.dep qn + i, nd qn (s.dep qn + i)) = _
    unfold tbOf
    have hl : s.dep qn + i ≤ 2 := by omega
    have hfr : s'.fr (s.dep qn + i) (nd qn (s.dep qn + i)) = (((b.al (3 - s.dep qn)).1.getD i 0 : Nat) : Int) := by
      obtain ⟨l, hl'⟩ : ∃ l, s.dep qn + i = l + 1 := ⟨s.dep qn + i - 1, by omega⟩
      rw [hl', s'.frS, h.e12 _ _ (by omega), if_pos ⟨by omega, rfl⟩, ← hl', show s.dep qn + i - s.dep qn = i from by omega]
      rfl
    simp only
    rw [hfr, fstI_nd h.hq hl]
theorem sorted_split : ∀ {l : List Nat} {x a : Nat}, l.Pairwise (· < ·) → a ≤ l.length → (∀ j, j < a → l.getD j 0 < x) → (a < l.length → ¬ l.getD a 0 < x) → l.take a = l.filter (fun p => decide (p < x)) ∧ l.drop a = l.filter (fun p => decide (¬ p < x)) := by
  intro l x a hl ha h1 h2
  have t1 : ∀ y, y ∈ l.take a → y < x := fun y hy => by
    obtain ⟨j, hj, rfl⟩ := List.getElem_of_mem hy
    rw [List.length_take] at hj
    have := h1 j (by omega)
    rw [List.getD_eq_getElem?_getD, List.getElem?_eq_getElem (by omega)] at this
    rw [List.getElem_take]; exact this
  have t2 : ∀ y, y ∈ l.drop a → ¬ y < x := fun y hy => by
    obtain ⟨j, hj, rfl⟩ := List.getElem_of_mem hy
    rw [List.length_drop] at hj
    have hx := h2 (by omega)
    rw [List.getD_eq_getElem?_getD, List.getElem?_eq_getElem (by omega)] at hx
    have hx : ¬ l[a] < x := by simpa using hx
    rw [List.getElem_drop]
    by_cases e : j = 0
    · subst e; simpa using hx
    · have := List.pairwise_iff_getElem.1 hl a (a + j) (by omega) (by omega) (by omega)
      omega
  have e := List.take_append_drop a l
  constructor
  · conv => rhs; rw [← e]
    rw [List.filter_append, List.filter_eq_self.2 (fun y hy => decide_eq_true (t1 y hy)), List.filter_eq_nil_iff.2 (fun y hy => by simpa using t2 y hy), List.append_nil]
  · conv => rhs; rw [← e]
    rw [List.filter_append, List.filter_eq_nil_iff.2 (fun y hy => by simpa using t1 y hy), List.nil_append, List.filter_eq_self.2 (fun y hy => decide_eq_true (t2 y hy))]
theorem Grown.pgs {s s' : Sp} {n qn : Nat} {b : Bud} {f : Int} {wb : Bool} (h : Grown s s' n qn b f wb) {a : Nat} (ha : a ≤ s.pgs.length) (h1 : ∀ j, j < a → s.pgs.getD j 0 < qn) (h2 : a < s.pgs.length → ¬ s.pgs.getD a 0 < qn) :
    s'.pgs = s.pgs.take a ++ ([qn] ++ s.pgs.drop a) := by
  obtain ⟨e1, e2⟩ := sorted_split s.pgs_rises ha h1 h2
  have hin : ∀ p, (s'.E 3 p).v = true ↔ p = qn ∨ (s.E 3 p).v = true := fun p => by
    rw [h.e3]
    by_cases e : p = qn
    · rw [if_pos e]; exact ⟨fun _ => .inl e, fun _ => rfl⟩
    · rw [if_neg e]; exact ⟨.inr, fun x => x.resolve_left e⟩
  have hr : (s.pgs.take a ++ ([qn] ++ s.pgs.drop a)).Pairwise (· < ·) := by
    rw [e1, e2, List.pairwise_append]
    refine ⟨s.pgs_rises.filter _, ?_, fun y hy z hz => ?_⟩
    · rw [List.singleton_append, List.pairwise_cons]
      refine ⟨fun y hy => ?_, s.pgs_rises.filter _⟩
      obtain ⟨y1, y2⟩ := List.mem_filter.1 hy
      have y2 := of_decide_eq_true y2
      have : y ≠ qn := fun e => by have := (Sp.mem_pgs.1 y1).2; rw [e, h.hv] at this; cases this
      omega
    · have hy := of_decide_eq_true (List.mem_filter.1 hy).2
      rcases List.mem_append.1 hz with hz | hz
      · simp only [List.mem_singleton] at hz; omega
      · have := of_decide_eq_true (List.mem_filter.1 hz).2; omega
  refine List.Perm.eq_of_pairwise (le := (· < ·)) (fun a b _ _ h1 h2 => by omega) s'.pgs_rises hr ?_
  refine (List.perm_ext_iff_of_nodup (s'.pgs_rises.imp fun hab => Nat.ne_of_lt hab) (hr.imp fun hab => Nat.ne_of_lt hab)).2 fun p => ?_
  rw [Sp.mem_pgs, hin, List.mem_append, List.mem_append, List.mem_singleton]
  constructor
  · rintro ⟨p1, rfl | p2⟩
    · exact .inr (.inl rfl)
    · have hp : p ∈ s.pgs := Sp.mem_pgs.2 ⟨p1, p2⟩
      rw [← List.take_append_drop a s.pgs] at hp
      rcases List.mem_append.1 hp with hp | hp
      · exact .inl hp
      · exact .inr (.inr hp)
  · rintro (hp | rfl | hp)
    · have := Sp.mem_pgs.1 (List.mem_of_mem_take hp); exact ⟨this.1, .inr this.2⟩
    · exact ⟨h.hq, .inl rfl⟩
    · have := Sp.mem_pgs.1 (List.mem_of_mem_drop hp); exact ⟨this.1, .inr this.2⟩
theorem Grown.pgL {s s' : Sp} {n qn : Nat} {b : Bud} {f : Int} {wb : Bool} (h : Grown s s' n qn b f wb) {a : Nat} (ha : a ≤ s.pgs.length) (h1 : ∀ j, j < a → s.pgs.getD j 0 < qn) (h2 : a < s.pgs.length → ¬ s.pgs.getD a 0 < qn) :
    s.pgL.take a ++ ([⟨qn, f, wb⟩] ++ s.pgL.drop a) = s'.pgL := by
  have hne : ∀ p, p ∈ s.pgs → pgOf s p = pgOf s' p := fun p hp => by
    have : p ≠ qn := fun e => by have := (Sp.mem_pgs.1 hp).2; rw [e, h.hv] at this; cases this
    unfold pgOf
    rw [h.e3, if_neg this]
  unfold Sp.pgL
  rw [h.pgs ha h1 h2, List.map_append, List.map_append, ← List.map_take, ← List.map_drop]
  rw [List.map_congr_left (fun p hp => hne p (List.mem_of_mem_take hp)), List.map_congr_left (fun p hp => hne p (List.mem_of_mem_drop hp))]
  have : [(⟨((qn : Nat) : Int), f, wb⟩ : RPg)] = [qn].map (pgOf s') := by
    simp only [List.map_cons, List.map_nil]
    unfold pgOf
    rw [h.e3, if_pos rfl]
  rw [this]
end Go.Proofs.YtdapmcclplfpfaaGreatDoor

/-
  The document's own spaces: Map.
-/
namespace Go.Proofs.YtdapmcclplfpfaaGreatDoor
open Go.ChangeShapes Go.WideShapes Go.ChangeAt Go.RowKit Go.Shelf Go.Sort

set_option maxRecDepth 100000 in
set_option maxHeartbeats 2000000 in
theorem rmapS_arg (C MC BC FB : Nat) (s : Sp) (Nd : List (Nat × Nat)) (vL vT g : Value) (m : Mem) (b : Bud) (q f : Int) (wb : Bool) (w : World) (h : DSp w C MC BC FB s Nd vL vT g m b) (hq : ¬ (0 ≤ q ∧ q ≤ 4095) ∨ m.ex f 1 = false) :
    Calls Tryz.prog 10 #[.pointer (some ⟨C, 0, none⟩), .int .i64 q, .int .i64 f, .bool wb] w fun e w' => e = .returned (.int .i64 1) ∧ w = w' := by
  by_cases h0 : q < 0
  · clear hq
    go_enter Tryz.func10, Tryz.ntmps10
    go_wp2
    go_ret
    exact ⟨rfl, rfl⟩
  · by_cases h1 : 4095 < q
    · clear hq
      go_enter Tryz.func10, Tryz.ntmps10
      go_wp2
      go_ret
      exact ⟨rfl, rfl⟩
    · have he := hq.resolve_left (fun a => a ⟨by omega, by omega⟩)
      have cH := Lib.hid (rHas_any MC m f w h.D.r)
      rw [he] at cH
      have cM := h.D.a.cM
      clear hq he h
      go_enter Tryz.func10, Tryz.ntmps10
      go_wp2_with fail
      refine cH.out.mono ?_
      rintro e w1 ⟨rfl, rfl⟩
      go_wp2
      go_ret
      exact ⟨rfl, rfl⟩
set_option maxRecDepth 100000 in
set_option maxHeartbeats 2000000 in
theorem rmapS_twice (C MC BC FB : Nat) (s : Sp) (Nd : List (Nat × Nat)) (vL vT g : Value) (m : Mem) (b : Bud) (q f : Int) (wb : Bool) (w : World) (h : DSp w C MC BC FB s Nd vL vT g m b) (hq : 0 ≤ q ∧ q ≤ 4095) (hf : m.ex f 1 = true) (hv : (s.E 3 q.toNat).v = true) :
    Calls Tryz.prog 10 #[.pointer (some ⟨C, 0, none⟩), .int .i64 q, .int .i64 f, .bool wb] w fun e w' => e = .returned (.int .i64 4) ∧ w = w' := by
  have h0 : ¬ q < 0 := by omega
  have h1 : ¬ 4095 < q := by omega
  have cH := Lib.hid (rHas_any MC m f w h.D.r)
  rw [hf] at cH
  have cM := h.D.a.cM
  have hix : ∃ i : Nat, ixN (pgIx s.pgL q) s.pgL.length = i := by
    rcases page_at h.I.ok q with ⟨i, j, _, _, _, _, _, hh⟩ | ⟨_, hh⟩
    · exact ⟨i, hh⟩
    · have := hh q.toNat (by omega)
      rw [this] at hv
      cases hv
  obtain ⟨i, hi⟩ := hix
  have cA := Lib.hid (rpat_any C MC BC 0 s.pgL _ vL vT q w h.D.a (by rw [s.pgL_len]; have := s.pgs_le; omega))
  rw [hi] at cA
  have i0 : (0 : Int) ≤ (i : Int) := by omega
  clear hq hf h hv hi
  go_enter Tryz.func10, Tryz.ntmps10
  go_wp2_with fail
  refine cH.out.mono ?_
  rintro e w1 ⟨rfl, rfl⟩
  go_wp2_with fail
  refine cA.out.mono ?_
  rintro e w1 ⟨rfl, rfl⟩
  go_wp2
  go_ret
  exact ⟨rfl, rfl⟩
/-- a row of tables of the call's own turns: the space stays -/
theorem DAt.made {wr w' : World} {C MC BC FB NB k : Nat} {L : List RPg} {T : List RTb} {vL vT g s9 : Value} {m : Mem} {b : Bud} {xs : List Value} (h : DAt wr C MC BC FB L T vL vT g m b) (row : wr.ownsRow NB 71 3 s9 k xs) (hv : ∀ j, vT.ownBlock = some j → j < NB)
    (u : Upd (fun j => s9.ownBlock = some j) wr w') : DAt w' C MC BC FB L T vL vT g m b := by
  have n1 := ty_ne row h.a.head (by decide)
  have n2 := ty_ne row h.r.head (by decide)
  have n3 := ty_ne row h.r.body (by decide)
  have n4 := ty_ne row h.d.head (by decide)
  have n5 := ty_ne row h.d.fr (by decide)
  have r1 := rows_ty row h.a.pages (by decide)
  have r2 := rows_ty row h.d.gv (by decide)
  refine ⟨h.a.kept u (fun e => n1 _ e rfl) (fun j hj e => r1 j e hj) (fun j hj e => ?_), h.r.kept u (fun e => n2 _ e rfl) (fun e => n3 _ e rfl), ⟨u.at h.d.head (fun e => n4 _ e rfl), u.at h.d.fr (fun e => n5 _ e rfl), row_kept h.d.gv u (fun j hj e => r2 j e hj), h.d.ok⟩, h.n⟩
  have := (row.lt j e).1
  have := hv j hj
  omega
/-- what was given and taken back again -/
theorem undo_inv {s : Sp} {m : Mem} {b : Bud} (I : SpInv s m b Yn) (Z : Zs s m) (hl : 1 ≤ b.left) :
    ∃ f, (b.al 1).1 = [f] ∧ ((f, 0) : Nat × Nat) ∈ (b.al 1).2.gave ∧ SpInv s (m.scrub f 1) ((b.al 1).2.take (f, 0)) Yn ∧ Zs s (m.scrub f 1) := by
  have ha := al_ok I.bk 1 hl
  obtain ⟨f, hf⟩ : ∃ f, (b.al 1).1 = [f] := List.length_eq_one_iff.1 ha.len
  have hg := ha.gave
  have hfr := ha.fr f (by rw [hf]; simp)
  rw [hf] at hg
  have hin : ((f, 0) : Nat × Nat) ∈ (b.al 1).2.gave := by rw [hg]; simp
  have hno : ((f, 0) : Nat × Nat) ∉ b.gave := I.free hfr.2
  have hnt : ∀ l d, l ≤ 2 → s.on l d = true → s.fr l d ≠ (f : Nat) := fun l d h2 ho e => hno ((I.gv _).2 (.inl ⟨l, d, h2, ho, by rw [e]; rfl⟩))
  have hbn := I.bn
  have hw : ∀ g p : Nat, g < m.n → p < 16 → (m.scrub f 1).word (g : Nat) (p : Nat) = if g = f then 0 else m.word (g : Nat) (p : Nat) := fun g p hg hp => by
    rw [Mem.word_scrub _ I.mo _ _ _ (decide_eq_true (by omega)) (by rw [Mem.slot_iff]; omega)]
    by_cases c : g = f
    · rw [if_pos (by omega), if_pos c]
    · rw [if_neg (by omega), if_neg c]
  refine ⟨f, hf, hin, ⟨by rw [Mem.scrub_n]; exact I.ok, fun l d p h2 ho hp => ?_, I.nee, Mem.ok_scrub _ I.mo _ _, Mem.scrub_good _ I.mo I.hg _, ha.ok.take hin, by rw [Mem.scrub_n]; exact hbn.trans ha.n.symm, fun x hx => hx.elim, fun x => ?_, fun _ _ _ _ hy => hy⟩, fun g p hg' hp hn => ?_⟩
  · have hb := I.ok.frb ho
    obtain ⟨G, hG⟩ := Int.eq_ofNat_of_zero_le hb.1
    have := hnt l d h2 ho
    rw [← I.i l d p h2 ho hp, hG, hw G p (by omega) hp, if_neg (by omega)]
  · show x ∈ (b.al 1).2.gave.erase _ ↔ _
    rw [ha.ok.nodup.mem_erase_iff, hg, ← I.gv, List.mem_append]
    constructor
    · rintro ⟨a1, a2 | a2⟩
      · exact a2
      · exact absurd (by simpa using a2) a1
    · intro a
      exact ⟨fun e => hno (e ▸ a), .inl a⟩
  · rw [Mem.scrub_n] at hg'
    rw [hw g p hg' hp]
    split
    · rfl
    · exact Z g p hg' hp hn
theorem src_page (w : World) (x : RPg) (t : TypeId) : Src (w.alloc (.cells #[.int .i64 x.n, .int .i64 x.f, .bool x.w] t)) (.slice (some ⟨w.heap.size, 0, none⟩) 1 1) 1 3 (listC RPg.c [x]) :=
  .inr ⟨w.heap.size, 0, 1, rfl, rfl, fun j u hu => by have := rows_src w [.int .i64 x.n, .int .i64 x.f, .bool x.w] t j u hu; rwa [add_mid0] at this⟩
theorem nodes_out {s : Sp} {Nd : List (Nat × Nat)} (h : Nodes s Nd) {q l : Nat} (hq : q < 4096) (hl : l ≤ 2) (ho : s.on l (nd q l) = false) : ixN (tbIx (Nd.map (tbOf s)) l (fstI q l : Nat)) (Nd.map (tbOf s)).length = -1 := by
  have : tbIx (Nd.map (tbOf s)) l (fstI q l : Nat) = (Nd.map (tbOf s)).length := first_all fun j hj => by
    unfold tbHit
    rw [List.length_map] at hj
    rw [List.getElem?_map, List.getElem?_eq_getElem hj]
    obtain ⟨a1, a2⟩ := (h.mem Nd[j]).1 (List.getElem_mem hj)
    cases hb : (decide ((tbOf s Nd[j]).l = (l : Int)) && decide ((tbOf s Nd[j]).s = ((fstI q l : Nat) : Int)))
    · exact hb
    · exfalso
      rw [Bool.and_eq_true, decide_eq_true_eq, decide_eq_true_eq] at hb
      obtain ⟨e1, e2⟩ := hb
      have e1 : (Nd[j]).1 = l := by have : (((Nd[j]).1 : Nat) : Int) = (l : Int) := e1; omega
      have e2 : (((Nd[j]).2 * 16 ^ (3 - (Nd[j]).1) : Nat) : Int) = ((fstI q l : Nat) : Int) := e2
      rw [fstI_nd hq hl, e1] at e2
      have e3 : (Nd[j]).2 = nd q l := Nat.eq_of_mul_eq_mul_right (show 0 < 16 ^ (3 - l) from Nat.pow_pos (by decide)) (by exact_mod_cast e2)
      rw [e1, e3, ho] at a2
      cases a2
  rw [this]
  unfold ixN
  rw [if_neg (by omega)]
end Go.Proofs.YtdapmcclplfpfaaGreatDoor
