/-
  The document's own memory (trunnionref02): contracts of its functions, over the same data as package memory's.
-/
import Derived.Test.YtbakhipabeaojaaDoorMemF
import Derived.Deep.DeepCutAuto
namespace Go.Proofs.YtbakhipabeaojaaDoor
open Go.ChangeShapes Go.WideShapes Go.ChangeAt Go.RowKit

structure RefAt (w : World) (A : Nat) (m : Mem) : Prop where
  head : w.heap[A]? = some (.cells #[.slice (some ⟨m.B, 0, none⟩) (16 * m.n) (16 * m.n)] 65 (0, 0))
  body : w.heap[m.B]? = some (.cells (ints .u64 m.ws).toArray 36 (0, 0))
  len : m.ws.length = 16 * m.n
  lo : 1 ≤ m.n
  hi : m.n ≤ 256
theorem RefAt.ne {w : World} {A : Nat} {m : Mem} (h : RefAt w A m) : A ≠ m.B := by
  intro e
  have h1 := h.head
  rw [e, h.body] at h1
  simp at h1
theorem RefAt.kept {S : Nat → Prop} {w w' : World} {A : Nat} {m : Mem} (h : RefAt w A m) (u : Upd S w w') (h1 : ¬ S A) (h2 : ¬ S m.B) : RefAt w' A m :=
  ⟨u.at h.head h1, u.at h.body h2, h.len, h.lo, h.hi⟩
theorem RefAt.cellA {w : World} {A : Nat} {m : Mem} (h : RefAt w A m) : w.cell? ⟨A, 0, none⟩ = some (.slice (some ⟨m.B, 0, none⟩) (16 * m.n) (16 * m.n)) := by
  rw [cell_of_row w A 0 _ _ _ h.head]; rfl
theorem RefAt.cellB {w : World} {A : Nat} {m : Mem} (h : RefAt w A m) (i : Nat) (hi : i < 16 * m.n) : w.cell? ⟨m.B, i, none⟩ = some (.int .u64 (m.at i)) :=
  cell_block h.body i (by rw [h.len]; exact hi)
theorem RefAt.freeB {w : World} {A : Nat} {m : Mem} (h : RefAt w A m) (i : Nat) : w.frozen? ⟨m.B, i, none⟩ = false := frozen_block h.body i
theorem RefAt.okm {w : World} {A : Nat} {m : Mem} (h : RefAt w A m) : m.ok := h.len
theorem RefAt.lay1 {w : World} {A : Nat} {m : Mem} (h : RefAt w A m) (o : Nat) (v : Int) (hf : o < 16 * m.n) : RefAt (w.setCell ⟨m.B, o, none⟩ (.int .u64 v)) A (m.lay o [v]) := by
  have e : w.setCell ⟨m.B, o, none⟩ (.int .u64 v) = w.setCells m.B o (ints .u64 [v]) := rfl
  rw [e]
  exact ⟨by rw [heap_setCells_other _ _ _ _ _ h.ne]; exact h.head,
   by show (w.setCells m.B o (ints .u64 [v])).heap[m.B]? = _
      rw [heap_setCells_same m.B _ (ints .u64 [v]) o w (ints .u64 m.ws) h.body (by rw [ints_length, ints_length, h.len]; simp; omega), splice_ints]; rfl,
   by show (splice m.ws o [v]).length = 16 * m.n
      rw [length_splice _ _ _ (by rw [h.len]; simp; omega)]; exact h.len, h.lo, h.hi⟩

set_option maxHeartbeats 400000 in
theorem rHas_any (A : Nat) (m : Mem) (f : Int) (w : World) (h : RefAt w A m) :
    Calls Tryd.prog 24 #[.pointer (some ⟨A, 0, none⟩), .int .i64 f] w fun e w' => e = .returned (.bool (m.ex f 1)) ∧ w = w' := by
  have hc := h.cellA
  have h1 := h.lo
  have h2 := h.hi
  clear h
  by_cases h0 : 0 ≤ f
  · have hv := Lib.hid (show m.ex f 1 = decide (f < (m.n : Int)) from by unfold Mem.ex; rw [Bool.eq_iff_iff, decide_eq_true_eq, decide_eq_true_eq]; omega)
    go_enter Tryd.func24, Tryd.ntmps24
    go_wp2
    go_ret
    exact ⟨by rw [hv.out]; rfl, rfl⟩
  · have hv := Lib.hid (show m.ex f 1 = false from by unfold Mem.ex; simp; omega)
    go_enter Tryd.func24, Tryd.ntmps24
    go_wp2
    go_ret
    exact ⟨by rw [hv.out]; rfl, rfl⟩

set_option maxHeartbeats 400000 in
theorem rWrite_any (A : Nat) (m : Mem) (a v : Int) (w : World) (h : RefAt w A m) :
    Calls Tryd.prog 13 #[.pointer (some ⟨A, 0, none⟩), .int .i64 a, .int .u64 v] w fun e w' => e = .returned (.int .i64 (errI (m.has a))) ∧ RefAt w' A (m.wr a v) ∧ Upd (· = m.B) w w' := by
  have hc := h.cellA
  have h1 := h.lo
  have h2 := h.hi
  by_cases h0 : 0 ≤ a
  · obtain ⟨j, rfl⟩ := Int.eq_ofNat_of_zero_le h0
    by_cases h3 : j < 16 * m.n
    · have hb : m.has j = true := decide_eq_true (by omega)
      have hr := Lib.hid (show m.wr j v = m.lay j [v] from by unfold Mem.wr; rw [hb, if_pos rfl]; rfl)
      have hb' := Lib.hid hb
      have hcell := h.cellB j h3
      have hfr := h.freeB j
      clear hb
      go_enter Tryd.func13, Tryd.ntmps13
      go_wp2
      go_ret
      exact ⟨by rw [hb'.out]; rfl, by rw [hr.out]; exact h.lay1 j v h3, (Upd.refl _ _).setCell (by left; rfl) _⟩
    · have hb : m.has j = false := decide_eq_false (by omega)
      have hr := Lib.hid (show m.wr j v = m from m.wr_no _ _ hb)
      have hb' := Lib.hid hb
      clear hb
      go_enter Tryd.func13, Tryd.ntmps13
      go_wp2
      go_ret
      exact ⟨by rw [hb'.out]; rfl, by rw [hr.out]; exact h, Upd.refl _ _⟩
  · have hb : m.has a = false := decide_eq_false (by omega)
    have hr := Lib.hid (show m.wr a v = m from m.wr_no _ _ hb)
    have hb' := Lib.hid hb
    clear hb
    go_enter Tryd.func13, Tryd.ntmps13
    go_wp2
    go_ret
    exact ⟨by rw [hb'.out]; rfl, by rw [hr.out]; exact h, Upd.refl _ _⟩

theorem info_u64 : (Tryd.prog.info? 36).map (fun i => (i.zero, i.size, i.bytes)) = some (some (.int .u64 0), 1, 8) := by kernel_rfl
set_option maxHeartbeats 400000 in
theorem rNew_no (n : Int) (w : World) (h : n < 1 ∨ 256 < n) :
    Calls Tryd.prog 9 #[.int .i64 n] w fun e w' => e = .returned (.tuple #[.pointer none, .int .i64 1]) ∧ w = w' := by
  rcases h with h | h
  · go_enter Tryd.func9, Tryd.ntmps9
    go_wp2
    go_ret2
    exact ⟨rfl, rfl⟩
  · have h' : ¬ n < 1 := by omega
    go_enter Tryd.func9, Tryd.ntmps9
    go_wp2
    go_ret2
    exact ⟨rfl, rfl⟩
set_option maxHeartbeats 400000 in
theorem rNew_yes (n : Nat) (w : World) (h1 : 1 ≤ n) (h2 : n ≤ 256) :
    Calls Tryd.prog 9 #[.int .i64 n] w fun e w' => e = .returned (.tuple #[.pointer (some ⟨w.heap.size + 1, 0, none⟩), .int .i64 0]) ∧ RefAt w' (w.heap.size + 1) (memNew w.heap.size n) ∧ Upd (fun _ => False) w w' ∧ w'.heap.size = w.heap.size + 2 := by
  have hC := Lib.hid (show madeCells (Value.int .u64 0).cells (16 * n * 1) = (ints .u64 (List.replicate (16 * n) 0)).toArray from by
    show madeCells (List.replicate 1 (.int .u64 0)).toArray (16 * n * 1) = _
    rw [madeCells_same _ _ _ (by omega), ints, List.map_replicate, Nat.mul_one])
  go_enter Tryd.func9, Tryd.ntmps9
  go_wp2_with (with_reducible refine wpList_make_exact rfl (.tmp 11) (.tmp 11) 63 rfl 36 _ 1 8 Tryd.underlying63 info_u64 .i64 .i64 (16 * n) rfl rfl (by omega) (by omega) _ hC.out ?_)
  go_ret2
  refine ⟨rfl, ⟨?_, ?_, ?_, h1, h2⟩, ((Upd.refl _ _).alloc _).alloc _, by simp⟩
  · have := heap_alloc_last (w.alloc (Obj.cells (ints .u64 (List.replicate (16 * n) 0)).toArray 36)) (Obj.cells #[Value.slice (some { block := w.heap.size, off := 0 }) (16 * n) (16 * n)] 65)
    simpa [memNew] using this
  · rw [Below.heap_alloc _ _ _ (by simp [memNew]), show (memNew w.heap.size n).B = w.heap.size from rfl, heap_alloc_last]; rfl
  · simp [memNew]

theorem ex_part (m : Mem) (f k : Int) (h : 1 ≤ k) (h1 : m.ex f 1 = true) : m.ex f k = m.ex (f + k - 1) 1 := by
  obtain ⟨a1, a2, a3⟩ := of_decide_eq_true h1
  unfold Mem.ex
  rw [Bool.eq_iff_iff, decide_eq_true_eq, decide_eq_true_eq]
  omega
/-- j words of 0 from a frame on -/
def Mem.nil (m : Mem) (f j : Nat) : Mem := m.lay (16 * f) (List.replicate j 0)
theorem Mem.nil_zero (m : Mem) (f : Nat) : m.nil f 0 = m := by simp [Mem.nil, Mem.lay, splice]
theorem Mem.nil_succ (m : Mem) (f j : Nat) (h : 16 * f + j + 1 ≤ m.ws.length) : (m.nil f j).lay (16 * f + j) [0] = m.nil f (j + 1) := by
  unfold Mem.nil Mem.lay
  simp only [Mem.mk.injEq, true_and]
  have := splice_splice m.ws (16 * f) (List.replicate j 0) [0] (by simp; omega)
  rw [List.length_replicate] at this
  rw [this, List.replicate_succ']
theorem Mem.nil_all (m : Mem) (f k : Nat) : m.nil f (k * 16) = m.scrubN f k := by unfold Mem.nil Mem.scrubN; rw [Nat.mul_comm]
set_option maxHeartbeats 800000 in
theorem rZero_any (A : Nat) (m : Mem) (f : Int) (w : World) (h : RefAt w A m) :
    Calls Tryd.prog 33 #[.pointer (some ⟨A, 0, none⟩), .int .i64 f] w fun e w' => e = .returned (.bool (m.zero f)) ∧ w = w' := by
  cases hb : m.ex f 1
  · have hr := Lib.hid (show m.zero f = false from by unfold Mem.zero; rw [hb]; rfl)
    have hb' := Lib.hid hb
    clear hb
    go_enter Tryd.func33, Tryd.ntmps33
    go_wp2_with fail
    refine (rHas_any _ _ _ _ h).mono ?_
    rintro e w1 ⟨rfl, rfl⟩
    rw [hb'.out]
    go_wp2
    go_ret
    exact ⟨by rw [hr.out]; rfl, rfl⟩
  · obtain ⟨b1, b2, b3⟩ := of_decide_eq_true hb
    have h2 := h.hi
    obtain ⟨F, rfl⟩ := Int.eq_ofNat_of_zero_le b2
    have hb' := Lib.hid hb
    have hc := h.cellA
    have hyes := Lib.hid (show (∀ i : Nat, i < 16 → m.at (16 * F + i) = 0) → m.zero F = true from fun hz => m.zero_of h.okm _ hb fun i hi => by rw [Int.toNat_natCast, Nat.mul_comm]; exact hz i hi)
    have hno := Lib.hid (show ∀ j : Nat, j < 16 → m.at (16 * F + j) ≠ 0 → m.zero F = false from fun j hj hne => by
      unfold Mem.zero
      rw [hb, Bool.true_and, decide_eq_false_iff_not, Int.toNat_natCast]
      intro e
      apply hne
      rw [Nat.mul_comm, ← m.fr_getD F j hj, e]
      exact getD_replicate0 16 j)
    clear hb
    go_enter Tryd.func33, Tryd.ntmps33
    go_wp2_with fail
    refine (rHas_any _ _ _ _ h).mono ?_
    rintro e w1 ⟨rfl, rfl⟩
    rw [hb'.out]
    go_wp2_with fail
    go_loop [5] (fun t => ∃ j : Nat, j ≤ 16 ∧ t = .int .i64 j ∧ Hid (∀ i : Nat, i < j → m.at (16 * F + i) = 0)) (fun t => 16 - (intOf t).toNat)
    case atStart => exact ⟨0, by omega, rfl, fun i hi => absurd hi (by omega)⟩
    case round =>
      obtain ⟨j, hj, rfl, hz⟩ := hrel
      by_cases hlt : j < 16
      · have hx := h.cellB (16 * F + j) (by omega)
        by_cases hq : m.at (16 * F + j) = 0
        · rw [hq] at hx
          have HQ := Lib.hid hq
          clear hq
          go_wp2
          go_round
          case rel => exact ⟨j + 1, by omega, by go_num, fun i hi => by
            by_cases e : i = j
            · rw [e]; exact HQ.out
            · exact hz.out i (by omega)⟩
          case measure => simp [intOf]; omega
        · have hr := Lib.hid (hno.out j hlt hq)
          generalize m.at (16 * F + j) = x at *
          have hx0 : (x != 0) = true := by simp [hq]
          clear hq
          go_wp2
          go_ret
          exact ⟨by rw [hr.out]; rfl, rfl⟩
      · have e : j = 16 := by omega
        subst e
        have hr := Lib.hid (hyes.out hz.out)
        go_wp2
        go_ret
        exact ⟨by rw [hr.out]; rfl, rfl⟩
theorem Mem.lay_step (m : Mem) (o : Nat) (L : List Int) (j : Nat) (hj : j < L.length) (h : o + L.length ≤ m.ws.length) : (m.lay o (L.take j)).lay (o + j) [L.getD j 0] = m.lay o (L.take (j + 1)) := by
  unfold Mem.lay
  simp only [Mem.mk.injEq, true_and]
  have hl : (L.take j).length = j := by simp; omega
  have := splice_splice m.ws o (L.take j) [L.getD j 0] (by rw [hl]; simp; omega)
  rw [hl] at this
  rw [this, List.take_add_one, List.getElem?_eq_getElem hj]
  simp [List.getElem?_eq_getElem hj]
theorem Upd.eqB {a b c : World} {B : Nat} (h : Upd (fun _ => False) a b) (k : Upd (· = B) b c) : Upd (· = B) a c :=
  ⟨k.os.trans h.os, k.tape.trans h.tape, k.output.trans h.output, Nat.le_trans h.size k.size, fun i hi hs => (k.block i (Nat.lt_of_lt_of_le hi h.size) hs).trans (h.block i hi (fun x => x))⟩
end Go.Proofs.YtbakhipabeaojaaDoor
