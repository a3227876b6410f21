/-
  The document's own memory (trunnionref02): contracts of its functions, over the same data as package memory's.
-/
import Derived.Test.YtmobhojblclmjaaMemF
import Derived.Deep.DeepCutAuto
namespace Go.Proofs.Ytmobhojblclmjaa
open Go.ChangeShapes Go.WideShapes Go.ChangeAt Go.RowKit

structure RefAt (w : World) (A : Nat) (m : Mem) : Prop where
  head : w.heap[A]? = some (.cells #[.slice (some ⟨m.B, 0, none⟩) (16 * m.n) (16 * m.n)] 72 (0, 0))
  body : w.heap[m.B]? = some (.cells (ints .u64 m.ws).toArray 37 (0, 0))
  len : m.ws.length = 16 * m.n
  lo : 1 ≤ m.n
  hi : m.n ≤ 256
theorem RefAt.ne {w : World} {A : Nat} {m : Mem} (h : RefAt w A m) : A ≠ m.B := by
  intro e
  have h1 := h.head
  rw [e, h.body] at h1
  simp at h1
theorem RefAt.kept {S : Nat → Prop} {w w' : World} {A : Nat} {m : Mem} (h : RefAt w A m) (u : Upd S w w') (h1 : ¬ S A) (h2 : ¬ S m.B) : RefAt w' A m :=
  ⟨u.at h.head h1, u.at h.body h2, h.len, h.lo, h.hi⟩
theorem RefAt.cellA {w : World} {A : Nat} {m : Mem} (h : RefAt w A m) : w.cell? ⟨A, 0, none⟩ = some (.slice (some ⟨m.B, 0, none⟩) (16 * m.n) (16 * m.n)) := by
  rw [cell_of_row w A 0 _ _ _ h.head]; rfl
theorem RefAt.cellB {w : World} {A : Nat} {m : Mem} (h : RefAt w A m) (i : Nat) (hi : i < 16 * m.n) : w.cell? ⟨m.B, i, none⟩ = some (.int .u64 (m.at i)) :=
  cell_block h.body i (by rw [h.len]; exact hi)
theorem RefAt.freeB {w : World} {A : Nat} {m : Mem} (h : RefAt w A m) (i : Nat) : w.frozen? ⟨m.B, i, none⟩ = false := frozen_block h.body i
theorem RefAt.okm {w : World} {A : Nat} {m : Mem} (h : RefAt w A m) : m.ok := h.len
theorem RefAt.lay1 {w : World} {A : Nat} {m : Mem} (h : RefAt w A m) (o : Nat) (v : Int) (hf : o < 16 * m.n) : RefAt (w.setCell ⟨m.B, o, none⟩ (.int .u64 v)) A (m.lay o [v]) := by
  have e : w.setCell ⟨m.B, o, none⟩ (.int .u64 v) = w.setCells m.B o (ints .u64 [v]) := rfl
  rw [e]
  exact ⟨by rw [heap_setCells_other _ _ _ _ _ h.ne]; exact h.head,
   by show (w.setCells m.B o (ints .u64 [v])).heap[m.B]? = _
      rw [heap_setCells_same m.B _ (ints .u64 [v]) o w (ints .u64 m.ws) h.body (by rw [ints_length, ints_length, h.len]; simp; omega), splice_ints]; rfl,
   by show (splice m.ws o [v]).length = 16 * m.n
      rw [length_splice _ _ _ (by rw [h.len]; simp; omega)]; exact h.len, h.lo, h.hi⟩

set_option maxHeartbeats 400000 in
theorem rHas_any (A : Nat) (m : Mem) (f : Int) (w : World) (h : RefAt w A m) :
    Calls Try.prog 43 #[.pointer (some ⟨A, 0, none⟩), .int .i64 f] w fun e w' => e = .returned (.bool (m.ex f 1)) ∧ w = w' := by
  have hc := h.cellA
  have h1 := h.lo
  have h2 := h.hi
  clear h
  by_cases h0 : 0 ≤ f
  · have hv := Lib.hid (show m.ex f 1 = decide (f < (m.n : Int)) from by unfold Mem.ex; rw [Bool.eq_iff_iff, decide_eq_true_eq, decide_eq_true_eq]; omega)
    go_enter Try.func43, Try.ntmps43
    go_wp2
    go_ret
    exact ⟨by rw [hv.out]; rfl, rfl⟩
  · have hv := Lib.hid (show m.ex f 1 = false from by unfold Mem.ex; simp; omega)
    go_enter Try.func43, Try.ntmps43
    go_wp2
    go_ret
    exact ⟨by rw [hv.out]; rfl, rfl⟩

set_option maxHeartbeats 400000 in
theorem rRead_any (A : Nat) (m : Mem) (a : Int) (w : World) (h : RefAt w A m) :
    Calls Try.prog 27 #[.pointer (some ⟨A, 0, none⟩), .int .i64 a] w fun e w' => e = .returned (.tuple #[.int .u64 (m.rd a), .int .i64 (errI (m.has a))]) ∧ w = w' := by
  have hc := h.cellA
  have h1 := h.lo
  have h2 := h.hi
  by_cases h0 : 0 ≤ a
  · obtain ⟨j, rfl⟩ := Int.eq_ofNat_of_zero_le h0
    by_cases h3 : j < 16 * m.n
    · have hb : m.has j = true := decide_eq_true (by omega)
      have hr := Lib.hid (show m.rd j = m.at j from by unfold Mem.rd; rw [hb, if_pos rfl]; rfl)
      have hb' := Lib.hid hb
      have hcell := h.cellB j h3
      clear hb h
      go_enter Try.func27, Try.ntmps27
      go_wp2
      go_ret2
      exact ⟨by rw [hr.out, hb'.out]; rfl, rfl⟩
    · have hb : m.has j = false := decide_eq_false (by omega)
      have hr := Lib.hid (show m.rd j = 0 from by unfold Mem.rd; rw [hb]; rfl)
      have hb' := Lib.hid hb
      clear hb h
      go_enter Try.func27, Try.ntmps27
      go_wp2
      go_ret2
      exact ⟨by rw [hr.out, hb'.out]; rfl, rfl⟩
  · have hb : m.has a = false := decide_eq_false (by omega)
    have hr := Lib.hid (show m.rd a = 0 from by unfold Mem.rd; rw [hb]; rfl)
    have hb' := Lib.hid hb
    clear hb h
    go_enter Try.func27, Try.ntmps27
    go_wp2
    go_ret2
    exact ⟨by rw [hr.out, hb'.out]; rfl, rfl⟩

set_option maxHeartbeats 400000 in
theorem rWrite_any (A : Nat) (m : Mem) (a v : Int) (w : World) (h : RefAt w A m) :
    Calls Try.prog 20 #[.pointer (some ⟨A, 0, none⟩), .int .i64 a, .int .u64 v] w fun e w' => e = .returned (.int .i64 (errI (m.has a))) ∧ RefAt w' A (m.wr a v) ∧ Upd (· = m.B) w w' := by
  have hc := h.cellA
  have h1 := h.lo
  have h2 := h.hi
  by_cases h0 : 0 ≤ a
  · obtain ⟨j, rfl⟩ := Int.eq_ofNat_of_zero_le h0
    by_cases h3 : j < 16 * m.n
    · have hb : m.has j = true := decide_eq_true (by omega)
      have hr := Lib.hid (show m.wr j v = m.lay j [v] from by unfold Mem.wr; rw [hb, if_pos rfl]; rfl)
      have hb' := Lib.hid hb
      have hcell := h.cellB j h3
      have hfr := h.freeB j
      clear hb
      go_enter Try.func20, Try.ntmps20
      go_wp2
      go_ret
      exact ⟨by rw [hb'.out]; rfl, by rw [hr.out]; exact h.lay1 j v h3, (Upd.refl _ _).setCell (by left; rfl) _⟩
    · have hb : m.has j = false := decide_eq_false (by omega)
      have hr := Lib.hid (show m.wr j v = m from m.wr_no _ _ hb)
      have hb' := Lib.hid hb
      clear hb
      go_enter Try.func20, Try.ntmps20
      go_wp2
      go_ret
      exact ⟨by rw [hb'.out]; rfl, by rw [hr.out]; exact h, Upd.refl _ _⟩
  · have hb : m.has a = false := decide_eq_false (by omega)
    have hr := Lib.hid (show m.wr a v = m from m.wr_no _ _ hb)
    have hb' := Lib.hid hb
    clear hb
    go_enter Try.func20, Try.ntmps20
    go_wp2
    go_ret
    exact ⟨by rw [hb'.out]; rfl, by rw [hr.out]; exact h, Upd.refl _ _⟩

theorem info_u64 : (Try.prog.info? 37).map (fun i => (i.zero, i.size, i.bytes)) = some (some (.int .u64 0), 1, 8) := by kernel_rfl
set_option maxHeartbeats 400000 in
theorem rNew_no (n : Int) (w : World) (h : n < 1 ∨ 256 < n) :
    Calls Try.prog 12 #[.int .i64 n] w fun e w' => e = .returned (.tuple #[.pointer none, .int .i64 1]) ∧ w = w' := by
  rcases h with h | h
  · go_enter Try.func12, Try.ntmps12
    go_wp2
    go_ret2
    exact ⟨rfl, rfl⟩
  · have h' : ¬ n < 1 := by omega
    go_enter Try.func12, Try.ntmps12
    go_wp2
    go_ret2
    exact ⟨rfl, rfl⟩
set_option maxHeartbeats 400000 in
theorem rNew_yes (n : Nat) (w : World) (h1 : 1 ≤ n) (h2 : n ≤ 256) :
    Calls Try.prog 12 #[.int .i64 n] w fun e w' => e = .returned (.tuple #[.pointer (some ⟨w.heap.size + 1, 0, none⟩), .int .i64 0]) ∧ RefAt w' (w.heap.size + 1) (memNew w.heap.size n) ∧ Upd (fun _ => False) w w' ∧ w'.heap.size = w.heap.size + 2 := by
  have hC := Lib.hid (show madeCells (Value.int .u64 0).cells (16 * n * 1) = (ints .u64 (List.replicate (16 * n) 0)).toArray from by
    show madeCells (List.replicate 1 (.int .u64 0)).toArray (16 * n * 1) = _
    rw [madeCells_same _ _ _ (by omega), ints, List.map_replicate, Nat.mul_one])
  go_enter Try.func12, Try.ntmps12
  go_wp2_with (with_reducible refine wpList_make_exact rfl (.tmp 11) (.tmp 11) 70 rfl 37 _ 1 8 Try.underlying70 info_u64 .i64 .i64 (16 * n) rfl rfl (by omega) (by omega) _ hC.out ?_)
  go_ret2
  refine ⟨rfl, ⟨?_, ?_, ?_, h1, h2⟩, ((Upd.refl _ _).alloc _).alloc _, by simp⟩
  · have := heap_alloc_last (w.alloc (Obj.cells (ints .u64 (List.replicate (16 * n) 0)).toArray 37)) (Obj.cells #[Value.slice (some { block := w.heap.size, off := 0 }) (16 * n) (16 * n)] 72)
    simpa [memNew] using this
  · rw [Below.heap_alloc _ _ _ (by simp [memNew]), show (memNew w.heap.size n).B = w.heap.size from rfl, heap_alloc_last]; rfl
  · simp [memNew]

theorem ex_part (m : Mem) (f k : Int) (h : 1 ≤ k) (h1 : m.ex f 1 = true) : m.ex f k = m.ex (f + k - 1) 1 := by
  obtain ⟨a1, a2, a3⟩ := of_decide_eq_true h1
  unfold Mem.ex
  rw [Bool.eq_iff_iff, decide_eq_true_eq, decide_eq_true_eq]
  omega
/-- j words of 0 from a frame on -/
def Mem.nil (m : Mem) (f j : Nat) : Mem := m.lay (16 * f) (List.replicate j 0)
theorem Mem.nil_zero (m : Mem) (f : Nat) : m.nil f 0 = m := by simp [Mem.nil, Mem.lay, splice]
theorem Mem.nil_succ (m : Mem) (f j : Nat) (h : 16 * f + j + 1 ≤ m.ws.length) : (m.nil f j).lay (16 * f + j) [0] = m.nil f (j + 1) := by
  unfold Mem.nil Mem.lay
  simp only [Mem.mk.injEq, true_and]
  have := splice_splice m.ws (16 * f) (List.replicate j 0) [0] (by simp; omega)
  rw [List.length_replicate] at this
  rw [this, List.replicate_succ']
theorem Mem.nil_all (m : Mem) (f k : Nat) : m.nil f (k * 16) = m.scrubN f k := by unfold Mem.nil Mem.scrubN; rw [Nat.mul_comm]
set_option maxHeartbeats 800000 in
theorem rScrub_no (A : Nat) (m : Mem) (f k : Int) (w : World) (h : RefAt w A m) (hb : m.ex f k = false) :
    Calls Try.prog 35 #[.pointer (some ⟨A, 0, none⟩), .int .i64 f, .int .i64 k] w fun e w' => e = .returned (.int .i64 1) ∧ w = w' := by
  have h2 := h.hi
  by_cases c1 : 1 ≤ k
  · by_cases c2 : k ≤ 256
    · cases c3 : m.ex f 1
      · have C3 := Lib.hid c3
        clear c3 hb
        go_enter Try.func35, Try.ntmps35
        go_wp2_with fail
        refine (rHas_any _ _ _ _ h).mono ?_
        rintro e w1 ⟨rfl, rfl⟩
        rw [C3.out]
        go_wp2
        go_ret
        exact ⟨rfl, rfl⟩
      · have hq := ex_part m f k c1 c3
        rw [hb] at hq
        obtain ⟨a1, a2, a3⟩ := of_decide_eq_true c3
        have C3 := Lib.hid c3
        have C4 := Lib.hid hq.symm
        clear c3 hb hq
        go_enter Try.func35, Try.ntmps35
        go_wp2_with fail
        refine (rHas_any _ _ _ _ h).mono ?_
        rintro e w1 ⟨rfl, rfl⟩
        rw [C3.out]
        go_wp2_with fail
        refine (rHas_any _ _ _ _ h).mono ?_
        rintro e w1 ⟨rfl, rfl⟩
        rw [C4.out]
        go_wp2
        go_ret
        exact ⟨rfl, rfl⟩
    · clear hb
      go_enter Try.func35, Try.ntmps35
      go_wp2
      go_ret
      exact ⟨rfl, rfl⟩
  · clear hb
    go_enter Try.func35, Try.ntmps35
    go_wp2
    go_ret
    exact ⟨rfl, rfl⟩
set_option maxHeartbeats 800000 in
theorem rScrub_yes (A : Nat) (m : Mem) (F K : Nat) (w : World) (h : RefAt w A m) (hb : m.ex F K = true) :
    Calls Try.prog 35 #[.pointer (some ⟨A, 0, none⟩), .int .i64 F, .int .i64 K] w fun e w' => e = .returned (.int .i64 0) ∧ RefAt w' A (m.scrubN F K) ∧ Upd (· = m.B) w w' := by
  have h2 := h.hi
  have hl := h.len
  obtain ⟨a1, a2, a3⟩ := of_decide_eq_true hb
  have c3 : m.ex F 1 = true := decide_eq_true (by omega)
  have C3 := Lib.hid c3
  have C4 := Lib.hid (show m.ex ((F : Int) + K - 1) 1 = true from by rw [← ex_part m F K a1 c3]; exact hb)
  clear c3 hb
  go_enter Try.func35, Try.ntmps35
  go_wp2_with fail
  refine (rHas_any _ _ _ _ h).mono ?_
  rintro e w1 ⟨rfl, rfl⟩
  rw [C3.out]
  go_wp2_with fail
  refine (rHas_any _ _ _ _ h).mono ?_
  rintro e w1 ⟨rfl, rfl⟩
  rw [C4.out]
  go_wp2_with fail
  go_loopw [7] (fun t wr => ∃ j : Nat, j ≤ K * 16 ∧ t = .int .i64 (16 * F + j : Nat) ∧ RefAt wr A (m.nil F j) ∧ Upd (· = m.B) w wr) (fun t _ => 16 * F + K * 16 - (intOf t).toNat)
  case atStart => exact ⟨0, by omega, by simp, by rw [Mem.nil_zero]; exact h, Upd.refl _ _⟩
  case round =>
    obtain ⟨j, hj, rfl, hM, hU⟩ := hrel
    by_cases hlt : j < K * 16
    · have hc := hM.cellA
      have hx := hM.cellB (16 * F + j) (by show _ < 16 * m.n; omega)
      have hf := hM.freeB (16 * F + j)
      have hn := Lib.hid (hM.lay1 (16 * F + j) 0 (by show _ < 16 * m.n; omega))
      rw [m.nil_succ F j (by omega)] at hn
      rw [show (m.nil F j).B = m.B from rfl] at *
      rw [show (m.nil F j).n = m.n from rfl] at *
      generalize (m.nil F j).at (16 * F + j) = x at hx
      go_wp2
      go_roundw
      case rel => exact ⟨j + 1, by omega, by go_num, hn.out, hU.setCell (by left; rfl) _⟩
      case measure => simp [intOf]; omega
    · have e : j = K * 16 := by omega
      subst e
      rw [Mem.nil_all] at hM
      go_wp2
      go_ret
      exact ⟨rfl, hM, hU⟩
theorem rScrub_any (A : Nat) (m : Mem) (f k : Int) (w : World) (h : RefAt w A m) :
    Calls Try.prog 35 #[.pointer (some ⟨A, 0, none⟩), .int .i64 f, .int .i64 k] w fun e w' => e = .returned (.int .i64 (errI (m.ex f k))) ∧ RefAt w' A (m.scrub f k) ∧ Upd (· = m.B) w w' := by
  cases hb : m.ex f k
  · refine (rScrub_no A m f k w h hb).mono ?_
    rintro e w' ⟨rfl, rfl⟩
    exact ⟨rfl, by unfold Mem.scrub; rw [hb]; exact h, Upd.refl _ _⟩
  · obtain ⟨a1, a2, a3⟩ := of_decide_eq_true hb
    obtain ⟨F, rfl⟩ := Int.eq_ofNat_of_zero_le a2
    obtain ⟨K, rfl⟩ := Int.eq_ofNat_of_zero_le (by omega : 0 ≤ k)
    refine (rScrub_yes A m F K w h hb).mono ?_
    rintro e w' ⟨rfl, hM, hU⟩
    exact ⟨rfl, by unfold Mem.scrub; rw [hb, if_pos rfl]; exact hM, hU⟩
theorem Mem.lay_step (m : Mem) (o : Nat) (L : List Int) (j : Nat) (hj : j < L.length) (h : o + L.length ≤ m.ws.length) : (m.lay o (L.take j)).lay (o + j) [L.getD j 0] = m.lay o (L.take (j + 1)) := by
  unfold Mem.lay
  simp only [Mem.mk.injEq, true_and]
  have hl : (L.take j).length = j := by simp; omega
  have := splice_splice m.ws o (L.take j) [L.getD j 0] (by rw [hl]; simp; omega)
  rw [hl] at this
  rw [this, List.take_add_one, List.getElem?_eq_getElem hj]
  simp [List.getElem?_eq_getElem hj]
theorem Upd.eqB {a b c : World} {B : Nat} (h : Upd (fun _ => False) a b) (k : Upd (· = B) b c) : Upd (· = B) a c :=
  ⟨k.os.trans h.os, k.tape.trans h.tape, k.output.trans h.output, Nat.le_trans h.size k.size, fun i hi hs => (k.block i (Nat.lt_of_lt_of_le hi h.size) hs).trans (h.block i hi (fun x => x))⟩
end Go.Proofs.Ytmobhojblclmjaa
