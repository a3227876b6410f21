/-
  Package memory: New, Write.
-/
import Derived.Test.YtbakhipabeaojaaDoorMemA
import Derived.Laws.CopyOwn
import Derived.Deep.WholeRow
namespace Go.Proofs.YtbakhipabeaojaaDoor
open Go.ChangeShapes Go.WideShapes Go.ChangeAt Go.RowKit

/-- the memory with words laid over it -/
def Mem.lay (m : Mem) (o : Nat) (vs : List Int) : Mem := { m with ws := splice m.ws o vs }
/-- a word written -/
def Mem.wr (m : Mem) (a : Int) (v : Int) : Mem := if m.has a then m.lay a.toNat [v] else m
theorem MemAt.lay {w : World} {A : Nat} {m : Mem} (h : MemAt w A m) (o : Nat) (vs : List Int) (hf : o + vs.length ≤ 16 * m.n) : MemAt (w.setCells m.B o (ints .u64 vs)) A (m.lay o vs) :=
  ⟨by rw [heap_setCells_other _ _ _ _ _ h.ne]; exact h.head,
   by show (w.setCells m.B o (ints .u64 vs)).heap[m.B]? = _
      rw [heap_setCells_same m.B _ (ints .u64 vs) o w (ints .u64 m.ws) h.body (by rw [ints_length, ints_length, h.len]; exact hf), splice_ints]; rfl,
   by show (splice m.ws o vs).length = 16 * m.n
      rw [length_splice _ _ _ (by rw [h.len]; exact hf)]; exact h.len, h.lo, h.hi⟩
theorem Mem.wr_B (m : Mem) (a v : Int) : (m.wr a v).B = m.B := by unfold Mem.wr; split <;> rfl
theorem Mem.wr_n (m : Mem) (a v : Int) : (m.wr a v).n = m.n := by unfold Mem.wr; split <;> rfl
theorem Mem.lay_B (m : Mem) (a : Nat) (v : List Int) : (m.lay a v).B = m.B := rfl
theorem Mem.lay_n (m : Mem) (a : Nat) (v : List Int) : (m.lay a v).n = m.n := rfl

set_option maxHeartbeats 400000 in
theorem write_any (A : Nat) (m : Mem) (a v : Int) (w : World) (h : MemAt w A m) :
    Calls Tryd.prog 12 #[.pointer (some ⟨A, 0, none⟩), .int .i64 a, .int .u64 v] w fun e w' => e = .returned (.int .i64 (errI (m.has a))) ∧ MemAt w' A (m.wr a v) ∧ Upd (· = m.B) w w' := by
  have hc := h.cellA
  have h1 := h.lo
  have h2 := h.hi
  cases hb : m.has a
  · have hr := Lib.hid (show m.wr a v = m from by unfold Mem.wr; rw [hb]; rfl)
    have hb' := Lib.hid hb
    clear hb
    go_enter Tryd.func12, Tryd.ntmps12
    go_wp2_with fail
    refine (contains_any A m a _ h).mono ?_
    rintro e w' ⟨rfl, rfl⟩
    rw [hb'.out]
    go_wp2
    go_ret
    exact ⟨rfl, by rw [hr.out]; exact h, Upd.refl _ _⟩
  · obtain ⟨b1, b2⟩ := of_decide_eq_true hb
    obtain ⟨j, rfl⟩ := Int.eq_ofNat_of_zero_le b1
    have hr := Lib.hid (show m.wr j v = m.lay (j / 16 * 16 + j % 16) [v] from by unfold Mem.wr; rw [hb, if_pos rfl, Int.toNat_natCast, show j / 16 * 16 + j % 16 = j from by omega])
    have hcell := h.cellB (j / 16 * 16 + j % 16) (by omega)
    have hfr := h.freeB (j / 16 * 16 + j % 16)
    have hb' := Lib.hid hb
    clear hb
    go_enter Tryd.func12, Tryd.ntmps12
    go_wp2_with fail
    refine (contains_any A m _ _ h).mono ?_
    rintro e w' ⟨rfl, rfl⟩
    rw [hb'.out]
    go_wp2
    go_ret
    exact ⟨rfl, by rw [hr.out]; exact h.lay _ [v] (by simp; omega), (Upd.refl _ _).setCell (by left; rfl) _⟩

/-- a new memory -/
def memNew (B n : Nat) : Mem := ⟨B, n, List.replicate (16 * n) 0⟩
theorem info_words : (Tryd.prog.info? 70).map (fun i => (i.zero, i.size, i.bytes)) = some (some (.agg (List.replicate 16 (.int .u64 0)).toArray), 16, 128) := by kernel_rfl
set_option maxHeartbeats 400000 in
theorem new_no (n : Int) (w : World) (h : n < 1 ∨ 256 < n) :
    Calls Tryd.prog 8 #[.int .i64 n] w fun e w' => e = .returned (.tuple #[.pointer none, .int .i64 1]) ∧ w = w' := by
  rcases h with h | h
  · go_enter Tryd.func8, Tryd.ntmps8
    go_wp2
    go_ret2
    exact ⟨rfl, rfl⟩
  · have h' : ¬ n < 1 := by omega
    go_enter Tryd.func8, Tryd.ntmps8
    go_wp2
    go_ret2
    exact ⟨rfl, rfl⟩
set_option maxHeartbeats 400000 in
theorem new_yes (n : Nat) (w : World) (h1 : 1 ≤ n) (h2 : n ≤ 256) :
    Calls Tryd.prog 8 #[.int .i64 n] w fun e w' => e = .returned (.tuple #[.pointer (some ⟨w.heap.size + 1, 0, none⟩), .int .i64 0]) ∧ MemAt w' (w.heap.size + 1) (memNew w.heap.size n) ∧ Upd (fun _ => False) w w' ∧ w'.heap.size = w.heap.size + 2 := by
  have hC := Lib.hid (show madeCells (Value.agg (List.replicate 16 (.int .u64 0)).toArray).cells (n * 16) = (ints .u64 (List.replicate (16 * n) 0)).toArray from by
    show madeCells (List.replicate 16 (.int .u64 0)).toArray (n * 16) = _
    rw [madeCells_same _ _ _ (by omega), ints, List.map_replicate, Nat.mul_comm])
  go_enter Tryd.func8, Tryd.ntmps8
  go_wp2_with (with_reducible refine wpList_make_exact rfl (.tmp 10) (.tmp 10) 60 rfl 70 _ 16 128 Tryd.underlying60 info_words .i64 .i64 n rfl rfl (by omega) (by omega) _ hC.out ?_)
  go_ret2
  refine ⟨rfl, ⟨?_, ?_, ?_, h1, h2⟩, ((Upd.refl _ _).alloc _).alloc _, by simp⟩
  · have := heap_alloc_last (w.alloc (Obj.cells (ints .u64 (List.replicate (16 * n) 0)).toArray 70)) (Obj.cells #[Value.slice (some { block := w.heap.size, off := 0 }) n n] 62)
    simpa [memNew] using this
  · rw [Below.heap_alloc _ _ _ (by simp [memNew]), show (memNew w.heap.size n).B = w.heap.size from rfl, heap_alloc_last]; rfl
  · simp [memNew]
end Go.Proofs.YtbakhipabeaojaaDoor
