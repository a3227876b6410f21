/-
  The document's own allocator: New, and marks that are set.
-/
import Derived.Test.YtmobhojblclmjaaBuR
namespace Go.Proofs.Ytmobhojblclmjaa
open Go.ChangeShapes Go.WideShapes Go.ChangeAt Go.RowKit

def updF (F : Nat → Bool) (i : Nat) (v : Bool) : Nat → Bool := fun j => if j = i then v else F j
theorem fcells_set (n : Nat) (F : Nat → Bool) (i : Nat) (v : Bool) : (fcells n F).set i (.bool v) = fcells n (updF F i v) := by
  apply List.ext_getElem
  · simp [fcells]
  · intro j h1 h2
    simp only [fcells, List.getElem_set, List.getElem_map, List.getElem_range, updF]
    by_cases e : i = j
    · subst e; simp
    · rw [if_neg e, if_neg (fun e' => e e'.symm)]
theorem fcells_congr {n : Nat} {F G : Nat → Bool} (h : ∀ j, j < n → F j = G j) : fcells n F = fcells n G := by
  unfold fcells
  exact List.map_congr_left fun j hj => by rw [h j (List.mem_range.1 hj)]
theorem fcells_none (n : Nat) (F : Nat → Bool) (h : ∀ j, j < n → F j = false) : fcells n F = List.replicate n (.bool false) := by
  apply List.ext_getElem
  · simp [fcells]
  · intro j h1 h2
    simp [fcells] at h1 ⊢
    exact h j h1
/-- from a to b -/
def betw (a b : Nat) : Nat → Bool := fun j => decide (a ≤ j) && decide (j < b)
theorem betw_step (n a i : Nat) (h : a ≤ i) : fcells n (updF (betw a i) i true) = fcells n (betw a (i + 1)) := fcells_congr fun j _ => by
  unfold updF betw
  by_cases e : j = i
  · rw [if_pos e]; simp; omega
  · rw [if_neg e]
    by_cases h1 : a ≤ j
    · by_cases h2 : j < i
      · simp [h1, h2]; omega
      · simp [h1, h2]; omega
    · simp [h1]

theorem info_bool : (Try.prog.info? 4).map (fun i => (i.zero, i.size, i.bytes)) = some (some (.bool false), 1, 1) := by kernel_rfl

set_option maxHeartbeats 1000000 in
theorem rbNew_no (MP : Nat) (m : Mem) (res : Int) (w : World) (h : RefAt w MP m) (hb : res < 0 ∨ (m.n : Int) < res) :
    Calls Try.prog 14 #[.pointer (some ⟨MP, 0, none⟩), .int .i64 res] w fun e w' => e = .returned (.tuple #[.pointer none, .int .i64 1]) ∧ w = w' := by
  have hc := h.cellA
  have h1 := h.lo
  have h2 := h.hi
  by_cases h0 : res < 0
  · go_enter Try.func14, Try.ntmps14
    go_wp2
    go_ret2
    exact ⟨rfl, rfl⟩
  · have h3 : (m.n : Int) < res := by omega
    have hd : (16 * (m.n : Int)).tdiv 16 = m.n := by rw [Int.mul_comm]; exact Int.mul_tdiv_cancel _ (by decide)
    have hd2 : 16 * (m.n : Int) / 16 = m.n := by omega
    clear hb
    go_enter Try.func14, Try.ntmps14
    go_wp2
    go_ret2
    exact ⟨rfl, rfl⟩

set_option maxRecDepth 100000 in
set_option maxHeartbeats 2000000 in
theorem rbNew_yes (MP : Nat) (m : Mem) (res : Nat) (w : World) (h : RefAt w MP m) (hb : res ≤ m.n) :
    Calls Try.prog 14 #[.pointer (some ⟨MP, 0, none⟩), .int .i64 res] w fun e w' => e = .returned (.tuple #[.pointer (some ⟨w.heap.size + 1, 0, none⟩), .int .i64 0]) ∧ RBud w' (w.heap.size + 1) MP w.heap.size (.slice none 0 0) (bud0 m.n res) ∧ Below w.heap.size w w' := by
  have hc := h.cellA
  have h1 := h.lo
  have h2 := h.hi
  have hd2 : 16 * (m.n : Int) / 16 = m.n := by omega
  have hC := Lib.hid (show madeCells (Value.bool false).cells (m.n * 1) = (fcells m.n (betw res res)).toArray from by
    rw [fcells_none m.n _ (fun j _ => by unfold betw; simp), Nat.mul_one]
    exact madeCells_same (.bool false) 1 m.n (by decide))
  obtain ⟨N, hN⟩ : ∃ N, w.heap.size = N := ⟨_, rfl⟩
  rw [hN]
  go_enter Try.func14, Try.ntmps14
  go_wp2_with (with_reducible refine wpList_make_exact rfl (.tmp 30) (.tmp 30) 42 rfl 4 _ 1 1 Try.underlying42 info_bool .i64 .i64 m.n rfl rfl (by omega) (by omega) _ hC.out ?_)
  obtain ⟨W, hWe⟩ : ∃ W, (w.alloc (.cells (fcells m.n (betw res res)).toArray 4)).alloc (.cells #[.pointer (some ⟨MP, 0, none⟩), .slice (some ⟨N, 0, none⟩) m.n m.n, .slice none 0 0] 45) = W := ⟨_, rfl⟩
  have hB : Below N w W := by
    rw [← hWe, ← hN]
    exact ((Below.refl _ w).alloc (Nat.le_refl _) _).alloc (by simp) _
  have hf : W.heap[N]? = some (.cells (fcells m.n (betw res res)).toArray 4 (0, 0)) := by
    rw [← hWe, Below.heap_alloc _ _ _ (by simp; omega), ← hN]
    exact heap_alloc_last w _
  have hh : W.heap[N + 1]? = some (.cells #[.pointer (some ⟨MP, 0, none⟩), .slice (some ⟨N, 0, none⟩) m.n m.n, .slice none 0 0] 45 (0, 0)) := by
    rw [← hWe]
    have := heap_alloc_last (w.alloc (.cells (fcells m.n (betw res res)).toArray 4)) (.cells #[.pointer (some ⟨MP, 0, none⟩), .slice (some ⟨N, 0, none⟩) m.n m.n, .slice none 0 0] 45)
    rwa [World.size_alloc, hN] at this
  rw [hWe]
  clear hWe hc
  go_loopw [7] (fun t wr => ∃ i : Nat, res ≤ i ∧ i ≤ m.n ∧ t = .int .i64 i ∧ Hid (wr.heap[N]? = some (.cells (fcells m.n (betw res i)).toArray 4 (0, 0))) ∧ Hid (wr.heap[N + 1]? = some (.cells #[.pointer (some ⟨MP, 0, none⟩), .slice (some ⟨N, 0, none⟩) m.n m.n, .slice none 0 0] 45 (0, 0))) ∧ Below N w wr) (fun t _ => 256 - (intOf t).toNat)
  case atStart => exact ⟨res, Nat.le_refl _, hb, rfl, Lib.hid hf, Lib.hid hh, hB⟩
  case round =>
    obtain ⟨i, i1, i2, rfl, f1, h1', B1⟩ := hrel
    have hc1 : wr.cell? ⟨N + 1, 1, none⟩ = some (.slice (some ⟨N, 0, none⟩) m.n m.n) := by rw [cell_of_row wr (N + 1) 1 _ _ _ h1'.out]; rfl
    by_cases hlt : i < m.n
    · have hci := fcell f1.out i hlt
      have hfz := frozen_block f1.out i
      have hset := Lib.hid (show (wr.setCell ⟨N, i, none⟩ (.bool true)).heap[N]? = some (.cells (fcells m.n (betw res (i + 1))).toArray 4 (0, 0)) from by rw [heap_setCell_same f1.out i (.bool true), fcells_set, betw_step m.n res i i1])
      have hoth := Lib.hid (show (wr.setCell ⟨N, i, none⟩ (.bool true)).heap[N + 1]? = _ from (Below.heap_setCell _ _ _ _ (by simp)).trans h1'.out)
      generalize betw res i i = bi at hci
      go_wp2
      go_roundw
      case rel => exact ⟨i + 1, by omega, by omega, by go_num, hset, hoth, B1.setCell (p := ⟨N, i, none⟩) (by simp) _⟩
      case measure => simp [intOf]; omega
    · have e : i = m.n := by omega
      subst e
      go_wp2
      go_ret2
      exact ⟨rfl, ⟨h1'.out, f1.out, World.ownsRow_nil _ _ _ _, bud0_ok h1 h2 hb⟩, B1⟩
end Go.Proofs.Ytmobhojblclmjaa
