/-
  Package memory: its data and the contracts of its small functions.
-/
import Derived.Test.YtbakhipabeaojaaDoorArr
import Derived.IntWalk
namespace Go.Proofs.YtbakhipabeaojaaDoor
open Go.ChangeShapes Go.WideShapes Go.ChangeAt Go.RowKit

/-- a memory: where its words lie, how many frames, the words -/
structure Mem where
  B : Nat
  n : Nat
  ws : List Int

structure MemAt (w : World) (A : Nat) (m : Mem) : Prop where
  head : w.heap[A]? = some (.cells #[.slice (some ⟨m.B, 0, none⟩) m.n m.n] 62 (0, 0))
  body : w.heap[m.B]? = some (.cells (ints .u64 m.ws).toArray 70 (0, 0))
  len : m.ws.length = 16 * m.n
  lo : 1 ≤ m.n
  hi : m.n ≤ 256

theorem MemAt.ne {w : World} {A : Nat} {m : Mem} (h : MemAt w A m) : A ≠ m.B := by
  intro e
  have h1 := h.head
  rw [e, h.body] at h1
  simp at h1
theorem MemAt.kept {S : Nat → Prop} {w w' : World} {A : Nat} {m : Mem} (h : MemAt w A m) (u : Upd S w w') (h1 : ¬ S A) (h2 : ¬ S m.B) : MemAt w' A m :=
  ⟨u.at h.head h1, u.at h.body h2, h.len, h.lo, h.hi⟩

/-- the error's number -/
def errI (b : Bool) : Int := if b then 0 else 1
theorem errI_t : errI true = 0 := rfl
theorem errI_f : errI false = 1 := rfl
def Mem.has (m : Mem) (a : Int) : Bool := decide (0 ≤ a ∧ a < m.n * 16)
def Mem.ex (m : Mem) (f k : Int) : Bool := decide (1 ≤ k ∧ 0 ≤ f ∧ f ≤ m.n - k)
/-- the word at a place -/
def Mem.at (m : Mem) (i : Nat) : Int := m.ws.getD i 0
def Mem.rd (m : Mem) (a : Int) : Int := if m.has a then m.at a.toNat else 0

theorem MemAt.cellA {w : World} {A : Nat} {m : Mem} (h : MemAt w A m) : w.cell? ⟨A, 0, none⟩ = some (.slice (some ⟨m.B, 0, none⟩) m.n m.n) := by
  rw [cell_of_row w A 0 _ _ _ h.head]; rfl
theorem MemAt.cellB {w : World} {A : Nat} {m : Mem} (h : MemAt w A m) (i : Nat) (hi : i < 16 * m.n) : w.cell? ⟨m.B, i, none⟩ = some (.int .u64 (m.at i)) := by
  unfold Mem.at
  rw [cell_of_row w m.B i _ _ _ h.body, List.getElem?_toArray, ints_getElem? _ _ _ (by rw [h.len]; exact hi)]
theorem MemAt.freeB {w : World} {A : Nat} {m : Mem} (h : MemAt w A m) (i : Nat) : w.frozen? ⟨m.B, i, none⟩ = false := by
  unfold World.frozen?
  rw [h.body]
  simp
theorem MemAt.freeA {w : World} {A : Nat} {m : Mem} (h : MemAt w A m) (i : Nat) : w.frozen? ⟨A, i, none⟩ = false := by
  unfold World.frozen?
  rw [h.head]
  simp

set_option maxHeartbeats 400000 in
theorem contains_any (A : Nat) (m : Mem) (a : Int) (w : World) (h : MemAt w A m) :
    Calls Tryd.prog 25 #[.pointer (some ⟨A, 0, none⟩), .int .i64 a] w fun e w' => e = .returned (.bool (m.has a)) ∧ w = w' := by
  have hc := h.cellA
  have h1 := h.lo
  have h2 := h.hi
  clear h
  by_cases h0 : 0 ≤ a
  · have hv := Lib.hid (show m.has a = decide (a < m.n * 16) from by unfold Mem.has; simp [h0])
    go_enter Tryd.func25, Tryd.ntmps25
    go_wp2
    go_ret
    exact ⟨by rw [hv.out]; rfl, rfl⟩
  · have hv := Lib.hid (show m.has a = false from by unfold Mem.has; simp; omega)
    go_enter Tryd.func25, Tryd.ntmps25
    go_wp2
    go_ret
    exact ⟨by rw [hv.out]; rfl, rfl⟩

set_option maxHeartbeats 400000 in
theorem frames_any (A : Nat) (m : Mem) (w : World) (h : MemAt w A m) :
    Calls Tryd.prog 40 #[.pointer (some ⟨A, 0, none⟩)] w fun e w' => e = .returned (.int .i64 m.n) ∧ w = w' := by
  have hc := h.cellA
  have h1 := h.lo
  have h2 := h.hi
  clear h
  go_enter Tryd.func40, Tryd.ntmps40
  go_wp2
  go_ret
  exact ⟨rfl, rfl⟩

set_option maxHeartbeats 400000 in
theorem read_any (A : Nat) (m : Mem) (a : Int) (w : World) (h : MemAt w A m) :
    Calls Tryd.prog 30 #[.pointer (some ⟨A, 0, none⟩), .int .i64 a] w fun e w' => e = .returned (.tuple #[.int .u64 (m.rd a), .int .i64 (errI (m.has a))]) ∧ w = w' := by
  have hc := h.cellA
  have h1 := h.lo
  have h2 := h.hi
  cases hb : m.has a
  · have hr := Lib.hid (show m.rd a = 0 from by unfold Mem.rd; rw [hb]; rfl)
    have hb' := Lib.hid hb
    clear hb
    go_enter Tryd.func30, Tryd.ntmps30
    go_wp2_with fail
    refine (contains_any A m a _ h).mono ?_
    rintro e w' ⟨rfl, rfl⟩
    rw [hb'.out]
    go_wp2
    go_ret2
    exact ⟨by rw [hr.out]; rfl, rfl⟩
  · obtain ⟨b1, b2⟩ := of_decide_eq_true hb
    obtain ⟨j, rfl⟩ := Int.eq_ofNat_of_zero_le b1
    have hr := Lib.hid (show m.rd j = m.at (j / 16 * 16 + j % 16) from by unfold Mem.rd; rw [hb, if_pos rfl, Int.toNat_natCast, show j / 16 * 16 + j % 16 = j from by omega])
    have hcell := h.cellB (j / 16 * 16 + j % 16) (by omega)
    have hb' := Lib.hid hb
    clear hb
    go_enter Tryd.func30, Tryd.ntmps30
    go_wp2_with fail
    refine (contains_any A m _ _ h).mono ?_
    rintro e w' ⟨rfl, rfl⟩
    rw [hb'.out]
    go_wp2
    go_ret2
    exact ⟨by rw [hr.out]; rfl, rfl⟩
end Go.Proofs.YtbakhipabeaojaaDoor
