/-
  The laws' awake over package entry.
-/
import Derived.Test.YtbakhipabeaojaaDoorEnD
import Derived.Test.YtbakhipabeaojaaDoorEnS
namespace Go.Proofs.YtbakhipabeaojaaDoor
open Go.ChangeShapes Go.WideShapes Go.ChangeAt Go.RowKit

theorem split_no {a : Int} (h : spB a = false) : spP a = 0 ∧ spO a = 0 ∧ errB (spB a) = 1 :=
  ⟨by unfold spP; rw [if_neg (by rw [h]; decide)], by unfold spO; rw [if_neg (by rw [h]; decide)], by rw [h]; rfl⟩
theorem split_yes {a : Int} (h : spB a = true) : spP a = a / 16 ∧ spO a = a % 16 ∧ errB (spB a) = 0 :=
  ⟨by unfold spP; rw [if_pos h], by unfold spO; rw [if_pos h], by rw [h]; rfl⟩
theorem idx_yes {q l : Int} (h : idxB q l = true) : idxI q l = (if l = 0 then q / 256 else if l = 1 then q / 16 % 16 else q % 16) ∧ errB (idxB q l) = 0 :=
  ⟨by unfold idxI; rw [if_pos h], by rw [h]; rfl⟩
theorem arr_len (a b c : Int) : ([.int .i64 a, .int .i64 b, .int .i64 c] : List Value).length = 3 := rfl
theorem size_arr3 : (Tryd.prog.info? 74).map (·.size) = some 3 := by kernel_rfl
def ArrAt (w : World) (B : Nat) (a b c : Int) : Prop := w.heap[B]? = some (.cells #[.int .i64 a, .int .i64 b, .int .i64 c] 74 (0, 0))
theorem ArrAt.range {w : World} {B : Nat} {a b c : Int} (h : ArrAt w B a b c) : w.rangeAt B 0 [.int .i64 a, .int .i64 b, .int .i64 c] := World.rangeAt_of_block h 0 3
theorem ArrAt.kept {S : Nat → Prop} {w w' : World} {B : Nat} {a b c : Int} (h : ArrAt w B a b c) (u : Upd S w w') (hs : ¬ S B) : ArrAt w' B a b c := u.at h hs
theorem ArrAt.cellk {w : World} {B : Nat} {a b c : Int} (h : ArrAt w B a b c) (k : Nat) (hk : k < 3) : w.cell? ⟨B, k, none⟩ = some (.int .i64 ([a, b, c].getD k 0)) := by
  match k, hk with
  | 0, _ => exact h.range 0 _ rfl
  | 1, _ => exact h.range 1 _ rfl
  | 2, _ => exact h.range 2 _ rfl
theorem ArrAt.frozen {w : World} {B : Nat} {a b c : Int} (h : ArrAt w B a b c) (k : Nat) : w.frozen? ⟨B, k, none⟩ = false := frozen_block h k
theorem ArrAt.other {w : World} {B C : Nat} {a b c : Int} (h : ArrAt w B a b c) (hn : B ≠ C) (k : Nat) (v : Value) : ArrAt (w.setCell ⟨C, k, none⟩ v) B a b c := by
  unfold ArrAt
  rw [Below.heap_setCell _ _ _ _ hn]
  exact h
end Go.Proofs.YtbakhipabeaojaaDoor
