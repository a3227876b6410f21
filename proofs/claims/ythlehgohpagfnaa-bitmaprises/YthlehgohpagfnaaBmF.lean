/-
  One step of a list of Puts, where it lies.
-/
import Derived.Test.YthlehgohpagfnaaBmE
import Derived.Test.YthlehgohpagfnaaFrame
namespace Go.Proofs.Ythlehgohpagfnaa
open Go.ChangeShapes Go.WideShapes Go.ChangeAt Go.RowKit

theorem op2 {w : World} {ao : Option Addr} {n b off : Nat} {E : Nat → Nat → Value} (R : Fr.RowArg w ao n b off [some .i64, none] E) (i : Nat) (hi : i < n) :
    ∃ (x : Int) (y : Bool), w.cell? ⟨b, off + i * 2, none⟩ = some (.int .i64 x) ∧ w.cell? ⟨b, off + i * 2 + 1, none⟩ = some (.bool y) := by
  obtain ⟨x, hx, _⟩ := R.ok i hi 0 _ rfl
  obtain ⟨y, hy⟩ := R.ok i hi 1 _ rfl
  exact ⟨x, y, by rw [← hx]; exact R.cell i hi 0 (by decide), by rw [← hy]; exact R.cell i hi 1 (by decide)⟩
theorem SetAt.drew {w : World} {A : Nat} {m : Nat → Bool} (h : SetAt w A m) : SetAt w.drew A m := h
theorem below_drew {B : Nat} {a w : World} (h : Below B a w) : Below B a w.drew := ⟨h.os, h.tape, h.output, h.size, h.block⟩
theorem below_one {N A : Nat} {a w w' : World} (h : Below N a w) (u : Upd (· = A) w w') (hA : N ≤ A) (hN : N ≤ a.heap.size) : Below N a w' := h.trans (u.below (Nat.le_trans hN h.size) (fun k hk e => by omega))
end Go.Proofs.Ythlehgohpagfnaa
