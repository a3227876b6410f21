/-
  The laws' own small functions over package memory: awake, second.
-/
import Derived.Test.YtbakhipabeaojaaDoorMemD
namespace Go.Proofs.YtbakhipabeaojaaDoor
open Go.ChangeShapes Go.WideShapes Go.ChangeAt Go.RowKit

theorem Upd.new {S : Nat → Prop} {a b c : World} (h : Upd S a b) (k : Upd (a.heap.size ≤ ·) b c) : Upd S a c :=
  ⟨k.os.trans h.os, k.tape.trans h.tape, k.output.trans h.output, Nat.le_trans h.size k.size, fun i hi hs => (k.block i (Nat.lt_of_lt_of_le hi h.size) (by omega)).trans (h.block i hi hs)⟩
theorem Upd.one {a b : World} {B n : Nat} (h : Upd (· = B) a b) (hB : n ≤ B) : Upd (n ≤ ·) a b := h.mono (fun k _ e => by omega)
theorem Upd.none {a b : World} {T : Nat → Prop} (h : Upd (fun _ => False) a b) : Upd T a b := h.mono (fun _ _ e => e.elim)

theorem aw_has (B : Nat) : (memNew B 2).has 17 = true := rfl
theorem aw_has1 (B : Nat) : ((memNew B 2).wr 17 5).has 17 = true := rfl
theorem aw_rd (B : Nat) : ((memNew B 2).wr 17 5).rd 17 = 5 := rfl
theorem aw_z (B : Nat) : ((memNew B 2).wr 17 5).zero 1 = false := rfl
theorem aw_ex (B : Nat) : ((memNew B 2).wr 17 5).ex 1 1 = true := rfl
theorem aw_z2 (B : Nat) : (((memNew B 2).wr 17 5).scrub 1 1).zero 1 = true := rfl
theorem aw_n (B : Nat) : (((memNew B 2).wr 17 5).scrub 1 1).n = 2 := rfl
/-- words of which each second one is v -/
def second (v : Int) : List Int := [v, 0, v, 0, v, 0, v, 0, v, 0, v, 0, v, 0, v, 0]
/-- the first k pairs of them -/
def secondN (v : Int) (k : Nat) : List Int := (second v).take (2 * k) ++ noughts.drop (2 * k)
theorem secondN_step (v : Int) (k : Nat) (h : k < 8) : (secondN v k).set (2 * k) v = secondN v (k + 1) := by
  match k, h with
  | 0, _ | 1, _ | 2, _ | 3, _ | 4, _ | 5, _ | 6, _ | 7, _ => rfl
theorem secondN_len (v : Int) (k : Nat) (h : k ≤ 8) : (secondN v k).length = 16 := by
  match k, h with
  | 0, _ | 1, _ | 2, _ | 3, _ | 4, _ | 5, _ | 6, _ | 7, _ | 8, _ => rfl
theorem second_len (v : Int) : (second v).length = 16 := rfl
theorem ints_set (k : IntKind) (l : List Int) (i : Nat) (v : Int) : (ints k l).set i (.int k v) = ints k (l.set i v) := by simp [ints, List.map_set]
end Go.Proofs.YtbakhipabeaojaaDoor
