/-
  Package memory: Fill, Frame.
-/
import Derived.Test.YtbakhipabeaojaaDoorMemC
import Derived.StillTailTactics
namespace Go.Proofs.YtbakhipabeaojaaDoor
open Go.ChangeShapes Go.WideShapes Go.ChangeAt Go.RowKit

/-- a frame filled -/
def Mem.fill (m : Mem) (f : Int) (vs : List Int) : Mem := if m.ex f 1 then m.lay (f.toNat * 16) vs else m
theorem range_alloc (w : World) (k : IntKind) (vs : List Int) (t : TypeId) : (w.alloc (.cells (ints k vs).toArray t)).rangeAt w.heap.size 0 (ints k vs) := by
  have := World.rangeAt_of_block (heap_alloc_last w (.cells (ints k vs).toArray t)) 0 vs.length
  have e : ((ints k vs).toArray.extract 0 (0 + vs.length)).toList = ints k vs := by
    simp [List.extract, List.take_of_length_le, ints_length]
  rwa [e] at this
theorem MemAt.alloc {w : World} {A : Nat} {m : Mem} (h : MemAt w A m) (o : Obj) : MemAt (w.alloc o) A m := h.kept ((Upd.refl (fun _ => False) w).alloc o) (fun x => x) (fun x => x)
theorem MemAt.drew {w : World} {A : Nat} {m : Mem} (h : MemAt w A m) : MemAt w.drew A m := h.kept (Upd.refl (fun _ => False) w).drew (fun x => x) (fun x => x)
/-- what Frame tells -/
def Mem.frI (m : Mem) (f : Int) : List Int := if m.ex f 1 then m.fr f.toNat else noughts
def zs16 : Array Value := (ints .u64 noughts).toArray
theorem alloc2_facts (w : World) (t1 t2 : TypeId) (c1 c2 : Array Value) : ((w.alloc (.cells c1 t1)).alloc (.cells c2 t2)).heap[w.heap.size]? = some (.cells c1 t1 (0, 0)) ∧
    ((w.alloc (.cells c1 t1)).alloc (.cells c2 t2)).heap[w.heap.size + 1]? = some (.cells c2 t2 (0, 0)) := by
  constructor
  · rw [Below.heap_alloc _ _ _ (by simp), heap_alloc_last]
  · have := heap_alloc_last (w.alloc (.cells c1 t1)) (.cells c2 t2)
    simpa using this
end Go.Proofs.YtbakhipabeaojaaDoor
