/-
  Package memory: Scrub, Zero, Frame, Fill.
-/
import Derived.Test.YtbakhipabeaojaaDoorMemB
import Derived.RegionTactic
namespace Go.Proofs.YtbakhipabeaojaaDoor
open Go.ChangeShapes Go.WideShapes Go.ChangeAt Go.RowKit

theorem size_words : (Tryd.prog.info? 70).map (·.size) = some 16 := by kernel_rfl
theorem size_arr : (Tryd.prog.info? 69).map (·.size) = some 16 := by kernel_rfl
def noughts : List Int := List.replicate 16 0
theorem MemAt.there {w : World} {A : Nat} {m : Mem} (h : MemAt w A m) (o k : Nat) (hf : o + k ≤ 16 * m.n) : w.there m.B o k := fun j hj =>
  ⟨by rw [h.cellB (o + j) (by omega)]; rfl, h.freeB _⟩
theorem one16 : (#[.int .u64 0, .int .u64 0, .int .u64 0, .int .u64 0, .int .u64 0, .int .u64 0, .int .u64 0, .int .u64 0, .int .u64 0, .int .u64 0, .int .u64 0, .int .u64 0, .int .u64 0, .int .u64 0, .int .u64 0, .int .u64 0] : Array Value).all (·.oneCell') = true := by
  rw [show (#[.int .u64 0, .int .u64 0, .int .u64 0, .int .u64 0, .int .u64 0, .int .u64 0, .int .u64 0, .int .u64 0, .int .u64 0, .int .u64 0, .int .u64 0, .int .u64 0, .int .u64 0, .int .u64 0, .int .u64 0, .int .u64 0] : Array Value) = (ints .u64 noughts).toArray from rfl]; exact ints_one _ _
theorem sz16 : (#[.int .u64 0, .int .u64 0, .int .u64 0, .int .u64 0, .int .u64 0, .int .u64 0, .int .u64 0, .int .u64 0, .int .u64 0, .int .u64 0, .int .u64 0, .int .u64 0, .int .u64 0, .int .u64 0, .int .u64 0, .int .u64 0] : Array Value).size = 16 := rfl
theorem ls16 : (#[.int .u64 0, .int .u64 0, .int .u64 0, .int .u64 0, .int .u64 0, .int .u64 0, .int .u64 0, .int .u64 0, .int .u64 0, .int .u64 0, .int .u64 0, .int .u64 0, .int .u64 0, .int .u64 0, .int .u64 0, .int .u64 0] : Array Value).toList = ints .u64 noughts := rfl
/-- frames scrubbed -/
def Mem.scrubN (m : Mem) (f k : Nat) : Mem := m.lay (f * 16) (List.replicate (k * 16) 0)
def Mem.scrub (m : Mem) (f k : Int) : Mem := if m.ex f k then m.scrubN f.toNat k.toNat else m
theorem Mem.scrubN_zero (m : Mem) (f : Nat) : m.scrubN f 0 = m := by simp [Mem.scrubN, Mem.lay, splice]
theorem Mem.scrubN_succ (m : Mem) (f k : Nat) (h : (f + k + 1) * 16 ≤ m.ws.length) : (m.scrubN f k).lay ((f + k) * 16) noughts = m.scrubN f (k + 1) := by
  unfold Mem.scrubN Mem.lay noughts
  simp only [Mem.mk.injEq, true_and]
  have := splice_splice m.ws (f * 16) (List.replicate (k * 16) 0) (List.replicate 16 0) (by simp; omega)
  rw [List.length_replicate, List.replicate_append_replicate] at this
  rw [show (f + k) * 16 = f * 16 + k * 16 from by omega, this, show (k + 1) * 16 = k * 16 + 16 from by omega]
/-- a frame's words -/
def Mem.fr (m : Mem) (f : Nat) : List Int := (m.ws.drop (f * 16)).take 16
def Mem.zero (m : Mem) (f : Int) : Bool := m.ex f 1 && decide (m.fr f.toNat = noughts)
theorem MemAt.fr_len {w : World} {A : Nat} {m : Mem} (h : MemAt w A m) (f : Nat) (hf : f < m.n) : (m.fr f).length = 16 := by
  have := h.len
  simp [Mem.fr]; omega
theorem MemAt.range {w : World} {A : Nat} {m : Mem} (h : MemAt w A m) (f : Nat) : w.rangeAt m.B (f * 16) (ints .u64 (m.fr f)) := by
  have := World.rangeAt_of_block h.body (f * 16) 16
  have e : ((ints .u64 m.ws).toArray.extract (f * 16) (f * 16 + 16)).toList = ints .u64 (m.fr f) := by
    simp [Mem.fr, ints, List.extract, List.map_take, List.map_drop]
  rwa [e] at this
theorem guard_words : Tryd.prog.eqGuardType Tryd.prog.depth 70 = false := by kernel_rfl
theorem guard_arr : Tryd.prog.eqGuardType Tryd.prog.depth 69 = false := by kernel_rfl
theorem size_u64 : (Tryd.prog.info? 36).map (·.size) = some 1 := by kernel_rfl
theorem zeros16 : (#[.int .u64 0, .int .u64 0, .int .u64 0, .int .u64 0, .int .u64 0, .int .u64 0, .int .u64 0, .int .u64 0, .int .u64 0, .int .u64 0, .int .u64 0, .int .u64 0, .int .u64 0, .int .u64 0, .int .u64 0, .int .u64 0] : Array Value) = (ints .u64 noughts).toArray := rfl
theorem noughts_len : noughts.length = 16 := rfl
end Go.Proofs.YtbakhipabeaojaaDoor
