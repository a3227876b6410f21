/-
  Get and Put, the code's and the document's, each in one contract.
-/
import Derived.Test.YtjaipmehnjkpgaaBitsD
namespace Go.Proofs.Ytjaipmehnjkpgaa
open Go.ChangeShapes Go.WideShapes Go.ChangeAt Go.RowKit

def getV (x f m : Int) : Int := if fieldB f m = true then getI x f m else 0
def putB (y f m : Int) : Bool := fieldB f m && withinB y 0 (onesI m)
def putV (x y f m : Int) : Int := if putB y f m = true then putI x y f m else 0
theorem getV_yes {x f m : Int} (h : fieldB f m = true) : getV x f m = getI x f m := by unfold getV; rw [if_pos h]
theorem getV_no {x f m : Int} (h : fieldB f m = false) : getV x f m = 0 := by unfold getV; rw [if_neg (by rw [h]; decide)]
theorem putV_yes {x y f m : Int} (h : putB y f m = true) : putV x y f m = putI x y f m := by unfold putV; rw [if_pos h]
theorem putV_no {x y f m : Int} (h : putB y f m = false) : putV x y f m = 0 := by unfold putV; rw [if_neg (by rw [h]; decide)]
theorem putB_and {y f m : Int} (h : putB y f m = true) : fieldB f m = true ∧ withinB y 0 (onesI m) = true := by simpa [putB] using h

theorem get_any (x f m : Int) (w : World) (hx0 : 0 ≤ x) (hx : x < 18446744073709551616) :
    Calls Try.prog 10 #[.int .u64 x, .int .i64 f, .int .i64 m] w fun e w' => e = .returned (.tuple #[.int .u64 (getV x f m), .bool (fieldB f m)]) ∧ ∃ n, w' = w.drewN n := by
  cases h : fieldB f m
  · rw [getV_no h]; refine (get_no x f m w h).mono ?_; rintro e w' ⟨rfl, rfl⟩; exact ⟨rfl, 0, rfl⟩
  · rw [getV_yes h]; exact get_yes x f m w h hx0 hx
theorem refGet_any (x f m : Int) (w : World) (hx0 : 0 ≤ x) (hx : x < 18446744073709551616) :
    Calls Try.prog 11 #[.int .u64 x, .int .i64 f, .int .i64 m] w fun e w' => e = .returned (.tuple #[.int .u64 (getV x f m), .bool (fieldB f m)]) ∧ ∃ n, w' = w.drewN n := by
  cases h : fieldB f m
  · rw [getV_no h]; refine (refGet_no x f m w h).mono ?_; rintro e w' ⟨rfl, rfl⟩; exact ⟨rfl, 0, rfl⟩
  · rw [getV_yes h]; exact refGet_yes x f m w h hx0 hx
theorem put_any (x y f m : Int) (w : World) (hx0 : 0 ≤ x) (hx : x < 18446744073709551616) :
    Calls Try.prog 12 #[.int .u64 x, .int .u64 y, .int .i64 f, .int .i64 m] w fun e w' => e = .returned (.tuple #[.int .u64 (putV x y f m), .bool (putB y f m)]) ∧ ∃ n, w' = w.drewN n := by
  cases h : putB y f m
  · rw [putV_no h]
    cases h1 : fieldB f m
    · refine (put_no1 x y f m w h1).mono ?_; rintro e w' ⟨rfl, rfl⟩; exact ⟨rfl, 0, rfl⟩
    · have h2 : withinB y 0 (onesI m) = false := by rw [putB, h1] at h; simpa using h
      refine (put_no2 x y f m w h1 h2).mono ?_; rintro e w' ⟨rfl, rfl⟩; exact ⟨rfl, 0, rfl⟩
  · rw [putV_yes h]
    exact put_yes x y f m w (putB_and h).1 (putB_and h).2 hx0 hx
theorem refPut_any (x y f m : Int) (w : World) (hx0 : 0 ≤ x) (hx : x < 18446744073709551616) (hy0 : 0 ≤ y) (hy : y < 18446744073709551616) :
    Calls Try.prog 13 #[.int .u64 x, .int .u64 y, .int .i64 f, .int .i64 m] w fun e w' => e = .returned (.tuple #[.int .u64 (putV x y f m), .bool (putB y f m)]) ∧ w = w' := by
  cases h : putB y f m
  · rw [putV_no h]
    cases h1 : fieldB f m
    · exact refPut_no1 x y f m w h1
    · have h2 : withinB y 0 (onesI m) = false := by rw [putB, h1] at h; simpa using h
      exact refPut_no2 x y f m w h1 h2 hy0 hy
  · rw [putV_yes h]
    exact refPut_yes x y f m w (putB_and h).1 (putB_and h).2 hx0 hx hy
theorem getV_bd (x f m : Int) : 0 ≤ getV x f m ∧ getV x f m < 18446744073709551616 := by
  cases h : fieldB f m
  · rw [getV_no h]; omega
  · rw [getV_yes h]; exact getI_bd x f m h
theorem putV_bd (x y f m : Int) (hx0 : 0 ≤ x) (hx : x < 18446744073709551616) : 0 ≤ putV x y f m ∧ putV x y f m < 18446744073709551616 := by
  cases h : putB y f m
  · rw [putV_no h]; omega
  · rw [putV_yes h]; exact putI_bd x y f m (putB_and h).1 (putB_and h).2 hx0 hx
/-- a word that a uint64 holds -/
theorem wf_u64 {x : Int} (h : (Lit.int .u64 x).wf = true) : 0 ≤ x ∧ x < 18446744073709551616 := by have := bounds_u64 h; omega
theorem wf_i64 {x : Int} (h : (Lit.int .i64 x).wf = true) : -9223372036854775808 ≤ x ∧ x ≤ 9223372036854775807 := bounds_i64 h
end Go.Proofs.Ytjaipmehnjkpgaa
