/-
  The laws' awake; a new set.
-/
import Derived.Test.YthlehgohpagfnaaBmR
namespace Go.Proofs.Ythlehgohpagfnaa
open Go.ChangeShapes Go.WideShapes Go.ChangeAt Go.RowKit

theorem new_set (w : World) : SetAt (w.alloc (.cells #[.int .u64 0, .int .u64 0, .int .u64 0, .int .u64 0] 28)) w.heap.size none0 := by
  unfold SetAt
  rw [wds_none]
  exact heap_alloc_last w _
theorem SetAt.below {w w' : World} {A B : Nat} {m : Nat → Bool} (h : SetAt w A m) (hb : Below B w w') (hA : A < B) : SetAt w' A m := (hb.block A hA).trans h
theorem RefAt.below {w w' : World} {A B : Nat} {m : Nat → Bool} (h : RefAt w A m) (hb : Below B w w') (hA : A < B) : RefAt w' A m := (hb.block A hA).trans h
def m3 : Nat → Bool := updI (updI (updI none0 0 true) 1 true) 4 true
theorem els_m3 : els m3 = [0, 1, 4] := by kernel_rfl
theorem gap_m3 : gapI m3 2 256 = 2 := by unfold gapI; rw [els_m3]; rfl
theorem gap_m3' : gapI m3 3 7 = -1 := by unfold gapI; rw [els_m3]; rfl

set_option maxRecDepth 100000 in
set_option maxHeartbeats 1000000 in
theorem awake_any (w : World) : Calls Try.prog 7 #[] w fun e w' => e = .returned (.bool true) ∧ Below w.heap.size w w' := by
  have h0 := new_set w
  have hB0 : Below w.heap.size w (w.alloc (.cells #[.int .u64 0, .int .u64 0, .int .u64 0, .int .u64 0] 28)) := (Below.refl _ w).alloc (Nat.le_refl _) _
  obtain ⟨N, hN⟩ : ∃ N, w.heap.size = N := ⟨_, rfl⟩
  go_enter Try.func7, Try.ntmps7
  go_wp2_with fail
  rw [hN] at h0 hB0
  generalize w.alloc (.cells #[.int .u64 0, .int .u64 0, .int .u64 0, .int .u64 0] 28) = W0 at h0 hB0 ⊢
  refine (bput_any N none0 0 true _ h0).mono ?_
  rintro e W1 ⟨rfl, h1, u1⟩
  have B1 := hB0.trans (u1.below (B := N) (Nat.le_of_lt h0.lt) (by omega))
  clear hB0 h0 u1
  rw [show inB 0 = true from rfl]
  go_wp2_with fail
  refine (bput_any N _ 1 true _ h1).mono ?_
  rintro e W2 ⟨rfl, h2, u2⟩
  have B2 := B1.trans (u2.below (B := N) (Nat.le_of_lt h1.lt) (by omega))
  clear B1 h1 u2
  go_wp2_with fail
  refine (bput_any N _ 4 true _ h2).mono ?_
  rintro e W3 ⟨rfl, h3, u3⟩
  have B3 := B2.trans (u3.below (B := N) (Nat.le_of_lt h2.lt) (by omega))
  clear B2 h2 u3
  have h3 : SetAt W3 N m3 := h3
  go_wp2_with fail
  refine (gap_any N m3 2 256 _ h3).mono ?_
  rintro e W4 ⟨rfl, b4⟩
  have h4 := h3.below b4 h3.lt
  have B4 := B3.trans (b4.mono (Nat.le_of_lt h3.lt))
  clear h3 B3 b4
  rw [gap_m3]
  go_wp2_with fail
  refine (gap_any N m3 3 7 _ h4).mono ?_
  rintro e W5 ⟨rfl, b5⟩
  have h5 := h4.below b5 h4.lt
  have B5 := B4.trans (b5.mono (Nat.le_of_lt h4.lt))
  clear h4 B4 b5
  rw [gap_m3']
  go_wp2_with fail
  refine (told_any N m3 _ h5).mono ?_
  rintro e W6 ⟨v, rfl, hrow, b6⟩
  have B6 := B5.trans (b6.mono (Nat.le_of_lt h5.lt))
  rw [els_m3] at hrow
  obtain ⟨o, cap, rfl⟩ := row_slice hrow
  clear hrow
  go_wp2
  go_ret
  exact ⟨rfl, hN ▸ B6⟩
end Go.Proofs.Ythlehgohpagfnaa
