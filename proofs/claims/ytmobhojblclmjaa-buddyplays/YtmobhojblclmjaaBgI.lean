/-
  The laws' begun and awake.
-/
import Derived.Test.YtmobhojblclmjaaBgH
import Derived.Test.YtmobhojblclmjaaBuY
namespace Go.Proofs.Ytmobhojblclmjaa
open Go.ChangeShapes Go.WideShapes Go.ChangeAt Go.RowKit Go.Maps

/-- an allocator and its memory, by their places -/
structure Duo (w : World) (A MA GB : Nat) (m : Mem) (b : Bud) : Prop where
  B : BudAt w A MA GB b
  M : MemAt w MA m
  n : m.n = b.n
theorem Duo.kept {S : Nat → Prop} {w w' : World} {A MA GB : Nat} {m : Mem} {b : Bud} (h : Duo w A MA GB m b) (u : Upd S w w') (h1 : ¬ S A) (h2 : ¬ S GB) (h3 : ¬ S MA) (h4 : ¬ S m.B) : Duo w' A MA GB m b :=
  ⟨h.B.kept u h1 h2, h.M.kept u h3 h4, h.n⟩
theorem Duo.still {w w' : World} {A MA GB : Nat} {m : Mem} {b : Bud} (h : Duo w A MA GB m b) (u : Upd (fun _ => False) w w') : Duo w' A MA GB m b := h.kept u (fun h => h) (fun h => h) (fun h => h) (fun h => h)
/-- nothing of it was there before block B -/
structure Since (B A MA GB : Nat) (m : Mem) : Prop where
  a : B ≤ A
  ma : B ≤ MA
  gb : B ≤ GB
  mb : B ≤ m.B

set_option maxHeartbeats 1000000 in
theorem begun_any (fs rs : Int) (w : World) :
    Calls Try.prog 30 #[.int .i64 fs, .int .i64 rs] w fun e w' =>
      (¬ (1 ≤ fs ∧ fs ≤ 256 ∧ 0 ≤ rs ∧ rs ≤ fs) ∧ e = .returned (.tuple #[.pointer none, .pointer none]) ∧ Upd (fun _ => False) w w') ∨
      (∃ (n r A MA GB MB : Nat), fs = n ∧ rs = r ∧ 1 ≤ n ∧ n ≤ 256 ∧ r ≤ n ∧ e = .returned (.tuple #[.pointer (some ⟨MA, 0, none⟩), .pointer (some ⟨A, 0, none⟩)]) ∧ Duo w' A MA GB (memNew MB n) (bud0 n r) ∧ Since w.heap.size A MA GB (memNew MB n) ∧ Upd (fun _ => False) w w') := by
  by_cases h1 : 1 ≤ fs ∧ fs ≤ 256
  · obtain ⟨n, rfl⟩ := Int.eq_ofNat_of_zero_le (show 0 ≤ fs by omega)
    by_cases h2 : 0 ≤ rs ∧ rs ≤ (n : Int)
    · obtain ⟨r, rfl⟩ := Int.eq_ofNat_of_zero_le h2.1
      go_enter Try.func30, Try.ntmps30
      go_wp2_with fail
      refine (new_yes n _ (by omega) (by omega)).mono ?_
      rintro e w1 ⟨rfl, M1, U1, S1⟩
      go_wp2_with fail
      refine (bNew_yes _ _ r _ M1 (by show r ≤ n; omega)).mono ?_
      rintro e w2 ⟨rfl, B2, U2, S2⟩
      rw [S1] at B2
      go_wp2
      go_ret2
      exact .inr ⟨n, r, _, _, _, _, rfl, rfl, by omega, by omega, by omega, rfl, ⟨B2, M1.kept U2 (fun h => h) (fun h => h), rfl⟩, ⟨by omega, by omega, by omega, by show w.heap.size ≤ w.heap.size; omega⟩, U1.trans U2⟩
    · have h3 := Lib.hid (show ¬ (1 ≤ (n : Int) ∧ (n : Int) ≤ 256 ∧ 0 ≤ rs ∧ rs ≤ (n : Int)) by omega)
      go_enter Try.func30, Try.ntmps30
      go_wp2_with fail
      refine (new_yes n _ (by omega) (by omega)).mono ?_
      rintro e w1 ⟨rfl, M1, U1, S1⟩
      go_wp2_with fail
      refine (bNew_no _ _ rs _ M1 (by show rs < 0 ∨ (n : Int) < rs; omega)).mono ?_
      rintro e w2 ⟨rfl, rfl⟩
      go_wp2
      go_ret2
      exact .inl ⟨h3.out, rfl, U1⟩
  · have h3 := Lib.hid (show ¬ (1 ≤ fs ∧ fs ≤ 256 ∧ 0 ≤ rs ∧ rs ≤ fs) by omega)
    go_enter Try.func30, Try.ntmps30
    go_wp2_with fail
    refine (new_no fs _ (by omega)).mono ?_
    rintro e w1 ⟨rfl, rfl⟩
    go_wp2_with fail
    refine (bNew_nil rs _).mono ?_
    rintro e w2 ⟨rfl, rfl⟩
    go_wp2
    go_ret2
    exact .inl ⟨h3.out, rfl, Upd.refl _ _⟩

theorem aw1 : (blocks (bud0 8 1).F 8).length = 3 := by decide
theorem aw2 : (bud0 8 1).sel 1 = some (2, 1) := by decide
theorem aw3 : ((bud0 8 1).give (2, 1)).sel 1 = some (4, 2) := by decide
theorem aw4 : (((bud0 8 1).give (2, 1)).give (4, 1)).left = 3 := by decide
set_option maxHeartbeats 1000000 in
theorem awake_any (w : World) : Calls Try.prog 10 #[] w fun e w' => e = .returned (.bool true) ∧ Upd (fun _ => False) w w' := by
  go_enter Try.func10, Try.ntmps10
  go_wp2_with fail
  refine (begun_any 8 1 _).mono ?_
  rintro e w1 (⟨hno, _⟩ | ⟨n, r, A, MA, GB, MB, hn, hr, _, _, _, rfl, D1, S1, U1⟩)
  · exact absurd (by omega) hno
  obtain rfl : n = 8 := by omega
  obtain rfl : r = 1 := by omega
  clear hn hr
  go_wp2_with fail
  refine (bBlocks_any A MA GB _ _ _ D1.B D1.M D1.n).mono ?_
  rintro e w2 ⟨v, rfl, hrow, U2⟩
  have D2 := D1.still U2
  have U02 := U1.trans U2
  obtain ⟨o, cap, rfl⟩ := slice2 hrow
  rw [show (blocks (bud0 8 1).F (bud0 8 1).n).length = 3 from aw1]
  clear hrow U1 U2 D1
  go_wp2_with fail
  refine (bAlloc_any A MA GB _ _ 1 _ D2.B D2.M D2.n (by omega)).mono ?_
  rintro e w3 (⟨hs, _⟩ | ⟨x, hs, rfl, B3, U3⟩)
  · rw [aw2] at hs; cases hs
  rw [aw2] at hs
  obtain rfl : (2, 1) = x := by injection hs
  obtain ⟨n1, n2, n3, n4⟩ := D2.B.apart D2.M
  have M3 := D2.M.kept U3 (fun e => n3 e.symm) (fun e => n4 e.symm)
  have V3 : Upd (fun _ => False) w w3 := U02.trans' U3 S1.gb
  clear hs D2 U02 U3
  go_wp2_with fail
  refine (bAlloc_any A MA GB _ _ 1 _ B3 M3 rfl (by omega)).mono ?_
  rintro e w4 (⟨hs, _⟩ | ⟨x, hs, rfl, B4, U4⟩)
  · rw [aw3] at hs; cases hs
  rw [aw3] at hs
  obtain rfl : (4, 2) = x := by injection hs
  have M4 := M3.kept U4 (fun e => n3 e.symm) (fun e => n4 e.symm)
  have V4 : Upd (fun _ => False) w w4 := V3.trans' U4 S1.gb
  clear hs M3 V3 U4 B3
  go_wp2_with fail
  refine (bNew_nil 0 _).mono ?_
  rintro e w5 ⟨rfl, rfl⟩
  go_wp2_with fail
  refine (bLeft_any A MA GB _ _ _ B4 M4 rfl).mono ?_
  rintro e w6 ⟨rfl, U6⟩
  rw [show (((bud0 8 1).give (((2, 1) : Nat × Nat).1, 1)).give (((4, 2) : Nat × Nat).1, 1)).left = 3 from aw4]
  go_wp2
  go_ret
  exact ⟨rfl, V4.trans U6⟩
end Go.Proofs.Ytmobhojblclmjaa
