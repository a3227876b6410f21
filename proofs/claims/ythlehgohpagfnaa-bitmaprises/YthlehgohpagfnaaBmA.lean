/-
  Package bitmap: where a set lies, and the contracts of isNumber, Put, Has, Len.
-/
import Derived.Test.YthlehgohpagfnaaArr
import Derived.Test.YthlehgohpagfnaaBmM
namespace Go.Proofs.Ythlehgohpagfnaa
open Go.ChangeShapes Go.WideShapes Go.ChangeAt Go.RowKit

/-- the set m lies at block A -/
def SetAt (w : World) (A : Nat) (m : Nat → Bool) : Prop := w.heap[A]? = some (.cells (ints .u64 (wds m)).toArray 28 (0, 0))
theorem SetAt.kept {S : Nat → Prop} {w w' : World} {A : Nat} {m : Nat → Bool} (h : SetAt w A m) (u : Upd S w w') (h1 : ¬ S A) : SetAt w' A m := Upd.at u h h1
theorem SetAt.drewN {w : World} {A : Nat} {m : Nat → Bool} (h : SetAt w A m) (n : Nat) : SetAt (w.drewN n) A m := h
theorem SetAt.lt {w : World} {A : Nat} {m : Nat → Bool} (h : SetAt w A m) : A < w.heap.size := lt_of_heap h
theorem SetAt.cell {w : World} {A : Nat} {m : Nat → Bool} (h : SetAt w A m) (i : Nat) (hi : i < 4) : w.cell? ⟨A, i, none⟩ = some (.int .u64 (wd m i)) := by
  rw [cell_block h i (by simpa [wds] using hi), wds_at m i hi]
theorem SetAt.set {w : World} {A : Nat} {m : Nat → Bool} (h : SetAt w A m) (i j : Nat) (hi : i < 4) (hj : j < 64) (b : Bool) :
    SetAt (w.setCell ⟨A, i, none⟩ (.int .u64 (wd (upd m (64 * i + j) b) i))) A (upd m (64 * i + j) b) := by
  have := heap_setCell_same h i (.int .u64 (wd (upd m (64 * i + j) b) i))
  unfold SetAt
  rw [this, ← wds_put m i j b hi hj]
  simp [ints, List.map_set]

set_option maxHeartbeats 400000 in
theorem isNumber_any (n : Int) (w : World) :
    Calls Try.prog 19 #[.int .i64 n] w fun e w' => e = .returned (.bool (inB n)) ∧ w = w' := by
  by_cases h0 : 0 ≤ n
  · have hv := Lib.hid (show inB n = decide (n < 256) from by unfold inB; simp [h0])
    go_enter Try.func19, Try.ntmps19
    go_wp2
    go_ret
    exact ⟨by rw [hv.out]; rfl, rfl⟩
  · have hv := Lib.hid (show inB n = false from by unfold inB; simp [h0])
    go_enter Try.func19, Try.ntmps19
    go_wp2
    go_ret
    exact ⟨by rw [hv.out]; rfl, rfl⟩

theorem field1 (k : Nat) (h : k < 64) : fieldB (k : Int) 1 = true := by unfold fieldB; simp; omega
theorem eq_one (b : Bool) : ((b.toNat : Int) == 1) = b := by cases b <;> rfl
set_option maxHeartbeats 400000 in
theorem has_any (A : Nat) (m : Nat → Bool) (n : Int) (w : World) (h : SetAt w A m) :
    Calls Try.prog 10 #[.pointer (some ⟨A, 0, none⟩), .int .i64 n] w fun e w' => e = .returned (.bool (hasB m n)) ∧ ∃ k, w' = w.drewN k := by
  cases hb : inB n
  · have hr := Lib.hid (hasB_out (m := m) hb)
    have hb' := Lib.hid hb
    clear hb
    go_enter Try.func10, Try.ntmps10
    go_wp2_with fail
    refine (isNumber_any n _).mono ?_
    rintro e w' ⟨rfl, rfl⟩
    rw [hb'.out]
    go_wp2
    go_ret
    exact ⟨by rw [hr.out]; rfl, 0, rfl⟩
  · obtain ⟨b1, b2⟩ := of_decide_eq_true hb
    obtain ⟨j, rfl⟩ := Int.eq_ofNat_of_zero_le b1
    have hr := Lib.hid (show m (64 * (j / 64) + j % 64) = hasB m j from by rw [hasB_nat m j (by omega), show 64 * (j / 64) + j % 64 = j from by omega])
    have hcell := h.cell (j / 64) (by omega)
    have hg := Lib.hid (wd_get m (j / 64) (j % 64) (by omega))
    have bd := wd_bd m (j / 64)
    have hcall := fun w1 => get_yes (wd m (j / 64)) ((j % 64 : Nat) : Int) 1 w1 (field1 _ (by omega)) bd.1 bd.2
    have hb' := Lib.hid hb
    clear hb bd
    go_enter Try.func10, Try.ntmps10
    go_wp2_with fail
    refine (isNumber_any _ _).mono ?_
    rintro e w' ⟨rfl, rfl⟩
    rw [hb'.out]
    go_wp2_with fail
    refine (hcall _).mono ?_
    rintro e w' ⟨rfl, k, rfl⟩
    rw [hg.out, hr.out]
    go_wp2
    go_ret
    exact ⟨by rw [← eq_one (hasB m j)]; cases hasB m j <;> rfl, k, rfl⟩

set_option maxHeartbeats 1000000 in
theorem bput_any (A : Nat) (m : Nat → Bool) (n : Int) (b : Bool) (w : World) (h : SetAt w A m) :
    Calls Try.prog 8 #[.pointer (some ⟨A, 0, none⟩), .int .i64 n, .bool b] w fun e w' => e = .returned (.bool (inB n)) ∧ SetAt w' A (updI m n b) ∧ Upd (· = A) w w' := by
  cases hb : inB n
  · have hr := Lib.hid (show updI m n b = m from by unfold updI; rw [hb]; rfl)
    have hb' := Lib.hid hb
    clear hb
    go_enter Try.func8, Try.ntmps8
    go_wp2_with fail
    refine (isNumber_any n _).mono ?_
    rintro e w' ⟨rfl, rfl⟩
    rw [hb'.out]
    go_wp2
    go_ret
    exact ⟨rfl, by rw [hr.out]; exact h, Upd.refl _ _⟩
  · obtain ⟨b1, b2⟩ := of_decide_eq_true hb
    obtain ⟨j, rfl⟩ := Int.eq_ofNat_of_zero_le b1
    have hr := Lib.hid (show updI m j b = upd m (64 * (j / 64) + j % 64) b from by unfold updI; rw [hb, if_pos rfl, Int.toNat_natCast, show 64 * (j / 64) + j % 64 = j from by omega])
    have hcell := h.cell (j / 64) (by omega)
    have hfr := frozen_block h (j / 64)
    have hg := Lib.hid (wd_put m (j / 64) (j % 64) b (by omega))
    have hset := Lib.hid (fun k => (h.drewN k).set (j / 64) (j % 64) (by omega) (by omega) b)
    have bd := wd_bd m (j / 64)
    have hcall := fun w1 => put_yes (wd m (j / 64)) (b.toNat : Int) ((j % 64 : Nat) : Int) 1 w1 (field1 _ (by omega)) (by cases b <;> decide) bd.1 bd.2
    have hb' := Lib.hid hb
    clear hb bd
    cases b
    all_goals
      go_enter Try.func8, Try.ntmps8
      go_wp2_with fail
      refine (isNumber_any _ _).mono ?_
      rintro e w' ⟨rfl, rfl⟩
      rw [hb'.out]
      go_wp2_with fail
      refine (hcall _).mono ?_
      rintro e w' ⟨rfl, k, rfl⟩
      rw [hg.out]
      go_wp2
      go_ret
      exact ⟨rfl, by rw [hr.out]; exact hset.out k, ((Upd.refl (· = A) w).drewN k).setCell (.inl rfl) _⟩

set_option maxHeartbeats 1000000 in
theorem len_any (A : Nat) (m : Nat → Bool) (w : World) (h : SetAt w A m) :
    Calls Try.prog 17 #[.pointer (some ⟨A, 0, none⟩)] w fun e w' => e = .returned (.int .i64 (els m).length) ∧ w = w' := by
  have hrow := rangeAt_block h
  have hl : (ints .u64 (wds m)).length = 4 := rfl
  go_enter Try.func17, Try.ntmps17
  go_wp2_with (with_reducible refine wpList_load_sz rfl 26 (.tmp 8) rfl A 0 rfl (ints .u64 (wds m)) _ hrow Try.underlying26 rfl 4 hl (by kernel_rfl) ?_)
  go_loop [3, 10] (fun n t => ∃ k : Nat, k ≤ 4 ∧ t = .int .i64 k ∧ n = .int .i64 ((upto m (64 * k)).length : Int)) (fun _ t => 4 - (intOf t).toNat)
  case atStart => exact ⟨0, by omega, rfl, rfl⟩
  case round =>
    obtain ⟨k, hk, rfl, rfl⟩ := hrel
    by_cases hlt : k < 4
    · have hs := Lib.hid (upto_count m k)
      have hu := upto_len m (64 * (k + 1))
      have bd := wd_bd m k
      have hcall := fun w1 => count_any (wd m k) w1 bd.1 bd.2
      have hx := run_index_ints Try.underlying26 Try.underlying25 (by kernel_rfl) (wds m) rfl .i64 k hlt _ (wds_at m k hlt)
      clear bd
      go_wp2_with (go_at_call 22; refine (hcall _).mono ?_; rintro e w' ⟨rfl, rfl⟩)
      refine ⟨⟨k + 1, by omega, by go_num, ?_⟩, by simp [intOf]; omega⟩
      have := hs.out
      rw [← this]
      congr 1
      unfold wrap64
      omega
    · have e : k = 4 := by omega
      subst e
      go_wp2
      go_ret
      exact ⟨rfl, rfl⟩
end Go.Proofs.Ythlehgohpagfnaa
