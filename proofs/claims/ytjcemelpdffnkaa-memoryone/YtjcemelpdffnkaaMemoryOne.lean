/-
  Proved: trunnionlaw02.MemoryOne answers true for every input: a word that was written is read, and no other one changes; scrubbed it is 0.
  Conditions: none.
-/
import Derived.Test.YtjcemelpdffnkaaMemF
import Derived.Test.YtjcemelpdffnkaaFrame
namespace Go.Proofs.Ytjcemelpdffnkaa.memoryOne
open Go.ChangeShapes Go.WideShapes Go.ChangeAt Go.RowKit
set_option linter.unusedVariables false
set_option linter.unusedSimpArgs false

theorem below_none {w w' : World} (h : Upd (fun _ => False) w w') : Below w.heap.size w w' := h.below (Nat.le_refl _) (fun _ _ e => e)
set_option maxRecDepth 100000 in
set_option maxHeartbeats 1000000 in
theorem walk (n a b x y : Int) (w0 : (Lit.int .i64 n).wf = true) (w1 : ∀ z ∈ [a, b], (Lit.int .i64 z).wf = true) (w2 : ∀ z ∈ [x, y], (Lit.int .u64 z).wf = true) (w : World) :
    Calls Try.prog 4 #[.int .i64 n, .agg #[.int .i64 a, .int .i64 b], .agg #[.int .u64 x, .int .u64 y]] w fun e w' => e = .returned (.bool true) ∧ Below w.heap.size w w' := by
  clear w0 w1 w2
  obtain ⟨f1, f2⟩ := alloc2_facts w 50 51 #[.int .i64 a, .int .i64 b] #[.int .u64 x, .int .u64 y]
  have hU : Upd (fun _ => False) w ((w.alloc (.cells #[.int .i64 a, .int .i64 b] 50)).alloc (.cells #[.int .u64 x, .int .u64 y] 51)) := ((Upd.refl _ _).alloc _).alloc _
  have F1 := Lib.hid f1
  have F2 := Lib.hid f2
  clear f1 f2
  by_cases hn : 1 ≤ n ∧ n ≤ 256
  · obtain ⟨n1, n2⟩ := hn
    obtain ⟨N, rfl⟩ := Int.eq_ofNat_of_zero_le (by omega : 0 ≤ n)
    go_enter Try.func4, Try.ntmps4
    go_wp2_with fail
    generalize (w.alloc (.cells #[.int .i64 a, .int .i64 b] 50)).alloc (.cells #[.int .u64 x, .int .u64 y] 51) = W at F1 F2 hU ⊢
    refine (awake_any _).mono ?_
    rintro e w1 ⟨rfl, U1⟩
    replace hU := hU.trans U1
    replace F1 := Lib.hid (U1.at F1.out (fun h => h))
    replace F2 := Lib.hid (U1.at F2.out (fun h => h))
    clear U1
    have hS1 := lt_of_heap F2.out
    go_wp2_with fail
    refine (new_yes N _ (by omega) (by omega)).mono ?_
    rintro e w2 ⟨rfl, M0, U2, -⟩
    replace hU := hU.trans U2
    replace F1 := Lib.hid (U2.at F1.out (fun h => h))
    replace F2 := Lib.hid (U2.at F2.out (fun h => h))
    have hB := hU.size
    have hBB := lt_of_heap F2.out
    clear U2
    have hok := Mem.new_ok w1.heap.size N
    have hB1 : w.heap.size + 1 < (memNew w1.heap.size N).B := hS1
    generalize memNew w1.heap.size N = m at *
    generalize w1.heap.size + 1 = A at *
    have hS : w.heap.size ≠ m.B := by omega
    have hT : w.heap.size + 1 ≠ m.B := by omega
    obtain ⟨X, hX⟩ : ∃ X, ((m.wr a x).wr b y).rd a = X := ⟨_, rfl⟩
    obtain ⟨Y, hY⟩ : ∃ Y, ((m.wr a x).wr b y).rd b = Y := ⟨_, rfl⟩
    have HX := Lib.hid hX
    have HY := Lib.hid hY
    clear hX hY
    cases hA : m.has a
    · have HA := Lib.hid hA
      clear hA
      cases hB : m.has b
      · have HB := Lib.hid hB
        clear hB 
        obtain ⟨c1, c2⟩ := box2 F1.out
        obtain ⟨c3, c4⟩ := box2 F2.out
        go_wp2_with fail
        refine (write_any _ _ _ _ _ M0).mono ?_
        rintro e w3 ⟨rfl, M1, U3⟩
        replace F1 := Lib.hid (U3.at F1.out hS)
        replace F2 := Lib.hid (U3.at F2.out hT)
        replace hU := hU.new (U3.one (by omega))
        clear U3 c1 c2 c3 c4
        obtain ⟨c1, c2⟩ := box2 F1.out
        obtain ⟨c3, c4⟩ := box2 F2.out
        rw [HA.out]
        go_wp2_with fail
        refine (write_any _ _ _ _ _ M1).mono ?_
        rintro e w4 ⟨rfl, M2, U4⟩
        rw [Mem.wr_B] at U4
        replace F1 := Lib.hid (U4.at F1.out hS)
        replace F2 := Lib.hid (U4.at F2.out hT)
        replace hU := hU.new (U4.one (by omega))
        clear U4 c1 c2 c3 c4
        obtain ⟨c1, c2⟩ := box2 F1.out
        obtain ⟨c3, c4⟩ := box2 F2.out
        rw [Mem.wr_has, HB.out]
        go_wp2_with fail
        refine (read_any _ _ _ _ M2).mono ?_
        rintro e w5 ⟨rfl, rfl⟩
        rw [Mem.wr_has, Mem.wr_has, HA.out, HX.out]
        go_wp2_with fail
        refine (read_any _ _ _ _ M2).mono ?_
        rintro e w5 ⟨rfl, rfl⟩
        rw [Mem.wr_has, Mem.wr_has, HB.out, HY.out]
        simp only [errI_t, errI_f]
        go_wp2
        go_ret
        exact ⟨rfl, below_none hU⟩
      · have hy := one_b m hok a b x y hB
        rw [HY.out] at hy
        subst hy
        have HB := Lib.hid hB
        clear hB 
        obtain ⟨c1, c2⟩ := box2 F1.out
        obtain ⟨c3, c4⟩ := box2 F2.out
        go_wp2_with fail
        refine (write_any _ _ _ _ _ M0).mono ?_
        rintro e w3 ⟨rfl, M1, U3⟩
        replace F1 := Lib.hid (U3.at F1.out hS)
        replace F2 := Lib.hid (U3.at F2.out hT)
        replace hU := hU.new (U3.one (by omega))
        clear U3 c1 c2 c3 c4
        obtain ⟨c1, c2⟩ := box2 F1.out
        obtain ⟨c3, c4⟩ := box2 F2.out
        rw [HA.out]
        go_wp2_with fail
        refine (write_any _ _ _ _ _ M1).mono ?_
        rintro e w4 ⟨rfl, M2, U4⟩
        rw [Mem.wr_B] at U4
        replace F1 := Lib.hid (U4.at F1.out hS)
        replace F2 := Lib.hid (U4.at F2.out hT)
        replace hU := hU.new (U4.one (by omega))
        clear U4 c1 c2 c3 c4
        obtain ⟨c1, c2⟩ := box2 F1.out
        obtain ⟨c3, c4⟩ := box2 F2.out
        rw [Mem.wr_has, HB.out]
        go_wp2_with fail
        refine (read_any _ _ _ _ M2).mono ?_
        rintro e w5 ⟨rfl, rfl⟩
        rw [Mem.wr_has, Mem.wr_has, HA.out, HX.out]
        go_wp2_with fail
        refine (read_any _ _ _ _ M2).mono ?_
        rintro e w5 ⟨rfl, rfl⟩
        rw [Mem.wr_has, Mem.wr_has, HB.out, HY.out]
        simp only [errI_t, errI_f]
        go_wp2
        go_ret
        exact ⟨rfl, below_none hU⟩
    · have HA := Lib.hid hA
      cases hB : m.has b
      · have hne : a ≠ b := by intro e; rw [e, hB] at hA; cases hA
        have hx := one_a m hok a b x y hA hne
        rw [HX.out] at hx
        subst hx
        have HB := Lib.hid hB
        clear hB hA hne
        obtain ⟨c1, c2⟩ := box2 F1.out
        obtain ⟨c3, c4⟩ := box2 F2.out
        go_wp2_with fail
        refine (write_any _ _ _ _ _ M0).mono ?_
        rintro e w3 ⟨rfl, M1, U3⟩
        replace F1 := Lib.hid (U3.at F1.out hS)
        replace F2 := Lib.hid (U3.at F2.out hT)
        replace hU := hU.new (U3.one (by omega))
        clear U3 c1 c2 c3 c4
        obtain ⟨c1, c2⟩ := box2 F1.out
        obtain ⟨c3, c4⟩ := box2 F2.out
        rw [HA.out]
        go_wp2_with fail
        refine (write_any _ _ _ _ _ M1).mono ?_
        rintro e w4 ⟨rfl, M2, U4⟩
        rw [Mem.wr_B] at U4
        replace F1 := Lib.hid (U4.at F1.out hS)
        replace F2 := Lib.hid (U4.at F2.out hT)
        replace hU := hU.new (U4.one (by omega))
        clear U4 c1 c2 c3 c4
        obtain ⟨c1, c2⟩ := box2 F1.out
        obtain ⟨c3, c4⟩ := box2 F2.out
        rw [Mem.wr_has, HB.out]
        go_wp2_with fail
        refine (read_any _ _ _ _ M2).mono ?_
        rintro e w5 ⟨rfl, rfl⟩
        rw [Mem.wr_has, Mem.wr_has, HA.out, HX.out]
        go_wp2_with fail
        refine (read_any _ _ _ _ M2).mono ?_
        rintro e w5 ⟨rfl, rfl⟩
        rw [Mem.wr_has, Mem.wr_has, HB.out, HY.out]
        simp only [errI_t, errI_f]
        go_wp2
        all_goals go_ret
        all_goals exact ⟨rfl, below_none hU⟩
      · have hy := one_b m hok a b x y hB
        rw [HY.out] at hy
        subst hy
        have HB := Lib.hid hB
        have ok2 := Mem.wr_ok _ (Mem.wr_ok m hok a x) b Y
        have hA2 : ((m.wr a x).wr b Y).has a = true := by rw [Mem.wr_has, Mem.wr_has]; exact hA
        have hB2 : ((m.wr a x).wr b Y).has b = true := by rw [Mem.wr_has, Mem.wr_has]; exact hB
        obtain ⟨hE, a0, a1⟩ : ((m.wr a x).wr b Y).ex (a / 16) 1 = true ∧ 0 ≤ a ∧ a < 4096 := by
          rcases has_ex _ _ hA2 with h | h
          · exact h
          · rw [Mem.wr_n, Mem.wr_n] at h; have := M0.hi; omega
        obtain ⟨hE', b0, b1⟩ : ((m.wr a x).wr b Y).ex (b / 16) 1 = true ∧ 0 ≤ b ∧ b < 4096 := by
          rcases has_ex _ _ hB2 with h | h
          · exact h
          · rw [Mem.wr_n, Mem.wr_n] at h; have := M0.hi; omega
        have HE := Lib.hid hE
        have HZ := Lib.hid (show (((m.wr a x).wr b Y).scrub (a / 16) 1).rd a = 0 from by rw [Mem.scrub_rd _ ok2 _ _ _ hE hA2, if_pos (by omega)])
        have HQ := Lib.hid (Mem.scrub_zero _ ok2 (a / 16) 1 (a / 16) hE (by omega) (by omega))
        have hV := Mem.scrub_rd _ ok2 (a / 16) 1 b hE hB2
        rw [HY.out] at hV
        have hab : a ≠ b → X = x := fun hne => by rw [← HX.out]; exact one_a m hok a b x Y hA hne
        clear hE hE' hA2 hB2 hA hB ok2
        by_cases hq : a / 16 = b / 16
        · rw [if_pos (by omega)] at hV
          have HV := Lib.hid hV
          have q1 : (a / 16 == b / 16) = true := by simp [hq]
          have q2 : (a / 16 != b / 16) = false := by simp [hq]
          clear hV hq
          by_cases hne : a = b
          · subst hne
            clear hab
            obtain ⟨c1, c2⟩ := box2 F1.out
            obtain ⟨c3, c4⟩ := box2 F2.out
            go_wp2_with fail
            refine (write_any _ _ _ _ _ M0).mono ?_
            rintro e w3 ⟨rfl, M1, U3⟩
            replace F1 := Lib.hid (U3.at F1.out hS)
            replace F2 := Lib.hid (U3.at F2.out hT)
            replace hU := hU.new (U3.one (by omega))
            clear U3 c1 c2 c3 c4
            obtain ⟨c1, c2⟩ := box2 F1.out
            obtain ⟨c3, c4⟩ := box2 F2.out
            rw [HA.out]
            go_wp2_with fail
            refine (write_any _ _ _ _ _ M1).mono ?_
            rintro e w4 ⟨rfl, M2, U4⟩
            rw [Mem.wr_B] at U4
            replace F1 := Lib.hid (U4.at F1.out hS)
            replace F2 := Lib.hid (U4.at F2.out hT)
            replace hU := hU.new (U4.one (by omega))
            clear U4 c1 c2 c3 c4
            obtain ⟨c1, c2⟩ := box2 F1.out
            obtain ⟨c3, c4⟩ := box2 F2.out
            rw [Mem.wr_has, HB.out]
            go_wp2_with fail
            refine (read_any _ _ _ _ M2).mono ?_
            rintro e w5 ⟨rfl, rfl⟩
            rw [Mem.wr_has, Mem.wr_has, HA.out, HX.out]
            go_wp2_with fail
            refine (read_any _ _ _ _ M2).mono ?_
            rintro e w5 ⟨rfl, rfl⟩
            rw [Mem.wr_has, Mem.wr_has, HB.out, HY.out]
            simp only [errI_t, errI_f]
            go_wp2_with fail
            refine (scrub_any _ _ _ _ _ M2 (by omega)).mono ?_
            rintro e w5 ⟨rfl, M3, U5⟩
            rw [Mem.wr_B, Mem.wr_B] at U5
            replace F1 := Lib.hid (U5.at F1.out hS)
            replace F2 := Lib.hid (U5.at F2.out hT)
            replace hU := hU.new (U5.one (by omega))
            clear U5 c1 c2 c3 c4
            obtain ⟨c1, c2⟩ := box2 F1.out
            obtain ⟨c3, c4⟩ := box2 F2.out
            rw [HE.out]
            go_wp2_with fail
            refine (read_any _ _ _ _ M3).mono ?_
            rintro e w6 ⟨rfl, rfl⟩
            rw [HZ.out]
            go_wp2_with fail
            refine (read_any _ _ _ _ M3).mono ?_
            rintro e w6 ⟨rfl, rfl⟩
            rw [HV.out]
            simp only [errI_t]
            go_wp2_with fail
            refine (zero_any _ _ _ _ M3).mono ?_
            rintro e w6 ⟨rfl, rfl⟩
            rw [HQ.out]
            go_wp2
            all_goals go_ret
            all_goals exact ⟨rfl, below_none hU⟩
          · have hx := hab hne
            subst hx
            clear hab
            have n1 : (a == b) = false := by simp [hne]
            have n2 : (a != b) = true := by simp [hne]
            clear hne
            obtain ⟨c1, c2⟩ := box2 F1.out
            obtain ⟨c3, c4⟩ := box2 F2.out
            go_wp2_with fail
            refine (write_any _ _ _ _ _ M0).mono ?_
            rintro e w3 ⟨rfl, M1, U3⟩
            replace F1 := Lib.hid (U3.at F1.out hS)
            replace F2 := Lib.hid (U3.at F2.out hT)
            replace hU := hU.new (U3.one (by omega))
            clear U3 c1 c2 c3 c4
            obtain ⟨c1, c2⟩ := box2 F1.out
            obtain ⟨c3, c4⟩ := box2 F2.out
            rw [HA.out]
            go_wp2_with fail
            refine (write_any _ _ _ _ _ M1).mono ?_
            rintro e w4 ⟨rfl, M2, U4⟩
            rw [Mem.wr_B] at U4
            replace F1 := Lib.hid (U4.at F1.out hS)
            replace F2 := Lib.hid (U4.at F2.out hT)
            replace hU := hU.new (U4.one (by omega))
            clear U4 c1 c2 c3 c4
            obtain ⟨c1, c2⟩ := box2 F1.out
            obtain ⟨c3, c4⟩ := box2 F2.out
            rw [Mem.wr_has, HB.out]
            go_wp2_with fail
            refine (read_any _ _ _ _ M2).mono ?_
            rintro e w5 ⟨rfl, rfl⟩
            rw [Mem.wr_has, Mem.wr_has, HA.out, HX.out]
            go_wp2_with fail
            refine (read_any _ _ _ _ M2).mono ?_
            rintro e w5 ⟨rfl, rfl⟩
            rw [Mem.wr_has, Mem.wr_has, HB.out, HY.out]
            simp only [errI_t, errI_f]
            go_wp2_with fail
            refine (scrub_any _ _ _ _ _ M2 (by omega)).mono ?_
            rintro e w5 ⟨rfl, M3, U5⟩
            rw [Mem.wr_B, Mem.wr_B] at U5
            replace F1 := Lib.hid (U5.at F1.out hS)
            replace F2 := Lib.hid (U5.at F2.out hT)
            replace hU := hU.new (U5.one (by omega))
            clear U5 c1 c2 c3 c4
            obtain ⟨c1, c2⟩ := box2 F1.out
            obtain ⟨c3, c4⟩ := box2 F2.out
            rw [HE.out]
            go_wp2_with fail
            refine (read_any _ _ _ _ M3).mono ?_
            rintro e w6 ⟨rfl, rfl⟩
            rw [HZ.out]
            go_wp2_with fail
            refine (read_any _ _ _ _ M3).mono ?_
            rintro e w6 ⟨rfl, rfl⟩
            rw [HV.out]
            simp only [errI_t]
            go_wp2_with fail
            refine (zero_any _ _ _ _ M3).mono ?_
            rintro e w6 ⟨rfl, rfl⟩
            rw [HQ.out]
            go_wp2
            all_goals go_ret
            all_goals exact ⟨rfl, below_none hU⟩
        · rw [if_neg (by omega)] at hV
          have HV := Lib.hid hV
          have hne : a ≠ b := by intro e; exact hq (by rw [e])
          have q1 : (a / 16 == b / 16) = false := by simp [hq]
          have q2 : (a / 16 != b / 16) = true := by simp [hq]
          have hx := hab hne
          subst hx
          have n1 : (a == b) = false := by simp [hne]
          have n2 : (a != b) = true := by simp [hne]
          clear hV hq hab hne
          obtain ⟨c1, c2⟩ := box2 F1.out
          obtain ⟨c3, c4⟩ := box2 F2.out
          go_wp2_with fail
          refine (write_any _ _ _ _ _ M0).mono ?_
          rintro e w3 ⟨rfl, M1, U3⟩
          replace F1 := Lib.hid (U3.at F1.out hS)
          replace F2 := Lib.hid (U3.at F2.out hT)
          replace hU := hU.new (U3.one (by omega))
          clear U3 c1 c2 c3 c4
          obtain ⟨c1, c2⟩ := box2 F1.out
          obtain ⟨c3, c4⟩ := box2 F2.out
          rw [HA.out]
          go_wp2_with fail
          refine (write_any _ _ _ _ _ M1).mono ?_
          rintro e w4 ⟨rfl, M2, U4⟩
          rw [Mem.wr_B] at U4
          replace F1 := Lib.hid (U4.at F1.out hS)
          replace F2 := Lib.hid (U4.at F2.out hT)
          replace hU := hU.new (U4.one (by omega))
          clear U4 c1 c2 c3 c4
          obtain ⟨c1, c2⟩ := box2 F1.out
          obtain ⟨c3, c4⟩ := box2 F2.out
          rw [Mem.wr_has, HB.out]
          go_wp2_with fail
          refine (read_any _ _ _ _ M2).mono ?_
          rintro e w5 ⟨rfl, rfl⟩
          rw [Mem.wr_has, Mem.wr_has, HA.out, HX.out]
          go_wp2_with fail
          refine (read_any _ _ _ _ M2).mono ?_
          rintro e w5 ⟨rfl, rfl⟩
          rw [Mem.wr_has, Mem.wr_has, HB.out, HY.out]
          simp only [errI_t, errI_f]
          go_wp2_with fail
          refine (scrub_any _ _ _ _ _ M2 (by omega)).mono ?_
          rintro e w5 ⟨rfl, M3, U5⟩
          rw [Mem.wr_B, Mem.wr_B] at U5
          replace F1 := Lib.hid (U5.at F1.out hS)
          replace F2 := Lib.hid (U5.at F2.out hT)
          replace hU := hU.new (U5.one (by omega))
          clear U5 c1 c2 c3 c4
          obtain ⟨c1, c2⟩ := box2 F1.out
          obtain ⟨c3, c4⟩ := box2 F2.out
          rw [HE.out]
          go_wp2_with fail
          refine (read_any _ _ _ _ M3).mono ?_
          rintro e w6 ⟨rfl, rfl⟩
          rw [HZ.out]
          go_wp2_with fail
          refine (read_any _ _ _ _ M3).mono ?_
          rintro e w6 ⟨rfl, rfl⟩
          rw [HV.out]
          simp only [errI_t]
          go_wp2_with fail
          refine (zero_any _ _ _ _ M3).mono ?_
          rintro e w6 ⟨rfl, rfl⟩
          rw [HQ.out]
          go_wp2
          all_goals go_ret
          all_goals exact ⟨rfl, below_none hU⟩
  · have hn' : n < 1 ∨ 256 < n := by omega
    go_enter Try.func4, Try.ntmps4
    go_wp2_with fail
    refine (awake_any _).mono ?_
    rintro e w1 ⟨rfl, U1⟩
    go_wp2_with fail
    refine (new_no _ _ hn').mono ?_
    rintro e w2 ⟨rfl, rfl⟩
    go_wp2
    go_ret
    exact ⟨rfl, below_none (hU.trans U1)⟩
/-! ### the row's frame -/
theorem own : ownKnob Try.prog.godebug = none := by kernel_rfl
theorem laidOut : laidOutB Try.prog = true := by kernel_rfl
set_option linter.unusedVariables false in
set_option maxRecDepth 100000 in
theorem lifted (os : Os) (started : os.Started) (H : Type) (enc : TypeId × Value → H) :
    ReturnsInHanded {} Try.checked os 4 .any (Rows.memoryOneSpec.pre6 enc Try.prog Try.f4 Rows.memoryOneRow.domain false) (Rows.memoryOneSpec.post enc Try.prog Try.f4 false true false false) := by
  refine returnsInHanded_of_change (C := Try.checked) own started (by kernel_rfl) Try.func4
    (ChangeSpec.witness6 (enc := enc) (C := Try.checked) false ⟨#[], #[.int .i64 0, .agg #[.int .i64 0, .int .i64 0], .agg #[.int .u64 0, .int .u64 0]], []⟩ 8 (by kernel_rfl) (by kernel_rfl) (by kernel_rfl) (by kernel_rfl)) ?_
  intro W base args ds gs before hval0 hW hcnd _
  have hval : ∀ (j : Nat) t v, Try.f4.params[j]? = some t → args[j]? = some v → Value.okWide Try.prog W .any base t v := hval0
  have hW' := hW
  obtain ⟨p, q, hA0, hV, rfl, hfz, hnd⟩ := hW
  have hA : DataW.TrodAll enc Try.prog W 0 (fun _ => true) true Try.f4.params.toList args.toList ds p := hA0
  rw [Try.params4] at hA hval
  obtain ⟨v0, vs0, d0, ds0, p0, q0, hargs, rfl, rfl, h0, r0⟩ := trodAll_cons hA
  obtain ⟨v1, vs1, d1, ds1, p1, q1, rfl, rfl, rfl, h1, r1⟩ := trodAll_cons r0
  obtain ⟨v2, vs2, d2, ds2, p2, q2, rfl, rfl, rfl, h2, r2⟩ := trodAll_cons r1
  obtain ⟨rfl, rfl, rfl⟩ := trodAll_nil r2
  obtain rfl : args = #[v0, v1, v2] := by cases args; simp_all
  obtain ⟨rfl, rfl⟩ := trodVars_none hV
  have k0 := h0
  have lt0 : ∀ x ∈ p0, x.block < W.heap.size := by obtain ⟨m, hm⟩ := k0; exact DataW.trod_lt m _ _ _ hm
  obtain ⟨a0, rfl, rfl, rfl, w0⟩ := open_int Try.underlying3 (hval 0 3 v0 rfl rfl) h0
  have k1 := h1
  have lt1 : ∀ x ∈ p1, x.block < W.heap.size := by obtain ⟨m, hm⟩ := k1; exact DataW.trod_lt m _ _ _ hm
  obtain ⟨z1, l1, rfl, w1⟩ := Fr.open_intArr Try.underlying50 Try.underlying3 (by kernel_rfl) (by kernel_rfl) (hval 1 50 v1 rfl rfl) h1
  obtain ⟨a1_0, a1_1, rfl⟩ := Fr.len2 l1
  have k2 := h2
  have lt2 : ∀ x ∈ p2, x.block < W.heap.size := by obtain ⟨m, hm⟩ := k2; exact DataW.trod_lt m _ _ _ hm
  obtain ⟨z2, l2, rfl, w2⟩ := Fr.open_intArr Try.underlying51 Try.underlying31 (by kernel_rfl) (by kernel_rfl) (hval 2 51 v2 rfl rfl) h2
  obtain ⟨a2_0, a2_1, rfl⟩ := Fr.len2 l2
  clear hA0 hval0
  refine (walk a0 a1_0 a1_1 a2_0 a2_1 w0 w1 w2 W ).mono fun e W' ⟨he, bel⟩ => ?_
  subst he
  exact ⟨_, rfl, _, _, _, [], _, [], hW', trodAll_mk1 (shut_bool Try.underlying4 _), (trodAll_cons_mk (Below.trod laidOut (by kernel_rfl) (of_decide_eq_true (by kernel_rfl)) k0 bel lt0) (trodAll_cons_mk (Below.trod laidOut (by kernel_rfl) (of_decide_eq_true (by kernel_rfl)) k1 bel lt1) (trodAll_cons_mk (Below.trod laidOut (by kernel_rfl) (of_decide_eq_true (by kernel_rfl)) k2 bel lt2) trodAll_mk0))), rfl, bel.frame _, fun h => by cases h⟩

theorem over : Rows.memoryOneRow.holds Try.pinned (OpenSpec.ofChange Rows.memoryOneSpec) :=
  OpenClaim.holds_of_wide 4 Try.f4 rfl rfl rfl rfl rfl rfl rfl ⟨rfl, rfl, rfl, rfl, rfl⟩ rfl rfl rfl rfl rfl (by kernel_rfl) Try.func4 (by kernel_rfl)
    (of_decide_eq_true (by kernel_rfl)) (by unfold Func.isWrapper; first | (rw [if_pos (by decide +kernel)]; kernel_rfl) | (rw [if_neg (by decide +kernel)]; exact ⟨rfl, rfl⟩))
    (fun os started H enc _ => lifted os started H enc)

theorem proved : Rows.MemoryOneSaid :=
  over
end Go.Proofs.Ytjcemelpdffnkaa.memoryOne
