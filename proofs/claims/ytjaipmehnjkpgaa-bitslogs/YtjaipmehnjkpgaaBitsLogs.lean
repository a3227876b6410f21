/-
  Proved: trunnionlaw01.BitsLogs answers true for every input: 2 to the power of Log is the least that is not below, and what is aligned is a multiple less than one more below.
  Conditions: none.
-/
import Derived.Test.YtjaipmehnjkpgaaBitsD
import Derived.Test.YtjaipmehnjkpgaaFrame
namespace Go.Proofs.Ytjaipmehnjkpgaa.bitsLogs
open Go.ChangeShapes Go.WideShapes Go.ChangeAt Go.RowKit
set_option linter.unusedVariables false

theorem pow_le31 (k : Nat) (h : k ≤ 31) : IntKind.i64.wrap (2 ^ k) = 2 ^ k := by revert k; decide +kernel
theorem log_facts (m : Nat) (h1 : 1 ≤ m) (h2 : m ≤ 1073741824) : ∃ k p : Nat, M.logN m = k ∧ k ≤ 30 ∧ p = 2 ^ k ∧ m ≤ p ∧ (k = 0 ∨ p / 2 < m) := by
  have a := M.logN_le (n := m) (k := 30) (by omega)
  have b := M.logN_ge m
  have c := M.logN_lt m
  refine ⟨M.logN m, 2 ^ M.logN m, rfl, a, rfl, b, ?_⟩
  rcases c with c | c
  · exact .inl c
  · by_cases h0 : M.logN m = 0
    · exact .inl h0
    · right
      have e : M.logN m = (M.logN m - 1) + 1 := by omega
      rw [e, Nat.pow_succ, Nat.mul_div_cancel _ (by decide)]
      exact c

set_option maxHeartbeats 1000000 in
theorem walk (a0 : Int) (a1 : Int) (w0 : (Lit.int .i64 a0).wf = true) (w1 : (Lit.int .i64 a1).wf = true) (w : World) :
    Calls Try.prog 7 #[.int .i64 a0, .int .i64 a1] w fun e w' => e = .returned (.bool true) ∧ Below w.heap.size w w' := by
  clear w0 w1
  by_cases c1 : a0 < 1
  · go_enter Try.func7, Try.ntmps7
    go_wp2_with fail
    refine (awake_any _).mono ?_
    rintro e w1 ⟨rfl, n1, rfl⟩
    go_wp2
    go_ret
    exact ⟨rfl, below_drewN (Below.refl _ _) _⟩
  by_cases c2 : 1073741824 < a0
  · go_enter Try.func7, Try.ntmps7
    go_wp2_with fail
    refine (awake_any _).mono ?_
    rintro e w1 ⟨rfl, n1, rfl⟩
    go_wp2
    go_ret
    exact ⟨rfl, below_drewN (Below.refl _ _) _⟩
  by_cases c3 : a1 < 0
  · go_enter Try.func7, Try.ntmps7
    go_wp2_with fail
    refine (awake_any _).mono ?_
    rintro e w1 ⟨rfl, n1, rfl⟩
    go_wp2
    go_ret
    exact ⟨rfl, below_drewN (Below.refl _ _) _⟩
  by_cases c4 : 30 < a1
  · go_enter Try.func7, Try.ntmps7
    go_wp2_with fail
    refine (awake_any _).mono ?_
    rintro e w1 ⟨rfl, n1, rfl⟩
    go_wp2
    go_ret
    exact ⟨rfl, below_drewN (Below.refl _ _) _⟩
  obtain ⟨m, rfl⟩ := Int.eq_ofNat_of_zero_le (by omega : 0 ≤ a0)
  obtain ⟨o, rfl⟩ := Int.eq_ofNat_of_zero_le (by omega : 0 ≤ a1)
  obtain ⟨k, p, hk, hk30, hp, hmp, hpm⟩ := log_facts m (by omega) (by omega)
  have HL := Lib.hid (show logI m = k from by unfold logI; rw [Int.toNat_natCast, hk])
  have hw1 : IntKind.i64.wrap (2 ^ k) = (p : Int) := by rw [pow_le31 k (by omega), hp]; simp
  have hw2 : IntKind.i64.wrap (2 ^ o) = ((2 ^ o : Nat) : Int) := by rw [pow_le31 o (by omega)]; simp
  have hb := pow_bd o (by omega)
  obtain ⟨q, hq⟩ : ∃ q : Nat, q = 2 ^ o := ⟨_, rfl⟩
  have hq1 : 1 ≤ q := by rw [hq]; exact Nat.two_pow_pos o
  obtain ⟨a, ha⟩ : ∃ a : Nat, a = m - m % q := ⟨_, rfl⟩
  have hml := Nat.mod_lt m (by omega : 0 < q)
  have hmle := Nat.mod_le m q
  have HA := Lib.hid (show alignI m o = (a : Int) from by
    unfold alignI; rw [if_pos (by omega), Int.toNat_natCast, ha, hq]
    rw [hq] at hmle
    rw [Int.natCast_sub hmle]; simp)
  have haq : ((a : Int) % (q : Int) == 0) = true := by
    have e : a = q * (m / q) := by have := Nat.mod_add_div m q; omega
    rw [beq_iff_eq, e]; simp
  have h1 : a ≤ m := by omega
  have h2 : (m : Int) - (a : Int) < (q : Int) := by omega
  have h0 : (1 : Int) ≤ (q : Int) := by omega
  rw [← hq] at hw2
  clear hk hp hq hb ha hml hmle
  have d1 : decide (m ≤ p) = true := by simpa using hmp
  have fin : ∀ kz : Bool, ((k : Int) == 0) = kz → (kz = false → (p : Int) / 2 < (m : Int)) →
    Calls Try.prog 7 #[.int .i64 m, .int .i64 o] w fun e w' => e = .returned (.bool true) ∧ Below w.heap.size w w' := by
    intro kz hkz hlast
    cases kz
    all_goals
      first
        | (have hl := hlast rfl; clear hlast hpm)
        | (clear hlast hpm)
      go_enter Try.func7, Try.ntmps7
      go_wp2_with fail
      refine (awake_any _).mono ?_
      rintro e w1 ⟨rfl, n1, rfl⟩
      go_wp2_with fail
      refine (log_any _ _ (by omega)).mono ?_
      rintro e w1 ⟨rfl, rfl⟩
      rw [HL.out]
      go_wp2_with fail
      refine (align_any _ _ _ (by omega)).mono ?_
      rintro e w1 ⟨rfl, rfl⟩
      rw [HA.out]
      go_wp2
      go_ret
      exact ⟨rfl, below_drewN (Below.refl _ _) _⟩
  refine fin _ rfl (fun h => ?_)
  have : k ≠ 0 := by simpa using h
  omega

/-! ### the row's frame -/
theorem own : ownKnob Try.prog.godebug = none := by kernel_rfl
theorem laidOut : laidOutB Try.prog = true := by kernel_rfl
set_option linter.unusedVariables false in
set_option maxRecDepth 100000 in
theorem lifted (os : Os) (started : os.Started) (H : Type) (enc : TypeId × Value → H) :
    ReturnsInHanded {} Try.checked os 7 .any (Rows.bitsLogsSpec.pre6 enc Try.prog Try.f7 Rows.bitsLogsRow.domain false) (Rows.bitsLogsSpec.post enc Try.prog Try.f7 false true false false) := by
  refine returnsInHanded_of_change (C := Try.checked) own started (by kernel_rfl) Try.func7
    (ChangeSpec.witness6 (enc := enc) (C := Try.checked) false ⟨#[], #[.int .i64 0, .int .i64 0], []⟩ 8 (by kernel_rfl) (by kernel_rfl) (by kernel_rfl) (by kernel_rfl)) ?_
  intro W base args ds gs before hval0 hW hcnd _
  have hval : ∀ (j : Nat) t v, Try.f7.params[j]? = some t → args[j]? = some v → Value.okWide Try.prog W .any base t v := hval0
  have hW' := hW
  obtain ⟨p, q, hA0, hV, rfl, hfz, hnd⟩ := hW
  have hA : DataW.TrodAll enc Try.prog W 0 (fun _ => true) true Try.f7.params.toList args.toList ds p := hA0
  rw [Try.params7] at hA hval
  obtain ⟨v0, vs0, d0, ds0, p0, q0, hargs, rfl, rfl, h0, r0⟩ := trodAll_cons hA
  obtain ⟨v1, vs1, d1, ds1, p1, q1, rfl, rfl, rfl, h1, r1⟩ := trodAll_cons r0
  obtain ⟨rfl, rfl, rfl⟩ := trodAll_nil r1
  obtain rfl : args = #[v0, v1] := by cases args; simp_all
  obtain ⟨rfl, rfl⟩ := trodVars_none hV
  have k0 := h0
  have lt0 : ∀ x ∈ p0, x.block < W.heap.size := by obtain ⟨m, hm⟩ := k0; exact DataW.trod_lt m _ _ _ hm
  obtain ⟨a0, rfl, rfl, rfl, w0⟩ := open_int Try.underlying3 (hval 0 3 v0 rfl rfl) h0
  have k1 := h1
  have lt1 : ∀ x ∈ p1, x.block < W.heap.size := by obtain ⟨m, hm⟩ := k1; exact DataW.trod_lt m _ _ _ hm
  obtain ⟨a1, rfl, rfl, rfl, w1⟩ := open_int Try.underlying3 (hval 1 3 v1 rfl rfl) h1
  clear hA0 hval0
  refine (walk a0 a1 w0 w1 W).mono fun e W' ⟨he, bel⟩ => ?_
  subst he
  exact ⟨_, rfl, _, _, _, [], _, [], hW', trodAll_mk1 (shut_bool Try.underlying4 _), (trodAll_cons_mk (Below.trod laidOut (by kernel_rfl) (of_decide_eq_true (by kernel_rfl)) k0 bel lt0) (trodAll_cons_mk (Below.trod laidOut (by kernel_rfl) (of_decide_eq_true (by kernel_rfl)) k1 bel lt1) trodAll_mk0)), rfl, bel.frame _, fun h => by cases h⟩

theorem over : Rows.bitsLogsRow.holds Try.pinned (OpenSpec.ofChange Rows.bitsLogsSpec) :=
  OpenClaim.holds_of_wide 7 Try.f7 rfl rfl rfl rfl rfl rfl rfl ⟨rfl, rfl, rfl, rfl, rfl⟩ rfl rfl rfl rfl rfl (by kernel_rfl) Try.func7 (by kernel_rfl)
    (of_decide_eq_true (by kernel_rfl)) (by unfold Func.isWrapper; first | (rw [if_pos (by decide +kernel)]; kernel_rfl) | (rw [if_neg (by decide +kernel)]; exact ⟨rfl, rfl⟩))
    (fun os started H enc _ => lifted os started H enc)

theorem proved : Rows.BitsLogsSaid :=
  over
end Go.Proofs.Ytjaipmehnjkpgaa.bitsLogs
