/-
  Proved: trunnionlaw04.BuddyMany answers true for every input: as many blocks of an order are given as fit into a memory without a reserved frame, and then no more.
  Conditions: none.
-/
import Derived.Test.YtmobhojblclmjaaBgI
import Derived.Test.YtmobhojblclmjaaFrame
namespace Go.Proofs.Ytmobhojblclmjaa.buddyMany
open Go.ChangeShapes Go.WideShapes Go.ChangeAt Go.RowKit Go.Maps
set_option linter.unusedVariables false
set_option linter.unusedSimpArgs false

theorem below_none {w w' : World} (h : Upd (fun _ => False) w w') : Below w.heap.size w w' := h.below (Nat.le_refl _) (fun _ _ e => e)
/-- behind i blocks of order k -/
structure St (b : Bud) (n k i : Nat) : Prop where
  n : b.n = n
  r : b.res = 0
  all : ∀ x, x ∈ b.gave → x.2 = k
  len : b.gave.length = i
theorem sum_const {k : Nat} : ∀ (l : List (Nat × Nat)), (∀ x, x ∈ l → x.2 = k) → (l.map fun x => 2 ^ x.2).sum = l.length * 2 ^ k
  | [], _ => by simp
  | x :: l, h => by
    rw [List.map_cons, List.sum_cons, sum_const l fun y hy => h y (by simp [hy]), h x (by simp), List.length_cons, Nat.succ_mul]
    omega
theorem St.left {b : Bud} {n k i : Nat} (h : St b n k i) (hok : b.Ok) : b.left + i * 2 ^ k = n := by
  have := left_sum hok
  rw [sum_const _ h.all, h.len, h.n, h.r] at this
  omega
theorem St.give {b : Bud} {n k i : Nat} (h : St b n k i) (f : Nat) : St (b.give (f, k)) n k (i + 1) :=
  ⟨h.n, h.r, fun x hx => by
    rcases List.mem_append.1 hx with hx | hx
    · exact h.all x hx
    · simp at hx; rw [hx], by show (b.gave ++ [(f, k)]).length = _; rw [List.length_append, h.len]; rfl⟩

set_option maxRecDepth 100000 in
set_option maxHeartbeats 2000000 in
theorem walk (fs od : Int) (w0 : (Lit.int .i64 fs).wf = true) (w1 : (Lit.int .i64 od).wf = true) (w : World) :
    Calls Try.prog 8 #[.int .i64 fs, .int .i64 od] w fun e w' => e = .returned (.bool true) ∧ Below w.heap.size w w' := by
  clear w0 w1
  go_enter Try.func8, Try.ntmps8
  go_wp2_with fail
  refine (awake_any _).mono ?_
  rintro x w1 ⟨rfl, U1⟩
  go_wp2_with fail
  refine (begun_any fs 0 _).mono ?_
  rintro x w2 (⟨hno, rfl, U2⟩ | ⟨n, r, A, MA, GB, MB, rfl, hr, n1, n2, _, rfl, D2, S2, U2⟩)
  · clear hno
    go_wp2
    go_ret
    exact ⟨rfl, below_none (U1.trans U2)⟩
  obtain rfl : r = 0 := by omega
  have V2 := U1.trans U2
  have hs1 := U1.size
  have hge : w.heap.size ≤ GB := Nat.le_trans hs1 S2.gb
  obtain ⟨a1, a2, a3, a4⟩ := D2.B.apart D2.M
  have hgm : GB ≠ MB := a4
  clear U1 U2 hr hs1 S2 a1 a2 a4
  by_cases ho : 0 ≤ od ∧ od ≤ 8
  · obtain ⟨k, rfl⟩ := Int.eq_ofNat_of_zero_le ho.1
    have hk8 : k ≤ 8 := by omega
    have hbd := pw_bd k hk8
    have hne : ¬ pw k = 0 := by omega
    go_wp2_with (first
      | (with_reducible refine wpList_shl1 rfl _ _ _ _ rfl rfl k hk8 rfl ?_)
      | go_in)
    have hpw := Lib.hid (show pw k = ((2 ^ k : Nat) : Int) from rfl)
    obtain ⟨q, hq⟩ : ∃ q, n / 2 ^ k = q := ⟨_, rfl⟩
    have hqI : (n : Int) / pw k = (q : Int) := by rw [hpw.out, ← hq]; omega
    have hq256 : q ≤ 256 := by rw [← hq]; exact Nat.le_trans (Nat.div_le_self _ _) n2
    have Hq := Lib.hid hq
    clear hq
    go_loopw [9] (fun t wr => ∃ (i : Nat) (b : Bud), i ≤ q ∧ t = .int .i64 i ∧ St b n k i ∧ Duo wr A MA GB (memNew MB n) b ∧ Upd (fun _ => False) w wr) (fun t _ => q - (intOf t).toNat)
    case atStart => exact ⟨0, bud0 n 0, by omega, rfl, ⟨rfl, rfl, fun x hx => absurd hx List.not_mem_nil, rfl⟩, D2, V2⟩
    case round =>
      obtain ⟨i, b, hi, rfl, hS, hD, hU⟩ := hrel
      by_cases hlt : i < q
      · go_wp2_with fail
        refine (frames_any MA _ _ hD.M).mono ?_
        rintro x w3 ⟨rfl, rfl⟩
        rw [show (memNew MB n).n = n from rfl]
        go_wp2_with fail
        refine (bAlloc_any A MA GB _ _ k _ hD.B hD.M hD.n hk8).mono ?_
        have hsome := many_some hD.B.ok hS.r hk8 hS.all (by rw [hS.len, hS.n, Hq.out]; exact hlt)
        rintro x w4 (⟨hs, _⟩ | ⟨y, hs, rfl, B4, U4⟩)
        · obtain ⟨y, hy⟩ := hsome
          rw [hs] at hy; cases hy
        have hal := mod_pow_of (sel_blk hs).2 (sel_blk hs).1.b.al
        have hmod : (y.1 : Int) % pw k = 0 := by rw [hpw.out]; omega
        have D4 : Duo w4 A MA GB (memNew MB n) (b.give (y.1, k)) := ⟨B4, hD.M.kept U4 (fun e => a3 e.symm) (fun e => hgm e.symm), hD.n⟩
        have V4 : Upd (fun _ => False) w w4 := hU.trans' U4 hge
        have hS4 := hS.give y.1
        clear hs hsome hD hU U4 B4 hS hal
        go_wp2
        exact ⟨⟨i + 1, _, by omega, by go_num, hS4, D4, V4⟩, by simp [intOf]; omega⟩
      · have e : i = q := by omega
        subst e
        have hleft := hS.left hD.B.ok
        have hdm := Nat.div_add_mod n (2 ^ k)
        have hml := Nat.mod_lt n (Nat.two_pow_pos k)
        have hlr : b.left = n % 2 ^ k := by rw [Hq.out, Nat.mul_comm] at hdm; omega
        have hnone : b.sel k = none := many_none (by omega)
        have hmodI : (n : Int) % pw k = ((n % 2 ^ k : Nat) : Int) := by rw [hpw.out]; omega
        have HL := Lib.hid hlr
        clear hleft hdm hml hlr
        go_wp2_with fail
        refine (frames_any MA _ _ hD.M).mono ?_
        rintro x w3 ⟨rfl, rfl⟩
        rw [show (memNew MB n).n = n from rfl]
        go_wp2_with fail
        refine (bAlloc_any A MA GB _ _ k _ hD.B hD.M hD.n hk8).mono ?_
        rintro x w4 (⟨_, rfl, U4⟩ | ⟨y, hs, _⟩)
        case inr => rw [hnone] at hs; cases hs
        have D4 := hD.still U4
        have V4 := hU.trans U4
        clear hD hU U4
        go_wp2_with fail
        refine (bHeld_any A MA GB _ _ D4.B).mono ?_
        rintro x w5 ⟨v, rfl, hrow, U5⟩
        obtain ⟨o, cap, rfl⟩ := slice2 hrow
        have D5 := D4.still U5
        have V5 := V4.trans U5
        rw [show b.held.length = i from by rw [held_len, hS.len]]
        clear hrow D4 V4 U5
        go_wp2_with fail
        refine (frames_any MA _ _ D5.M).mono ?_
        rintro x w6 ⟨rfl, rfl⟩
        rw [show (memNew MB n).n = n from rfl]
        go_wp2_with fail
        refine (bLeft_any A MA GB _ _ _ D5.B D5.M D5.n).mono ?_
        rintro x w7 ⟨rfl, U7⟩
        have D7 := D5.still U7
        have V7 := V5.trans U7
        rw [HL.out]
        clear D5 V5 U7
        go_wp2_with fail
        refine (frames_any MA _ _ D7.M).mono ?_
        rintro x w8 ⟨rfl, rfl⟩
        rw [show (memNew MB n).n = n from rfl]
        go_wp2
        go_ret
        exact ⟨rfl, below_none V7⟩
  · by_cases h0 : od < 0
    · go_wp2
      go_ret
      exact ⟨rfl, below_none V2⟩
    · have h1 : 8 < od := by omega
      go_wp2
      go_ret
      exact ⟨rfl, below_none V2⟩
/-! ### the row's frame -/
theorem own : ownKnob Try.prog.godebug = none := by kernel_rfl
theorem laidOut : laidOutB Try.prog = true := by kernel_rfl
set_option linter.unusedVariables false in
set_option maxRecDepth 100000 in
theorem lifted (os : Os) (started : os.Started) (H : Type) (enc : TypeId × Value → H) :
    ReturnsInHanded {} Try.checked os 8 .any (Rows.buddyManySpec.pre6 enc Try.prog Try.f8 Rows.buddyManyRow.domain false) (Rows.buddyManySpec.post enc Try.prog Try.f8 false true false false) := by
  refine returnsInHanded_of_change (C := Try.checked) own started (by kernel_rfl) Try.func8
    (ChangeSpec.witness6 (enc := enc) (C := Try.checked) false ⟨#[], #[.int .i64 0, .int .i64 0], []⟩ 8 (by kernel_rfl) (by kernel_rfl) (by kernel_rfl) (by kernel_rfl)) ?_
  intro W base args ds gs before hval0 hW hcnd _
  have hval : ∀ (j : Nat) t v, Try.f8.params[j]? = some t → args[j]? = some v → Value.okWide Try.prog W .any base t v := hval0
  have hW' := hW
  obtain ⟨p, q, hA0, hV, rfl, hfz, hnd⟩ := hW
  have hA : DataW.TrodAll enc Try.prog W 0 (fun _ => true) true Try.f8.params.toList args.toList ds p := hA0
  rw [Try.params8] at hA hval
  obtain ⟨v0, vs0, d0, ds0, p0, q0, hargs, rfl, rfl, h0, r0⟩ := trodAll_cons hA
  obtain ⟨v1, vs1, d1, ds1, p1, q1, rfl, rfl, rfl, h1, r1⟩ := trodAll_cons r0
  obtain ⟨rfl, rfl, rfl⟩ := trodAll_nil r1
  obtain rfl : args = #[v0, v1] := by cases args; simp_all
  obtain ⟨rfl, rfl⟩ := trodVars_none hV
  have k0 := h0
  have lt0 : ∀ x ∈ p0, x.block < W.heap.size := by obtain ⟨m, hm⟩ := k0; exact DataW.trod_lt m _ _ _ hm
  obtain ⟨a0, rfl, rfl, rfl, w0⟩ := open_int Try.underlying3 (hval 0 3 v0 rfl rfl) h0
  have k1 := h1
  have lt1 : ∀ x ∈ p1, x.block < W.heap.size := by obtain ⟨m, hm⟩ := k1; exact DataW.trod_lt m _ _ _ hm
  obtain ⟨a1, rfl, rfl, rfl, w1⟩ := open_int Try.underlying3 (hval 1 3 v1 rfl rfl) h1
  clear hA0 hval0
  refine (walk a0 a1 w0 w1 W ).mono fun e W' ⟨he, bel⟩ => ?_
  subst he
  exact ⟨_, rfl, _, _, _, [], _, [], hW', trodAll_mk1 (shut_bool Try.underlying4 _), (trodAll_cons_mk (Below.trod laidOut (by kernel_rfl) (of_decide_eq_true (by kernel_rfl)) k0 bel lt0) (trodAll_cons_mk (Below.trod laidOut (by kernel_rfl) (of_decide_eq_true (by kernel_rfl)) k1 bel lt1) trodAll_mk0)), rfl, bel.frame _, fun h => by cases h⟩

theorem over : Rows.buddyManyRow.holds Try.pinned (OpenSpec.ofChange Rows.buddyManySpec) :=
  OpenClaim.holds_of_wide 8 Try.f8 rfl rfl rfl rfl rfl rfl rfl ⟨rfl, rfl, rfl, rfl, rfl⟩ rfl rfl rfl rfl rfl (by kernel_rfl) Try.func8 (by kernel_rfl)
    (of_decide_eq_true (by kernel_rfl)) (by unfold Func.isWrapper; first | (rw [if_pos (by decide +kernel)]; kernel_rfl) | (rw [if_neg (by decide +kernel)]; exact ⟨rfl, rfl⟩))
    (fun os started H enc _ => lifted os started H enc)

theorem proved : Rows.BuddyManySaid :=
  over
end Go.Proofs.Ytmobhojblclmjaa.buddyMany
