/-
  Proved: trunnionlaw10.AsidFair answers true for every input: when all numbers are taken back each time, each is given as often as any other one, or once more.
  Conditions: none.
-/
import Derived.Deep.DeepCutAuto
import Derived.Deep.CutBlock
import Derived.Deep.RegionHeld3
import Derived.Test.YtmalfdbjbgifeaaPart2
namespace Go.Proofs.Ytmalfdbjbgifeaa.asidFair
open Go.ChangeShapes Go.WideShapes Go.ChangeAt Go.RowKit Go.Maps
set_option linter.unusedVariables false
set_option linter.unusedSimpArgs false

/-- how often each was given when i were given in turn -/
def fair (n i : Nat) : Po := ⟨n, fun j => if j < n then i / n + (if j < i % n then 1 else 0) else 0, fun _ => false⟩
theorem fair0 (n : Nat) : fair n 0 = po0 n := by
  unfold fair po0
  congr 1
  funext j
  simp
theorem fair_step {n : Nat} (i : Nat) (hn : 1 ≤ n) : ((fair n i).take (i % n)).back (i % n) = fair n (i + 1) := by
  have hr : i % n < n := Nat.mod_lt _ hn
  have hi := Nat.div_add_mod i n
  unfold fair Po.take Po.back
  simp only [Po.mk.injEq, true_and]
  constructor
  · funext j
    have key : (i + 1) / n = (if i % n + 1 < n then i / n else i / n + 1) ∧ (i + 1) % n = (if i % n + 1 < n then i % n + 1 else 0) := by
      by_cases h : i % n + 1 < n
      · rw [if_pos h, if_pos h]
        have := (Nat.div_mod_unique (a := i + 1) (b := n) (c := i % n + 1) (d := i / n) (by omega)).2 ⟨by omega, h⟩
        exact this
      · rw [if_neg h, if_neg h]
        have e : i % n + 1 = n := by omega
        have := (Nat.div_mod_unique (a := i + 1) (b := n) (c := 0) (d := i / n + 1) (by omega)).2 ⟨by rw [Nat.mul_add]; omega, by omega⟩
        exact this
    rw [key.1, key.2]
    unfold updP
    simp only []
    by_cases hj : j < n
    · rw [if_pos hj, if_pos hj, if_pos hr]
      by_cases h : i % n + 1 < n
      · rw [if_pos h, if_pos h]
        split <;> split <;> split <;> omega
      · rw [if_neg h, if_neg h]
        split <;> split <;> split <;> omega
    · rw [if_neg hj, if_neg hj, if_neg (by omega)]
  · funext j
    unfold updP
    split <;> rfl
theorem fair_best {n : Nat} (i : Nat) (hn : 1 ≤ n) : (fair n i).best = some (i % n) := by
  have hr : i % n < n := Nat.mod_lt _ hn
  cases hb : (fair n i).best with
  | none =>
    have := Po.best_none hb
    have h2 : (fair n i).idx false = List.range n := List.filter_eq_self.2 fun _ _ => rfl
    unfold Po.left at this
    rw [h2, List.length_range] at this
    omega
  | some c =>
    obtain ⟨h1, _, h3⟩ := Po.best_some hb
    have h1' : c < n := h1
    obtain ⟨h4, h5⟩ := h3 (i % n) hr rfl
    have e1 : (fair n i).u c = i / n + (if c < i % n then 1 else 0) := if_pos h1'
    have e2 : (fair n i).u (i % n) = i / n := by show (if i % n < n then _ else _) = _; rw [if_pos hr, if_neg (by omega)]; rfl
    rw [e1, e2] at h4 h5
    congr 1
    by_cases hc : c < i % n
    · rw [if_pos hc] at h4; omega
    · rw [if_neg hc] at h5
      have := h5 rfl
      omega
theorem fair_top {n i : Nat} : (fair n i).top (i + 1) := by
  intro j hj
  have hj : j < n := hj
  show (if j < n then _ else _) ≤ _
  rw [if_pos hj]
  have := Nat.div_le_self i n
  split <;> omega
theorem fair_u {n i : Nat} (hn : 1 ≤ n) : (fair n i).u (i % n) = i / n := by
  have hr : i % n < n := Nat.mod_lt _ hn
  show (if i % n < n then _ else _) = _
  rw [if_pos hr, if_neg (by omega)]; rfl
theorem fair_at {n i : Nat} (hn : 1 ≤ n) : ((fair n i).take (i % n)).at ((i % n + 1 : Nat) : Int) ((i / n + 1 : Nat) : Int) = some (i % n) := by
  have h := Po.at_of (p := (fair n i).take (i % n)) (c := i % n) (Nat.mod_lt _ hn) (updP_same _ _ _)
  rwa [show ((fair n i).take (i % n)).u (i % n) = i / n + 1 from by show updP _ _ _ _ = _; rw [updP_same, fair_u hn]] at h
theorem fair_left (n i : Nat) : (fair n i).left = n := by
  have h2 : (fair n i).idx false = List.range n := List.filter_eq_self.2 fun _ _ => rfl
  unfold Po.left
  rw [h2, List.length_range]
theorem below_of {w w' : World} (u : Upd (fun _ => False) w w') : Below w.heap.size w w' := u.below (Nat.le_refl _) fun _ _ h => h

set_option maxRecDepth 100000 in
set_option maxHeartbeats 4000000 in
theorem walk (m k : Int) (w0 : (Lit.int .i64 m).wf = true) (w1 : (Lit.int .i64 k).wf = true) (w : World) :
    Calls Try.prog 5 #[.int .i64 m, .int .i64 k] w fun e w' => e = .returned (.bool true) ∧ Below w.heap.size w w' := by
  clear w0 w1
  by_cases hm : 1 ≤ m ∧ m ≤ 8
  · obtain ⟨n, rfl⟩ := Int.eq_ofNat_of_zero_le (show 0 ≤ m by omega)
    have hn1 : 1 ≤ n := by omega
    have hn8 : n ≤ 8 := by omega
    clear hm
    by_cases hk : 0 ≤ k ∧ k ≤ 100
    · obtain ⟨K, rfl⟩ := Int.eq_ofNat_of_zero_le hk.1
      have hK : K ≤ 100 := by omega
      clear hk
      go_enter Try.func5, Try.ntmps5
      go_wp2_with fail
      refine (a10awake_any _).mono ?_
      rintro e w1 ⟨rfl, U1⟩
      go_wp2_with fail
      refine (anew_yes n _ hn1 hn8).mono ?_
      rintro e w2 ⟨A, B1, B2, rfl, P2, l0, l1, l2, U2⟩
      have V2 := U1.trans U2
      have l1 := Nat.le_trans U1.size l1
      have l2 := Nat.le_trans U1.size l2
      rw [← fair0] at P2
      clear U1 U2
      go_wp2_with fail
      go_loopw [8] (fun t wr => ∃ i : Nat, i ≤ K ∧ t = .int .i64 i ∧ PoolAt wr A B1 B2 (fair n i) ∧ Upd (fun _ => False) w wr) (fun t _ => K - (intOf t).toNat)
      case atStart => exact ⟨0, by omega, rfl, P2, V2⟩
      case round =>
        clear P2 V2
        obtain ⟨i, hi, rfl, P, U⟩ := hrel
        by_cases hlt : i < K
        · go_wp2_with fail
          refine (atake_any A B1 B2 _ (i + 1) (by omega) fair_top _ P).mono ?_
          rintro e w3 (⟨hb, _⟩ | ⟨c, hb, _, _, rfl, P3, U3⟩)
          · rw [fair_best i hn1] at hb; cases hb
          rw [fair_best i hn1] at hb
          obtain rfl : i % n = c := by injection hb
          rw [fair_u hn1]
          have V3 := U.pool (A := A) U3 l1 l2
          have Hat := Lib.hid (fair_at (n := n) (i := i) hn1)
          have Hst := Lib.hid (fair_step (n := n) i hn1)
          have Htop := Lib.hid (show ((fair n i).take (i % n)).top (i + 1 + 1) from Po.top_take fair_top _)
          have hrm : i % n ≤ 8 := by have := Nat.mod_lt i hn1; omega
          have hqm : i / n ≤ 100 := by have := Nat.div_le_self i n; omega
          obtain ⟨r, hr⟩ : ∃ r, i % n = r := ⟨_, rfl⟩
          obtain ⟨q, hq⟩ : ∃ q, i / n = q := ⟨_, rfl⟩
          have Hr := Lib.hid (show (i : Int) % (n : Int) = (r : Int) from by rw [← hr]; omega)
          have Hq := Lib.hid (show (i : Int) / (n : Int) = (q : Int) from by rw [← hq]; omega)
          rw [hr, hq] at Hat
          rw [hr] at Hst Htop P3 hrm
          rw [hq] at hqm
          obtain ⟨X, hX⟩ : ∃ X, r + 1 = X := ⟨_, rfl⟩
          obtain ⟨Y, hY⟩ : ∃ Y, q + 1 = Y := ⟨_, rfl⟩
          rw [hX, hY] at Hat
          rw [hr, hq, hX, hY]
          have HXY := Lib.hid (And.intro hX hY)
          clear hb P U U3 hr hq hX hY
          obtain ⟨k4, u4⟩ := tag_box w3 X Y
          have P4 := P3.still u4
          have V4 := V3.trans u4
          clear P3 V3 u4
          go_upto_region 9 with fail
          generalize w3.alloc (.cells #[.int .i64 (X : Int), .int .i64 (Y : Int)] 33) = w4 at k4 P4 V4 ⊢
          generalize w3.heap.size = R at k4 ⊢
          obtain ⟨hX, hY⟩ := HXY.out
          have kd := k4.kept (Upd.refl (fun _ => False) w4).drew id
          have d0 := kd.c0
          have d1 := kd.c1
          have Pd := P4.still (Upd.refl (fun _ => False) w4).drew
          have n1 : R ≠ B1 ∧ R ≠ B2 := by
            obtain ⟨D, ⟨es, cc, hx, _⟩, _⟩ := P4.m1
            obtain ⟨D', ⟨es', cc', hx', _⟩, _⟩ := P4.m2
            refine ⟨fun e => ?_, fun e => ?_⟩
            · have := k4; unfold TagAt at this; rw [e, hx] at this; cases this
            · have := k4; unfold TagAt at this; rw [e, hx'] at this; cases this
          have Hw := Lib.hid (show (Lit.int .i64 (X : Int)).wf = true from wf_frame (by omega))
          have hne : ¬ (n : Int) = 0 := by omega
          have hneN : ¬ n = 0 := by omega
          have g1 : (i : Int).tmod (n : Int) = (r : Int) := by rw [Int.tmod_eq_emod_of_nonneg (by omega)]; exact Hr.out
          have g2 : (i : Int).tdiv (n : Int) = (q : Int) := by rw [Int.tdiv_eq_ediv_of_nonneg (by omega)]; exact Hq.out
          have g3 : IntKind.i64.wrap ((r : Int) + 1) = (X : Int) := by rw [IntWalk.i64_in _ (by omega)]; omega
          have g4 : IntKind.i64.wrap ((q : Int) + 1) = (Y : Int) := by rw [IntWalk.i64_in _ (by omega)]; omega
          have g5 : IntKind.i64.wrap (r : Int) = (r : Int) := IntWalk.i64_in _ (by omega)
          have g6 : IntKind.i64.wrap (q : Int) = (q : Int) := IntWalk.i64_in _ (by omega)
          clear hX hY
          go_region_held3 (fun w' => w'.cell? ⟨R, 0, none⟩ = some (.int .i64 X) ∧ w'.cell? ⟨R, 1, none⟩ = some (.int .i64 Y))
            (first
              | exact ⟨d0, d1⟩
              | exact ⟨p0, p1⟩)
            ((go_at_call 11; refine (aback_any A B1 B2 _ (i + 1 + 1) (by omega) Htop.out _ _ Hw.out _ Pd).mono ?_; rintro e w5 (⟨hb, _⟩ | ⟨c, hb, rfl, P5, U5⟩); (rw [Hat.out] at hb; cases hb); (rw [Hat.out] at hb); have p0 := U5.cell d0 (fun x => x.elim n1.1 n1.2); have p1 := U5.cell d1 (fun x => x.elim n1.1 n1.2)))
          injection hb with hb
          subst hb
          rw [Hst.out] at P5
          have V5 := V4.pool (A := A) (((Upd.refl (fun x => x = B1 ∨ x = B2) w4).drew).trans U5) l1 l2
          clear g1 g2 g3 g4 g5 g6 d0 d1 p0 p1
          go_wp2_with fail
          exact ⟨⟨i + 1, by omega, by go_num, P5, V5⟩, by simp [intOf]; omega⟩
        · have e : i = K := by omega
          subst e
          have hl := Lib.hid (fair_left n i)
          go_wp2_with fail
          refine (aleft_any A B1 B2 _ _ P).mono ?_
          rintro e w6 ⟨rfl, rfl⟩
          rw [hl.out]
          go_wp2
          go_ret
          exact ⟨rfl, below_of U⟩
    · by_cases h0 : k < 0
      · clear hk
        go_enter Try.func5, Try.ntmps5
        go_wp2_with fail
        refine (a10awake_any _).mono ?_
        rintro e w1 ⟨rfl, U1⟩
        go_wp2_with fail
        refine (anew_yes n _ hn1 hn8).mono ?_
        rintro e w2 ⟨A, B1, B2, rfl, P2, l0, l1, l2, U2⟩
        have V2 := U1.trans U2
        go_wp2
        go_ret
        exact ⟨rfl, below_of V2⟩
      · have h1 : 100 < k := by omega
        clear hk
        go_enter Try.func5, Try.ntmps5
        go_wp2_with fail
        refine (a10awake_any _).mono ?_
        rintro e w1 ⟨rfl, U1⟩
        go_wp2_with fail
        refine (anew_yes n _ hn1 hn8).mono ?_
        rintro e w2 ⟨A, B1, B2, rfl, P2, l0, l1, l2, U2⟩
        have V2 := U1.trans U2
        go_wp2
        go_ret
        exact ⟨rfl, below_of V2⟩
  · go_enter Try.func5, Try.ntmps5
    go_wp2_with fail
    refine (a10awake_any _).mono ?_
    rintro e w1 ⟨rfl, U1⟩
    go_wp2_with fail
    refine (anew_no m _ (by omega)).mono ?_
    rintro e w2 ⟨rfl, rfl⟩
    clear hm
    go_wp2
    go_ret
    exact ⟨rfl, below_of U1⟩
/-! ### the row's frame -/
theorem own : ownKnob Try.prog.godebug = none := by kernel_rfl
theorem laidOut : laidOutB Try.prog = true := by kernel_rfl
set_option linter.unusedVariables false in
set_option maxRecDepth 100000 in
theorem lifted (os : Os) (started : os.Started) (H : Type) (enc : TypeId × Value → H) :
    ReturnsInHanded {} Try.checked os 5 .any (Rows.asidFairSpec.pre6 enc Try.prog Try.f5 Rows.asidFairRow.domain false) (Rows.asidFairSpec.post enc Try.prog Try.f5 false true false false) := by
  refine returnsInHanded_of_change (C := Try.checked) own started (by kernel_rfl) Try.func5
    (ChangeSpec.witness6 (enc := enc) (C := Try.checked) false ⟨#[], #[.int .i64 0, .int .i64 0], []⟩ 8 (by kernel_rfl) (by kernel_rfl) (by kernel_rfl) (by kernel_rfl)) ?_
  intro W base args ds gs before hval0 hW hcnd _
  have hval : ∀ (j : Nat) t v, Try.f5.params[j]? = some t → args[j]? = some v → Value.okWide Try.prog W .any base t v := hval0
  have hW' := hW
  obtain ⟨p, q, hA0, hV, rfl, hfz, hnd⟩ := hW
  have hA : DataW.TrodAll enc Try.prog W 0 (fun _ => true) true Try.f5.params.toList args.toList ds p := hA0
  rw [Try.params5] at hA hval
  obtain ⟨v0, vs0, d0, ds0, p0, q0, hargs, rfl, rfl, h0, r0⟩ := trodAll_cons hA
  obtain ⟨v1, vs1, d1, ds1, p1, q1, rfl, rfl, rfl, h1, r1⟩ := trodAll_cons r0
  obtain ⟨rfl, rfl, rfl⟩ := trodAll_nil r1
  obtain rfl : args = #[v0, v1] := by cases args; simp_all
  obtain ⟨rfl, rfl⟩ := trodVars_none hV
  have k0 := h0
  have lt0 : ∀ x ∈ p0, x.block < W.heap.size := by obtain ⟨m, hm⟩ := k0; exact DataW.trod_lt m _ _ _ hm
  obtain ⟨a0, rfl, rfl, rfl, w0⟩ := open_int Try.underlying3 (hval 0 3 v0 rfl rfl) h0
  have k1 := h1
  have lt1 : ∀ x ∈ p1, x.block < W.heap.size := by obtain ⟨m, hm⟩ := k1; exact DataW.trod_lt m _ _ _ hm
  obtain ⟨a1, rfl, rfl, rfl, w1⟩ := open_int Try.underlying3 (hval 1 3 v1 rfl rfl) h1
  clear hA0 hval0
  refine (walk a0 a1 w0 w1 W ).mono fun e W' ⟨he, bel⟩ => ?_
  subst he
  exact ⟨_, rfl, _, _, _, [], _, [], hW', trodAll_mk1 (shut_bool Try.underlying4 _), (trodAll_cons_mk (Below.trod laidOut (by kernel_rfl) (of_decide_eq_true (by kernel_rfl)) k0 bel lt0) (trodAll_cons_mk (Below.trod laidOut (by kernel_rfl) (of_decide_eq_true (by kernel_rfl)) k1 bel lt1) trodAll_mk0)), rfl, bel.frame _, fun h => by cases h⟩

theorem over : Rows.asidFairRow.holds Try.pinned (OpenSpec.ofChange Rows.asidFairSpec) :=
  OpenClaim.holds_of_wide 5 Try.f5 rfl rfl rfl rfl rfl rfl rfl ⟨rfl, rfl, rfl, rfl, rfl⟩ rfl rfl rfl rfl rfl (by kernel_rfl) Try.func5 (by kernel_rfl)
    (of_decide_eq_true (by kernel_rfl)) (by unfold Func.isWrapper; first | (rw [if_pos (by decide +kernel)]; kernel_rfl) | (rw [if_neg (by decide +kernel)]; exact ⟨rfl, rfl⟩))
    (fun os started H enc _ => lifted os started H enc)

theorem proved : Rows.AsidFairSaid :=
  over
end Go.Proofs.Ytmalfdbjbgifeaa.asidFair
