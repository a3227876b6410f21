/-
  Proved: trunnionlaw05.OwnersEach answers true for every input: frames that are given are each one's, and no others are; a quota that is full gives no more.
  Conditions: none.
-/
import Derived.Test.YtmapceallmphpaaOwE
import Derived.Test.YtmapceallmphpaaOwH
import Derived.Test.YtmapceallmphpaaFrame
namespace Go.Proofs.Ytmapceallmphpaa.ownersEach
open Go.ChangeShapes Go.WideShapes Go.ChangeAt Go.RowKit Go.Proofs.Ytmapceallmphpaa.ownersBack
set_option linter.unusedVariables false
set_option linter.unusedSimpArgs false

set_option maxRecDepth 100000 in
set_option maxHeartbeats 2000000 in
theorem walk0 {OAt : World → Nat → (Nat → Prop) → Ow → Prop} (K : OwC OAt) (f k u v : Int) (w0 : (Lit.int .i64 f).wf = true) (w1 : (Lit.int .i64 k).wf = true) (w2 : ∀ z ∈ [u, v], (Lit.int .i64 z).wf = true) (w : World) :
    Calls Try.prog 6 #[.int .i64 f, .int .i64 k, .agg #[.int .i64 u, .int .i64 v]] w fun e w' => e = .returned (.bool true) ∧ Below w.heap.size w w' := by
  have hf := Lib.hid (in64_of w0)
  have hk := Lib.hid (in64_of w1)
  clear w0 w1 w2
  obtain ⟨b0, b1⟩ := heap_box w (.int .i64 u) (.int .i64 v) 39
  have U0 : Upd (fun _ => False) w (w.alloc (.cells #[.int .i64 u, .int .i64 v] 39)) := (Upd.refl _ _).alloc _
  have hbl : w.heap.size < (w.alloc (.cells #[.int .i64 u, .int .i64 v] 39)).heap.size := by simp
  go_enter Try.func6, Try.ntmps6
  go_wp2_with fail
  refine (awake_any K _).mono ?_
  rintro x w1 ⟨rfl, U1⟩
  have c0 := U1.cell b0 (fun h => h)
  have c1 := U1.cell b1 (fun h => h)
  have V1 := U0.trans U1
  have hb1 : w.heap.size < w1.heap.size := Nat.lt_of_lt_of_le hbl U1.size
  clear b0 b1 U0 U1 hbl
  go_wp2_with fail
  refine (K.new_yes 16 _ (by omega) (by omega)).mono ?_
  rintro x w2 ⟨A, S, rfl, O2, hS, U2⟩
  have d0 := U2.cell c0 (fun h => h)
  have d1 := U2.cell c1 (fun h => h)
  have V2 := V1.trans U2
  have hSw : ∀ j, S j → w.heap.size ≤ j := fun j hj => Nat.le_trans (Nat.le_of_lt hb1) (hS j hj)
  have hSb : ¬ S w.heap.size := fun hj => by have := hS _ hj; omega
  clear c0 c1 V1 U2 hS hb1
  generalize w.heap.size = BX at d0 d1 hSb ⊢
  by_cases hx : (0 ≤ u ∧ u ≤ 8) ∧ 0 ≤ v ∧ v ≤ 20
  · obtain ⟨V, rfl⟩ := Int.eq_ofNat_of_zero_le hx.1.1
    obtain ⟨M, rfl⟩ := Int.eq_ofNat_of_zero_le hx.2.1
    have hV : V ≤ 8 := by omega
    have hM : M ≤ 20 := by omega
    clear hx
    go_wp2_with fail
    refine (K.quota V M O2 (in64_small (by omega) (by omega)) (in64_small (by omega) (by omega))).mono ?_
    rintro x w3 ⟨rfl, O3, U3⟩
    rw [quota1 V M hV (by omega) (by omega)] at O3
    rw [quota1E V M hV (by omega) (by omega)]
    have e0 := U3.cell d0 hSb
    have e1 := U3.cell d1 hSb
    have V3 := V2.newer U3 hSw
    clear d0 d1 V2 U3 O2
    go_wp2_with fail
    refine (K.give f k V O3 hf.out hk.out (in64_small (by omega) (by omega))).mono ?_
    rintro x w4 ⟨rfl, O4, U4⟩
    have g0 := U4.cell e0 hSb
    have g1 := U4.cell e1 hSb
    have V4 := V3.newer U4 hSw
    have hge := Lib.hid (o1_giveE V M f k hV)
    have hnoE := Lib.hid (fun (h : (o1 V M).giveE f k V ≠ 0) => give_no h)
    have hb := Lib.hid hk.out
    clear e0 e1 V3 U4 O3
    obtain ⟨gv, hgv⟩ : ∃ gv, (o1 V M).giveE f k V = gv := ⟨_, rfl⟩
    obtain ⟨og, hog⟩ : ∃ og, (o1 V M).give f k V = og := ⟨_, rfl⟩
    have Hgv := Lib.hid hgv
    have Hog := Lib.hid hog
    rw [hog] at O4
    rw [hgv]
    clear hgv hog
    go_upto_region 7 with fail
    go_cut [12] (fun s12 wx => w4 = wx ∧ s12 = .bool ((o1 V M).are f k))
    case first =>
      have har : (o1 V M).are f k = decide (1 ≤ k ∧ k ≤ 16 ∧ 0 ≤ f ∧ f ≤ 16 - k) := rfl
      by_cases q1 : 1 ≤ k
      · by_cases q2 : k ≤ 16
        · by_cases q3 : 0 ≤ f
          · have hr := Lib.hid (show (o1 V M).are f k = decide (f ≤ 16 - k) from by rw [har]; simp [q1, q2, q3])
            clear har
            go_wp2_with fail
            go_meet
            exact ⟨rfl, by rw [hr.out]⟩
          · have hr := Lib.hid (show (o1 V M).are f k = false from by rw [har]; simp; omega)
            clear har
            go_wp2_with fail
            go_meet
            exact ⟨rfl, by rw [hr.out]⟩
        · have hr := Lib.hid (show (o1 V M).are f k = false from by rw [har]; simp; omega)
          clear har
          go_wp2_with fail
          go_meet
          exact ⟨rfl, by rw [hr.out]⟩
      · have hr := Lib.hid (show (o1 V M).are f k = false from by rw [har]; simp; omega)
        clear har
        go_wp2_with fail
        go_meet
        exact ⟨rfl, by rw [hr.out]⟩
    case rest =>
      obtain ⟨rfl, rfl⟩ := hcut
      cases ha : (o1 V M).are f k
      · have hg1 : gv = 1 := by rw [← Hgv.out, hge.out, ha]; rfl
        subst hg1
        have hoo : og = o1 V M := by rw [← Hog.out]; exact give_no (by rw [Hgv.out]; decide)
        subst hoo
        clear ha hge
        go_wp2
        go_loopw [13] (fun t wr => ∃ j : Nat, j ≤ 16 ∧ t = .int .i64 j ∧ OAt wr A S (o1 V M) ∧ Upd (fun _ => False) w wr ∧ wr.cell? ⟨BX, 0, none⟩ = some (.int .i64 (V : Int))) (fun t _ => 16 - (intOf t).toNat)
        case atStart => exact ⟨0, by omega, rfl, O4, V4, g0⟩
        case round =>
          obtain ⟨j, hj, rfl, O5, V5, p0⟩ := hrel
          by_cases hlt : j < 16
          · go_upto_region 13 with fail
            go_cut [14] (fun s14 wx => wr = wx ∧ s14 = .bool false)
            case first =>
              go_wp2_with fail
              go_meet
              exact ⟨rfl, by first | rfl | (congr 1; simp; done) | (congr 1; simp; omega)⟩
            case rest =>
              obtain ⟨rfl, rfl⟩ := hcut
              have hcc := Lib.hid (show ∀ q, Calls Try.prog 16 #[.pointer (some ⟨A, 0, none⟩), .int .i64 j] (wr.drewN q) fun e w'' => e = .returned (.int .i64 (-1)) ∧ ∃ p, w'' = wr.drewN p from fun q => still0 (by have hh := K.of_ j (K.still O5 ((Upd.refl (fun _ => False) wr).drewN q)); rwa [o1_of] at hh))
              go_upto_region 14 with fail
              go_quiet ((go_at_call 16; exact hcc.out _))
              have O6 := K.still O5 ((Upd.refl (fun _ => False) wr).drewN nq)
              have V6 := V5.drewN nq
              have p6 : (wr.drewN nq).cell? ⟨BX, 0, none⟩ = some (.int .i64 (V : Int)) := p0
              go_wp2
              exact ⟨⟨j + 1, by omega, by go_num, O6, V6, p6⟩, by simp [intOf]; omega⟩
          · obtain rfl : j = 16 := by omega
            go_wp2
            go_ret
            exact ⟨rfl, V5.below (Nat.le_refl _) (fun _ _ e => e)⟩
      · obtain ⟨a1, a2, a3, a4⟩ := are_iff.1 ha
        have hn16 : ((o1 V M).n : Int) = 16 := rfl
        obtain ⟨F, rfl⟩ := Int.eq_ofNat_of_zero_le a3
        obtain ⟨Q, rfl⟩ := Int.eq_ofNat_of_zero_le (show 0 ≤ k by omega)
        have hFQ : F + Q ≤ 16 := by omega
        have hQ1 : 1 ≤ Q := by omega
        by_cases hqm : (Q : Int) ≤ (M : Int)
        · have hg0 : gv = 0 := by rw [← Hgv.out, hge.out, ha, if_pos rfl, if_pos hqm]
          subst hg0
          have hof := Lib.hid (fun (j : Nat) (hj : j < 16) => show og.of j = if F ≤ j ∧ j < F + Q then (V : Int) else -1 from by rw [← Hog.out]; exact o1_gave V F Q M Hgv.out j hj)
          clear ha hge a1 a2 a3 a4 hn16
          go_wp2
          go_loopw [13] (fun t wr => ∃ j : Nat, j ≤ 16 ∧ t = .int .i64 j ∧ OAt wr A S og ∧ Upd (fun _ => False) w wr ∧ wr.cell? ⟨BX, 0, none⟩ = some (.int .i64 (V : Int))) (fun t _ => 16 - (intOf t).toNat)
          case atStart => exact ⟨0, by omega, rfl, O4, V4, g0⟩
          case round =>
            obtain ⟨j, hj, rfl, O5, V5, p0⟩ := hrel
            by_cases hlt : j < 16
            · have hoj := Lib.hid (hof.out j hlt)
              by_cases hin : F ≤ j ∧ j < F + Q
              · rw [if_pos hin] at hoj
                obtain ⟨i1, i2⟩ := hin
                have i1' : (F : Int) ≤ (j : Int) := by omega
                have i2' : (j : Int) < (F : Int) + (Q : Int) := by omega
                go_upto_region 13 with fail
                go_cut [14] (fun s14 wx => wr = wx ∧ s14 = .bool true)
                case first =>
                  go_wp2_with fail
                  go_meet
                  exact ⟨rfl, by first | rfl | (congr 1; simp; done) | (congr 1; simp; omega)⟩
                case rest =>
                  obtain ⟨rfl, rfl⟩ := hcut
                  have hcc := Lib.hid (show ∀ q, Calls Try.prog 16 #[.pointer (some ⟨A, 0, none⟩), .int .i64 j] (wr.drewN q) fun e w'' => e = .returned (.int .i64 (V : Int)) ∧ ∃ p, w'' = wr.drewN p from fun q => still0 (by have hh := K.of_ j (K.still O5 ((Upd.refl (fun _ => False) wr).drewN q)); rwa [hoj.out] at hh))
                  go_upto_region 14 with fail
                  go_quiet ((go_at_call 16; exact hcc.out _))
                  have O6 := K.still O5 ((Upd.refl (fun _ => False) wr).drewN nq)
                  have V6 := V5.drewN nq
                  have p6 : (wr.drewN nq).cell? ⟨BX, 0, none⟩ = some (.int .i64 (V : Int)) := p0
                  go_wp2
                  exact ⟨⟨j + 1, by omega, by go_num, O6, V6, p6⟩, by simp [intOf]; omega⟩
              · rw [if_neg hin] at hoj
                by_cases i1 : F ≤ j
                · have i1' : (F : Int) ≤ (j : Int) := by omega
                  have i2' : ¬ (j : Int) < (F : Int) + (Q : Int) := by omega
                  clear hin
                  go_upto_region 13 with fail
                  go_cut [14] (fun s14 wx => wr = wx ∧ s14 = .bool false)
                  case first =>
                    go_wp2_with fail
                    go_meet
                    exact ⟨rfl, by first | rfl | (congr 1; simp; done) | (congr 1; simp; omega)⟩
                  case rest =>
                    obtain ⟨rfl, rfl⟩ := hcut
                    have hcc := Lib.hid (show ∀ q, Calls Try.prog 16 #[.pointer (some ⟨A, 0, none⟩), .int .i64 j] (wr.drewN q) fun e w'' => e = .returned (.int .i64 (-1)) ∧ ∃ p, w'' = wr.drewN p from fun q => still0 (by have hh := K.of_ j (K.still O5 ((Upd.refl (fun _ => False) wr).drewN q)); rwa [hoj.out] at hh))
                    go_upto_region 14 with fail
                    go_quiet ((go_at_call 16; exact hcc.out _))
                    have O6 := K.still O5 ((Upd.refl (fun _ => False) wr).drewN nq)
                    have V6 := V5.drewN nq
                    have p6 : (wr.drewN nq).cell? ⟨BX, 0, none⟩ = some (.int .i64 (V : Int)) := p0
                    go_wp2
                    exact ⟨⟨j + 1, by omega, by go_num, O6, V6, p6⟩, by simp [intOf]; omega⟩
                · have i1' : ¬ (F : Int) ≤ (j : Int) := by omega
                  clear hin
                  go_upto_region 13 with fail
                  go_cut [14] (fun s14 wx => wr = wx ∧ s14 = .bool false)
                  case first =>
                    go_wp2_with fail
                    go_meet
                    exact ⟨rfl, by first | rfl | (congr 1; simp; done) | (congr 1; simp; omega)⟩
                  case rest =>
                    obtain ⟨rfl, rfl⟩ := hcut
                    have hcc := Lib.hid (show ∀ q, Calls Try.prog 16 #[.pointer (some ⟨A, 0, none⟩), .int .i64 j] (wr.drewN q) fun e w'' => e = .returned (.int .i64 (-1)) ∧ ∃ p, w'' = wr.drewN p from fun q => still0 (by have hh := K.of_ j (K.still O5 ((Upd.refl (fun _ => False) wr).drewN q)); rwa [hoj.out] at hh))
                    go_upto_region 14 with fail
                    go_quiet ((go_at_call 16; exact hcc.out _))
                    have O6 := K.still O5 ((Upd.refl (fun _ => False) wr).drewN nq)
                    have V6 := V5.drewN nq
                    have p6 : (wr.drewN nq).cell? ⟨BX, 0, none⟩ = some (.int .i64 (V : Int)) := p0
                    go_wp2
                    exact ⟨⟨j + 1, by omega, by go_num, O6, V6, p6⟩, by simp [intOf]; omega⟩
            · obtain rfl : j = 16 := by omega
              go_wp2
              go_ret
              exact ⟨rfl, V5.below (Nat.le_refl _) (fun _ _ e => e)⟩
        · have hg12 : gv = 12 := by rw [← Hgv.out, hge.out, ha, if_pos rfl, if_neg hqm]
          subst hg12
          have hoo : og = o1 V M := by rw [← Hog.out]; exact give_no (by rw [Hgv.out]; decide)
          subst hoo
          clear ha hge a1 a2 a3 a4 hn16
          go_wp2
          go_loopw [13] (fun t wr => ∃ j : Nat, j ≤ 16 ∧ t = .int .i64 j ∧ OAt wr A S (o1 V M) ∧ Upd (fun _ => False) w wr ∧ wr.cell? ⟨BX, 0, none⟩ = some (.int .i64 (V : Int))) (fun t _ => 16 - (intOf t).toNat)
          case atStart => exact ⟨0, by omega, rfl, O4, V4, g0⟩
          case round =>
            obtain ⟨j, hj, rfl, O5, V5, p0⟩ := hrel
            by_cases hlt : j < 16
            · go_upto_region 13 with fail
              go_cut [14] (fun s14 wx => wr = wx ∧ s14 = .bool false)
              case first =>
                go_wp2_with fail
                go_meet
                exact ⟨rfl, by first | rfl | (congr 1; simp; done) | (congr 1; simp; omega)⟩
              case rest =>
                obtain ⟨rfl, rfl⟩ := hcut
                have hcc := Lib.hid (show ∀ q, Calls Try.prog 16 #[.pointer (some ⟨A, 0, none⟩), .int .i64 j] (wr.drewN q) fun e w'' => e = .returned (.int .i64 (-1)) ∧ ∃ p, w'' = wr.drewN p from fun q => still0 (by have hh := K.of_ j (K.still O5 ((Upd.refl (fun _ => False) wr).drewN q)); rwa [o1_of] at hh))
                go_upto_region 14 with fail
                go_quiet ((go_at_call 16; exact hcc.out _))
                have O6 := K.still O5 ((Upd.refl (fun _ => False) wr).drewN nq)
                have V6 := V5.drewN nq
                have p6 : (wr.drewN nq).cell? ⟨BX, 0, none⟩ = some (.int .i64 (V : Int)) := p0
                go_wp2
                exact ⟨⟨j + 1, by omega, by go_num, O6, V6, p6⟩, by simp [intOf]; omega⟩
            · obtain rfl : j = 16 := by omega
              go_wp2
              go_ret
              exact ⟨rfl, V5.below (Nat.le_refl _) (fun _ _ e => e)⟩
  · by_cases c1 : u < 0
    · clear hx
      go_wp2
      go_ret
      exact ⟨rfl, V2.below (Nat.le_refl _) (fun _ _ e => e)⟩
    · by_cases c2 : 8 < u
      · clear hx
        go_wp2
        go_ret
        exact ⟨rfl, V2.below (Nat.le_refl _) (fun _ _ e => e)⟩
      · by_cases c3 : v < 0
        · clear hx
          go_wp2
          go_ret
          exact ⟨rfl, V2.below (Nat.le_refl _) (fun _ _ e => e)⟩
        · have c4 : 20 < v := by omega
          clear hx
          go_wp2
          go_ret
          exact ⟨rfl, V2.below (Nat.le_refl _) (fun _ _ e => e)⟩
theorem walk (f k u v : Int) (w0 : (Lit.int .i64 f).wf = true) (w1 : (Lit.int .i64 k).wf = true) (w2 : ∀ z ∈ [u, v], (Lit.int .i64 z).wf = true) (w : World) :
    Calls Try.prog 6 #[.int .i64 f, .int .i64 k, .agg #[.int .i64 u, .int .i64 v]] w fun e w' => e = .returned (.bool true) ∧ Below w.heap.size w w' := walk0 owc f k u v w0 w1 w2 w
/-! ### the row's frame -/
theorem own : ownKnob Try.prog.godebug = none := by kernel_rfl
theorem laidOut : laidOutB Try.prog = true := by kernel_rfl
set_option linter.unusedVariables false in
set_option maxRecDepth 100000 in
theorem lifted (os : Os) (started : os.Started) (H : Type) (enc : TypeId × Value → H) :
    ReturnsInHanded {} Try.checked os 6 .any (Rows.ownersEachSpec.pre6 enc Try.prog Try.f6 Rows.ownersEachRow.domain false) (Rows.ownersEachSpec.post enc Try.prog Try.f6 false true false false) := by
  refine returnsInHanded_of_change (C := Try.checked) own started (by kernel_rfl) Try.func6
    (ChangeSpec.witness6 (enc := enc) (C := Try.checked) false ⟨#[], #[.int .i64 0, .int .i64 0, .agg #[.int .i64 0, .int .i64 0]], []⟩ 8 (by kernel_rfl) (by kernel_rfl) (by kernel_rfl) (by kernel_rfl)) ?_
  intro W base args ds gs before hval0 hW hcnd _
  have hval : ∀ (j : Nat) t v, Try.f6.params[j]? = some t → args[j]? = some v → Value.okWide Try.prog W .any base t v := hval0
  have hW' := hW
  obtain ⟨p, q, hA0, hV, rfl, hfz, hnd⟩ := hW
  have hA : DataW.TrodAll enc Try.prog W 0 (fun _ => true) true Try.f6.params.toList args.toList ds p := hA0
  rw [Try.params6] at hA hval
  obtain ⟨v0, vs0, d0, ds0, p0, q0, hargs, rfl, rfl, h0, r0⟩ := trodAll_cons hA
  obtain ⟨v1, vs1, d1, ds1, p1, q1, rfl, rfl, rfl, h1, r1⟩ := trodAll_cons r0
  obtain ⟨v2, vs2, d2, ds2, p2, q2, rfl, rfl, rfl, h2, r2⟩ := trodAll_cons r1
  obtain ⟨rfl, rfl, rfl⟩ := trodAll_nil r2
  obtain rfl : args = #[v0, v1, v2] := by cases args; simp_all
  obtain ⟨rfl, rfl⟩ := trodVars_none hV
  have k0 := h0
  have lt0 : ∀ x ∈ p0, x.block < W.heap.size := by obtain ⟨m, hm⟩ := k0; exact DataW.trod_lt m _ _ _ hm
  obtain ⟨a0, rfl, rfl, rfl, w0⟩ := open_int Try.underlying3 (hval 0 3 v0 rfl rfl) h0
  have k1 := h1
  have lt1 : ∀ x ∈ p1, x.block < W.heap.size := by obtain ⟨m, hm⟩ := k1; exact DataW.trod_lt m _ _ _ hm
  obtain ⟨a1, rfl, rfl, rfl, w1⟩ := open_int Try.underlying3 (hval 1 3 v1 rfl rfl) h1
  have k2 := h2
  have lt2 : ∀ x ∈ p2, x.block < W.heap.size := by obtain ⟨m, hm⟩ := k2; exact DataW.trod_lt m _ _ _ hm
  obtain ⟨z2, l2, rfl, w2⟩ := Fr.open_intArr Try.underlying39 Try.underlying3 (by kernel_rfl) (by kernel_rfl) (hval 2 39 v2 rfl rfl) h2
  obtain ⟨a2_0, a2_1, rfl⟩ := Fr.len2 l2
  clear hA0 hval0
  refine (walk a0 a1 a2_0 a2_1 w0 w1 w2 W ).mono fun e W' ⟨he, bel⟩ => ?_
  subst he
  exact ⟨_, rfl, _, _, _, [], _, [], hW', trodAll_mk1 (shut_bool Try.underlying4 _), (trodAll_cons_mk (Below.trod laidOut (by kernel_rfl) (of_decide_eq_true (by kernel_rfl)) k0 bel lt0) (trodAll_cons_mk (Below.trod laidOut (by kernel_rfl) (of_decide_eq_true (by kernel_rfl)) k1 bel lt1) (trodAll_cons_mk (Below.trod laidOut (by kernel_rfl) (of_decide_eq_true (by kernel_rfl)) k2 bel lt2) trodAll_mk0))), rfl, bel.frame _, fun h => by cases h⟩

theorem over : Rows.ownersEachRow.holds Try.pinned (OpenSpec.ofChange Rows.ownersEachSpec) :=
  OpenClaim.holds_of_wide 6 Try.f6 rfl rfl rfl rfl rfl rfl rfl ⟨rfl, rfl, rfl, rfl, rfl⟩ rfl rfl rfl rfl rfl (by kernel_rfl) Try.func6 (by kernel_rfl)
    (of_decide_eq_true (by kernel_rfl)) (by unfold Func.isWrapper; first | (rw [if_pos (by decide +kernel)]; kernel_rfl) | (rw [if_neg (by decide +kernel)]; exact ⟨rfl, rfl⟩))
    (fun os started H enc _ => lifted os started H enc)

theorem proved : Rows.OwnersEachSaid :=
  over
end Go.Proofs.Ytmapceallmphpaa.ownersEach
