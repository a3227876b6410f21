/-
  Proved: trunnionlaw04.BuddyFrees answers true for every input: a free block is as great as it can be.
  Conditions: none.
-/
import Derived.Test.YtmobhojblclmjaaBgJ
namespace Go.Proofs.Ytmobhojblclmjaa.buddyFrees
open Go.ChangeShapes Go.WideShapes Go.ChangeAt Go.RowKit Go.Maps
set_option linter.unusedVariables false
set_option linter.unusedSimpArgs false

theorem no_halves {b : Bud} {i j : Nat} (hj : j < i) (hi : i < (blocks b.F b.n).length) :
    (((blocks b.F b.n).getD j (0, 0)).2 : Int) ≠ (((blocks b.F b.n).getD i (0, 0)).2 : Int) ∨ ¬ (((blocks b.F b.n).getD i (0, 0)).2 : Int) < 8 ∨
      ((((blocks b.F b.n).getD i (0, 0)).1 : Int) / (2 * pw ((blocks b.F b.n).getD i (0, 0)).2)) ≠ ((((blocks b.F b.n).getD j (0, 0)).1 : Int) / (2 * pw ((blocks b.F b.n).getD i (0, 0)).2)) := by
  have hr := blocks_rises b.F b.n
  have hgi : (blocks b.F b.n).getD i (0, 0) = (blocks b.F b.n)[i] := by rw [List.getD_eq_getElem?_getD, List.getElem?_eq_getElem hi]; rfl
  have hgj : (blocks b.F b.n).getD j (0, 0) = (blocks b.F b.n)[j]'(by omega) := by rw [List.getD_eq_getElem?_getD, List.getElem?_eq_getElem (by omega)]; rfl
  have hlt := List.pairwise_iff_getElem.1 hr j i (by omega) hi hj
  rw [hgi, hgj]
  have mi := mem_blocks.1 (List.getElem_mem hi)
  have mj := mem_blocks.1 (List.getElem_mem (show j < (blocks b.F b.n).length by omega))
  generalize (blocks b.F b.n)[i] = x at *
  generalize (blocks b.F b.n)[j]'(by omega) = y at *
  by_cases h1 : (y.2 : Int) = (x.2 : Int)
  · by_cases h2 : (x.2 : Int) < 8
    · refine .inr (.inr fun h3 => ?_)
      have hyx : y.2 = x.2 := by omega
      refine halves mj mi hyx (by omega) ?_ hlt
      rw [hyx]
      unfold pw at h3
      have h3' : ((x.1 / (2 * 2 ^ x.2) : Nat) : Int) = ((y.1 / (2 * 2 ^ x.2) : Nat) : Int) := by
        rw [Int.natCast_ediv, Int.natCast_ediv]
        exact_mod_cast h3
      omega
    · exact .inr (.inl h2)
  · exact .inl h1

set_option maxRecDepth 100000 in
set_option maxHeartbeats 4000000 in
theorem walk (fs rs : Int) (ao : Option Addr) (n cap b off : Nat) (E : Nat → Nat → Value) (w0 : (Lit.int .i64 fs).wf = true) (w1 : (Lit.int .i64 rs).wf = true) (w : World) (R : Fr.RowArg w ao n b off [some .i64, some .i64, some .i64, some .u64] E) :
    Calls Try.prog 9 #[.int .i64 fs, .int .i64 rs, .slice ao n cap] w fun e w' => e = .returned (.bool true) ∧ Below w.heap.size w w' := by
  clear w0 w1
  have hmost := R.most
  go_enter Try.func9, Try.ntmps9
  go_wp2_with fail
  refine (awake_any _).mono ?_
  rintro x w1 ⟨rfl, U1⟩
  go_wp2_with fail
  refine (begun_any fs rs _).mono ?_
  rintro x w2 (⟨hno, rfl, U2⟩ | ⟨fn, r, A, MA, GB, MB, rfl, rfl, n1, n2, n3, rfl, D2, S2, U2⟩)
  · clear hno hmost
    go_wp2
    go_ret
    exact ⟨rfl, below_none (U1.trans U2)⟩
  have V2 := U1.trans U2
  have hs1 := U1.size
  have hge : w.heap.size ≤ GB := Nat.le_trans hs1 S2.gb
  have hmb : w.heap.size ≤ MB := Nat.le_trans hs1 S2.mb
  clear U1 U2 hs1 S2
  by_cases hn : 60 < n
  · have hnI : (60 : Int) < (n : Int) := by omega
    clear hmost
    go_wp2
    go_ret
    exact ⟨rfl, below_none V2⟩
  clear hmost
  go_wp2
  go_loopw [10] (fun t wr => ∃ (i : Nat) (bu : Bud) (m : Mem), i ≤ n ∧ t = .int .i64 i ∧ m.B = MB ∧ Duo wr A MA GB m bu ∧ Upd (fun _ => False) w wr) (fun t _ => n - (intOf t).toNat)
  case atStart => exact ⟨0, bud0 fn r, memNew MB fn, by omega, rfl, rfl, D2, V2⟩
  case round =>
    clear D2 V2
    obtain ⟨i, bu, m, hi, rfl, hmB, hD, hU⟩ := hrel
    by_cases hlt : i < n
    · obtain ⟨d, N, o, W, c0, c1, c2, c3, _⟩ := op_cells R i hlt
      have hao := R.place (by omega)
      subst hao
      clear c3
      go_wp2_with fail
      refine (bHeld_any A MA GB bu _ hD.B).mono ?_
      rintro x w3 ⟨v, rfl, hrow, U3⟩
      have D3 := hD.still U3
      have V3 := hU.trans U3
      have p0 := V3.cell c0 (fun h => h)
      have p1 := V3.cell c1 (fun h => h)
      have p2 := V3.cell c2 (fun h => h)
      obtain ⟨oa, cap', rfl, hc⟩ := brow_of hrow
      have hmem := Lib.hid (fun j (hj : j < bu.held.length) => show bu.held.getD j (0, 0) ∈ bu.gave from (heldOf_mem _).1 (by rw [List.getD_eq_getElem?_getD, List.getElem?_eq_getElem hj]; exact List.getElem_mem _))
      have hLn : bu.held.length ≤ 256 := by rw [held_len]; exact hD.B.ok.gave_len
      obtain ⟨ln, hln⟩ : ∃ ln, bu.held.length = ln := ⟨_, rfl⟩
      rw [hln] at hc hLn hmem ⊢
      clear hrow hD hU U3 hln c0 c1 c2
      go_upto_region 9 with fail
      go_cut [71] (fun s71 wx => wx = w3 ∧ ∃ c : Bool, s71 = .bool c ∧ Hid (c = true → 0 < ln ∧ 0 ≤ N))
      case first =>
        by_cases hd : d = 2
        · subst hd
          by_cases h0 : 0 < ln
          · have h0I : (0 : Int) < (ln : Int) := by omega
            by_cases hN : 0 ≤ N
            · go_wp2_with fail
              go_meet
              exact ⟨rfl, _, rfl, Lib.hid fun _ => ⟨h0, hN⟩⟩
            · have hN' : decide (0 ≤ N) = false := decide_eq_false hN
              go_wp2_with fail
              go_meet
              exact ⟨rfl, false, by simp [hN'], Lib.hid fun h => by cases h⟩
          · obtain rfl : ln = 0 := by omega
            clear h0
            go_wp2_with fail
            go_meet
            exact ⟨rfl, false, rfl, Lib.hid fun h => by cases h⟩
        · have hd' : (d == 2) = false := by simpa using hd
          go_wp2_with fail
          go_meet
          exact ⟨rfl, false, by simp [hd'], Lib.hid fun h => by cases h⟩
      case rest =>
        obtain ⟨rfl, c, rfl, hcc⟩ := hcut
        go_upto_if 71 with fail
        go_cut [12] (fun _ wx => ∃ (bu' : Bud) (m' : Mem), m'.B = MB ∧ Duo wx A MA GB m' bu' ∧ Upd (fun _ => False) w wx)
        case first =>
          cases c
          · clear hcc hc hmem
            go_wp2_with fail
            refine (balloc_all A MA GB _ bu o _ D3).mono ?_
            rintro x w4 ⟨y1, y2, bu', rfl, D4, _, _, U4⟩
            have V4 : Upd (fun _ => False) w w4 := V3.trans' U4 hge
            go_wp2_with fail
            go_meet
            exact ⟨bu', m, hmB, D4, V4⟩
          · obtain ⟨hl0, hN⟩ := hcc.out rfl
            obtain ⟨N', rfl⟩ := Int.eq_ofNat_of_zero_le hN
            obtain ⟨q, hq⟩ : ∃ q, N' % ln = q := ⟨_, rfl⟩
            have hql : q < ln := by rw [← hq]; exact Nat.mod_lt _ hl0
            have hqI : (N' : Int) % (ln : Int) = (q : Int) := by rw [← hq]; omega
            have hne : ¬ (ln : Int) = 0 := by omega
            obtain ⟨ga, rfl, g0, g1⟩ := hc q hql
            have hx := hmem.out q hql
            generalize bu.held.getD q (0, 0) = x at g0 g1 hx
            obtain ⟨a1, a2, a3⟩ := alloc_two wc x.1 x.2 60
            have A3 := Lib.hid a3
            have D4 := D3.still a2
            have V4 := V3.trans a2
            clear a3 a2 hc hmem hcc hq hN D3 V3
            go_upto_region 11 with ((with_reducible refine wpList_store_sz rfl 60 (.tmp 12) (.tmp 82) rfl wc.heap.size 0 #[.int .i64 x.1, .int .i64 x.2] rfl rfl 2 (two_sz _ _) A3.out size_block (two_one _ _) [.int .i64 x.1, .int .i64 x.2] (two_ls _ _) ?_))
            generalize (wc.alloc (.cells #[.int .i64 0, .int .i64 0] 60)).setCells wc.heap.size 0 [.int .i64 x.1, .int .i64 x.2] = W4 at a1 D4 V4 ⊢
            generalize wc.heap.size = M at a1 ⊢
            obtain ⟨b0, b1⟩ := box2 a1
            clear A3
            go_wp2_with fail
            refine (bfree_yes A MA GB _ bu x _ D4 hx).mono ?_
            rintro z w5 ⟨rfl, D5, U5⟩
            have V5 : Upd (fun _ => False) w w5 := V4.since U5 (fun k hk => by rcases hk with rfl | rfl; exact hge; rw [hmB]; exact hmb)
            go_wp2_with fail
            go_meet
            exact ⟨_, _, by rw [Mem.scrub_B]; exact hmB, D5, V5⟩
        case rest =>
          obtain ⟨bu', m', hmB', D4, V4⟩ := hcut
          clear D3 V3 hc hmem hcc
          go_wp2_with fail
          refine (bBlocks_any A MA GB _ bu' _ D4.B D4.M D4.n).mono ?_
          rintro x w5 ⟨v, rfl, hrow, U5⟩
          have D5 := D4.still U5
          have V5 := V4.trans U5
          have hLn : (blocks bu'.F bu'.n).length ≤ 256 := Nat.le_trans (blocks_len _ _) D4.B.ok.hi
          have hnh := Lib.hid (fun i j (hj : j < i) (hi : i < (blocks bu'.F bu'.n).length) => no_halves hj hi)
          have h8 := Lib.hid (fun i (hi : i < (blocks bu'.F bu'.n).length) => show ((blocks bu'.F bu'.n).getD i (0, 0)).2 ≤ 8 ∧ ((blocks bu'.F bu'.n).getD i (0, 0)).1 ≤ 256 from by
            have hm : (blocks bu'.F bu'.n).getD i (0, 0) ∈ blocks bu'.F bu'.n := by rw [List.getD_eq_getElem?_getD, List.getElem?_eq_getElem hi]; exact List.getElem_mem _
            have h1 := blocks_blk D4.B.ok hm
            have h2 := D4.B.ok.hi
            exact ⟨h1.1, by omega⟩)
          obtain ⟨oa, cap', rfl, hc⟩ := brow_of hrow
          clear hrow D4 V4 U5
          generalize blocks bu'.F bu'.n = L at hc hLn hnh h8
          obtain ⟨ln, hln⟩ : ∃ ln, L.length = ln := ⟨_, rfl⟩
          rw [hln] at hc hLn hnh h8 ⊢
          clear hln
          go_wp2
          go_loopw [14] (fun t wr => ∃ (k q : Nat), k ≤ ln ∧ t = .int .i64 k ∧ wr = w5.drewN q) (fun t _ => ln - (intOf t).toNat)
          case atStart => exact ⟨0, 0, by omega, rfl, rfl⟩
          case round =>
            obtain ⟨k, q, hk, rfl, rfl⟩ := hrel
            by_cases hkl : k < ln
            · go_wp2
              go_loopw [15] (fun t wr => ∃ (j q : Nat), j ≤ k ∧ t = .int .i64 j ∧ wr = w5.drewN q) (fun t _ => k - (intOf t).toNat)
              case atStart => exact ⟨0, q, by omega, rfl, rfl⟩
              case round =>
                obtain ⟨j, q', hj, rfl, rfl⟩ := hrel
                by_cases hjk : j < k
                · obtain ⟨ga, rfl, g0, g1⟩ := hc k hkl
                  obtain ⟨ga', eg, g2, g3⟩ := hc j (by omega)
                  cases eg
                  have hx8 := (h8.out k hkl).1
                  have hx1 := (h8.out k hkl).2
                  have hy1 := (h8.out j (by omega)).2
                  have hh := hnh.out k j hjk hkl
                  have hjn : (j : Int) < (ln : Int) := by omega
                  have hkn : (k : Int) < (ln : Int) := by omega
                  generalize L.getD k (0, 0) = x at g0 g1 hx8 hh hx1
                  generalize L.getD j (0, 0) = y at g2 g3 hh hy1
                  have hbd := pw_bd x.2 hx8
                  have Hx8 := Lib.hid hx8
                  have hne2 : ¬ 2 * pw x.2 = 0 := by omega
                  obtain ⟨u1, hu1⟩ : ∃ u1, (x.1 : Int) / (2 * pw x.2) = u1 := ⟨_, rfl⟩
                  obtain ⟨u2, hu2⟩ : ∃ u2, (y.1 : Int) / (2 * pw x.2) = u2 := ⟨_, rfl⟩
                  rw [hu1, hu2] at hh
                  have hp2 : 2 ≤ 2 * pw x.2 := by omega
                  have b1 : 0 ≤ u1 ∧ u1 ≤ 256 := by
                    have e1 := Int.ediv_nonneg (a := (x.1 : Int)) (b := 2 * pw x.2) (by omega) (by omega)
                    have e2 := Int.ediv_le_self (b := 2 * pw x.2) (show 0 ≤ (x.1 : Int) by omega)
                    rw [hu1] at e1 e2
                    omega
                  have b2 : 0 ≤ u2 ∧ u2 ≤ 256 := by
                    have e1 := Int.ediv_nonneg (a := (y.1 : Int)) (b := 2 * pw x.2) (by omega) (by omega)
                    have e2 := Int.ediv_le_self (b := 2 * pw x.2) (show 0 ≤ (y.1 : Int) by omega)
                    rw [hu2] at e1 e2
                    omega
                  clear hc hnh h8 hx8
                  go_upto_region 21 with ((with_reducible refine wpList_shl1 rfl _ _ _ _ rfl rfl x.2 Hx8.out rfl ?_))
                  go_upto_region 23 with fail
                  by_cases e1 : (y.2 : Int) = (x.2 : Int)
                  · by_cases e2 : (x.2 : Int) < 8
                    · have e3 : (u1 == u2) = false := by
                        rcases hh with h | h | h
                        · exact absurd e1 h
                        · exact absurd e2 (by omega)
                        · simpa using h
                      have e1b : ((y.2 : Int) == (x.2 : Int)) = true := by simpa using e1
                      have e2b : decide ((x.2 : Int) < 8) = true := decide_eq_true e2
                      clear hh e1
                      generalize (y.2 : Int) = y2 at g3 e1b
                      go_quiet (fail)
                      go_wp2
                      go_roundw
                      case rel => exact ⟨j + 1, _, by omega, by go_num, rfl⟩
                      case measure => simp [intOf]; omega
                    · have e1b : ((y.2 : Int) == (x.2 : Int)) = true := by simpa using e1
                      have e2b : decide ((x.2 : Int) < 8) = false := decide_eq_false e2
                      clear hh e1
                      generalize (y.2 : Int) = y2 at g3 e1b
                      go_quiet (fail)
                      go_wp2
                      go_roundw
                      case rel => exact ⟨j + 1, _, by omega, by go_num, rfl⟩
                      case measure => simp [intOf]; omega
                  · have e1b : ((y.2 : Int) == (x.2 : Int)) = false := by simpa using e1
                    clear hh
                    generalize (y.2 : Int) = y2 at g3 e1b e1
                    go_quiet (fail)
                    go_wp2
                    go_roundw
                    case rel => exact ⟨j + 1, _, by omega, by go_num, rfl⟩
                    case measure => simp [intOf]; omega
                · have e : j = k := by omega
                  subst e
                  go_wp2
                  go_roundw
                  case rel => exact ⟨j + 1, q', by omega, by go_num, rfl⟩
                  case measure => simp [intOf]; omega
            · have e : k = ln := by omega
              subst e
              go_wp2
              go_roundw
              case rel => exact ⟨i + 1, bu', m', by omega, by go_num, hmB', D5.still ((Upd.refl (fun _ => False) w5).drewN q), V5.drewN q⟩
              case measure => simp [intOf]; omega
    · have e : i = n := by omega
      subst e
      go_wp2
      go_ret
      exact ⟨rfl, below_none hU⟩
/-! ### the row's frame -/
theorem own : ownKnob Try.prog.godebug = none := by kernel_rfl
theorem laidOut : laidOutB Try.prog = true := by kernel_rfl
set_option linter.unusedVariables false in
set_option maxRecDepth 100000 in
theorem lifted (os : Os) (started : os.Started) (H : Type) (enc : TypeId × Value → H) :
    ReturnsInHanded {} Try.checked os 9 .any (Rows.buddyFreesSpec.pre6 enc Try.prog Try.f9 Rows.buddyFreesRow.domain false) (Rows.buddyFreesSpec.post enc Try.prog Try.f9 false true false false) := by
  refine returnsInHanded_of_change (C := Try.checked) own started (by kernel_rfl) Try.func9
    (ChangeSpec.witness6 (enc := enc) (C := Try.checked) false ⟨#[], #[.int .i64 0, .int .i64 0, .slice none 0 0], []⟩ 8 (by kernel_rfl) (by kernel_rfl) (by kernel_rfl) (by kernel_rfl)) ?_
  intro W base args ds gs before hval0 hW hcnd _
  have hval : ∀ (j : Nat) t v, Try.f9.params[j]? = some t → args[j]? = some v → Value.okWide Try.prog W .any base t v := hval0
  have hW' := hW
  obtain ⟨p, q, hA0, hV, rfl, hfz, hnd⟩ := hW
  have hA : DataW.TrodAll enc Try.prog W 0 (fun _ => true) true Try.f9.params.toList args.toList ds p := hA0
  rw [Try.params9] at hA hval
  obtain ⟨v0, vs0, d0, ds0, p0, q0, hargs, rfl, rfl, h0, r0⟩ := trodAll_cons hA
  obtain ⟨v1, vs1, d1, ds1, p1, q1, rfl, rfl, rfl, h1, r1⟩ := trodAll_cons r0
  obtain ⟨v2, vs2, d2, ds2, p2, q2, rfl, rfl, rfl, h2, r2⟩ := trodAll_cons r1
  obtain ⟨rfl, rfl, rfl⟩ := trodAll_nil r2
  obtain rfl : args = #[v0, v1, v2] := by cases args; simp_all
  obtain ⟨rfl, rfl⟩ := trodVars_none hV
  have k0 := h0
  have lt0 : ∀ x ∈ p0, x.block < W.heap.size := by obtain ⟨m, hm⟩ := k0; exact DataW.trod_lt m _ _ _ hm
  obtain ⟨a0, rfl, rfl, rfl, w0⟩ := open_int Try.underlying3 (hval 0 3 v0 rfl rfl) h0
  have k1 := h1
  have lt1 : ∀ x ∈ p1, x.block < W.heap.size := by obtain ⟨m, hm⟩ := k1; exact DataW.trod_lt m _ _ _ hm
  obtain ⟨a1, rfl, rfl, rfl, w1⟩ := open_int Try.underlying3 (hval 1 3 v1 rfl rfl) h1
  have k2 := h2
  have lt2 : ∀ x ∈ p2, x.block < W.heap.size := by obtain ⟨m, hm⟩ := k2; exact DataW.trod_lt m _ _ _ hm
  obtain ⟨ao2, n2, cap2, b2, of2, E2, rfl, w2⟩ := Fr.open_rows 12 [some .i64, some .i64, some .i64, some .u64] Try.underlying22 (by kernel_rfl) (by kernel_rfl) (by decide) (hval 2 22 v2 rfl rfl) h2
  clear hA0 hval0
  refine (walk a0 a1 ao2 n2 cap2 b2 of2 E2 w0 w1 W w2).mono fun e W' ⟨he, bel⟩ => ?_
  subst he
  exact ⟨_, rfl, _, _, _, [], _, [], hW', trodAll_mk1 (shut_bool Try.underlying4 _), (trodAll_cons_mk (Below.trod laidOut (by kernel_rfl) (of_decide_eq_true (by kernel_rfl)) k0 bel lt0) (trodAll_cons_mk (Below.trod laidOut (by kernel_rfl) (of_decide_eq_true (by kernel_rfl)) k1 bel lt1) (trodAll_cons_mk (Below.trod laidOut (by kernel_rfl) (of_decide_eq_true (by kernel_rfl)) k2 bel lt2) trodAll_mk0))), rfl, bel.frame _, fun h => by cases h⟩

theorem over : Rows.buddyFreesRow.holds Try.pinned (OpenSpec.ofChange Rows.buddyFreesSpec) :=
  OpenClaim.holds_of_wide 9 Try.f9 rfl rfl rfl rfl rfl rfl rfl ⟨rfl, rfl, rfl, rfl, rfl⟩ rfl rfl rfl rfl rfl (by kernel_rfl) Try.func9 (by kernel_rfl)
    (of_decide_eq_true (by kernel_rfl)) (by unfold Func.isWrapper; first | (rw [if_pos (by decide +kernel)]; kernel_rfl) | (rw [if_neg (by decide +kernel)]; exact ⟨rfl, rfl⟩))
    (fun os started H enc _ => lifted os started H enc)

theorem proved : Rows.BuddyFreesSaid :=
  over
end Go.Proofs.Ytmobhojblclmjaa.buddyFrees
