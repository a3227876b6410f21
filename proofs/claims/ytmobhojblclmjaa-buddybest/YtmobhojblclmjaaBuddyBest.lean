/-
  Proved: trunnionlaw04.BuddyBest answers true for every input: a block is given of the least one that is long enough; where none is, there is no room.
  Conditions: none.
-/
import Derived.Test.YtmobhojblclmjaaBgJ
namespace Go.Proofs.Ytmobhojblclmjaa.buddyBest
open Go.ChangeShapes Go.WideShapes Go.ChangeAt Go.RowKit Go.Maps
set_option linter.unusedVariables false
set_option linter.unusedSimpArgs false

set_option maxRecDepth 100000 in
set_option maxHeartbeats 4000000 in
theorem walk (fs : Int) (ao : Option Addr) (n cap b off : Nat) (E : Nat → Nat → Value) (od : Int) (w0 : (Lit.int .i64 fs).wf = true) (w1 : (Lit.int .i64 od).wf = true) (w : World) (R : Fr.RowArg w ao n b off [some .i64, some .i64, some .i64, some .u64] E) :
    Calls Try.prog 6 #[.int .i64 fs, .slice ao n cap, .int .i64 od] w fun e w' => e = .returned (.bool true) ∧ Below w.heap.size w w' := by
  clear w0 w1
  have hmost := R.most
  go_enter Try.func6, Try.ntmps6
  go_wp2_with fail
  refine (awake_any _).mono ?_
  rintro x w1 ⟨rfl, U1⟩
  go_wp2_with fail
  refine (begun_any fs 0 _).mono ?_
  rintro x w2 (⟨hno, rfl, U2⟩ | ⟨fn, r, A, MA, GB, MB, rfl, hr, n1, n2, _, rfl, D2, S2, U2⟩)
  · clear hno hmost
    go_wp2
    go_ret
    exact ⟨rfl, below_none (U1.trans U2)⟩
  obtain rfl : r = 0 := by omega
  have V2 := U1.trans U2
  have hs1 := U1.size
  have hge : w.heap.size ≤ GB := Nat.le_trans hs1 S2.gb
  have hmb : w.heap.size ≤ MB := Nat.le_trans hs1 S2.mb
  clear U1 U2 hr hs1 S2
  by_cases hn : 60 < n
  · have hnI : (60 : Int) < (n : Int) := by omega
    clear hmost
    go_wp2
    go_ret
    exact ⟨rfl, below_none V2⟩
  clear hmost
  by_cases ho : 0 ≤ od ∧ od ≤ 8
  · obtain ⟨k, rfl⟩ := Int.eq_ofNat_of_zero_le ho.1
    have hk8 : k ≤ 8 := by omega
    go_wp2
    go_loopw [10] (fun t wr => ∃ (i : Nat) (bu : Bud), i ≤ n ∧ t = .int .i64 i ∧ bu.n = fn ∧ Duo wr A MA GB (memNew MB fn) bu ∧ Upd (fun _ => False) w wr) (fun t _ => n - (intOf t).toNat)
    case atStart => exact ⟨0, bud0 fn 0, by omega, rfl, rfl, D2, V2⟩
    case round =>
      obtain ⟨i, bu, hi, rfl, hbn, hD, hU⟩ := hrel
      by_cases hlt : i < n
      · obtain ⟨d, N, o, W, c0, c1, c2, c3, _⟩ := op_cells R i hlt
        have hao := R.place (by omega)
        subst hao
        have hc2 := hU.cell c2 (fun h => h)
        clear c0 c1 c2 c3
        go_wp2_with fail
        refine (balloc_all A MA GB _ bu o _ hD).mono ?_
        rintro x w3 ⟨x1, x2, bu', rfl, D3, e1, e2, U3⟩
        have V3 : Upd (fun _ => False) w w3 := hU.trans' U3 hge
        clear hD hU U3 hc2
        go_wp2
        exact ⟨⟨i + 1, bu', by omega, by go_num, by rw [e1, hbn], D3, V3⟩, by simp [intOf]; omega⟩
      · have e : i = n := by omega
        subst e
        clear D2 V2
        go_wp2_with fail
        refine (bBlocks_any A MA GB _ bu _ hD.B hD.M hD.n).mono ?_
        rintro x w3 ⟨v, rfl, hrow, U3⟩
        have D3 := hD.still U3
        have V3 := hU.trans U3
        have hrow' := brow_of hrow
        have hLn : (blocks bu.F bu.n).length ≤ 256 := Nat.le_trans (blocks_len _ _) hD.B.ok.hi
        have hsel := Lib.hid (show bu.sel k = pick k (blocks bu.F bu.n) from rfl)
        have hlo := fun j ej => (show GB < j ∧ MB < j from ⟨Nat.lt_of_lt_of_le hD.B.lts.2 (hrow.lt j ej).1, Nat.lt_of_lt_of_le (lt_of_heap hD.M.body) (hrow.lt j ej).1⟩)
        clear hrow hD hU U3
        generalize blocks bu.F bu.n = L at hrow' hLn hsel hlo
        obtain ⟨oa, cap', rfl, hc⟩ := hrow'
        obtain ⟨ln, hln⟩ : ∃ ln, L.length = ln := ⟨_, rfl⟩
        rw [hln] at hc hLn hlo ⊢
        have HLn := Lib.hid hln
        clear hln
        go_upto_block 2 with fail
        go_cut [12] (fun s12 wx => ∃ (bi : Int) (q : Nat), s12 = .int .i64 bi ∧ wx = w3.drewN q ∧ Hid (Best k L ln bi))
        case first =>
          go_wp2_with fail
          go_loopw [12, 13] (fun s t wr => ∃ (i q : Nat) (bi : Int), i ≤ ln ∧ t = .int .i64 i ∧ s = .int .i64 bi ∧ wr = w3.drewN q ∧ Hid (Best k L i bi)) (fun _ t _ => ln - (intOf t).toNat)
          case atStart => exact ⟨0, 0, -1, by omega, rfl, rfl, rfl, Lib.hid (.inl ⟨rfl, rfl⟩)⟩
          case round =>
            obtain ⟨i', q, bi, hi', rfl, rfl, rfl, hb⟩ := hrel
            by_cases hlt' : i' < ln
            · obtain ⟨ga, rfl, c0, c1⟩ := hc i' hlt'
              have hil : i' < L.length := by rw [HLn.out]; exact hlt'
              have hin : (i' : Int) < (ln : Int) := by omega
              have hlow := Lib.hid (fun hx => hb.out.low hil hx)
              rcases hb.out with ⟨rfl, hp⟩ | ⟨j, rfl, hj, hp⟩
              · have hfst := Lib.hid (fun hx => Best.first hb.out hil hx)
                clear hp hc hb c0
                generalize L.getD i' (0, 0) = x at c1 hlow hfst
                by_cases hx : k ≤ x.2
                · have HB := Lib.hid (hfst.out hx)
                  clear hlow hfst
                  have hx' : (k : Int) ≤ (x.2 : Int) := by omega
                  generalize x.2 = kk at c1 hx hx'
                  go_wp2
                  go_quiet (fail)
                  go_wp2
                  go_roundw
                  case rel => exact ⟨i' + 1, _, _, by omega, by go_num, rfl, rfl, HB⟩
                  case measure => simp [intOf]; omega
                · have HB := Lib.hid (hlow.out hx)
                  clear hlow hfst
                  have hx' : ¬ (k : Int) ≤ (x.2 : Int) := by omega
                  generalize x.2 = kk at c1 hx hx'
                  go_wp2
                  go_quiet (fail)
                  go_wp2
                  go_roundw
                  case rel => exact ⟨i' + 1, _, _, by omega, by go_num, rfl, rfl, HB⟩
                  case measure => simp [intOf]; omega
              · have hmore := Lib.hid (fun hx hl => Best.more hb.out hil hx hl)
                have hstay := Lib.hid (fun hl => Best.stay hb.out hil hl)
                obtain ⟨ga', eg, c0', c1'⟩ := hc j (by omega)
                cases eg
                have hjn : (j : Int) < (ln : Int) := by omega
                clear hp hc hb c0 c0'
                generalize L.getD i' (0, 0) = x at c1 hlow hmore hstay
                generalize L.getD j (0, 0) = y at c1' hmore hstay
                by_cases hx : k ≤ x.2
                · have hx' : (k : Int) ≤ (x.2 : Int) := by omega
                  by_cases hl : x.2 < y.2
                  · have HB := Lib.hid (hmore.out hx hl)
                    have hl' : (x.2 : Int) < (y.2 : Int) := by omega
                    clear hlow hmore hstay
                    generalize x.2 = kk at c1 hx hx' hl hl'
                    generalize y.2 = kk' at c1' hl hl'
                    go_wp2
                    go_quiet (fail)
                    go_wp2
                    go_roundw
                    case rel => exact ⟨i' + 1, _, _, by omega, by go_num, rfl, rfl, HB⟩
                    case measure => simp [intOf]; omega
                  · have HB := Lib.hid (hstay.out hl)
                    have hl' : ¬ (x.2 : Int) < (y.2 : Int) := by omega
                    clear hlow hmore hstay
                    generalize x.2 = kk at c1 hx hx' hl hl'
                    generalize y.2 = kk' at c1' hl hl'
                    go_wp2
                    go_quiet (fail)
                    go_wp2
                    go_roundw
                    case rel => exact ⟨i' + 1, _, _, by omega, by go_num, rfl, rfl, HB⟩
                    case measure => simp [intOf]; omega
                · have HB := Lib.hid (hlow.out hx)
                  clear hlow hmore hstay
                  have hx' : ¬ (k : Int) ≤ (x.2 : Int) := by omega
                  generalize x.2 = kk at c1 hx hx'
                  go_wp2
                  go_quiet (fail)
                  go_wp2
                  go_roundw
                  case rel => exact ⟨i' + 1, _, _, by omega, by go_num, rfl, rfl, HB⟩
                  case measure => simp [intOf]; omega
            · have e : i' = ln := by omega
              subst e
              go_wp2_with fail
              go_meet
              exact ⟨bi, q, rfl, rfl, hb⟩
        case rest =>
          obtain ⟨bi, q, rfl, rfl, hb⟩ := hcut
          have D4 := D3.still ((Upd.refl (fun _ => False) w3).drewN q)
          have V4 := V3.drewN q
          have hc4 : ∀ j, j < ln → ∃ g, oa = some ⟨g, 0, none⟩ ∧ (w3.drewN q).cell? ⟨g, j * 2, none⟩ = some (.int .i64 ((L.getD j (0, 0)).1 : Int)) := fun j hj => by
            obtain ⟨g, h1, h2, _⟩ := hc j hj
            exact ⟨g, h1, h2⟩
          clear D3 V3 hc
          generalize w3.drewN q = w4 at D4 V4 hc4 ⊢
          have hleft : (bu.left : Int) ≤ 256 := by have := left_sum D4.B.ok; have := D4.B.ok.hi; omega
          have htk : L.take ln = L := List.take_of_length_le (by rw [HLn.out]; exact Nat.le_refl _)
          go_wp2_with fail
          refine (bLeft_any A MA GB _ bu _ D4.B D4.M D4.n).mono ?_
          rintro x w5 ⟨rfl, U5⟩
          have D5 := D4.still U5
          have V5 := V4.trans U5
          go_wp2_with fail
          refine (bAlloc_any A MA GB _ bu k _ D5.B D5.M D5.n hk8).mono ?_
          rcases hb.out with ⟨rfl, hp⟩ | ⟨j, rfl, hj, hp⟩
          · rw [htk] at hp
            have hnone : bu.sel k = none := hsel.out.trans hp
            rintro x w6 (⟨_, rfl, U6⟩ | ⟨y, hs, _⟩)
            case inr => rw [hnone] at hs; cases hs
            have D6 := D5.still U6
            have V6 := V5.trans U6
            clear hb hp hnone hc4 D4 V4 D5 V5 U5 U6 htk
            go_wp2_with fail
            refine (bLeft_any A MA GB _ bu _ D6.B D6.M D6.n).mono ?_
            rintro x w7 ⟨rfl, U7⟩
            go_wp2
            go_ret
            exact ⟨rfl, below_none (V6.trans U7)⟩
          · rw [htk] at hp
            have hsome : bu.sel k = some (L.getD j (0, 0)) := hsel.out.trans hp
            obtain ⟨ga, rfl, g0⟩ := hc4 j hj
            have hgN := hlo ga rfl
            generalize L.getD j (0, 0) = y at hsome g0
            rintro x w6 (⟨hs, _⟩ | ⟨y', hs, rfl, B6, U6⟩)
            · rw [hsome] at hs; cases hs
            rw [hsome] at hs
            obtain rfl : y = y' := by injection hs
            have D6 := D5.gb B6 U6 rfl
            have V6 : Upd (fun _ => False) w w6 := V5.trans' U6 hge
            have hg6 := U6.cell (U5.cell g0 (fun h => h)) (by show ¬ ga = GB; omega)
            have hgv := (sel_give D5.B.ok hk8 hsome)
            have hmem : (y.1, k) ∈ (bu.give (y.1, k)).gave := by show (y.1, k) ∈ bu.gave ++ [(y.1, k)]; simp
            have hbd := pw_bd k hk8
            have hsh := shl_pw2 k hk8
            have hl1 := left_give hgv.2
            have hl2 := Lib.hid (show (((bu.give (y.1, k)).take (y.1, k)).left : Int) = (bu.left : Int) from by rw [left_take hgv.1 hmem, hl1])
            have hwa : IntKind.i64.wrap ((bu.left : Int) - pw k) = ((bu.give (y.1, k)).left : Int) := by
              rw [IntWalk.i64_in _ (by omega)]
              unfold pw
              omega
            have hjl : (j : Int) < (ln : Int) := by omega
            have Hmem := Lib.hid hmem
            have D6d := D6.still (Upd.refl (fun _ => False) w6).drew
            have V6d := V6.drew
            have hg6d : w6.drew.cell? ⟨ga, j * 2, none⟩ = some (.int .i64 (y.1 : Int)) := by simpa using hg6
            clear hb hp hsome hs hc4 D4 V4 D5 V5 U5 htk g0 hl1 hmem hgv D6 V6 hlo B6 U6
            go_upto_region 20 with fail
            go_region_held3 (fun w' => w'.cell? ⟨ga, j * 2, none⟩ = some (.int .i64 (y.1 : Int)))
              (first
                | exact hg6
                | exact hg6d
                | exact g9
                | exact g8
                | exact g7)
              (first
                | (go_at_call 17; refine (bfree_yes A MA GB _ _ (y.1, k) _ D7 Hmem.out).mono ?_; rintro e w8 ⟨rfl, D8, U8⟩; have V8 := V7.since U8 (fun z hz => by { rcases hz with rfl | rfl; exact hge; exact hmb }); have g8 := U8.cell g7 (by rintro (e | e); { exact absurd e (by show ¬ ga = GB; omega) }; { exact absurd e (by show ¬ ga = MB; omega) }))
                | (go_at_call 28; refine (bLeft_any A MA GB _ _ _ D8.B D8.M D8.n).mono ?_; rintro e w9 ⟨rfl, U9⟩; rw [hl2.out]; have V9 := V8.trans U9; have g9 := U9.cell g8 (fun h => h))
                | (go_at_call 28; refine (bLeft_any A MA GB _ _ _ D6d.B D6d.M D6d.n).mono ?_; rintro e w7 ⟨rfl, U7⟩; have D7 := D6d.still U7; have V7 := V6d.trans U7; have g7 := U7.cell hg6d (fun h => h)))
            go_wp2
            go_ret
            exact ⟨rfl, below_none V9⟩
  · by_cases h0 : od < 0
    · go_wp2
      go_ret
      exact ⟨rfl, below_none V2⟩
    · have h1 : 8 < od := by omega
      go_wp2
      go_ret
      exact ⟨rfl, below_none V2⟩
/-! ### the row's frame -/
theorem own : ownKnob Try.prog.godebug = none := by kernel_rfl
theorem laidOut : laidOutB Try.prog = true := by kernel_rfl
set_option linter.unusedVariables false in
set_option maxRecDepth 100000 in
theorem lifted (os : Os) (started : os.Started) (H : Type) (enc : TypeId × Value → H) :
    ReturnsInHanded {} Try.checked os 6 .any (Rows.buddyBestSpec.pre6 enc Try.prog Try.f6 Rows.buddyBestRow.domain false) (Rows.buddyBestSpec.post enc Try.prog Try.f6 false true false false) := by
  refine returnsInHanded_of_change (C := Try.checked) own started (by kernel_rfl) Try.func6
    (ChangeSpec.witness6 (enc := enc) (C := Try.checked) false ⟨#[], #[.int .i64 0, .slice none 0 0, .int .i64 0], []⟩ 8 (by kernel_rfl) (by kernel_rfl) (by kernel_rfl) (by kernel_rfl)) ?_
  intro W base args ds gs before hval0 hW hcnd _
  have hval : ∀ (j : Nat) t v, Try.f6.params[j]? = some t → args[j]? = some v → Value.okWide Try.prog W .any base t v := hval0
  have hW' := hW
  obtain ⟨p, q, hA0, hV, rfl, hfz, hnd⟩ := hW
  have hA : DataW.TrodAll enc Try.prog W 0 (fun _ => true) true Try.f6.params.toList args.toList ds p := hA0
  rw [Try.params6] at hA hval
  obtain ⟨v0, vs0, d0, ds0, p0, q0, hargs, rfl, rfl, h0, r0⟩ := trodAll_cons hA
  obtain ⟨v1, vs1, d1, ds1, p1, q1, rfl, rfl, rfl, h1, r1⟩ := trodAll_cons r0
  obtain ⟨v2, vs2, d2, ds2, p2, q2, rfl, rfl, rfl, h2, r2⟩ := trodAll_cons r1
  obtain ⟨rfl, rfl, rfl⟩ := trodAll_nil r2
  obtain rfl : args = #[v0, v1, v2] := by cases args; simp_all
  obtain ⟨rfl, rfl⟩ := trodVars_none hV
  have k0 := h0
  have lt0 : ∀ x ∈ p0, x.block < W.heap.size := by obtain ⟨m, hm⟩ := k0; exact DataW.trod_lt m _ _ _ hm
  obtain ⟨a0, rfl, rfl, rfl, w0⟩ := open_int Try.underlying3 (hval 0 3 v0 rfl rfl) h0
  have k1 := h1
  have lt1 : ∀ x ∈ p1, x.block < W.heap.size := by obtain ⟨m, hm⟩ := k1; exact DataW.trod_lt m _ _ _ hm
  obtain ⟨ao1, n1, cap1, b1, of1, E1, rfl, w1⟩ := Fr.open_rows 12 [some .i64, some .i64, some .i64, some .u64] Try.underlying22 (by kernel_rfl) (by kernel_rfl) (by decide) (hval 1 22 v1 rfl rfl) h1
  have k2 := h2
  have lt2 : ∀ x ∈ p2, x.block < W.heap.size := by obtain ⟨m, hm⟩ := k2; exact DataW.trod_lt m _ _ _ hm
  obtain ⟨a2, rfl, rfl, rfl, w2⟩ := open_int Try.underlying3 (hval 2 3 v2 rfl rfl) h2
  clear hA0 hval0
  refine (walk a0 ao1 n1 cap1 b1 of1 E1 a2 w0 w2 W w1).mono fun e W' ⟨he, bel⟩ => ?_
  subst he
  exact ⟨_, rfl, _, _, _, [], _, [], hW', trodAll_mk1 (shut_bool Try.underlying4 _), (trodAll_cons_mk (Below.trod laidOut (by kernel_rfl) (of_decide_eq_true (by kernel_rfl)) k0 bel lt0) (trodAll_cons_mk (Below.trod laidOut (by kernel_rfl) (of_decide_eq_true (by kernel_rfl)) k1 bel lt1) (trodAll_cons_mk (Below.trod laidOut (by kernel_rfl) (of_decide_eq_true (by kernel_rfl)) k2 bel lt2) trodAll_mk0))), rfl, bel.frame _, fun h => by cases h⟩

theorem over : Rows.buddyBestRow.holds Try.pinned (OpenSpec.ofChange Rows.buddyBestSpec) :=
  OpenClaim.holds_of_wide 6 Try.f6 rfl rfl rfl rfl rfl rfl rfl ⟨rfl, rfl, rfl, rfl, rfl⟩ rfl rfl rfl rfl rfl (by kernel_rfl) Try.func6 (by kernel_rfl)
    (of_decide_eq_true (by kernel_rfl)) (by unfold Func.isWrapper; first | (rw [if_pos (by decide +kernel)]; kernel_rfl) | (rw [if_neg (by decide +kernel)]; exact ⟨rfl, rfl⟩))
    (fun os started H enc _ => lifted os started H enc)

theorem proved : Rows.BuddyBestSaid :=
  over
end Go.Proofs.Ytmobhojblclmjaa.buddyBest
