/-
  Proved: trunnionlaw05.OwnersSum answers true for every input: each frame is one's at most, all counts come to the frames that are someone's, and no one has more than it may.
  Conditions: none.
-/
import Derived.Test.YtmapceallmphpaaOwP
import Derived.Test.YtmapceallmphpaaFrame
import Derived.Deep.DeepCutAuto
import Derived.Deep.CutBlock
namespace Go.Proofs.Ytmapceallmphpaa.ownersSum
open Go.ChangeShapes Go.WideShapes Go.ChangeAt Go.RowKit
set_option linter.unusedVariables false
set_option linter.unusedSimpArgs false

set_option maxRecDepth 100000 in
set_option maxHeartbeats 8000000 in
theorem walk (ao : Option Addr) (n cap b off : Nat) (E : Nat → Nat → Value) (w : World) (R : Fr.RowArg w ao n b off [some .i64, some .i64, some .i64, some .i64] E) :
    Calls Try.prog 4 #[.slice ao n cap] w fun e w' => e = .returned (.bool true) ∧ Below w.heap.size w w' := by
  have hmost := R.most
  go_enter Try.func4, Try.ntmps4
  go_wp2_with fail
  refine (awake_any owc _).mono ?_
  rintro x w1 ⟨rfl, U1⟩
  go_wp2_with fail
  refine (owc.new_yes 24 _ (by omega) (by omega)).mono ?_
  rintro x w2 ⟨A, S, rfl, O2, hS, U2⟩
  have V2 := U1.trans U2
  have hSw := Lib.hid (show ∀ j, S j → w.heap.size ≤ j from fun j hj => Nat.le_trans U1.size (hS j hj))
  have hlt2 := owc.lt O2
  clear U1 U2 hS
  by_cases hn : 100 < n
  · have hnI : (100 : Int) < (n : Int) := by omega
    clear hmost
    go_wp2
    go_ret
    exact ⟨rfl, V2.below (Nat.le_refl _) (fun _ _ e => e)⟩
  have hnI : (n : Int) ≤ 100 := by omega
  clear hmost hn
  go_upto_region 6 with fail
  have hM0 := heap_alloc_last w2 (.cells #[.int .i64 0, .int .i64 0, .int .i64 0, .int .i64 0, .int .i64 0, .int .i64 0, .int .i64 0, .int .i64 0, .int .i64 0] 37)
  have Uw := (Upd.refl (fun _ => False) w2).alloc (.cells #[.int .i64 0, .int .i64 0, .int .i64 0, .int .i64 0, .int .i64 0, .int .i64 0, .int .i64 0, .int .i64 0, .int .i64 0] 37)
  have O3 := owc.still O2 Uw
  have V3 := V2.trans Uw
  have hSM : ¬ S w2.heap.size := fun h => Nat.lt_irrefl _ (hlt2 _ h)
  have hMw : w.heap.size ≤ w2.heap.size := V2.size
  clear O2 V2 Uw hlt2
  have HM0 := Lib.hid (show (w2.alloc (.cells #[.int .i64 0, .int .i64 0, .int .i64 0, .int .i64 0, .int .i64 0, .int .i64 0, .int .i64 0, .int .i64 0, .int .i64 0] 37)).heap[w2.heap.size]? = some (.cells (ocells 9 fun _ => 0).toArray 37 (0, 0)) from hM0)
  clear hM0
  generalize w2.alloc (.cells #[.int .i64 0, .int .i64 0, .int .i64 0, .int .i64 0, .int .i64 0, .int .i64 0, .int .i64 0, .int .i64 0, .int .i64 0] 37) = W3 at HM0 O3 V3 ⊢
  generalize w2.heap.size = MB at HM0 hSM hMw ⊢
  go_wp2
  go_loopw [7] (fun t wr => ∃ j : Nat, j ≤ 9 ∧ t = .int .i64 j ∧ OAt wr A S (ow0 24) ∧ Hid (wr.heap[MB]? = some (.cells (ocells 9 (setR (fun _ => 0) 0 j 256)).toArray 37 (0, 0))) ∧ Upd (fun _ => False) w wr) (fun t _ => 9 - (intOf t).toNat)
  case atStart => exact ⟨0, by omega, rfl, O3, by rw [setR_zero]; exact HM0, V3⟩
  case round =>
    clear O3 HM0 V3
    obtain ⟨j, hj, rfl, O4, HM, V4⟩ := hrel
    by_cases hjl : j < 9
    · have hcj := ocell HM.out j hjl
      have hfz := frozen_block HM.out j
      have hset := Lib.hid (show (wr.setCell ⟨MB, j, none⟩ (.int .i64 256)).heap[MB]? = some (.cells (ocells 9 (setR (fun _ => 0) 0 (j + 1) 256)).toArray 37 (0, 0)) from by
        have := setR_step 9 (fun _ => 0) 0 j 256
        rw [Nat.zero_add] at this
        rw [heap_setCell_same HM.out j, ocells_set, this])
      have U5 : Upd (· = MB) wr (wr.setCell ⟨MB, j, none⟩ (.int .i64 256)) := (Upd.refl (· = MB) wr).setCell (p := ⟨MB, j, none⟩) (.inl rfl) (.int .i64 256)
      have O5 := owc.kept O4 U5 (fun k hk (e : k = MB) => hSM (e ▸ hk))
      have V5 := V4.newer U5 (by rintro k rfl; exact hMw)
      generalize setR (fun _ => 0) 0 j 256 j = bj at hcj
      clear HM O4 V4 U5
      go_wp2
      exact ⟨⟨j + 1, by omega, by go_num, O5, hset, V5⟩, by simp [intOf]; omega⟩
    · have HM0 := Lib.hid (show wr.heap[MB]? = some (.cells (ocells 9 (ow0 24).most).toArray 37 (0, 0)) from by
        rw [HM.out, ocells_congr (n := 9) (f := setR (fun _ => 0) 0 j 256) (g := (ow0 24).most) fun z hz => by unfold setR; rw [if_pos (by omega)]; rfl])
      clear HM
      go_wp2
      clear hjl hj
      go_loopw [8] (fun t wr => ∃ (i : Nat) (o : Ow), i ≤ n ∧ t = .int .i64 i ∧ o.n = 24 ∧ o.Fits ∧ OAt wr A S o ∧ Hid (wr.heap[MB]? = some (.cells (ocells 9 o.most).toArray 37 (0, 0))) ∧ Upd (fun _ => False) w wr) (fun t _ => n - (intOf t).toNat)
      case atStart => exact ⟨0, ow0 24, by omega, rfl, rfl, fits0 24 (by omega), O4, HM0, V4⟩
      case round =>
        clear O4 HM0 V4
        obtain ⟨i, o, hi, rfl, on, oF, O5, HM, V5⟩ := hrel
        by_cases hlt : i < n
        · obtain ⟨d, f, k, v, c0, c1, c2, c3, bf, bk, bv⟩ := oop_cells R i hlt
          obtain rfl := R.place (by omega)
          have Bf := Lib.hid bf
          have Bk := Lib.hid bk
          have Bv := Lib.hid bv
          have p0 := V5.cell c0 (fun h => h)
          have p1 := V5.cell c1 (fun h => h)
          have p2 := V5.cell c2 (fun h => h)
          have p3 := V5.cell c3 (fun h => h)
          clear c0 c1 c2 c3 bf bk bv
          go_upto_region 13 with fail
          go_upto_region 14 with fail
          have X := Lib.hid (heap_alloc_last wr (.cells #[.int .i64 d, .int .i64 f, .int .i64 k, .int .i64 v] 32))
          have Ux := (Upd.refl (fun _ => False) wr).alloc (.cells #[.int .i64 d, .int .i64 f, .int .i64 k, .int .i64 v] 32)
          have O6 := owc.still O5 Ux
          have V6 := V5.trans Ux
          have HM6 := Lib.hid (Ux.at HM.out (fun h => h))
          have hSO : ¬ S wr.heap.size := fun h => Nat.lt_irrefl _ (owc.lt O5 _ h)
          clear O5 V5 HM Ux p0 p1 p2 p3
          generalize wr.alloc (.cells #[.int .i64 d, .int .i64 f, .int .i64 k, .int .i64 v] 32) = W6 at X O6 V6 HM6 ⊢
          generalize wr.heap.size = OB at X hSO ⊢
          obtain ⟨o0, o1, o2, o3⟩ := obox4 X.out
          clear X
          go_upto_if 54 with fail
          go_cut [53] (fun _ wx => ∃ o' : Ow, o'.n = 24 ∧ o'.Fits ∧ OAt wx A S o' ∧ Hid (wx.heap[MB]? = some (.cells (ocells 9 o'.most).toArray 37 (0, 0))) ∧ Upd (fun _ => False) w wx)
          case first =>
            by_cases d2 : d = 2
            · have e2 : (d == 2) = true := by simpa using d2
              go_wp2_with fail
              refine (owc.take f k v O6 Bf.out Bk.out Bv.out).mono ?_
              rintro x w7 ⟨rfl, O7, U7⟩
              have HM7 := Lib.hid (U7.at HM6.out hSM)
              have V7 := V6.newer U7 hSw.out
              clear O6 U7 HM6 V6 o0 o1 o2 o3
              go_wp2_with fail
              go_meet
              exact ⟨_, by rw [take_n]; exact on, oF.take f k v, O7, by rw [take_most]; exact HM7, V7⟩
            · have e2 : (d == 2) = false := by simpa using d2
              by_cases d3 : d = 3
              · have e3 : (d == 3) = true := by simpa using d3
                go_wp2_with fail
                refine (owc.quota v k O6 Bv.out Bk.out).mono ?_
                rintro x w7 ⟨rfl, O7, U7⟩
                have HM7 := Lib.hid (U7.at HM6.out hSM)
                have V7 := V6.newer U7 hSw.out
                by_cases hE : o.quotaE v k = 0
                · obtain ⟨h1, h2, h3, h4⟩ := quotaE_ok hE
                  have hv9 := who9_iff.1 h1
                  obtain ⟨V, rfl⟩ := Int.eq_ofNat_of_zero_le hv9.1
                  have q2 := U7.cell o2 hSO
                  have q3 := U7.cell o3 hSO
                  have hcV := ocell HM7.out V (by omega)
                  have hfz := frozen_block HM7.out V
                  have hset := Lib.hid (show (w7.setCell ⟨MB, V, none⟩ (.int .i64 k)).heap[MB]? = some (.cells (ocells 9 (o.quota V k).most).toArray 37 (0, 0)) from by
                    rw [heap_setCell_same HM7.out V, ocells_set, quota_most hE])
                  have U8 : Upd (· = MB) w7 (w7.setCell ⟨MB, V, none⟩ (.int .i64 k)) := (Upd.refl (· = MB) w7).setCell (p := ⟨MB, V, none⟩) (.inl rfl) (.int .i64 k)
                  have O8 := owc.kept O7 U8 (fun k hk (e : k = MB) => hSM (e ▸ hk))
                  have V8 := V7.newer U8 (by rintro k rfl; exact hMw)
                  generalize o.most V = mv at hcV
                  rw [hE]
                  clear O6 U7 HM6 V6 o0 o1 o2 o3 HM7 O7 V7 U8 h1 h2 h3 h4 hE
                  go_wp2_with fail
                  go_meet
                  exact ⟨_, by rw [quota_n]; exact on, oF.quota _ k, O8, hset, V8⟩
                · have hEb : (o.quotaE v k == 0) = false := by simpa using hE
                  rw [quota_no hE] at O7
                  generalize o.quotaE v k = qe at hE hEb ⊢
                  clear O6 U7 HM6 V6 o0 o1 o2 o3
                  go_wp2_with fail
                  go_meet
                  exact ⟨_, on, oF, O7, HM7, V7⟩
              · have e3 : (d == 3) = false := by simpa using d3
                go_wp2_with fail
                refine (owc.give f k v O6 Bf.out Bk.out Bv.out).mono ?_
                rintro x w7 ⟨rfl, O7, U7⟩
                have HM7 := Lib.hid (U7.at HM6.out hSM)
                have V7 := V6.newer U7 hSw.out
                clear O6 U7 HM6 V6 o0 o1 o2 o3
                go_wp2_with fail
                go_meet
                exact ⟨_, by rw [give_n]; exact on, oF.give f k v, O7, by rw [give_most]; exact HM7, V7⟩
          case rest =>
            clear O6 HM6 V6 o0 o1 o2 o3 oF on
            obtain ⟨o', on, oF, O7, HM7, V7⟩ := hcut
            generalize o' = o at on oF O7 HM7
            clear o'
            have ok := owc.ok O7
            go_wp2
            go_loop [10, 11] (fun s t => ∃ j : Nat, j ≤ 24 ∧ t = .int .i64 j ∧ s = .int .i64 (ownd o.f j : Nat)) (fun _ t => 24 - (intOf t).toNat)
            case atStart => exact ⟨0, by omega, rfl, rfl⟩
            case round =>
              obtain ⟨j, hj, rfl, rfl⟩ := hrel
              by_cases hjl : j < 24
              · have hs := Lib.hid (show ownd o.f (j + 1) = ownd o.f j + (if 0 ≤ o.f j then 1 else 0) from rfl)
                have hol := ownd_le o.f j
                generalize ownd o.f j = c at hs hol ⊢
                go_wp2_with fail
                refine (owc.of_ j O7).mono ?_
                rintro x w8 ⟨rfl, rfl⟩
                rw [of_nat j (by omega)]
                generalize o.f j = z at hs ⊢
                by_cases hz : 0 ≤ z
                · go_wp2
                  exact ⟨⟨j + 1, by omega, by go_num, by rw [hs.out, if_pos hz]; rfl⟩, by simp [intOf]; omega⟩
                · go_wp2
                  exact ⟨⟨j + 1, by omega, by go_num, by rw [hs.out, if_neg (by omega)]; rfl⟩, by simp [intOf]; omega⟩
              · have hj24 : j = 24 := by omega
                have hso := Lib.hid (show sumC o.f 24 9 = ownd o.f j from by rw [hj24]; exact sum_ownd o.f (fun j => (ok.fr j).2) 24)
                have hol := ownd_le o.f j
                generalize ownd o.f j = c at hso hol ⊢
                clear hj24
                go_wp2
                clear hjl
                go_loop [12, 13, 14] (fun s t _ => ∃ j : Nat, j ≤ 9 ∧ t = .int .i64 j ∧ s = .int .i64 (sumC o.f 24 j : Nat)) (fun _ t _ => 9 - (intOf t).toNat)
                case atStart => exact ⟨0, by omega, rfl, rfl⟩
                case round =>
                  generalize j = j24 at hj hol ⊢
                  obtain ⟨j, hj, rfl, rfl⟩ := hrel
                  by_cases hj9 : j < 9
                  · have hs := Lib.hid (show sumC o.f 24 (j + 1) = sumC o.f 24 j + cnto o.f (j : Int) 24 from rfl)
                    have hsl := sumC_le o.f 24 j
                    generalize sumC o.f 24 j = s at hs hsl ⊢
                    have hcl := cnto_le o.f (j : Int) 24
                    have hF := oF j (by omega)
                    have hc := ocell HM7.out j hj9
                    rw [count_nat, on] at hF
                    have hms := ok.ms j
                    go_wp2_with fail
                    refine (owc.count_ j O7).mono ?_
                    rintro x w8 ⟨rfl, rfl⟩
                    rw [count_nat, on]
                    generalize cnto o.f (j : Int) 24 = cj at hs hcl hF ⊢
                    generalize o.most j = mj at hF hc hms
                    go_wp2
                    exact ⟨⟨j + 1, by omega, by go_num, by rw [hs.out]; go_num⟩, by simp [intOf]; omega⟩
                  · have h9 : j = 9 := by omega
                    have hsj : sumC o.f 24 j = c := by rw [h9]; exact hso.out
                    rw [hsj]
                    clear h9 hsj hso
                    go_wp2
                    exact ⟨⟨i + 1, o, by omega, by go_num, on, oF, O7, HM7, V7⟩, by simp [intOf]; omega⟩
        · obtain rfl : i = n := by omega
          go_wp2
          go_ret
          exact ⟨rfl, V5.below (Nat.le_refl _) (fun _ _ e => e)⟩
/-! ### the row's frame -/
theorem own : ownKnob Try.prog.godebug = none := by kernel_rfl
theorem laidOut : laidOutB Try.prog = true := by kernel_rfl
set_option linter.unusedVariables false in
set_option maxRecDepth 100000 in
theorem lifted (os : Os) (started : os.Started) (H : Type) (enc : TypeId × Value → H) :
    ReturnsInHanded {} Try.checked os 4 .any (Rows.ownersSumSpec.pre6 enc Try.prog Try.f4 Rows.ownersSumRow.domain false) (Rows.ownersSumSpec.post enc Try.prog Try.f4 false true false false) := by
  refine returnsInHanded_of_change (C := Try.checked) own started (by kernel_rfl) Try.func4
    (ChangeSpec.witness6 (enc := enc) (C := Try.checked) false ⟨#[], #[.slice none 0 0], []⟩ 8 (by kernel_rfl) (by kernel_rfl) (by kernel_rfl) (by kernel_rfl)) ?_
  intro W base args ds gs before hval0 hW hcnd _
  have hval : ∀ (j : Nat) t v, Try.f4.params[j]? = some t → args[j]? = some v → Value.okWide Try.prog W .any base t v := hval0
  have hW' := hW
  obtain ⟨p, q, hA0, hV, rfl, hfz, hnd⟩ := hW
  have hA : DataW.TrodAll enc Try.prog W 0 (fun _ => true) true Try.f4.params.toList args.toList ds p := hA0
  rw [Try.params4] at hA hval
  obtain ⟨v0, vs0, d0, ds0, p0, q0, hargs, rfl, rfl, h0, r0⟩ := trodAll_cons hA
  obtain ⟨rfl, rfl, rfl⟩ := trodAll_nil r0
  obtain rfl : args = #[v0] := by cases args; simp_all
  obtain ⟨rfl, rfl⟩ := trodVars_none hV
  have k0 := h0
  have lt0 : ∀ x ∈ p0, x.block < W.heap.size := by obtain ⟨m, hm⟩ := k0; exact DataW.trod_lt m _ _ _ hm
  obtain ⟨ao0, n0, cap0, b0, of0, E0, rfl, w0⟩ := Fr.open_rows 12 [some .i64, some .i64, some .i64, some .i64] Try.underlying22 (by kernel_rfl) (by kernel_rfl) (by decide) (hval 0 22 v0 rfl rfl) h0
  clear hA0 hval0
  refine (walk ao0 n0 cap0 b0 of0 E0  W w0).mono fun e W' ⟨he, bel⟩ => ?_
  subst he
  exact ⟨_, rfl, _, _, _, [], _, [], hW', trodAll_mk1 (shut_bool Try.underlying4 _), (trodAll_cons_mk (Below.trod laidOut (by kernel_rfl) (of_decide_eq_true (by kernel_rfl)) k0 bel lt0) trodAll_mk0), rfl, bel.frame _, fun h => by cases h⟩

theorem over : Rows.ownersSumRow.holds Try.pinned (OpenSpec.ofChange Rows.ownersSumSpec) :=
  OpenClaim.holds_of_wide 4 Try.f4 rfl rfl rfl rfl rfl rfl rfl ⟨rfl, rfl, rfl, rfl, rfl⟩ rfl rfl rfl rfl rfl (by kernel_rfl) Try.func4 (by kernel_rfl)
    (of_decide_eq_true (by kernel_rfl)) (by unfold Func.isWrapper; first | (rw [if_pos (by decide +kernel)]; kernel_rfl) | (rw [if_neg (by decide +kernel)]; exact ⟨rfl, rfl⟩))
    (fun os started H enc _ => lifted os started H enc)

theorem proved : Rows.OwnersSumSaid :=
  over
end Go.Proofs.Ytmapceallmphpaa.ownersSum
