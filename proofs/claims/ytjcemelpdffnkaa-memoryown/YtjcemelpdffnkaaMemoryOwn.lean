/-
  Proved: trunnionlaw02.MemoryOwn answers true for every input: a frame that is told is a copy; filled with it, another frame is the same.
  Conditions: none.
-/
import Derived.Test.YtjcemelpdffnkaaMemF
import Derived.Test.YtjcemelpdffnkaaFrame
import Derived.Deep.DeepCutAuto
namespace Go.Proofs.Ytjcemelpdffnkaa.memoryOwn
open Go.ChangeShapes Go.WideShapes Go.ChangeAt Go.RowKit
set_option linter.unusedVariables false
set_option linter.unusedSimpArgs false

theorem below_none {w w' : World} (h : Upd (fun _ => False) w w') : Below w.heap.size w w' := h.below (Nat.le_refl _) (fun _ _ e => e)
/-- one step's four numbers, where they lie -/
theorem op_cells {w : World} {ao : Option Addr} {n b off : Nat} {E : Nat → Nat → Value} (R : Fr.RowArg w ao n b off [some .i64, some .i64, some .i64, some .u64] E) (i : Nat) (hi : i < n) :
    ∃ d x y v : Int, w.cell? ⟨b, off + i * 4, none⟩ = some (.int .i64 d) ∧ w.cell? ⟨b, off + i * 4 + 1, none⟩ = some (.int .i64 x) ∧ w.cell? ⟨b, off + i * 4 + 2, none⟩ = some (.int .i64 y) ∧ w.cell? ⟨b, off + i * 4 + 3, none⟩ = some (.int .u64 v) ∧
      (Lit.int .i64 d).wf = true ∧ (Lit.int .i64 x).wf = true ∧ (Lit.int .i64 y).wf = true ∧ (Lit.int .u64 v).wf = true := by
  obtain ⟨d, hd, wd⟩ := R.ok i hi 0 _ rfl
  obtain ⟨x, hx, wx⟩ := R.ok i hi 1 _ rfl
  obtain ⟨y, hy, wy⟩ := R.ok i hi 2 _ rfl
  obtain ⟨v, hv, wv⟩ := R.ok i hi 3 _ rfl
  exact ⟨d, x, y, v, by rw [← hd]; exact R.cell i hi 0 (by decide), by rw [← hx]; exact R.cell i hi 1 (by decide), by rw [← hy]; exact R.cell i hi 2 (by decide), by rw [← hv]; exact R.cell i hi 3 (by decide), wd, wx, wy, wv⟩
set_option maxRecDepth 100000 in
set_option maxHeartbeats 1000000 in
theorem walk (ao : Option Addr) (n cap b off : Nat) (E : Nat → Nat → Value) (p q : Int) (w1 : (Lit.int .i64 p).wf = true) (w2 : (Lit.int .i64 q).wf = true) (w : World) (R : Fr.RowArg w ao n b off [some .i64, some .i64, some .i64, some .u64] E) :
    Calls Try.prog 5 #[.slice ao n cap, .int .i64 p, .int .i64 q] w fun e w' => e = .returned (.bool true) ∧ Below w.heap.size w w' := by
  clear w1 w2
  have hmost := R.most
  by_cases hp : 0 ≤ p ∧ p ≤ 3 ∧ 0 ≤ q ∧ q ≤ 3 ∧ n ≤ 60
  · obtain ⟨p1, p2, q1, q2, hn⟩ := hp
    go_enter Try.func5, Try.ntmps5
    go_wp2_with fail
    refine (awake_any _).mono ?_
    rintro e w1 ⟨rfl, U1⟩
    go_wp2_with fail
    refine (new_yes 4 _ (by omega) (by omega)).mono ?_
    rintro e w2 ⟨rfl, M0, U2, -⟩
    have hU := U1.trans U2
    have hB1 := U1.size
    clear U1 U2
    have hok : (memNew w1.heap.size 4).n = 4 := rfl
    have hB2 : w.heap.size ≤ (memNew w1.heap.size 4).B := hB1
    generalize memNew w1.heap.size 4 = m at M0 hok hB2
    generalize w1.heap.size + 1 = A at M0 ⊢
    have HK := Lib.hid hok
    clear hok
    go_wp2_with fail
    go_loopw [10] (fun t wr => ∃ (k : Nat) (m' : Mem), k ≤ n ∧ t = .int .i64 k ∧ MemAt wr A m' ∧ Upd (fun _ => False) w wr ∧ Hid (m'.n = 4) ∧ Hid (m'.B = m.B)) (fun t _ => n - (intOf t).toNat)
    case atStart => exact ⟨0, m, by omega, rfl, M0, hU, HK, rfl⟩
    case round =>
      obtain ⟨k, m', hk, rfl, hM, hU, hn4, hB⟩ := hrel
      by_cases hlt : k < n
      · obtain rfl := R.place (by omega)
        have R' := R.kept (below_none hU)
        obtain ⟨d, x, y, v, c0, c1, c2, c3, wd, wx, wy, wv⟩ := op_cells R' k hlt
        clear wd wx wy wv c0 c2
        have hkn : (k : Int) < (n : Int) := by omega
        go_wp2_with fail
        refine wp_region_tail 12 (by kernel_rfl) (by kernel_rfl) ?_
        simp only [List.take_succ_cons, List.take_zero, List.drop_succ_cons, List.drop_zero]
        intro w3 hw3
        have hM3 : MemAt w3 A m' := by rw [hw3]; exact hM.drew
        have hU3 : Upd (fun _ => False) w w3 := by rw [hw3]; exact hU.drew
        have c1' : w3.cell? ⟨b, off + k * 4 + 1, none⟩ = some (.int .i64 x) := by rw [hw3]; simpa using c1
        have c3' : w3.cell? ⟨b, off + k * 4 + 3, none⟩ = some (.int .u64 v) := by rw [hw3]; simpa using c3
        clear hw3 c1 c3 hM hU R'
        repeat still_step
        refine wpStill_nil ?_
        go_wp2_with fail
        refine (write_any _ _ _ _ _ hM3).mono ?_
        rintro e w4 ⟨rfl, M4, U4⟩
        rw [hB.out] at U4
        go_wp2
        go_roundw
        case rel => exact ⟨k + 1, _, by omega, by go_num, M4, hU3.new (U4.one hB2), (by rw [Mem.wr_n]; exact hn4.out : _ = 4), (by rw [Mem.wr_B]; exact hB.out : _ = m.B)⟩
        case measure => simp [intOf]; omega
      · have e : k = n := by omega
        subst e
        clear hlt R hmost hk M0
        go_wp2_with fail
        refine (frame_any A m' _ _ hM).mono ?_
        rintro e w3 ⟨rfl, M3, U3⟩
        replace hU := hU.trans U3
        have hx := Lib.hid (show m'.ex p 1 = true from decide_eq_true (by rw [hn4.out]; omega))
        have hy := Lib.hid (show m'.ex q 1 = true from decide_eq_true (by rw [hn4.out]; omega))
        rw [hx.out]
        have hL : (m'.frI p).length = 16 := by
          unfold Mem.frI
          rw [hx.out, if_pos rfl]
          exact m'.fr_len hM.okm _ (by rw [hn4.out]; omega)
        have hfin := Lib.hid (show (m'.fill q (m'.frI p)).frI q = m'.frI p from by
          have hq : (m'.fill q (m'.frI p)).ex q 1 = true := by rw [Mem.fill_ex]; exact hy.out
          unfold Mem.frI at *
          rw [hq, if_pos rfl]
          unfold Mem.fill
          rw [hy.out, if_pos rfl]
          exact m'.fr_lay_same hM.okm _ hL _ (by rw [hn4.out]; omega))
        have hfx := Lib.hid (show (m'.fill q (m'.frI p)).ex q 1 = true from by rw [Mem.fill_ex]; exact hy.out)
        have hfB := Lib.hid (show (m'.fill q (m'.frI p)).B = m.B from by rw [Mem.fill_B]; exact hB.out)
        have hfp := Lib.hid (show m'.frI p = m'.frI p from rfl)
        generalize hgL : m'.frI p = L at hL hfin hfx hfB hfp ⊢
        have HgL := Lib.hid hgL
        have HL := Lib.hid hL
        clear hL hgL hM U3 hfp
        have hA3 := lt_of_heap M3.head
        have hB3 := lt_of_heap M3.body
        have hw3 := hU.size
        -- x
        obtain ⟨g1, g2, g3⟩ := alloc16 w3 L 37 HL.out
        have G3 := Lib.hid g3
        have G1 := Lib.hid g1
        have M4 := M3.kept g2 (fun h => h) (fun h => h)
        replace hU := hU.trans g2
        have s3 := lt_of_heap g1
        have hX := hU.size
        clear g1 g2 g3
        go_upto_region 10 with (with_reducible refine wpList_store_sz rfl 37 (.tmp 11) (.tmp 79) rfl w3.heap.size 0 (ints .u64 L).toArray rfl rfl 16 (by rw [List.size_toArray, ints_length]; exact HL.out) G3.out size_arr (ints_one _ _) _ rfl ?_)
        generalize hW : World.setCells _ w3.heap.size 0 (ints .u64 L) = W4 at G1 M4 hU s3 hX ⊢
        clear hW G3 M3
        generalize w3.heap.size = x1 at *
        -- y
        have Rx := Lib.hid (rangeAt_block G1.out)
        obtain ⟨g1, g2, g3⟩ := alloc16 W4 L 37 HL.out
        have G3 := Lib.hid g3
        have Y1 := Lib.hid g1
        have M5 := M4.kept g2 (fun h => h) (fun h => h)
        replace hU := hU.trans g2
        replace G1 := Lib.hid (g2.at G1.out (fun h => h))
        have s4 := lt_of_heap g1
        clear g1 g2 g3
        go_upto_region 11 with (first
          | (with_reducible refine wpList_load_sz rfl 37 (.tmp 11) rfl x1 0 rfl (ints .u64 L) _ Rx.out Try.underlying37 rfl 16 (by rw [ints_length]; exact HL.out) size_arr ?_)
          | (with_reducible refine wpList_store_sz rfl 37 (.tmp 13) (.tmp 81) rfl W4.heap.size 0 (ints .u64 L).toArray rfl rfl 16 (by rw [List.size_toArray, ints_length]; exact HL.out) G3.out size_arr (ints_one _ _) _ rfl ?_))
        generalize hW : World.setCells _ W4.heap.size 0 (ints .u64 L) = W5 at G1 Y1 M5 hU s4 ⊢
        clear hW G3 M4 Rx
        generalize W4.heap.size = y1 at *
        -- x[3] is changed
        have cx := cell_block G1.out 3 (by rw [HL.out]; omega)
        have fx := frozen_block G1.out 3
        generalize L.getD 3 0 = l3 at cx
        go_upto_region 12 with fail
        have M6 := M5.kept (S := (· = x1)) ((Upd.refl _ _).setCell (p := ⟨x1, 3, none⟩) (by left; rfl) (.int .u64 (IntKind.u64.wrap (l3 + 1)))) (by omega) (by omega)
        have Y2 := Lib.hid (((Upd.refl (· = x1) _).setCell (p := ⟨x1, 3, none⟩) (by left; rfl) (.int .u64 (IntKind.u64.wrap (l3 + 1)))).at Y1.out (by omega))
        replace hU := hU.setCell (p := ⟨x1, 3, none⟩) (by right; exact hw3) (.int .u64 (IntKind.u64.wrap (l3 + 1)))
        generalize W5.setCell ⟨x1, 3, none⟩ (.int .u64 (IntKind.u64.wrap (l3 + 1))) = W6 at M6 Y2 hU ⊢
        clear cx fx G1 Y1 M5 s4
        -- z
        go_wp2_with fail
        refine (frame_any A m' _ _ M6).mono ?_
        rintro e w7 ⟨rfl, M7, U7⟩
        rw [hx.out, HgL.out]
        replace hU := hU.trans U7
        replace Y2 := Lib.hid (U7.at Y2.out (fun h => h))
        clear U7 M6
        obtain ⟨g1, g2, g3⟩ := alloc16 w7 L 37 HL.out
        have G3 := Lib.hid g3
        have Z1 := Lib.hid g1
        have M8 := M7.kept g2 (fun h => h) (fun h => h)
        replace hU := hU.trans g2
        replace Y2 := Lib.hid (g2.at Y2.out (fun h => h))
        have hz1 := lt_of_heap M7.body
        clear g1 g2 g3
        go_upto_region 13 with (with_reducible refine wpList_store_sz rfl 37 (.tmp 14) (.tmp 90) rfl w7.heap.size 0 (ints .u64 L).toArray rfl rfl 16 (by rw [List.size_toArray, ints_length]; exact HL.out) G3.out size_arr (ints_one _ _) _ rfl ?_)
        generalize hW : World.setCells _ w7.heap.size 0 (ints .u64 L) = W8 at Z1 Y2 M8 hU ⊢
        clear hW G3 M7
        generalize w7.heap.size = z1 at *
        -- Fill
        have Ry := Lib.hid (rangeAt_block Y2.out)
        go_wp2_with (with_reducible refine wpList_load_sz rfl 37 (.tmp 13) rfl y1 0 rfl (ints .u64 L) _ Ry.out Try.underlying37 rfl 16 (by rw [ints_length]; exact HL.out) size_arr ?_)
        refine (fill_any A m' _ _ _ M8 HL.out).mono ?_
        rintro e w9 ⟨rfl, M9, U9⟩
        rw [hy.out]
        rw [hB.out] at U9 hz1 hB3
        replace Y2 := Lib.hid (U9.at Y2.out (by omega))
        replace Z1 := Lib.hid (U9.at Z1.out (by omega))
        replace hU := hU.new (U9.one hB2)
        clear U9 M8 Ry
        -- w
        go_wp2_with fail
        refine (frame_any A _ _ _ M9).mono ?_
        rintro e w10 ⟨rfl, M10, U10⟩
        rw [hfx.out, hfin.out]
        replace hU := hU.trans U10
        replace Y2 := Lib.hid (U10.at Y2.out (fun h => h))
        replace Z1 := Lib.hid (U10.at Z1.out (fun h => h))
        clear U10 M9
        obtain ⟨g1, g2, g3⟩ := alloc16 w10 L 37 HL.out
        have G3 := Lib.hid g3
        have V1 := Lib.hid g1
        replace hU := hU.trans g2
        replace Y2 := Lib.hid (g2.at Y2.out (fun h => h))
        replace Z1 := Lib.hid (g2.at Z1.out (fun h => h))
        clear g1 g2 g3
        go_upto_region 15 with (with_reducible refine wpList_store_sz rfl 37 (.tmp 17) (.tmp 100) rfl w10.heap.size 0 (ints .u64 L).toArray rfl rfl 16 (by rw [List.size_toArray, ints_length]; exact HL.out) G3.out size_arr (ints_one _ _) _ rfl ?_)
        generalize hW : World.setCells _ w10.heap.size 0 (ints .u64 L) = W11 at Z1 Y2 V1 hU ⊢
        clear hW G3 M10
        generalize w10.heap.size = v1 at *
        have Ry := Lib.hid (rangeAt_block Y2.out)
        have Rz := Lib.hid (rangeAt_block Z1.out)
        have Rv := Lib.hid (rangeAt_block V1.out)
        simp only [errI_t]
        go_wp2_with (first
          | (with_reducible refine wpList_load_sz rfl 37 (.tmp 13) rfl y1 0 rfl (ints .u64 L) _ Ry.out Try.underlying37 rfl 16 (by rw [ints_length]; exact HL.out) size_arr ?_)
          | (with_reducible refine wpList_load_sz rfl 37 (.tmp 14) rfl z1 0 rfl (ints .u64 L) _ Rz.out Try.underlying37 rfl 16 (by rw [ints_length]; exact HL.out) size_arr ?_)
          | (with_reducible refine wpList_load_sz rfl 37 (.tmp 17) rfl v1 0 rfl (ints .u64 L) _ Rv.out Try.underlying37 rfl 16 (by rw [ints_length]; exact HL.out) size_arr ?_)
          | (with_reducible refine wpList_eql_ints rfl 37 37 (.tmp 112) (.tmp 113) rfl .u64 L L _ _ rfl rfl rfl rfl 16 31 Try.underlying37 Try.underlying31 size_u64 guard_arr HL.out HL.out true (by simp) ?_)
          | (with_reducible refine wpList_eql_ints rfl 37 37 (.tmp 125) (.tmp 126) rfl .u64 L L _ _ rfl rfl rfl rfl 16 31 Try.underlying37 Try.underlying31 size_u64 guard_arr HL.out HL.out true (by simp) ?_))
        go_ret
        exact ⟨rfl, below_none hU⟩
  · clear R
    go_enter Try.func5, Try.ntmps5
    go_wp2_with fail
    refine (awake_any _).mono ?_
    rintro e w1 ⟨rfl, U1⟩
    go_wp2_with fail
    refine (new_yes 4 _ (by omega) (by omega)).mono ?_
    rintro e w2 ⟨rfl, M0, U2, -⟩
    have hU := U1.trans U2
    clear U1 U2 M0
    by_cases h1 : p < 0
    · go_wp2
      all_goals go_ret
      all_goals exact ⟨rfl, below_none hU⟩
    · by_cases h2 : 3 < p
      · go_wp2
        all_goals go_ret
        all_goals exact ⟨rfl, below_none hU⟩
      · by_cases h3 : q < 0
        · go_wp2
          all_goals go_ret
          all_goals exact ⟨rfl, below_none hU⟩
        · by_cases h4 : 3 < q
          · go_wp2
            all_goals go_ret
            all_goals exact ⟨rfl, below_none hU⟩
          · have h5 : (60 : Int) < n := by omega
            clear hp
            go_wp2
            all_goals go_ret
            all_goals exact ⟨rfl, below_none hU⟩
/-! ### the row's frame -/
theorem own : ownKnob Try.prog.godebug = none := by kernel_rfl
theorem laidOut : laidOutB Try.prog = true := by kernel_rfl
set_option linter.unusedVariables false in
set_option maxRecDepth 100000 in
theorem lifted (os : Os) (started : os.Started) (H : Type) (enc : TypeId × Value → H) :
    ReturnsInHanded {} Try.checked os 5 .any (Rows.memoryOwnSpec.pre6 enc Try.prog Try.f5 Rows.memoryOwnRow.domain false) (Rows.memoryOwnSpec.post enc Try.prog Try.f5 false true false false) := by
  refine returnsInHanded_of_change (C := Try.checked) own started (by kernel_rfl) Try.func5
    (ChangeSpec.witness6 (enc := enc) (C := Try.checked) false ⟨#[], #[.slice none 0 0, .int .i64 0, .int .i64 0], []⟩ 8 (by kernel_rfl) (by kernel_rfl) (by kernel_rfl) (by kernel_rfl)) ?_
  intro W base args ds gs before hval0 hW hcnd _
  have hval : ∀ (j : Nat) t v, Try.f5.params[j]? = some t → args[j]? = some v → Value.okWide Try.prog W .any base t v := hval0
  have hW' := hW
  obtain ⟨p, q, hA0, hV, rfl, hfz, hnd⟩ := hW
  have hA : DataW.TrodAll enc Try.prog W 0 (fun _ => true) true Try.f5.params.toList args.toList ds p := hA0
  rw [Try.params5] at hA hval
  obtain ⟨v0, vs0, d0, ds0, p0, q0, hargs, rfl, rfl, h0, r0⟩ := trodAll_cons hA
  obtain ⟨v1, vs1, d1, ds1, p1, q1, rfl, rfl, rfl, h1, r1⟩ := trodAll_cons r0
  obtain ⟨v2, vs2, d2, ds2, p2, q2, rfl, rfl, rfl, h2, r2⟩ := trodAll_cons r1
  obtain ⟨rfl, rfl, rfl⟩ := trodAll_nil r2
  obtain rfl : args = #[v0, v1, v2] := by cases args; simp_all
  obtain ⟨rfl, rfl⟩ := trodVars_none hV
  have k0 := h0
  have lt0 : ∀ x ∈ p0, x.block < W.heap.size := by obtain ⟨m, hm⟩ := k0; exact DataW.trod_lt m _ _ _ hm
  obtain ⟨ao0, n0, cap0, b0, of0, E0, rfl, w0⟩ := Fr.open_rows 12 [some .i64, some .i64, some .i64, some .u64] Try.underlying22 (by kernel_rfl) (by kernel_rfl) (by decide) (hval 0 22 v0 rfl rfl) h0
  have k1 := h1
  have lt1 : ∀ x ∈ p1, x.block < W.heap.size := by obtain ⟨m, hm⟩ := k1; exact DataW.trod_lt m _ _ _ hm
  obtain ⟨a1, rfl, rfl, rfl, w1⟩ := open_int Try.underlying3 (hval 1 3 v1 rfl rfl) h1
  have k2 := h2
  have lt2 : ∀ x ∈ p2, x.block < W.heap.size := by obtain ⟨m, hm⟩ := k2; exact DataW.trod_lt m _ _ _ hm
  obtain ⟨a2, rfl, rfl, rfl, w2⟩ := open_int Try.underlying3 (hval 2 3 v2 rfl rfl) h2
  clear hA0 hval0
  refine (walk ao0 n0 cap0 b0 of0 E0 a1 a2 w1 w2 W w0).mono fun e W' ⟨he, bel⟩ => ?_
  subst he
  exact ⟨_, rfl, _, _, _, [], _, [], hW', trodAll_mk1 (shut_bool Try.underlying4 _), (trodAll_cons_mk (Below.trod laidOut (by kernel_rfl) (of_decide_eq_true (by kernel_rfl)) k0 bel lt0) (trodAll_cons_mk (Below.trod laidOut (by kernel_rfl) (of_decide_eq_true (by kernel_rfl)) k1 bel lt1) (trodAll_cons_mk (Below.trod laidOut (by kernel_rfl) (of_decide_eq_true (by kernel_rfl)) k2 bel lt2) trodAll_mk0))), rfl, bel.frame _, fun h => by cases h⟩

theorem over : Rows.memoryOwnRow.holds Try.pinned (OpenSpec.ofChange Rows.memoryOwnSpec) :=
  OpenClaim.holds_of_wide 5 Try.f5 rfl rfl rfl rfl rfl rfl rfl ⟨rfl, rfl, rfl, rfl, rfl⟩ rfl rfl rfl rfl rfl (by kernel_rfl) Try.func5 (by kernel_rfl)
    (of_decide_eq_true (by kernel_rfl)) (by unfold Func.isWrapper; first | (rw [if_pos (by decide +kernel)]; kernel_rfl) | (rw [if_neg (by decide +kernel)]; exact ⟨rfl, rfl⟩))
    (fun os started H enc _ => lifted os started H enc)

theorem proved : Rows.MemoryOwnSaid :=
  over
end Go.Proofs.Ytjcemelpdffnkaa.memoryOwn
