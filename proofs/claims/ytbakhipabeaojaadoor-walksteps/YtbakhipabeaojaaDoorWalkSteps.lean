/-
  Proved: trunnionlaw07.WalkSteps answers true for every input: as many tables are looked at as lead on, the first one is the root, and each next one is where the entry ahead leads.
  Conditions: package entry's table of fields starts as the program's text lays it (the card ties it).
-/
import Derived.Test.YtbakhipabeaojaaDoorCards
import Derived.Test.YtbakhipabeaojaaDoorTie
import Derived.Test.YtbakhipabeaojaaDoorLaid
import Derived.SevenTiedAt
import Derived.LaidMore
import Derived.Stop.Joined
import Derived.Test.YtbakhipabeaojaaDoorWkO
import Derived.Deep.DeepCutAuto
import Derived.Deep.RegionHeld3
namespace Go.Proofs.YtbakhipabeaojaaDoor.walkSteps
open Go.ChangeShapes Go.WideShapes Go.ChangeAt Go.RowKit
set_option linter.unusedVariables false
set_option linter.unusedSimpArgs false

set_option maxRecDepth 100000 in
set_option maxHeartbeats 4000000 in
theorem walk (ao : Option Addr) (n cap b off : Nat) (E : Nat → Nat → Value) (q : Int) (_wq : (Lit.int .i64 q).wf = true)
    (w : World) (R : Fr.RowArg w ao n b off opKs E) (T0 : Fr.VarIs w 0 (Fr.datCells (Rows.laid_trunnion_entry_fields (H := Unit)))) :
    Calls Tryd.prog 6 #[.slice ao n cap, .int .i64 q] w fun e w' => e = .returned (.bool true) ∧ Below w.heap.size w w' := by
  have T := tab_of T0
  have hmost := R.most
  clear T0 _wq
  go_enter Tryd.func6, Tryd.ntmps6
  go_wp2_with fail
  refine (wawake_any _ T).mono ?_
  rintro e w1 ⟨rfl, U1⟩
  have T1 := T.kept U1
  clear T
  go_wp2_with fail
  refine (new_yes 4 _ (by omega) (by omega)).mono ?_
  rintro e w2 ⟨rfl, h2, u2, s2⟩
  have T2 := T1.kept u2
  have U2 := U1.trans u2
  have hN := Lib.hid U1.size
  have hA := T2.apart h2
  have ct := Lib.hid (wtables_any _ _ w2 h2 T2)
  have hF := Four.new w1.heap.size
  rw [show (memNew w1.heap.size 4).B = w1.heap.size from rfl] at ct hA
  generalize (memNew w1.heap.size 4).tabs = M0 at ct hF
  clear h2 u2 s2 U1 T1
  generalize w1.heap.size = N at ct hA hN hF ⊢
  generalize N + 1 = A at ct ⊢
  by_cases h60 : n ≤ 60
  · go_wp2_with fail
    refine ct.out.mono ?_
    rintro e w3 ⟨rfl, h3, u3⟩
    have T3 := T2.keptS u3 hA
    have U3 := U2.fresh u3 hN.out
    clear ct u3 U2 T2
    go_wp2_with fail
    go_loopw [8] (fun t wr => ∃ (k : Nat) (M : Mem), k ≤ n ∧ t = .int .i64 k ∧ MemAt wr A M ∧ Hid (Four N M) ∧ Tab wr ∧ Upd (fun _ => False) w wr) (fun t _ => n - (intOf t).toNat)
    case atStart => exact ⟨0, M0, by omega, rfl, h3, Lib.hid hF, T3, U3⟩
    case round =>
      obtain ⟨k, M, hk, rfl, hM, h4, hT, hU⟩ := hrel
      clear h3 hF T3 U3
      by_cases hlt : k < n
      · obtain rfl := R.place (by omega)
        have R' := R.kept (hU.below (Nat.le_refl _) fun _ _ => id)
        obtain ⟨x, y, e, raw, u, ho⟩ := op8 R' k hlt
        have hkn : (k : Int) < (n : Int) := by omega
        clear R'
        go_wp2_with fail
        refine wp_region_tail 16 (by kernel_rfl) (by kernel_rfl) ?_
        simp only [List.take_succ_cons, List.take_zero, List.drop_succ_cons, List.drop_zero]
        intro w3 hw3
        have hM3 : MemAt w3 A M := by rw [hw3]; exact hM.drew
        have hT3 : Tab w3 := by rw [hw3]; exact hT.drew 1
        have hU3 : Upd (fun _ => False) w w3 := by rw [hw3]; exact hU.drew
        have ho3 : OpIn w3 b (off + k * 8) x y e raw u := by rw [hw3]; exact ho.drew
        clear hw3 hM hT hU ho
        have c0 := ho3.c0
        have c1 := ho3.c1
        have rg := Lib.hid ho3.rg
        have wf := Lib.hid ho3.wf
        clear ho3
        obtain ⟨v, r, t, f⟩ := e
        repeat (first | (with_reducible refine wpStill_load_sz rfl 35 (.tmp 54) rfl b (off + k * 8 + 2) rfl [.bool v, .bool r, .bool t, .int .i64 f] _ rg.out Tryd.underlying35 rfl 4 (ent_len _ _ _ _) size_ent ?_) | still_step)
        refine wpStill_nil ?_
        go_wp2_with fail
        refine (wput_any A M x y ⟨v, r, t, f⟩ _ hM3 hT3 wf.out).mono ?_
        rintro z w4 ⟨rfl, M4, u4⟩
        rw [h4.out.B] at u4
        have T4 := hT3.keptS u4 hA
        have U4 := hU3.fresh u4 hN.out
        go_wp2
        go_roundw
        case rel => exact ⟨k + 1, _, by omega, by go_num, M4, Lib.hid (h4.out.put x y _), T4, U4⟩
        case measure => simp [intOf]; omega
      · clear R hmost
        have cW := Lib.hid (wwalk_any A M 0 q wr hM hT h4.out.good)
        have hB := h4.out.wB q
        cases hp : pageB q
        · rw [hp] at hB
          obtain ⟨n1, n2, n3⟩ := M.walk_no 0 q hB
          rw [n1, n2, n3] at cW
          have hq := of_decide_eq_false hp
          clear n1 n2 n3 hB hp
          go_wp2_with fail
          refine cW.out.mono ?_
          rintro e w3 ⟨v3, rfl, r3, u3⟩
          obtain ⟨o3, cap3, rfl⟩ := wk_slice r3
          clear r3 cW
          obtain ⟨a1, a2, a3, a4⟩ := ent_box w3 false false false 0
          have A3 := Lib.hid a3
          have U4 := hU.trans (u3.trans a2)
          clear a1 a2 a3 a4 u3
          go_upto_region 11 with ((with_reducible refine wpList_store_sz rfl 35 (.tmp 9) (.tmp 61) rfl w3.heap.size 0 #[.bool false, .bool false, .bool false, .int .i64 0] rfl rfl 4 (ent_sz _ _ _ _) A3.out size_ent (ent_one _ _ _ _) [.bool false, .bool false, .bool false, .int .i64 0] (ent_ls _ _ _ _) ?_))
          generalize (w3.alloc (.cells #[.bool false, .bool false, .bool false, .int .i64 0] 35)).setCells w3.heap.size 0 [.bool false, .bool false, .bool false, .int .i64 0] = w4 at U4 ⊢
          clear A3
          by_cases hq0 : q < 0
          · clear hq
            go_wp2
            go_ret
            exact ⟨rfl, U4.below (Nat.le_refl _) fun _ _ => id⟩
          · have hq1 : 4095 < q := by omega
            clear hq
            go_wp2
            go_ret
            exact ⟨rfl, U4.below (Nat.le_refl _) fun _ _ => id⟩
        · rw [hp] at hB
          have hX : ¬ M.wX 0 q = 1 := fun e => by rw [(M.wX_arg 0 q).1 e] at hB; cases hB
          have hn := M.wN_bd 0 q hB
          have hon := Lib.hid (M.wN_on 0 q)
          have hx0 := Lib.hid (M.wX_ok 0 q)
          obtain ⟨L, hL⟩ : ∃ L, L = M.wN 0 q := ⟨_, rfl⟩
          obtain ⟨X, hXe⟩ : ∃ X, X = M.wX 0 q := ⟨_, rfl⟩
          obtain ⟨G, hGe⟩ : ∃ G, G = M.wE 0 q := ⟨_, rfl⟩
          rw [← hL] at cW hn hon hx0
          rw [← hXe] at cW hX hx0
          rw [← hGe] at cW hx0
          clear hL hXe hGe hp hB
          obtain ⟨gv, gr, gt, gf⟩ := G
          go_wp2_with fail
          refine cW.out.mono ?_
          rintro e w3 ⟨v3, rfl, r3, u3⟩
          clear cW
          obtain ⟨a1, a2, a3, a4⟩ := ent_box w3 gv gr gt gf
          have A3 := Lib.hid a3
          have u4 := u3.trans a2
          have U4 := hU.trans u4
          have M4 := hM.kept u4 id id
          have T4 := hT.kept u4
          have r4 := wk_kept r3 a2 (fun _ _ => id)
          obtain ⟨g, capg, rfl, hg, hc⟩ := steps_cells r4 (by omega)
          clear a2 a3 a4 u3 u4 r3 r4 hU hM hT
          go_upto_region 11 with ((with_reducible refine wpList_store_sz rfl 35 (.tmp 9) (.tmp 61) rfl w3.heap.size 0 #[.bool gv, .bool gr, .bool gt, .int .i64 gf] rfl rfl 4 (ent_sz _ _ _ _) A3.out size_ent (ent_one _ _ _ _) [.bool gv, .bool gr, .bool gt, .int .i64 gf] (ent_ls _ _ _ _) ?_))
          generalize (w3.alloc (.cells #[.bool false, .bool false, .bool false, .int .i64 0] 35)).setCells w3.heap.size 0 [.bool gv, .bool gr, .bool gt, .int .i64 gf] = w4 at a1 U4 M4 T4 hc ⊢
          generalize w3.heap.size = C at a1 ⊢
          clear A3
          have c0 : w4.cell? ⟨g, 0, none⟩ = some (.int .i64 0) := (hc 0 (by omega)).1
          have HC := Lib.hid hc
          clear hc
          go_wp2
          go_loopw [12] (fun t wr => ∃ j : Nat, j + 1 ≤ L ∧ t = .int .i64 ((j : Int) + 1) ∧ MemAt wr A M ∧ Tab wr ∧ Upd (fun _ => False) w wr ∧ Hid (EntAt wr C gv gr gt gf) ∧ Hid (∀ j, j < L → wr.cell? ⟨g, j * 2, none⟩ = some (.int .i64 (M.wF 0 q j)) ∧ wr.cell? ⟨g, j * 2 + 1, none⟩ = some (.int .i64 (idxI q j)))) (fun t _ => L - (intOf t).toNat)
          case atStart => exact ⟨0, by omega, rfl, M4, T4, U4, Lib.hid a1, HC⟩
          case round =>
            obtain ⟨j, hj, rfl, M5, T5, U5, a5, hc5⟩ := hrel
            clear a1 HC U4 M4 T4 c0
            by_cases hjl : j + 1 < L
            · have hz := codeI_zero (hon.out j hjl)
              obtain ⟨d0, d1⟩ := hc5.out j (by omega)
              obtain ⟨d2, d3⟩ := hc5.out (j + 1) hjl
              have hF1 : M.wF 0 q (j + 1) = (M.getE (M.wF 0 q j) (idxI q j)).f := rfl
              rw [hF1] at d2
              have cG := Lib.hid (fun W (h : MemAt W A M) T => wget_any A M (M.wF 0 q j) (idxI q j) W h T h4.out.good)
              rw [hz.1] at cG
              have ht : (M.getE (M.wF 0 q j) (idxI q j)).t = true := by rw [hz.2.2]; exact decide_eq_true (by omega)
              clear hF1 d3 hz
              generalize M.getE (M.wF 0 q j) (idxI q j) = G at cG ht d2
              generalize M.wF 0 q j = x at cG d0
              generalize idxI q j = y at cG d1
              obtain ⟨ev, er, et, ef⟩ := G
              obtain rfl : et = true := ht
              have hw1 : IntKind.i64.wrap ((j : Int) + 1 - 1) = (j : Int) := by rw [IntWalk.i64_in _ (by omega)]; omega
              have hw2 : IntKind.i64.wrap (j : Int) = (j : Int) := IntWalk.i64_in _ (by omega)
              have hjL : (j : Int) < (L : Int) := by omega
              have hjLn : j < L := by omega
              have hj0 : (0 : Int) ≤ (j : Int) := by omega
              have hj1 : (j : Int) + 1 < (L : Int) := by omega
              go_upto_region 18 with fail
              have hS := Lib.hid (show ∀ (W' : World), Upd (fun _ => False) wr W' → W'.cell? ⟨g, j * 2, none⟩ = some (.int .i64 x) ∧ W'.cell? ⟨g, j * 2 + 1, none⟩ = some (.int .i64 y) ∧ Upd (fun _ => False) wr W' from fun W' u => ⟨u.cell d0 id, u.cell d1 id, u⟩)
              go_cut [13, 14] (fun s13 s14 wx => ∃ D : Nat, s13 = .pointer (some ⟨D, 0, none⟩) ∧ s14 = .int .i64 0 ∧ Hid (EntAt wx D ev er true ef) ∧ Upd (fun _ => False) wr wx)
              case first =>
                go_region_held3 (fun w' => w'.cell? ⟨g, j * 2, none⟩ = some (.int .i64 x) ∧ w'.cell? ⟨g, j * 2 + 1, none⟩ = some (.int .i64 y) ∧ Upd (fun _ => False) wr w')
                  (first
                    | assumption
                    | exact hS.out _ (Upd.refl _ _).drew
                    | exact hS.out _ ((Upd.refl _ _).drew.alloc _)
                    | exact hS.out _ u7
                    | exact hS.out _ (u7.alloc _)
                    | exact hS.out _ ((((u7.setCell (.inr (Nat.le_refl _)) _).setCell (.inr (Nat.le_refl _)) _).setCell (.inr (Nat.le_refl _)) _).setCell (.inr (Nat.le_refl _)) _)
                    | exact hS.out _ (((((u7.alloc _).setCell (.inr u7.size) _).setCell (.inr u7.size) _).setCell (.inr u7.size) _).setCell (.inr u7.size) _))
                  (first
                    | (go_at_call 15; go_split_ands; rename_i s1 s2 s3; refine (cG.out (wr.alloc (.cells #[.bool false, .bool false, .bool false, .int .i64 0] 35)).drew (M5.kept s3 id id) (T5.kept s3)).mono ?_; rintro e w6 ⟨rfl, u6⟩; have u7 := s3.trans u6; have e7 : Hid (EntAt w6 wr.heap.size false false false 0) := Lib.hid (u6.at (heap_alloc_last wr _) id); obtain ⟨e0, e1, e2, e3, z0, z1, z2, z3⟩ := e7.out.eight)
                    | (go_at_call 15; go_split_ands; rename_i s1 s2 s3; refine (cG.out _ (M5.kept s3 id id) (T5.kept s3)).mono ?_; rintro e w6 ⟨rfl, u6⟩; have u7 := s3.trans u6))
                all_goals (go_wp2_with fail)
                all_goals go_meet
                all_goals
                  first
                    | exact ⟨wr.heap.size, rfl, rfl, Lib.hid (e7.out.set ev er true ef), (((u7.setCell (.inr (Nat.le_refl _)) _).setCell (.inr (Nat.le_refl _)) _).setCell (.inr (Nat.le_refl _)) _).setCell (.inr (Nat.le_refl _)) _⟩
                    | exact ⟨w6.heap.size, rfl, rfl, Lib.hid (heap_alloc_last w6 _), u7.alloc _⟩
              case rest =>
                obtain ⟨D, rfl, rfl, hD, u8⟩ := hcut
                have b2 := hD.out.range 2 _ rfl
                have b3 := hD.out.range 3 _ rfl
                have d2' := u8.cell d2 id
                have ht1 : ((j : Int) + 1).toNat = j + 1 := by omega
                have hj2 : (0 : Int) ≤ (j : Int) + 1 := by omega
                have M8 := M5.kept u8 id id
                have T8 := T5.kept u8
                have U8 := U5.trans u8
                have a8 := Lib.hid (a5.out.kept u8 id)
                have hc8 : Hid (∀ j, j < L → wc.cell? ⟨g, j * 2, none⟩ = some (.int .i64 (M.wF 0 q j)) ∧ wc.cell? ⟨g, j * 2 + 1, none⟩ = some (.int .i64 (idxI q j))) := Lib.hid (fun j hj => ⟨u8.cell (hc5.out j hj).1 id, u8.cell (hc5.out j hj).2 id⟩)
                clear d0 d1 d2 M5 T5 U5 a5 hc5 u8 hD hS cG
                go_wp2_with fail
                go_quiet (fail)
                go_wp2
                exact ⟨⟨j + 1, by omega, by go_num, M8.kept ((Upd.refl (fun _ => False) _).drewN _) id id, T8.drew _, U8.drewN _, Lib.hid (show EntAt _ _ _ _ _ _ from a8.out), Lib.hid (show ∀ j, _ from hc8.out)⟩, by simp [intOf]; omega⟩
            · obtain rfl : L = j + 1 := by omega
              by_cases hX0 : X = 0
              · obtain ⟨hL, hG, hz⟩ := hx0.out hX0
                have hz' := codeI_zero hz
                have hG' : (⟨gv, gr, gt, gf⟩ : En) = M.getE (M.wF 0 q 2) (idxI q ((2 : Nat) : Int)) := hG
                rw [← hG'] at hz'
                obtain ⟨_, rfl, rfl⟩ : True ∧ gv = true ∧ gt = false := ⟨trivial, hz'.2.1, hz'.2.2⟩
                obtain rfl : j = 2 := by omega
                have b0 := a5.out.range 0 _ rfl
                have b2 := a5.out.range 2 _ rfl
                clear hG hz hz' hG' hx0 hon hc5 hL
                subst hX0
                go_wp2
                go_ret
                exact ⟨rfl, U5.below (Nat.le_refl _) fun _ _ => id⟩
              · clear hx0 hon hc5
                go_wp2
                go_ret
                exact ⟨rfl, U5.below (Nat.le_refl _) fun _ _ => id⟩
  · go_wp2
    go_ret
    exact ⟨rfl, U2.below (Nat.le_refl _) fun _ _ => id⟩
/-! ### the row's frame, and its tied card -/
theorem own : ownKnob Tryd.prog.godebug = none := by kernel_rfl
theorem laidOut : laidOutB Tryd.prog = true := by kernel_rfl
/-- the door's own heap meets the condition -/
theorem door_met (os : Os) (args : Array Value) : laidMetH Tryd.prog Rows.walkStepsRow.laid ((World.doorLaid Tryd.prog 400 os).forCall (fun _ _ => 0) ⟨#[], args, []⟩).memory :=
  laidMetH_of_parts3 (fuel := 8) (laidMet_of_run' 8 (by kernel_rfl) (by kernel_rfl)) (by kernel_rfl) (by kernel_rfl)
set_option linter.unusedVariables false in
set_option maxRecDepth 100000 in
theorem lifted (os : Os) (started : os.Started) (H : Type) (enc : TypeId × Value → H) :
    ReturnsInHanded {} Tryd.checked os 6 .any (fun w args => (Rows.walkStepsSpec.pre enc Tryd.prog Tryd.f6 [] false w args ∧ laidMetH Tryd.prog Rows.walkStepsRow.laid w) ∧ sizedMet enc Tryd.prog Tryd.f6 (OpenSpec.ofChange Rows.walkStepsSpec) false w args)
      (Rows.walkStepsSpec.post enc Tryd.prog Tryd.f6 false true false false) := by
  refine returnsInHanded_of_change_and (C := Tryd.checked) (X := fun w _ => laidMetH Tryd.prog Rows.walkStepsRow.laid w) (fun _ _ _ hh h => h.of_heap hh) own started (by kernel_rfl) Tryd.func6
    (ChangeSpec.witness_shaped (enc := enc) (C := Tryd.checked) (os := os) (X := fun w _ => laidMetH Tryd.prog Rows.walkStepsRow.laid w) false (World.doorLaid Tryd.prog 400 os) #[.slice none 0 0, .int .i64 0] 8 rfl (World.shaped_of_RefB (by kernel_rfl) (by kernel_rfl)) (by kernel_rfl) (by kernel_rfl) (by kernel_rfl) (door_met os _)) ?_
  intro W base args ds gs before hval0 hW _ _ hL _
  have hLd := hL
  rw [MakeChecks.laidMetH_plain _ _ _ (by kernel_rfl)] at hLd
  have T0 : Fr.VarIs W 0 (Fr.datCells (Rows.laid_trunnion_entry_fields (H := Unit))) := Fr.varIs_of_laid (t := 87) (ks := [some .i64, some .i64, some .i64, some .i64, some .i64, some .i64, some .i64, some .i64, some .i64, some .i64, some .i64, some .i64, some .i64, some .i64, some .i64, some .i64, some .i64, some .i64]) 12 (hLd : laidMet Tryd.prog Rows.walkStepsRow.laid W) "trunnion/entry.fields" (Rows.laid_trunnion_entry_fields (H := Unit)) (by simp [Rows.walkStepsRow]) (by kernel_rfl) (by kernel_rfl) (by kernel_rfl)
  clear hL hLd
  have hval : ∀ (j : Nat) t v, Tryd.f6.params[j]? = some t → args[j]? = some v → Value.okWide Tryd.prog W .any base t v := hval0
  have hW' := hW
  obtain ⟨p, q, hA0, hV, rfl, hfz, hnd⟩ := hW
  have hA : DataW.TrodAll enc Tryd.prog W 0 (fun _ => true) true Tryd.f6.params.toList args.toList ds p := hA0
  rw [Tryd.params6] at hA hval
  obtain ⟨v0, vs0, d0, ds0, p0, q0, hargs, rfl, rfl, h0, r0⟩ := trodAll_cons hA
  obtain ⟨v1, vs1, d1, ds1, p1, q1, rfl, rfl, rfl, h1, r1⟩ := trodAll_cons r0
  obtain ⟨rfl, rfl, rfl⟩ := trodAll_nil r1
  obtain rfl : args = #[v0, v1] := by cases args; simp_all
  obtain ⟨rfl, rfl⟩ := trodVars_none hV
  have k0 := h0
  have lt0 : ∀ x ∈ p0, x.block < W.heap.size := by obtain ⟨m, hm⟩ := k0; exact DataW.trod_lt m _ _ _ hm
  obtain ⟨ao0, n0, cap0, b0, of0, E0, rfl, w0⟩ := Fr.open_rows 12 [some .i64, some .i64, none, none, none, some .i64, none, some .u64] Tryd.underlying22 (by kernel_rfl) (by kernel_rfl) (by decide) (hval 0 22 v0 rfl rfl) h0
  have k1 := h1
  have lt1 : ∀ x ∈ p1, x.block < W.heap.size := by obtain ⟨m, hm⟩ := k1; exact DataW.trod_lt m _ _ _ hm
  obtain ⟨a1, rfl, rfl, rfl, w1⟩ := open_int Tryd.underlying3 (hval 1 3 v1 rfl rfl) h1
  clear hA0 hval0
  refine (walk ao0 n0 cap0 b0 of0 E0 a1 w1 W w0 T0).mono fun e W' ⟨he, bel⟩ => ?_
  subst he
  exact ⟨_, rfl, _, _, _, [], _, [], hW', trodAll_mk1 (shut_bool Tryd.underlying4 _), (trodAll_cons_mk (Below.trod laidOut (by kernel_rfl) (of_decide_eq_true (by kernel_rfl)) k0 bel lt0) (trodAll_cons_mk (Below.trod laidOut (by kernel_rfl) (of_decide_eq_true (by kernel_rfl)) k1 bel lt1) trodAll_mk0)), rfl, bel.frame _, fun h => by cases h⟩

theorem over : Rows.walkStepsRow.holds Tryd.pinned (OpenSpec.ofChange Rows.walkStepsSpec) :=
  OpenClaim.holds_of_wide 6 Tryd.f6 rfl rfl rfl rfl rfl rfl rfl ⟨rfl, rfl, rfl, rfl, rfl⟩ rfl rfl rfl rfl rfl (by kernel_rfl) Tryd.func6 (by kernel_rfl)
    (of_decide_eq_true (by kernel_rfl)) (by unfold Func.isWrapper; first | (rw [if_pos (by decide +kernel)]; kernel_rfl) | (rw [if_neg (by decide +kernel)]; exact ⟨rfl, rfl⟩))
    (fun os started H enc _ => lifted os started H enc)

theorem proved : Rows.WalkStepsCardSaid :=
  Claim7.holds_tied_plain_at .later [] [.data] true (true, "348ae7ec7ba4e62cabf024fe6591a7bb6090c65894f5278e701ebaa1b8c50ca2") false
    over (fun _ h => by cases h) (by kernel_rfl) (fun _ h => by cases h) walkSteps_row_tie rfl ⟨rfl, rfl⟩ (by kernel_rfl) rfl
    (fun f fn hf hfn => by
      obtain rfl : f = 6 := Option.some.inj ((show Tryd.prog.funcNamed "trunnion/trunnionlaw07.WalkSteps" = some 6 by kernel_rfl).symm.trans hf) |>.symm
      obtain rfl : fn = Tryd.f6 := (Option.some.inj (Tryd.func6.symm.trans hfn)).symm
      exact ⟨by kernel_rfl, fun j t ht => by
        rw [Tryd.params6] at ht
        have hm : t ∈ [22, 3] := by simpa using Array.mem_of_getElem? ht
        have hall : ([22, 3].all fun u => !Tryd.prog.wantsStandIn u) = true := by kernel_rfl
        exact (show Tryd.prog.wantsStandIn t = false by simpa using List.all_eq_true.1 hall t hm)⟩)
    (by kernel_rfl)
end Go.Proofs.YtbakhipabeaojaaDoor.walkSteps
