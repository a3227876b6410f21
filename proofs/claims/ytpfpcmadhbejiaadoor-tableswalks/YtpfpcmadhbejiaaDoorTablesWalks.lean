/-
  Proved: trunnionlaw08.TablesWalks answers true for every input: whatever pages are mapped, unmapped and protected, a walk from the root finds just what Find tells, of each page that was named and of those beside it, and Pages tells pages that are found, in increasing order.
  Conditions: package entry's table of fields starts as the program's text lays it (the card ties it).
-/
import Derived.Test.YtpfpcmadhbejiaaDoorCards
import Derived.Test.YtpfpcmadhbejiaaDoorTie
import Derived.SevenTiedAt
import Derived.LaidMore
import Derived.Stop.Joined
import Derived.Deep.DeepCutAuto
import Derived.Deep.CutBlock
import Derived.Deep.RegionHeld3
import Derived.Test.YtpfpcmadhbejiaaDoorPart6
namespace Go.Proofs.YtpfpcmadhbejiaaDoor.tablesWalks
open Go.ChangeShapes Go.WideShapes Go.ChangeAt Go.RowKit Go.Shelf Go.Sort
set_option linter.unusedVariables false
set_option linter.unusedSimpArgs false

set_option maxRecDepth 100000 in
set_option maxHeartbeats 4000000 in
theorem walk (N : Int) (ao : Option Addr) (n cap b off : Nat) (E : Nat → Nat → Value) (_wN : (Lit.int .i64 N).wf = true)
    (w : World) (R : Fr.RowArg w ao n b off topKs E) (T0 : Fr.VarIs w 0 (Fr.datCells (Rows.laid_trunnion_entry_fields (H := Unit)))) :
    Calls Tryd.prog 3 #[.int .i64 N, .slice ao n cap] w fun e w' => e = .returned (.bool true) ∧ Below w.heap.size w w' := by
  have T := tab_of T0
  have hmost := R.most
  clear T0 _wN
  go_enter Tryd.func3, Tryd.ntmps3
  go_wp2_with fail
  refine (tawake_any _ T).mono ?_
  rintro e w1 ⟨rfl, U1⟩
  go_wp2_with fail
  refine (tbegun_any N _ (T.kept U1)).mono ?_
  rintro e w2 (⟨hno, rfl, U2⟩ | ⟨F, S, MA, A, GB, MB, s, m, bb, hF, _, _, rfl, P2, N2, hmn, hres, hl, hE, hr, U2⟩)
  · have U := U1.trans U2
    clear hno hmost
    go_wp2
    go_ret
    exact ⟨rfl, U.below (Nat.le_refl _) fun _ _ => id⟩
  have U := U1.trans U2
  have hS1 := Lib.hid (show ∀ j, j = GB ∨ j = MB → w.heap.size ≤ j from by have := U1.size; rintro j (rfl | rfl); exact Nat.le_trans this N2.gb; exact Nat.le_trans this N2.mb)
  clear hF hmn hres hl hE hr U1 U2 N2 T
  by_cases hn : 40 < n
  · clear hmost
    go_wp2
    go_ret
    exact ⟨rfl, U.below (Nat.le_refl _) fun _ _ => id⟩
  have hn' : n ≤ 40 := by omega
  clear hn hmost
  have hnn : ¬ (40 : Int) < n := by omega
  go_wp2_with fail
  go_loopw [9] (fun t wr => ∃ (k : Nat) (s : Sp) (m : Mem) (bb : Bud), k ≤ n ∧ t = .int .i64 k ∧ Spc wr S MA A GB MB s m bb (fun _ => False) ∧ Upd (fun _ => False) w wr) (fun t _ => n - (intOf t).toNat)
  case atStart => exact ⟨0, s, m, bb, by omega, rfl, P2, U⟩
  case round =>
    clear P2 U
    obtain ⟨k, s, m, bb, hk, rfl, P, U⟩ := hrel
    by_cases hlt : k < n
    · obtain ⟨d, q, f, wb, hop, hwq, hwf⟩ := top4 (rows_below R U) k hlt
      have hao := R.place (by omega)
      subst hao
      have c0 := hop.c0
      have c1 := hop.c1
      have Hwf := Lib.hid hwf
      clear hwf hwq
      by_cases h2 : d = 2
      · subst h2
        go_wp2_with fail
        refine (spc_unmap P q).mono ?_
        rintro e w3 ⟨f3, x3, s3, m3, b3, rfl, P3, U3, -⟩
        have U4 := Upd.since U U3 hS1.out
        clear hop c0 c1 P U U3
        go_wp2
        go_roundw
        case rel => exact ⟨k + 1, s3, m3, b3, by omega, by go_num, P3, U4⟩
        case measure => simp [intOf]; omega
      by_cases h3 : d = 3
      · subst h3
        go_upto_region 11 with fail
        clear c0 c1
        refine wp_region_tail 11 (by kernel_rfl) (by kernel_rfl) ?_
        simp only [List.take_succ_cons, List.take_zero, List.drop_succ_cons, List.drop_zero]
        intro w3 hw3
        have u3 : Upd (fun _ => False) wr w3 := by rw [hw3]; exact (Upd.refl _ _).drew
        have ho3 := hop.kept u3 id
        have P3 := P.still u3
        have U3 := U.trans u3
        clear hw3 u3 P U hop
        have c1 := ho3.c1
        have c3 := ho3.c3
        clear ho3
        repeat still_step
        refine wpStill_nil ?_
        go_wp2_with fail
        refine (spc_protect P3 q wb).mono ?_
        rintro e w4 ⟨x4, s4, m4, rfl, P4, U4, -⟩
        have U5 := Upd.since U3 U4 hS1.out
        clear c1 c3 P3 U3 U4
        go_wp2
        go_roundw
        case rel => exact ⟨k + 1, s4, m4, bb, by omega, by go_num, P4, U5⟩
        case measure => simp [intOf]; omega
      · go_upto_region 12 with fail
        clear c0 c1
        refine wp_region_tail 16 (by kernel_rfl) (by kernel_rfl) ?_
        simp only [List.take_succ_cons, List.take_zero, List.drop_succ_cons, List.drop_zero]
        intro w3 hw3
        have u3 : Upd (fun _ => False) wr w3 := by rw [hw3]; exact (Upd.refl _ _).drew
        have ho3 := hop.kept u3 id
        have P3 := P.still u3
        have U3 := U.trans u3
        clear hw3 u3 P U hop
        have c1 := ho3.c1
        have c2 := ho3.c2
        have c3 := ho3.c3
        clear ho3
        repeat still_step
        refine wpStill_nil ?_
        go_wp2_with fail
        refine (spc_map P3 q f wb Hwf.out).mono ?_
        rintro e w4 ⟨x4, s4, m4, b4, rfl, P4, U4, -⟩
        have U5 := Upd.since U3 U4 hS1.out
        clear c1 c2 c3 P3 U3 U4
        go_wp2
        go_roundw
        case rel => exact ⟨k + 1, s4, m4, b4, by omega, by go_num, P4, U5⟩
        case measure => simp [intOf]; omega
    · obtain rfl : k = n := by omega
      clear hlt hk
      go_wp2_with fail
      go_loopw [10] (fun t wr => ∃ (j : Nat), j ≤ k ∧ t = .int .i64 j ∧ Spc wr S MA A GB MB s m bb (fun _ => False) ∧ Upd (fun _ => False) w wr) (fun t _ => k - (intOf t).toNat)
      case atStart => exact ⟨0, by omega, rfl, P, U⟩
      case round =>
        clear P U
        obtain ⟨j, hj, rfl, P, U⟩ := hrel
        by_cases hlt : j < k
        · obtain ⟨d, q, f, wb, hop, hwq, hwf⟩ := top4 (rows_below R U) j hlt
          have hao := R.place (by omega)
          subst hao
          clear hwf hwq
          go_wp2_with fail
          go_loopw [11] (fun t wr => ∃ (c : Nat), c ≤ 3 ∧ t = .int .i64 ((c : Int) - 1) ∧ Spc wr S MA A GB MB s m bb (fun _ => False) ∧ Upd (fun _ => False) w wr) (fun t _ => (2 - intOf t).toNat)
          case atStart => exact ⟨0, by omega, rfl, P, U⟩
          case round =>
            clear P U hop
            obtain ⟨c, hc, rfl, P, U⟩ := hrel
            by_cases hlc : c < 3
            · obtain ⟨d, q, f, wb, hop, -, -⟩ := top4 (rows_below R U) j hlt
              have c1 := hop.c1
              have hd2 : (c : Int) - 1 < 2 := by omega
              obtain ⟨Q, hQ⟩ : ∃ Q, IntKind.i64.wrap (q + ((c : Int) - 1)) = Q := ⟨_, rfl⟩
              go_wp2_with fail
              refine (spc_find P Q).mono ?_
              rintro e w3 ⟨rfl, U3⟩
              have cW := Lib.hid (fun (W : World) (P : Spc W S MA A GB MB s m bb (fun _ => False)) => spc_walk P Q)
              generalize s.findX Q = X at cW ⊢
              generalize s.findE Q = G at cW ⊢
              obtain ⟨gv, gr, gt, gf⟩ := G
              have P3 := P.still U3
              have U4 := U.trans U3
              have ho3 := hop.kept U3 id
              clear P U U3 hop c1
              have a4 := heap_alloc_last w3 (.cells #[.bool gv, .bool gr, .bool gt, .int .i64 gf] 37)
              have u4 := (Upd.refl (fun _ => False) w3).alloc (.cells #[.bool gv, .bool gr, .bool gt, .int .i64 gf] 37)
              go_upto_region 20 with fail
              have P4 := P3.still u4
              have U5 := U4.trans u4
              have ho4 := ho3.kept u4 id
              generalize w3.alloc (.cells #[.bool gv, .bool gr, .bool gt, .int .i64 gf] 37) = w4 at a4 u4 P4 U5 ho4 ⊢
              generalize w3.heap.size = D1 at a4 ⊢
              clear P3 U4 u4 ho3
              have A4 := Lib.hid a4
              have c1 := ho4.c1
              clear ho4 a4
              have hS := Lib.hid (show ∀ W', Upd (fun _ => False) w4 W' → W'.cell? ⟨b, off + j * 4 + 1, none⟩ = some (.int .i64 q) ∧ Upd (fun _ => False) w4 W' from fun W' u => ⟨u.cell c1 id, u⟩)
              go_cut [14, 15, 16] from 107 to 145 (fun s14 s15 s16 wx => ∃ (D : Nat) (o : Option Addr) (nn cp : Nat), s14 = .pointer (some ⟨D, 0, none⟩) ∧ s15 = .slice o nn cp ∧ s16 = .int .i64 X ∧ Hid (EntAt wx D gv gr gt gf) ∧ Upd (fun _ => False) w4 wx)
              case first =>
                go_region_held3 (fun w' => w'.cell? ⟨b, off + j * 4 + 1, none⟩ = some (.int .i64 q) ∧ Upd (fun _ => False) w4 w')
                  (first
                    | assumption
                    | exact hS.out _ (Upd.refl _ _).drew
                    | exact hS.out _ ((Upd.refl _ _).drew.alloc _)
                    | exact hS.out _ u7
                    | exact hS.out _ (u7.alloc _)
                    | exact hS.out _ ((((u7.setCell (.inr (Nat.le_refl _)) _).setCell (.inr (Nat.le_refl _)) _).setCell (.inr (Nat.le_refl _)) _).setCell (.inr (Nat.le_refl _)) _)
                    | exact hS.out _ (((((u7.alloc _).setCell (.inr u7.size) _).setCell (.inr u7.size) _).setCell (.inr u7.size) _).setCell (.inr u7.size) _))
                  (first
                    | (go_at_call 14; go_split_ands; rename_i s1 s2; refine (spc_root (P4.still s2)).mono ?_; rintro e w6 ⟨rfl, rfl⟩)
                    | (go_at_call 13; go_split_ands; rename_i s1 s2; refine (cW.out (w4.alloc (.cells #[.bool false, .bool false, .bool false, .int .i64 0] 37)).drew (P4.still s2)).mono ?_; rintro e w6 ⟨o, nn, cp, rfl, u6⟩; have u7 := s2.trans u6; have e7 : Hid (EntAt w6 w4.heap.size false false false 0) := Lib.hid (u6.at (heap_alloc_last w4 _) id); obtain ⟨e0, e1, e2, e3, z0, z1, z2, z3⟩ := e7.out.eight)
                    | (go_at_call 13; go_split_ands; rename_i s1 s2; refine (cW.out _ (P4.still s2)).mono ?_; rintro e w6 ⟨o, nn, cp, rfl, u6⟩; have u7 := s2.trans u6))
                all_goals (go_wp2_with fail)
                all_goals go_meet
                all_goals
                  first
                    | exact ⟨w4.heap.size, o, nn, cp, rfl, rfl, rfl, Lib.hid (e7.out.set gv gr gt gf), (((u7.setCell (.inr (Nat.le_refl _)) _).setCell (.inr (Nat.le_refl _)) _).setCell (.inr (Nat.le_refl _)) _).setCell (.inr (Nat.le_refl _)) _⟩
                    | exact ⟨w6.heap.size, o, nn, cp, rfl, rfl, rfl, Lib.hid (heap_alloc_last w6 _), u7.alloc _⟩
              case rest =>
                obtain ⟨D2, o, nn, cp, rfl, rfl, rfl, hD2, u5⟩ := hcut
                have KA := Lib.hid (show EntAt _ D1 gv gr gt gf from u5.at A4.out id)
                have P5 := P4.still u5
                have U6 := U5.trans u5
                have he := run_eqE gv gr gt gf gv gr gt gf true (by simp)
                clear hS P4 U5 u5 A4 c1 cW
                go_wp2_with (first
                  | (with_reducible refine wpList_load_sz rfl 37 (.tmp 12) rfl D1 0 rfl [.bool gv, .bool gr, .bool gt, .int .i64 gf] _ KA.out.range Tryd.underlying37 rfl 4 (ent_len _ _ _ _) size_ent ?_)
                  | (with_reducible refine wpList_load_sz rfl 37 (.tmp 14) rfl D2 0 rfl [.bool gv, .bool gr, .bool gt, .int .i64 gf] _ hD2.out.range Tryd.underlying37 rfl 4 (ent_len _ _ _ _) size_ent ?_))
                go_roundw
                case rel => exact ⟨c + 1, by omega, by go_num, P5, U6⟩
                case measure => simp [intOf]; omega
            · have hd2 : ¬ (c : Int) - 1 < 2 := by omega
              go_wp2
              go_roundw
              case rel => exact ⟨j + 1, by omega, by go_num, P, U⟩
              case measure => simp [intOf]; omega
        · obtain rfl : j = k := by omega
          clear hlt hj
          go_wp2_with fail
          refine (spc_pages P).mono ?_
          rintro e w3 ⟨v, rfl, hrow, U3⟩
          obtain ⟨o, cp, rfl, hcells⟩ := slice1 hrow
          have P3 := P.still U3
          have U4 := U.trans U3
          have hl := s.pgs_len
          have hln := s.pgi_len
          generalize hL : s.pgi.length = L at hrow hcells hln ⊢
          have HL := Lib.hid hL
          have Hln := Lib.hid hln
          have hL4 : L ≤ 4096 := by omega
          clear P U U3 hL hcells hln hl
          go_wp2_with fail
          go_loopw [18] (fun t wr => ∃ (i : Nat), i ≤ L ∧ t = .int .i64 i ∧ Spc wr S MA A GB MB s m bb (fun _ => False) ∧ Upd (fun _ => False) w wr ∧ Upd (fun _ => False) w3 wr) (fun t _ => L - (intOf t).toNat)
          case atStart => exact ⟨0, by omega, rfl, P3, U4, Upd.refl _ _⟩
          case round =>
            clear P3 U4
            obtain ⟨i, hi, rfl, P, U, u3⟩ := hrel
            by_cases hlt : i < L
            · have hrow' := wk_kept hrow u3 (fun _ _ => id)
              obtain ⟨o', cp', e1, hcells⟩ := slice1 hrow'
              cases e1
              obtain ⟨g, rfl, hc⟩ := hcells i _ (i64s_at _ _ (by rw [HL.out]; exact hlt))
              rw [s.pgi_getD] at hc
              have hx := Lib.hid (s.find_page (i := i) (by rw [← Hln.out]; exact hlt))
              obtain ⟨pg, hpg⟩ : ∃ pg, s.pgs.getD i 0 = pg := ⟨_, rfl⟩
              rw [hpg] at hc hx
              have Hpg := Lib.hid hpg
              clear hpg
              have Hcells := Lib.hid hcells
              clear hcells hrow'
              go_wp2_with fail
              refine (spc_find P _).mono ?_
              rintro e w4 ⟨rfl, U4⟩
              rw [hx.out]
              generalize s.findE (pg : Nat) = G
              obtain ⟨gv, gr, gt, gf⟩ := G
              have P4 := P.still U4
              have U5 := U.trans U4
              have u5 := u3.trans U4
              have hc4 := U4.cell hc id
              have u6 := (Upd.refl (fun _ => False) w4).alloc (.cells #[.bool gv, .bool gr, .bool gt, .int .i64 gf] 37)
              have P6 := P4.still u6
              have U6 := U5.trans u6
              have u7 := u5.trans u6
              have hc6 := u6.cell hc4 id
              have uwr := Lib.hid (U4.trans u6)
              clear P U U4 u3 hc hx P4 U5 u5 hc4 u6
              go_upto_region 28 with fail
              generalize w4.alloc (.cells #[.bool gv, .bool gr, .bool gt, .int .i64 gf] 37) = w6 at P6 U6 u7 hc6 uwr ⊢
              generalize w4.heap.size = D1
              cases i with
              | zero =>
                go_quiet (fail)
                go_wp2
                go_roundw
                case rel => exact ⟨1, by omega, by go_num, P6.still ((Upd.refl (fun _ => False) _).drewN _), U6.drewN _, u7.drewN _⟩
                case measure => simp [intOf]; omega
              | succ i =>
                obtain ⟨g', e2, hc'⟩ := Hcells.out i _ (i64s_at _ _ (by rw [HL.out]; omega))
                cases e2
                rw [s.pgi_getD] at hc'
                have hup := s.pgs_up (i := i) (j := i + 1) (by omega) (by rw [← Hln.out]; exact hlt)
                rw [Hpg.out] at hup
                obtain ⟨pg', hpg'⟩ : ∃ pg', s.pgs.getD i 0 = pg' := ⟨_, rfl⟩
                rw [hpg'] at hc' hup
                have hc7 := uwr.out.cell hc' id
                have hw1 : IntKind.i64.wrap (((i + 1 : Nat) : Int) - 1) = i := by rw [IntWalk.i64_in _ (by omega)]; omega
                clear hpg' hc' Hcells
                go_quiet (fail)
                go_wp2
                go_roundw
                case rel => exact ⟨i + 1 + 1, by omega, by go_num, P6.still ((Upd.refl (fun _ => False) _).drewN _), U6.drewN _, u7.drewN _⟩
                case measure => simp [intOf]; omega
            · obtain rfl : i = L := by omega
              go_wp2
              go_ret
              exact ⟨rfl, U.below (Nat.le_refl _) fun _ _ => id⟩
/-! ### the row's frame, and its tied card -/
theorem own : ownKnob Tryd.prog.godebug = none := by kernel_rfl
theorem laidOut : laidOutB Tryd.prog = true := by kernel_rfl
/-- the door's own heap meets the condition -/
theorem door_met (os : Os) (args : Array Value) : laidMetH Tryd.prog Rows.tablesWalksRow.laid ((World.doorLaid Tryd.prog 400 os).forCall (fun _ _ => 0) ⟨#[], args, []⟩).memory :=
  laidMetH_of_parts3 (fuel := 8) (laidMet_of_run' 8 (by kernel_rfl) (by kernel_rfl)) (by kernel_rfl) (by kernel_rfl)
set_option linter.unusedVariables false in
set_option maxRecDepth 100000 in
theorem lifted (os : Os) (started : os.Started) (H : Type) (enc : TypeId × Value → H) :
    ReturnsInHanded {} Tryd.checked os 3 .any (fun w args => (Rows.tablesWalksSpec.pre enc Tryd.prog Tryd.f3 [] false w args ∧ laidMetH Tryd.prog Rows.tablesWalksRow.laid w) ∧ sizedMet enc Tryd.prog Tryd.f3 (OpenSpec.ofChange Rows.tablesWalksSpec) false w args)
      (Rows.tablesWalksSpec.post enc Tryd.prog Tryd.f3 false true false false) := by
  refine returnsInHanded_of_change_and (C := Tryd.checked) (X := fun w _ => laidMetH Tryd.prog Rows.tablesWalksRow.laid w) (fun _ _ _ hh h => h.of_heap hh) own started (by kernel_rfl) Tryd.func3
    (ChangeSpec.witness_shaped (enc := enc) (C := Tryd.checked) (os := os) (X := fun w _ => laidMetH Tryd.prog Rows.tablesWalksRow.laid w) false (World.doorLaid Tryd.prog 400 os) #[.int .i64 0, .slice none 0 0] 8 rfl (World.shaped_of_RefB (by kernel_rfl) (by kernel_rfl)) (by kernel_rfl) (by kernel_rfl) (by kernel_rfl) (door_met os _)) ?_
  intro W base args ds gs before hval0 hW _ _ hL _
  have hLd := hL
  rw [MakeChecks.laidMetH_plain _ _ _ (by kernel_rfl)] at hLd
  have T0 : Fr.VarIs W 0 (Fr.datCells (Rows.laid_trunnion_entry_fields (H := Unit))) := Fr.varIs_of_laid (t := 131) (ks := [some .i64, some .i64, some .i64, some .i64, some .i64, some .i64, some .i64, some .i64, some .i64, some .i64, some .i64, some .i64, some .i64, some .i64, some .i64, some .i64, some .i64, some .i64]) 12 (hLd : laidMet Tryd.prog Rows.tablesWalksRow.laid W) "trunnion/entry.fields" (Rows.laid_trunnion_entry_fields (H := Unit)) (by simp [Rows.tablesWalksRow]) (by kernel_rfl) (by kernel_rfl) (by kernel_rfl)
  clear hL hLd
  have hval : ∀ (j : Nat) t v, Tryd.f3.params[j]? = some t → args[j]? = some v → Value.okWide Tryd.prog W .any base t v := hval0
  have hW' := hW
  obtain ⟨p, q, hA0, hV, rfl, hfz, hnd⟩ := hW
  have hA : DataW.TrodAll enc Tryd.prog W 0 (fun _ => true) true Tryd.f3.params.toList args.toList ds p := hA0
  rw [Tryd.params3] at hA hval
  obtain ⟨v0, vs0, d0, ds0, p0, q0, hargs, rfl, rfl, h0, r0⟩ := trodAll_cons hA
  obtain ⟨v1, vs1, d1, ds1, p1, q1, rfl, rfl, rfl, h1, r1⟩ := trodAll_cons r0
  obtain ⟨rfl, rfl, rfl⟩ := trodAll_nil r1
  obtain rfl : args = #[v0, v1] := by cases args; simp_all
  obtain ⟨rfl, rfl⟩ := trodVars_none hV
  have k0 := h0
  have lt0 : ∀ x ∈ p0, x.block < W.heap.size := by obtain ⟨m, hm⟩ := k0; exact DataW.trod_lt m _ _ _ hm
  obtain ⟨a0, rfl, rfl, rfl, w0⟩ := open_int Tryd.underlying3 (hval 0 3 v0 rfl rfl) h0
  have k1 := h1
  have lt1 : ∀ x ∈ p1, x.block < W.heap.size := by obtain ⟨m, hm⟩ := k1; exact DataW.trod_lt m _ _ _ hm
  obtain ⟨ao1, n1, cap1, b1, of1, E1, rfl, w1⟩ := Fr.open_rows 12 [some .i64, some .i64, some .i64, none] Tryd.underlying22 (by kernel_rfl) (by kernel_rfl) (by decide) (hval 1 22 v1 rfl rfl) h1
  clear hA0 hval0
  refine (walk a0 ao1 n1 cap1 b1 of1 E1 w0 W w1 T0).mono fun e W' ⟨he, bel⟩ => ?_
  subst he
  exact ⟨_, rfl, _, _, _, [], _, [], hW', trodAll_mk1 (shut_bool Tryd.underlying4 _), (trodAll_cons_mk (Below.trod laidOut (by kernel_rfl) (of_decide_eq_true (by kernel_rfl)) k0 bel lt0) (trodAll_cons_mk (Below.trod laidOut (by kernel_rfl) (of_decide_eq_true (by kernel_rfl)) k1 bel lt1) trodAll_mk0)), rfl, bel.frame _, fun h => by cases h⟩

theorem over : Rows.tablesWalksRow.holds Tryd.pinned (OpenSpec.ofChange Rows.tablesWalksSpec) :=
  OpenClaim.holds_of_wide 3 Tryd.f3 rfl rfl rfl rfl rfl rfl rfl ⟨rfl, rfl, rfl, rfl, rfl⟩ rfl rfl rfl rfl rfl (by kernel_rfl) Tryd.func3 (by kernel_rfl)
    (of_decide_eq_true (by kernel_rfl)) (by unfold Func.isWrapper; first | (rw [if_pos (by decide +kernel)]; kernel_rfl) | (rw [if_neg (by decide +kernel)]; exact ⟨rfl, rfl⟩))
    (fun os started H enc _ => lifted os started H enc)

theorem proved : Rows.TablesWalksCardSaid :=
  Claim7.holds_tied_plain_at .later [] [.data] true (true, "8fbe12d87b591f72c90e963653a25df0b00f8d07ecf637b8a87be6f3bde5a51c") false
    over (fun _ h => by cases h) (by kernel_rfl) (fun _ h => by cases h) tablesWalks_row_tie rfl ⟨rfl, rfl⟩ (by kernel_rfl) rfl
    (fun f fn hf hfn => by
      obtain rfl : f = 3 := Option.some.inj ((show Tryd.prog.funcNamed "trunnion/trunnionlaw08.TablesWalks" = some 3 by kernel_rfl).symm.trans hf) |>.symm
      obtain rfl : fn = Tryd.f3 := (Option.some.inj (Tryd.func3.symm.trans hfn)).symm
      exact ⟨by kernel_rfl, fun j t ht => by
        rw [Tryd.params3] at ht
        have hm : t ∈ [3, 22] := by simpa using Array.mem_of_getElem? ht
        have hall : ([3, 22].all fun u => !Tryd.prog.wantsStandIn u) = true := by kernel_rfl
        exact (show Tryd.prog.wantsStandIn t = false by simpa using List.all_eq_true.1 hall t hm)⟩)
    (by kernel_rfl)
end Go.Proofs.YtpfpcmadhbejiaaDoor.tablesWalks
