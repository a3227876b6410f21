/-
  Proved: trunnionlaw08.TablesLess answers true for every input: whatever pages are mapped and unmapped, there are no more tables than are needed: the root, one for each 256 pages that have one, and one for each 16.
  Conditions: package entry's table of fields starts as the program's text lays it (the card ties it).
-/
import Derived.Test.YtpfpcmadhbejiaaDoorCards
import Derived.Test.YtpfpcmadhbejiaaDoorTie
import Derived.SevenTiedAt
import Derived.LaidMore
import Derived.Stop.Joined
import Derived.Deep.DeepCutAuto
import Derived.Deep.CutBlock
import Derived.Deep.RegionHeld3
import Derived.Test.YtpfpcmadhbejiaaDoorPart7
namespace Go.Proofs.YtpfpcmadhbejiaaDoor.tablesLess
open Go.ChangeShapes Go.WideShapes Go.ChangeAt Go.RowKit Go.Shelf Go.Sort
set_option linter.unusedVariables false
set_option linter.unusedSimpArgs false

theorem chg_yes {g : Nat → Nat} {P : List Nat} {k : Nat} (h : k = 0 ∨ g (P.getD k 0) ≠ g (P.getD (k - 1) 0)) : chg g P (k + 1) = chg g P k + 1 := by rw [chg, if_pos h]
theorem chg_no {g : Nat → Nat} {P : List Nat} {k : Nat} (h : ¬ (k = 0 ∨ g (P.getD k 0) ≠ g (P.getD (k - 1) 0))) : chg g P (k + 1) = chg g P k := by rw [chg, if_neg h]; rfl
set_option maxRecDepth 100000 in
set_option maxHeartbeats 4000000 in
theorem walk (ao : Option Addr) (n cap b off : Nat) (E : Nat → Nat → Value)
    (w : World) (R : Fr.RowArg w ao n b off topKs E) (T0 : Fr.VarIs w 0 (Fr.datCells (Rows.laid_trunnion_entry_fields (H := Unit)))) :
    Calls Tryd.prog 5 #[.slice ao n cap] w fun e w' => e = .returned (.bool true) ∧ Below w.heap.size w w' := by
  have T := tab_of T0
  have hmost := R.most
  clear T0
  go_enter Tryd.func5, Tryd.ntmps5
  go_wp2_with fail
  refine (tawake_any _ T).mono ?_
  rintro e w1 ⟨rfl, U1⟩
  go_wp2_with fail
  refine (tbegun_any 200 _ (T.kept U1)).mono ?_
  rintro e w2 (⟨hno, rfl, U2⟩ | ⟨F, S, MA, A, GB, MB, s, m, bb, hF, hF1, hF2, rfl, P2, N2, hmn, hres, hl, hE, hr, U2⟩)
  · exact absurd (by omega) hno
  have U := U1.trans U2
  have hS1 := Lib.hid (show ∀ j, j = GB ∨ j = MB → w.heap.size ≤ j from by have := U1.size; rintro j (rfl | rfl); exact Nat.le_trans this N2.gb; exact Nat.le_trans this N2.mb)
  clear hF hF1 hF2 hmn hres hl hE hr U1 U2 N2 T
  by_cases hn : 40 < n
  · clear hmost
    go_wp2
    go_ret
    exact ⟨rfl, U.below (Nat.le_refl _) fun _ _ => id⟩
  have hn' : n ≤ 40 := by omega
  clear hn hmost
  have hnn : ¬ (40 : Int) < n := by omega
  go_wp2_with fail
  go_loopw [7] (fun t wr => ∃ (k : Nat) (s : Sp) (m : Mem) (bb : Bud), k ≤ n ∧ t = .int .i64 k ∧ Spc wr S MA A GB MB s m bb (fun _ => False) ∧ Upd (fun _ => False) w wr) (fun t _ => n - (intOf t).toNat)
  case atStart => exact ⟨0, s, m, bb, by omega, rfl, P2, U⟩
  case round =>
    clear P2 U
    obtain ⟨k, s, m, bb, hk, rfl, P, U⟩ := hrel
    by_cases hlt : k < n
    · obtain ⟨d, q, f, wb, hop, -, hwf⟩ := top4 (rows_below R U) k hlt
      have hao := R.place (by omega)
      subst hao
      have Hwf := Lib.hid hwf
      clear hwf
      have c0 := hop.c0
      go_upto_if 44 with fail
      clear c0
      go_cut [] from 33 to 117 (fun wx => ∃ (s' : Sp) (m' : Mem) (b' : Bud), Spc wx S MA A GB MB s' m' b' (fun _ => False) ∧ Upd (fun _ => False) w wx)
      case first =>
        have c1 := hop.c1
        by_cases h2 : d = 2
        · subst h2
          go_wp2_with fail
          refine (spc_unmap P q).mono ?_
          rintro e w6 ⟨f6, x6, s6, m6, b6, rfl, P6, U6, -⟩
          have U7 := Upd.since U U6 hS1.out
          clear hop c1 P U6 U
          go_wp2_with fail
          go_meet
          exact ⟨s6, m6, b6, P6, U7⟩
        · go_upto_region 10 with fail
          clear c1
          refine wp_region_tail 16 (by kernel_rfl) (by kernel_rfl) ?_
          simp only [List.take_succ_cons, List.take_zero, List.drop_succ_cons, List.drop_zero]
          intro w6 hw6
          have u6 : Upd (fun _ => False) wr w6 := by rw [hw6]; exact (Upd.refl _ _).drew
          have ho6 := hop.kept u6 id
          have P6 := P.still u6
          clear hw6 P hop
          have c1 := ho6.c1
          have c2 := ho6.c2
          have c3 := ho6.c3
          clear ho6
          repeat still_step
          refine wpStill_nil ?_
          go_wp2_with fail
          refine (spc_map P6 q f wb Hwf.out).mono ?_
          rintro e w7 ⟨x7, s7, m7, b7, rfl, P7, U7, -⟩
          have U8 := Upd.since (U.trans u6) U7 hS1.out
          clear c1 c2 c3 P6 U7 U u6
          go_wp2_with fail
          go_meet
          exact ⟨s7, m7, b7, P7, U8⟩
      case rest =>
        obtain ⟨s', m', b', P6, U6⟩ := hcut
        clear P U hop
        go_wp2_with fail
        refine (spc_pages P6).mono ?_
        rintro e w7 ⟨v7, rfl, row7, u7⟩
        obtain ⟨o7, c7, rfl⟩ := wk_slice row7
        have P7 := P6.still u7
        have U7 := U6.trans u7
        have hneed := Lib.hid P6.I.needs
        have hln := s'.pgi_len
        have hl7 := s'.pgs_len
        generalize hL : s'.pgi.length = L at row7 hln ⊢
        have HL := Lib.hid hL
        rw [← hln] at hneed
        have hL4 : L ≤ 4096 := by omega
        have Hln := Lib.hid hln
        clear P6 U6 u7 hL hln hl7
        go_wp2_with fail
        go_loopw [9, 10] (fun s9 s10 wr => ∃ (i : Nat), i ≤ L ∧ s9 = .int .i64 ((1 + chg (· / 256) s'.pgs i + chg (· / 16) s'.pgs i : Nat) : Int) ∧ s10 = .int .i64 i ∧ Spc wr S MA A GB MB s' m' b' (fun _ => False) ∧ Upd (fun _ => False) w wr ∧ Upd (fun _ => False) w7 wr) (fun _ t _ => L - (intOf t).toNat)
        case atStart => exact ⟨0, by omega, rfl, rfl, P7, U7, Upd.refl _ _⟩
        case round =>
          clear P7 U7
          obtain ⟨i, hi, rfl, rfl, P, U, u7⟩ := hrel
          have hc1 := chg_le (· / 256) s'.pgs i
          have hc2 := chg_le (· / 16) s'.pgs i
          by_cases hli : i < L
          · have hrow' := wk_kept row7 u7 (fun _ _ => id)
            obtain ⟨o', cp', e1, hcells⟩ := slice1 hrow'
            cases e1
            obtain ⟨g, rfl, hc⟩ := hcells i _ (i64s_at _ _ (by rw [HL.out]; exact hli))
            rw [s'.pgi_getD] at hc
            have Hcells := Lib.hid hcells
            clear hcells hrow'
            obtain ⟨C, hC⟩ : ∃ C, 1 + chg (· / 256) s'.pgs i + chg (· / 16) s'.pgs i = C := ⟨_, rfl⟩
            have hCb : C ≤ 9000 := by omega
            rw [hC]
            have HC := Lib.hid hC
            clear hC hc1 hc2
            cases i with
            | zero =>
              have H2 : Hid (C + 1 + 1 = 1 + chg (· / 256) s'.pgs (0 + 1) + chg (· / 16) s'.pgs (0 + 1)) := Lib.hid (by
                rw [chg_yes (g := (· / 256)) (.inl rfl), chg_yes (g := (· / 16)) (.inl rfl)]
                have := HC.out
                omega)
              clear hc Hcells HC
              go_wp2
              go_quiet (fail)
              go_wp2
              go_quiet (fail)
              go_wp2
              refine ⟨⟨1, by omega, ?_, by go_num, P.still ((Upd.refl (fun _ => False) _).drewN _), U.drewN _, u7.drewN _⟩, by simp [intOf]; omega⟩
              rw [show (1 : Nat) = 0 + 1 from rfl, ← H2.out]
              go_num
            | succ i =>
              obtain ⟨g', e2, hc'⟩ := Hcells.out i _ (i64s_at _ _ (by rw [HL.out]; omega))
              cases e2
              rw [s'.pgi_getD] at hc'
              have hs1 := Lib.hid (fun (g : Nat → Nat) => chg_yes (g := g) (P := s'.pgs) (k := i + 1))
              have hs2 := Lib.hid (fun (g : Nat → Nat) => chg_no (g := g) (P := s'.pgs) (k := i + 1))
              have hpb := s'.pgs_at (i := i + 1) (by rw [← Hln.out]; exact hli)
              have hpb' := s'.pgs_at (i := i) (by rw [← Hln.out]; omega)
              rw [show i + 1 - 1 = i from rfl] at hs1 hs2
              obtain ⟨pg, hpg⟩ : ∃ pg, s'.pgs.getD (i + 1) 0 = pg := ⟨_, rfl⟩
              obtain ⟨pg', hpg'⟩ : ∃ pg', s'.pgs.getD i 0 = pg' := ⟨_, rfl⟩
              rw [hpg] at hc hs1 hs2 hpb
              rw [hpg'] at hc' hs1 hs2 hpb'
              have hw1 : IntKind.i64.wrap (((i + 1 : Nat) : Int) - 1) = i := by rw [IntWalk.i64_in _ (by omega)]; omega
              have q1 : (pg : Int).tdiv 256 = ((pg / 256 : Nat) : Int) := by rw [Int.tdiv_eq_ediv_of_nonneg (by omega)]; omega
              have q2 : (pg' : Int).tdiv 256 = ((pg' / 256 : Nat) : Int) := by rw [Int.tdiv_eq_ediv_of_nonneg (by omega)]; omega
              have q3 : (pg : Int).tdiv 16 = ((pg / 16 : Nat) : Int) := by rw [Int.tdiv_eq_ediv_of_nonneg (by omega)]; omega
              have q4 : (pg' : Int).tdiv 16 = ((pg' / 16 : Nat) : Int) := by rw [Int.tdiv_eq_ediv_of_nonneg (by omega)]; omega
              have hb1 : pg / 256 ≤ 16 ∧ pg' / 256 ≤ 16 ∧ pg / 16 ≤ 256 ∧ pg' / 16 ≤ 256 := by omega
              have r1 : IntKind.i64.wrap ((pg / 256 : Nat) : Int) = ((pg / 256 : Nat) : Int) := IntWalk.i64_in _ (by omega)
              have r2 : IntKind.i64.wrap ((pg' / 256 : Nat) : Int) = ((pg' / 256 : Nat) : Int) := IntWalk.i64_in _ (by omega)
              have r3 : IntKind.i64.wrap ((pg / 16 : Nat) : Int) = ((pg / 16 : Nat) : Int) := IntWalk.i64_in _ (by omega)
              have r4 : IntKind.i64.wrap ((pg' / 16 : Nat) : Int) = ((pg' / 16 : Nat) : Int) := IntWalk.i64_in _ (by omega)
              have Hs1 := Lib.hid (hs1.out (· / 256))
              have Hs2 := Lib.hid (hs2.out (· / 256))
              have Hs3 := Lib.hid (hs1.out (· / 16))
              have Hs4 := Lib.hid (hs2.out (· / 16))
              (try dsimp only at Hs1 Hs2 Hs3 Hs4)
              clear hs1 hs2 hpg hpg' Hcells hpb hpb'
              generalize pg / 256 = a at q1 r1 Hs1 Hs2 hb1
              generalize pg' / 256 = a' at q2 r2 Hs1 Hs2 hb1
              generalize pg / 16 = c at q3 r3 Hs3 Hs4 hb1
              generalize pg' / 16 = c' at q4 r4 Hs3 Hs4 hb1
              clear hb1
              have ib1 : (i : Int) + 1 < L := by omega
              have ib2 : (0 : Int) ≤ (i : Int) + 1 := by omega
              have ib3 : (i : Int) < L := by omega
              have ib4 : (0 : Int) ≤ (i : Int) := by omega
              have ib5 : ((i : Int) + 1).toNat = i + 1 := by omega
              have hw2 : IntKind.i64.wrap (i : Int) = i := IntWalk.i64_in _ (by omega)
              by_cases hA : a = a'
              · by_cases hB : c = c'
                · skip
                  subst hA
                  subst hB
                  have K : Hid (C = 1 + chg (· / 256) s'.pgs (i + 1 + 1) + chg (· / 16) s'.pgs (i + 1 + 1)) := Lib.hid (by rw [Hs2.out (by omega), Hs4.out (by omega)]; have := HC.out; omega)
                  clear Hs1 Hs2 Hs3 Hs4 HC
                  go_wp2
                  go_quiet (fail)
                  have PW := P.still ((Upd.refl (fun _ => False) wr).drewN nq)
                  have UW := U.drewN nq
                  have uW := u7.drewN nq
                  have hcW : (wr.drewN nq).cell? ⟨g, i + 1, none⟩ = some (.int .i64 (pg : Nat)) := hc
                  have hcW' : (wr.drewN nq).cell? ⟨g, i, none⟩ = some (.int .i64 (pg' : Nat)) := hc'
                  generalize wr.drewN nq = W at PW UW uW hcW hcW' ⊢
                  clear P U u7 hc hc'
                  go_wp2
                  go_quiet (fail)
                  go_wp2
                  refine ⟨⟨i + 1 + 1, by omega, ?_, by go_num, PW.still ((Upd.refl (fun _ => False) _).drewN _), UW.drewN _, uW.drewN _⟩, by simp [intOf]; omega⟩
                  rw [← K.out]
                · skip
                  subst hA
                  have nB1 : ((c : Int) == (c' : Int)) = false := by simp; omega
                  have nB2 : (c == c') = false := by simp; omega
                  have nB3 : decide ((c : Int) = (c' : Int)) = false := by simp; omega
                  have nB4 : ((c : Int) != (c' : Int)) = true := by simp; omega
                  have nB5 : (c != c') = true := by simp; omega
                  have nB6 : ¬ ((c : Int) = (c' : Int)) := by omega
                  have K : Hid (C + 1 = 1 + chg (· / 256) s'.pgs (i + 1 + 1) + chg (· / 16) s'.pgs (i + 1 + 1)) := Lib.hid (by rw [Hs2.out (by omega), Hs3.out (.inr hB)]; have := HC.out; omega)
                  clear Hs1 Hs2 Hs3 Hs4 HC
                  go_wp2
                  go_quiet (fail)
                  have PW := P.still ((Upd.refl (fun _ => False) wr).drewN nq)
                  have UW := U.drewN nq
                  have uW := u7.drewN nq
                  have hcW : (wr.drewN nq).cell? ⟨g, i + 1, none⟩ = some (.int .i64 (pg : Nat)) := hc
                  have hcW' : (wr.drewN nq).cell? ⟨g, i, none⟩ = some (.int .i64 (pg' : Nat)) := hc'
                  generalize wr.drewN nq = W at PW UW uW hcW hcW' ⊢
                  clear P U u7 hc hc'
                  go_wp2
                  go_quiet (fail)
                  go_wp2
                  refine ⟨⟨i + 1 + 1, by omega, ?_, by go_num, PW.still ((Upd.refl (fun _ => False) _).drewN _), UW.drewN _, uW.drewN _⟩, by simp [intOf]; omega⟩
                  rw [← K.out]
                  go_num
              · by_cases hB : c = c'
                · skip
                  have nA1 : ((a : Int) == (a' : Int)) = false := by simp; omega
                  have nA2 : (a == a') = false := by simp; omega
                  have nA3 : decide ((a : Int) = (a' : Int)) = false := by simp; omega
                  have nA4 : ((a : Int) != (a' : Int)) = true := by simp; omega
                  have nA5 : (a != a') = true := by simp; omega
                  have nA6 : ¬ ((a : Int) = (a' : Int)) := by omega
                  subst hB
                  have K : Hid (C + 1 = 1 + chg (· / 256) s'.pgs (i + 1 + 1) + chg (· / 16) s'.pgs (i + 1 + 1)) := Lib.hid (by rw [Hs1.out (.inr hA), Hs4.out (by omega)]; have := HC.out; omega)
                  clear Hs1 Hs2 Hs3 Hs4 HC
                  go_wp2
                  go_quiet (fail)
                  have PW := P.still ((Upd.refl (fun _ => False) wr).drewN nq)
                  have UW := U.drewN nq
                  have uW := u7.drewN nq
                  have hcW : (wr.drewN nq).cell? ⟨g, i + 1, none⟩ = some (.int .i64 (pg : Nat)) := hc
                  have hcW' : (wr.drewN nq).cell? ⟨g, i, none⟩ = some (.int .i64 (pg' : Nat)) := hc'
                  generalize wr.drewN nq = W at PW UW uW hcW hcW' ⊢
                  clear P U u7 hc hc'
                  go_wp2
                  go_quiet (fail)
                  go_wp2
                  refine ⟨⟨i + 1 + 1, by omega, ?_, by go_num, PW.still ((Upd.refl (fun _ => False) _).drewN _), UW.drewN _, uW.drewN _⟩, by simp [intOf]; omega⟩
                  rw [← K.out]
                  go_num
                · skip
                  have nA1 : ((a : Int) == (a' : Int)) = false := by simp; omega
                  have nA2 : (a == a') = false := by simp; omega
                  have nA3 : decide ((a : Int) = (a' : Int)) = false := by simp; omega
                  have nA4 : ((a : Int) != (a' : Int)) = true := by simp; omega
                  have nA5 : (a != a') = true := by simp; omega
                  have nA6 : ¬ ((a : Int) = (a' : Int)) := by omega
                  have nB1 : ((c : Int) == (c' : Int)) = false := by simp; omega
                  have nB2 : (c == c') = false := by simp; omega
                  have nB3 : decide ((c : Int) = (c' : Int)) = false := by simp; omega
                  have nB4 : ((c : Int) != (c' : Int)) = true := by simp; omega
                  have nB5 : (c != c') = true := by simp; omega
                  have nB6 : ¬ ((c : Int) = (c' : Int)) := by omega
                  have K : Hid (C + 1 + 1 = 1 + chg (· / 256) s'.pgs (i + 1 + 1) + chg (· / 16) s'.pgs (i + 1 + 1)) := Lib.hid (by rw [Hs1.out (.inr hA), Hs3.out (.inr hB)]; have := HC.out; omega)
                  clear Hs1 Hs2 Hs3 Hs4 HC
                  go_wp2
                  go_quiet (fail)
                  have PW := P.still ((Upd.refl (fun _ => False) wr).drewN nq)
                  have UW := U.drewN nq
                  have uW := u7.drewN nq
                  have hcW : (wr.drewN nq).cell? ⟨g, i + 1, none⟩ = some (.int .i64 (pg : Nat)) := hc
                  have hcW' : (wr.drewN nq).cell? ⟨g, i, none⟩ = some (.int .i64 (pg' : Nat)) := hc'
                  generalize wr.drewN nq = W at PW UW uW hcW hcW' ⊢
                  clear P U u7 hc hc'
                  go_wp2
                  go_quiet (fail)
                  go_wp2
                  refine ⟨⟨i + 1 + 1, by omega, ?_, by go_num, PW.still ((Upd.refl (fun _ => False) _).drewN _), UW.drewN _, uW.drewN _⟩, by simp [intOf]; omega⟩
                  rw [← K.out]
                  go_num
          · obtain rfl : i = L := by omega
            go_wp2_with fail
            refine (spc_tables P).mono ?_
            rintro e w8 ⟨v8, rfl, row8, u8⟩
            obtain ⟨o8, c8, rfl⟩ := wk_slice row8
            rw [s'.tbs_len, hneed.out]
            have P8 := P.still u8
            have U8 := U.trans u8
            clear row8 P U u8 u7 hc1 hc2
            generalize 1 + chg (· / 256) s'.pgs i + chg (· / 16) s'.pgs i = C
            go_wp2
            exact ⟨⟨k + 1, s', m', b', by omega, by go_num, P8, U8⟩, by simp [intOf]; omega⟩
    · obtain rfl : k = n := by omega
      go_wp2
      go_ret
      exact ⟨rfl, U.below (Nat.le_refl _) fun _ _ => id⟩
/-! ### the row's frame, and its tied card -/
theorem own : ownKnob Tryd.prog.godebug = none := by kernel_rfl
theorem laidOut : laidOutB Tryd.prog = true := by kernel_rfl
/-- the door's own heap meets the condition -/
theorem door_met (os : Os) (args : Array Value) : laidMetH Tryd.prog Rows.tablesLessRow.laid ((World.doorLaid Tryd.prog 400 os).forCall (fun _ _ => 0) ⟨#[], args, []⟩).memory :=
  laidMetH_of_parts3 (fuel := 8) (laidMet_of_run' 8 (by kernel_rfl) (by kernel_rfl)) (by kernel_rfl) (by kernel_rfl)
set_option linter.unusedVariables false in
set_option maxRecDepth 100000 in
theorem lifted (os : Os) (started : os.Started) (H : Type) (enc : TypeId × Value → H) :
    ReturnsInHanded {} Tryd.checked os 5 .any (fun w args => (Rows.tablesLessSpec.pre enc Tryd.prog Tryd.f5 [] false w args ∧ laidMetH Tryd.prog Rows.tablesLessRow.laid w) ∧ sizedMet enc Tryd.prog Tryd.f5 (OpenSpec.ofChange Rows.tablesLessSpec) false w args)
      (Rows.tablesLessSpec.post enc Tryd.prog Tryd.f5 false true false false) := by
  refine returnsInHanded_of_change_and (C := Tryd.checked) (X := fun w _ => laidMetH Tryd.prog Rows.tablesLessRow.laid w) (fun _ _ _ hh h => h.of_heap hh) own started (by kernel_rfl) Tryd.func5
    (ChangeSpec.witness_shaped (enc := enc) (C := Tryd.checked) (os := os) (X := fun w _ => laidMetH Tryd.prog Rows.tablesLessRow.laid w) false (World.doorLaid Tryd.prog 400 os) #[.slice none 0 0] 8 rfl (World.shaped_of_RefB (by kernel_rfl) (by kernel_rfl)) (by kernel_rfl) (by kernel_rfl) (by kernel_rfl) (door_met os _)) ?_
  intro W base args ds gs before hval0 hW _ _ hL _
  have hLd := hL
  rw [MakeChecks.laidMetH_plain _ _ _ (by kernel_rfl)] at hLd
  have T0 : Fr.VarIs W 0 (Fr.datCells (Rows.laid_trunnion_entry_fields (H := Unit))) := Fr.varIs_of_laid (t := 131) (ks := [some .i64, some .i64, some .i64, some .i64, some .i64, some .i64, some .i64, some .i64, some .i64, some .i64, some .i64, some .i64, some .i64, some .i64, some .i64, some .i64, some .i64, some .i64]) 12 (hLd : laidMet Tryd.prog Rows.tablesLessRow.laid W) "trunnion/entry.fields" (Rows.laid_trunnion_entry_fields (H := Unit)) (by simp [Rows.tablesLessRow]) (by kernel_rfl) (by kernel_rfl) (by kernel_rfl)
  clear hL hLd
  have hval : ∀ (j : Nat) t v, Tryd.f5.params[j]? = some t → args[j]? = some v → Value.okWide Tryd.prog W .any base t v := hval0
  have hW' := hW
  obtain ⟨p, q, hA0, hV, rfl, hfz, hnd⟩ := hW
  have hA : DataW.TrodAll enc Tryd.prog W 0 (fun _ => true) true Tryd.f5.params.toList args.toList ds p := hA0
  rw [Tryd.params5] at hA hval
  obtain ⟨v0, vs0, d0, ds0, p0, q0, hargs, rfl, rfl, h0, r0⟩ := trodAll_cons hA
  obtain ⟨rfl, rfl, rfl⟩ := trodAll_nil r0
  obtain rfl : args = #[v0] := by cases args; simp_all
  obtain ⟨rfl, rfl⟩ := trodVars_none hV
  have k0 := h0
  have lt0 : ∀ x ∈ p0, x.block < W.heap.size := by obtain ⟨m, hm⟩ := k0; exact DataW.trod_lt m _ _ _ hm
  obtain ⟨ao0, n0, cap0, b0, of0, E0, rfl, w0⟩ := Fr.open_rows 12 [some .i64, some .i64, some .i64, none] Tryd.underlying22 (by kernel_rfl) (by kernel_rfl) (by decide) (hval 0 22 v0 rfl rfl) h0
  clear hA0 hval0
  refine (walk ao0 n0 cap0 b0 of0 E0  W w0 T0).mono fun e W' ⟨he, bel⟩ => ?_
  subst he
  exact ⟨_, rfl, _, _, _, [], _, [], hW', trodAll_mk1 (shut_bool Tryd.underlying4 _), (trodAll_cons_mk (Below.trod laidOut (by kernel_rfl) (of_decide_eq_true (by kernel_rfl)) k0 bel lt0) trodAll_mk0), rfl, bel.frame _, fun h => by cases h⟩

theorem over : Rows.tablesLessRow.holds Tryd.pinned (OpenSpec.ofChange Rows.tablesLessSpec) :=
  OpenClaim.holds_of_wide 5 Tryd.f5 rfl rfl rfl rfl rfl rfl rfl ⟨rfl, rfl, rfl, rfl, rfl⟩ rfl rfl rfl rfl rfl (by kernel_rfl) Tryd.func5 (by kernel_rfl)
    (of_decide_eq_true (by kernel_rfl)) (by unfold Func.isWrapper; first | (rw [if_pos (by decide +kernel)]; kernel_rfl) | (rw [if_neg (by decide +kernel)]; exact ⟨rfl, rfl⟩))
    (fun os started H enc _ => lifted os started H enc)

theorem proved : Rows.TablesLessCardSaid :=
  Claim7.holds_tied_plain_at .later [] [.data] true (true, "8fbe12d87b591f72c90e963653a25df0b00f8d07ecf637b8a87be6f3bde5a51c") false
    over (fun _ h => by cases h) (by kernel_rfl) (fun _ h => by cases h) tablesLess_row_tie rfl ⟨rfl, rfl⟩ (by kernel_rfl) rfl
    (fun f fn hf hfn => by
      obtain rfl : f = 5 := Option.some.inj ((show Tryd.prog.funcNamed "trunnion/trunnionlaw08.TablesLess" = some 5 by kernel_rfl).symm.trans hf) |>.symm
      obtain rfl : fn = Tryd.f5 := (Option.some.inj (Tryd.func5.symm.trans hfn)).symm
      exact ⟨by kernel_rfl, fun j t ht => by
        rw [Tryd.params5] at ht
        have hm : t ∈ [22] := by simpa using Array.mem_of_getElem? ht
        have hall : ([22].all fun u => !Tryd.prog.wantsStandIn u) = true := by kernel_rfl
        exact (show Tryd.prog.wantsStandIn t = false by simpa using List.all_eq_true.1 hall t hm)⟩)
    (by kernel_rfl)
end Go.Proofs.YtpfpcmadhbejiaaDoor.tablesLess
