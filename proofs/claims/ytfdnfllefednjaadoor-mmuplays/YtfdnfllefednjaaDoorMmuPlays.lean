/-
  Proved: trunnionlaw11.MmuPlays answers true for every input: whatever calls are made one by one, also with tables that change and lines that are wrong, a unit answers, and its memory and its buffer hold, just what the document's own unit does.
  Conditions: package entry's table of fields starts as the program's text lays it (the card ties it).
-/
import Derived.Test.YtfdnfllefednjaaDoorCards
import Derived.Test.YtfdnfllefednjaaDoorTie
import Derived.SevenTiedAt
import Derived.LaidMore
import Derived.Stop.Joined
import Derived.Deep.DeepCutAuto
import Derived.Deep.CutBlock
import Derived.Deep.RegionHeld3
import Derived.Test.YtfdnfllefednjaaDoorPart9
namespace Go.Proofs.YtfdnfllefednjaaDoor.mmuPlays
open Go.ChangeShapes Go.WideShapes Go.ChangeAt Go.RowKit Go.Shelf
set_option linter.unusedVariables false
set_option linter.unusedSimpArgs false

set_option maxRecDepth 100000 in
set_option maxHeartbeats 8000000 in
theorem walk (ao : Option Addr) (n cap b off : Nat) (E : Nat → Nat → Value)
    (w : World) (R : Fr.RowArg w ao n b off mopKs E) (T0 : Fr.VarIs w 0 (Fr.datCells (Rows.laid_trunnion_entry_fields (H := Unit)))) :
    Calls Tryd.prog 3 #[.slice ao n cap] w fun e w' => e = .returned (.bool true) ∧ Below w.heap.size w w' := by
  have T := tab_of T0
  have hmost := R.most
  clear T0
  have hz : ∀ w : World, (zeroValue 45).run Tryd.prog w = .ok (.agg (rcells (fun _ => ln0) (fun _ => false)).toArray) w := fun w => by kernel_rfl
  have hrc : Hid (∀ W : World, RBufAt (W.alloc (.cells (rcells (fun _ => ln0) (fun _ => false)).toArray 45)) W.heap.size (fun _ => ln0) (fun _ => false)) := Lib.hid (fun W => heap_alloc_last W _)
  generalize (rcells (fun _ => ln0) (fun _ => false)).toArray = Z at hz hrc
  have hRZ : Hid (∀ W : World, RB (W.alloc (.cells Z 45)) W.heap.size buf0) := Lib.hid (fun W => ⟨_, _, Rsay.zero, hrc.out W⟩)
  clear hrc
  have cA := Lib.hid (uawake_any w T)
  go_enter Tryd.func3, Tryd.ntmps3
  go_wp2_with fail
  refine cA.out.mono ?_
  rintro e w1 ⟨rfl, U1⟩
  have V1 := Lib.hid U1
  clear cA
  go_wp2_with fail
  refine (ubegun_any w1 (T.kept U1)).mono ?_
  rintro e w2 ⟨U, MA, BA, MB, rfl, h2, n2, u2⟩
  have H2 := Lib.hid h2
  have V2 := Lib.hid (V1.out.trans u2)
  have N2 := Lib.hid (show UNew w.heap.size U MA BA MB from ⟨Nat.le_trans V1.out.size n2.u, Nat.le_trans V1.out.size n2.m, Nat.le_trans V1.out.size n2.b, Nat.le_trans V1.out.size n2.w⟩)
  clear h2 n2 u2 U1 V1 T
  go_wp2_with fail
  refine (rNew_yes 8 _ (by omega) (by omega)).mono ?_
  rintro e w3 ⟨rfl, R3, U3, s3⟩
  have H3 := Lib.hid (H2.out.still U3)
  have RR3 := Lib.hid (show RefAt w3 (w2.heap.size + 1) (cpT (memNew MB 8).parts (memNew w2.heap.size 8) 0) from R3)
  have V3 := Lib.hid (V2.out.trans U3)
  have S3 := Lib.hid s3
  have L2 := Lib.hid (show (∀ k, (k = U ∨ k = MA ∨ k = BA ∨ k = MB ∨ k = 0) → k < w2.heap.size) ∧ w.heap.size ≤ w2.heap.size from by
    have l1 := H2.out.lts
    have l2 := lt_of_heap H2.out.me.head
    have l3 := World.block_lt_of_cell? w2 _ (H2.out.T 0 (by omega)).1
    refine ⟨?_, V2.out.size⟩
    rintro k (rfl | rfl | rfl | rfl | rfl)
    · exact l1 _ (.inl rfl)
    · exact l2
    · exact l1 _ (.inr (.inl rfl))
    · exact l1 _ (.inr (.inr rfl))
    · exact l3)
  clear R3 U3 s3 H2 V2
  generalize hRM : w2.heap.size = RM at RR3 S3 L2 ⊢
  generalize hRA : RM + 1 = RA at RR3 ⊢
  have HRA := Lib.hid hRA
  clear hRM hRA
  have ap := Lib.hid (show ∀ i, (i = U ∨ i = MA ∨ i = BA ∨ i = MB ∨ i = 0) → i ≠ RM ∧ i ≠ RA from fun i hi => by have := L2.out.1 i hi; have := HRA.out; omega)
  obtain ⟨PM, hPM⟩ : ∃ PM, PM = (memNew MB 8).parts := ⟨_, rfl⟩
  obtain ⟨QM, hQM⟩ : ∃ QM, QM = memNew RM 8 := ⟨_, rfl⟩
  have HPM := Lib.hid hPM
  have HQM := Lib.hid hQM
  rw [← hPM] at H3 RR3
  rw [← hQM] at RR3
  have hQB := Lib.hid (show QM.B = RM from by rw [hQM]; rfl)
  clear hPM hQM
  go_wp2_with fail
  go_loopw [9] (fun t wr => ∃ i : Nat, i ≤ 3 ∧ t = .int .i64 i ∧ Hid (RefAt wr RA (cpT PM QM i)) ∧ Hid (Mmu wr U MA BA MB 0 1 PM buf0) ∧ Hid (Upd (fun _ => False) w wr)) (fun t _ => 3 - (intOf t).toNat)
  case atStart => exact ⟨0, by omega, rfl, RR3, H3, V3⟩
  case round =>
    clear RR3 H3 V3
    obtain ⟨i, hi, rfl, RR, H, V⟩ := hrel
    by_cases hlt : i < 3
    · go_wp2_with fail
      rw [show decide ((i : Int) < 3) = true from decide_eq_true (by omega)]
      go_loopw [10] (fun t wx => ∃ k : Nat, k ≤ 2 ∧ t = .int .i64 k ∧ Hid (RefAt wx RA (cpR PM (cpT PM QM i) i k)) ∧ Hid (Mmu wx U MA BA MB 0 1 PM buf0) ∧ Hid (Upd (fun _ => False) w wx)) (fun t _ => 2 - (intOf t).toNat)
      case atStart => exact ⟨0, by omega, rfl, RR, H, V⟩
      case round =>
        clear RR H V
        obtain ⟨k, hk, rfl, RR, H, V⟩ := hrel
        by_cases hlk : k < 2
        · have cG := Lib.hid (wget_any MA PM (i : Int) (k : Int) wr H.out.me H.out.T H.out.g)
          have hcp : Hid (cpR PM (cpT PM QM i) i (k + 1) = (cpR PM (cpT PM QM i) i k).put i k (PM.getE i k)) := Lib.hid rfl
          have hcB := Lib.hid (show (cpR PM (cpT PM QM i) i k).B = RM from by rw [cpR_B, cpT_B, hQB.out])
          generalize PM.getE (i : Int) (k : Int) = G at cG hcp
          obtain ⟨gv, gr, gt, gf⟩ := G
          generalize PM.getX (i : Int) (k : Int) = X at cG
          go_wp2_with fail
          refine cG.out.mono ?_
          rintro e w5 ⟨rfl, u5⟩
          obtain ⟨a1, a2, a3, a4⟩ := ent_box w5 gv gr gt gf
          have A1 := Lib.hid a1
          have A3 := Lib.hid a3
          have H6 := Lib.hid (H.out.still (u5.trans a2))
          have R6 := Lib.hid (RR.out.kept (u5.trans a2) id id)
          have V6 := Lib.hid (V.out.trans (u5.trans a2))
          clear a1 a2 a3 a4 u5 cG RR H V
          go_upto_region 13 with (with_reducible refine wpList_store_sz rfl 34 (.tmp 11) (.tmp 65) rfl w5.heap.size 0 #[.bool gv, .bool gr, .bool gt, .int .i64 gf] rfl rfl 4 (ent_sz _ _ _ _) A3.out size_ent (ent_one _ _ _ _) [.bool gv, .bool gr, .bool gt, .int .i64 gf] (ent_ls _ _ _ _) ?_)
          generalize (w5.alloc (.cells #[.bool false, .bool false, .bool false, .int .i64 0] 34)).setCells w5.heap.size 0 [.bool gv, .bool gr, .bool gt, .int .i64 gf] = w6 at A1 H6 R6 V6 ⊢
          generalize w5.heap.size = D at A1 ⊢
          clear A3
          go_wp2_with (with_reducible refine wpList_load_sz rfl 34 (.tmp 11) rfl D 0 rfl [.bool gv, .bool gr, .bool gt, .int .i64 gf] _ A1.out.range Tryd.underlying34 rfl 4 (ent_len _ _ _ _) size_ent ?_)
          refine (kput_any RA _ (i : Int) (k : Int) ⟨gv, gr, gt, gf⟩ w6 R6.out).mono ?_
          rintro e w7 ⟨rfl, r7, u7⟩
          have RR7 := Lib.hid (show RefAt w7 RA (cpR PM (cpT PM QM i) i (k + 1)) from by rw [hcp.out]; exact r7)
          have H7 := Lib.hid (H6.out.kept u7 (by rw [hcB.out]; exact (ap.out U (.inl rfl)).1) (by rw [hcB.out]; exact (ap.out MA (.inr (.inl rfl))).1) (by rw [hcB.out]; exact (ap.out BA (.inr (.inr (.inl rfl)))).1) (by rw [hcB.out]; exact (ap.out MB (.inr (.inr (.inr (.inl rfl))))).1) (by rw [hcB.out]; exact (ap.out _ (.inr (.inr (.inr (.inr rfl))))).1))
          have V7 := Lib.hid (V6.out.fresh u7 (by rw [hcB.out]; exact L2.out.2))
          clear r7 u7 H6 R6 V6 A1 hcp hcB
          go_wp2
          go_roundw
          case rel => exact ⟨k + 1, by omega, by go_num, RR7, H7, V7⟩
          case measure => simp [intOf]; omega
        · have ek : k = 2 := by omega
          subst ek
          go_wp2
          go_roundw
          case rel => exact ⟨i + 1, by omega, by go_num, RR, H, V⟩
          case measure => simp [intOf]; omega
    · have ei : i = 3 := by omega
      subst ei
      have RR' := Lib.hid (show RefAt wr RA (PM.re RM) from by have := RR.out; rw [HPM.out, HQM.out, cp_all] at this; rw [HPM.out]; exact this)
      clear RR HQM hQB
      go_upto_region 14 with fail
      go_upto_region 15 with fail
      have hsz := Lib.hid (show (wr.alloc (.cells Z 45)).heap.size = wr.heap.size + 1 from by show (wr.heap.push _).size = _; simp)
      have bq := hRZ.out wr
      have uq := ((Upd.refl (fun _ => False) wr).alloc (.cells Z 45)).alloc (.cells #[.pointer (some ⟨RA, 0, none⟩), .pointer (some ⟨wr.heap.size, 0, none⟩), .int .i64 0, .int .i64 0] 47)
      have B5 := Lib.hid (bq.kept ((Upd.refl (fun _ => False) (wr.alloc (.cells Z 45))).alloc (.cells #[.pointer (some ⟨RA, 0, none⟩), .pointer (some ⟨wr.heap.size, 0, none⟩), .int .i64 0, .int .i64 0] 47)) id)
      have C5 := Lib.hid (show RUnAt ((wr.alloc (.cells Z 45)).alloc (.cells #[.pointer (some ⟨RA, 0, none⟩), .pointer (some ⟨wr.heap.size, 0, none⟩), .int .i64 0, .int .i64 0] 47)) (wr.heap.size + 1) RA wr.heap.size 0 0 from ⟨by rw [← hsz.out]; exact heap_alloc_last _ _⟩)
      have R5 := Lib.hid (RR'.out.kept uq id id)
      have H5 := Lib.hid (H.out.still uq)
      have V5 := Lib.hid (V.out.trans uq)
      have hRAl := Lib.hid (show RA < wr.heap.size ∧ w.heap.size ≤ wr.heap.size from ⟨lt_of_heap RR'.out.head, V.out.size⟩)
      generalize (wr.alloc (.cells Z 45)).alloc (.cells #[.pointer (some ⟨RA, 0, none⟩), .pointer (some ⟨wr.heap.size, 0, none⟩), .int .i64 0, .int .i64 0] 47) = w5 at B5 C5 R5 H5 V5 ⊢
      generalize hRC : wr.heap.size = RC at B5 C5 hRAl ⊢
      generalize hCC : RC + 1 = C at C5 ⊢
      have HCC := Lib.hid hCC
      clear hRC hCC bq uq hsz RR' H V hRZ hz
      have hub := Lib.hid (show useB (PM.re RM) 0 1 = true from by rw [HPM.out]; kernel_rfl)
      have hP8 := Lib.hid (show PM.n = 8 from by rw [HPM.out, Mem.parts_n]; rfl)
      go_wp2_with fail
      refine (ruuse_any C RA RC 0 0 0 1 (PM.re RM) w5 C5.out R5.out).mono ?_
      rintro e w6 ⟨rfl, c6, u6⟩
      rw [hub.out, if_pos rfl, if_pos rfl] at c6
      rw [if_pos hub.out]
      have nb := Lib.hid (show (∀ i, (i = U ∨ i = MA ∨ i = BA ∨ i = MB ∨ i = 0) → ∀ j, (j = C ∨ j = RA ∨ j = RC ∨ j = RM) → i ≠ j) ∧ (C ≠ RC ∧ RA ≠ RC ∧ RM ≠ RC ∧ C ≠ RM ∧ C ≠ RA ∧ RA ≠ RM) from by
        have l1 := L2.out.1
        have l2 := HRA.out
        have l3 := hRAl.out.1
        have l4 := HCC.out
        refine ⟨fun i hi j hj => ?_, by omega⟩
        have := l1 i hi
        omega)
      have D6 : Duet w6 U MA BA MB C RA RC RM 0 1 PM buf0 := ⟨H5.out.kept u6 (nb.out.1 U (.inl rfl) C (.inl rfl)) (nb.out.1 MA (.inr (.inl rfl)) C (.inl rfl)) (nb.out.1 BA (.inr (.inr (.inl rfl))) C (.inl rfl)) (nb.out.1 MB (.inr (.inr (.inr (.inl rfl)))) C (.inl rfl)) (nb.out.1 _ (.inr (.inr (.inr (.inr rfl)))) C (.inl rfl)), c6, R5.out.kept u6 (Ne.symm nb.out.2.2.2.2.2.1) (Ne.symm nb.out.2.2.2.2.1), B5.out.kept u6 (Ne.symm nb.out.2.1), nb.out.2, fun i j hi hj => nb.out.1 i hi j hj, hP8.out⟩
      have NB := Lib.hid (show ∀ k, DuS U BA MB C RC RM k → w.heap.size ≤ k from by
        have n1 := N2.out.u
        have n2 := N2.out.b
        have n3 := N2.out.w
        have n4 := L2.out.2
        have n5 := HRA.out
        have n6 := hRAl.out
        have n7 := HCC.out
        unfold DuS
        rintro k (rfl | rfl | rfl | rfl | rfl | rfl) <;> omega)
      have V6 := Lib.hid (V5.out.since u6 (by rintro k rfl; exact NB.out k (.inr (.inr (.inr (.inl rfl))))))
      have TW := Lib.hid D6
      clear D6 c6 u6 hub hP8 B5 C5 R5 H5 V5 HCC hRAl nb ap L2 HRA N2 S3 HPM
      generalize buf0 = B0 at TW
      generalize PM = m0 at TW
      go_wp2_with fail
      go_loopw [14] (fun t wr => ∃ (i : Nat) (root asid : Int) (m : Mem) (B : Buf), i ≤ n ∧ i ≤ 60 ∧ t = .int .i64 i ∧ Hid (Duet wr U MA BA MB C RA RC RM root asid m B) ∧ Hid (Upd (fun _ => False) w wr)) (fun t _ => 60 - (intOf t).toNat)
      case atStart => exact ⟨0, _, _, _, _, by omega, by omega, rfl, TW, V6⟩
      case round =>
        clear TW V6
        obtain ⟨i, root, asid, m, B, hi, hi6, rfl, TW, V⟩ := hrel
        by_cases hlt : i < n
        · by_cases hl6 : i < 60
          · obtain rfl := R.place (by omega)
            obtain ⟨d, ad, at', f, pl, v, e, hop⟩ := mop10 (rows_below R V.out) i hlt
            obtain ⟨ev, er, et, ef⟩ := e
            have p0 := hop.c0
            have p1 := hop.c1
            have p2 := hop.c2
            have p3 := hop.c3
            have p4 := hop.c4
            have p5 := hop.c5
            have p6 := hop.c6
            have p7 := hop.c7
            have p8 := hop.c8
            have p9 := hop.c9
            have Hv := Lib.hid hop.wv
            have Hf := Lib.hid hop.wf
            clear hop
            simp only at p6 p7 p8 p9 Hf
            go_upto_region 19 with fail
            go_upto_region 20 with fail
            have X := heap_alloc_last wr (.cells #[.int .i64 d, .int .i64 ad, .int .i64 at', .int .i64 f, .int .i64 pl, .int .u64 v, .bool ev, .bool er, .bool et, .int .i64 ef] 51)
            have UW := (Upd.refl (fun _ => False) wr).alloc (.cells #[.int .i64 d, .int .i64 ad, .int .i64 at', .int .i64 f, .int .i64 pl, .int .u64 v, .bool ev, .bool er, .bool et, .int .i64 ef] 51)
            have TX := Lib.hid (TW.out.still UW)
            have VX := Lib.hid (V.out.trans UW)
            have hgT := Lib.hid (show ¬ DuS U BA MB C RC RM wr.heap.size from fun e => Nat.lt_irrefl _ (TW.out.lt _ e))
            generalize wr.alloc (.cells #[.int .i64 d, .int .i64 ad, .int .i64 at', .int .i64 f, .int .i64 pl, .int .u64 v, .bool ev, .bool er, .bool et, .int .i64 ef] 51) = W at X TX VX ⊢
            generalize wr.heap.size = g at X hgT ⊢
            clear TW V UW p0 p1 p2 p3 p4 p5 p6 p7 p8 p9
            obtain ⟨o0, o1, o2, o3, o4, o5, o6, o7, o8, o9⟩ := ob10 X
            have HX := Lib.hid X
            clear X
            have hg3 := Lib.hid (show ¬ MmS U BA MB g from fun e => hgT.out (by unfold MmS at e; unfold DuS; omega))
            go_upto_block 6 with fail
            go_cut [16] (fun s16 wx => s16 = .bool true ∧ ∃ (root asid : Int) (m : Mem) (B : Buf), Hid (Duet wx U MA BA MB C RA RC RM root asid m B) ∧ Hid (Upd (fun _ => False) w wx) ∧ Hid (wx.heap[g]? = some (.cells #[.int .i64 d, .int .i64 ad, .int .i64 at', .int .i64 f, .int .i64 pl, .int .u64 v, .bool ev, .bool er, .bool et, .int .i64 ef] 51 (0, 0))))
            case first =>
              have TXd := Lib.hid (TX.out.still (Upd.refl (fun _ => False) W).drew)
              have d1 : W.drew.cell? ⟨g, 1, none⟩ = some (.int .i64 ad) := o1
              have d2 : W.drew.cell? ⟨g, 2, none⟩ = some (.int .i64 at') := o2
              have d3 : W.drew.cell? ⟨g, 3, none⟩ = some (.int .i64 f) := o3
              have d4 : W.drew.cell? ⟨g, 4, none⟩ = some (.int .i64 pl) := o4
              have d5 : W.drew.cell? ⟨g, 5, none⟩ = some (.int .u64 v) := o5
              have d6 : W.drew.cell? ⟨g, 6, none⟩ = some (.bool ev) := o6
              have d7 : W.drew.cell? ⟨g, 7, none⟩ = some (.bool er) := o7
              have d8 : W.drew.cell? ⟨g, 8, none⟩ = some (.bool et) := o8
              have d9 : W.drew.cell? ⟨g, 9, none⟩ = some (.int .i64 ef) := o9
              have oC := TX.out.R.c.2.1
              have dC : W.drew.cell? ⟨C, 1, none⟩ = some (.pointer (some ⟨RC, 0, none⟩)) := oC
              have hCm := Lib.hid (show ¬ MmS U BA MB C from fun e => by
                rcases e with e | e | e
                · exact TX.out.ap U C (.inl rfl) (.inl rfl) e.symm
                · exact TX.out.ap BA C (.inr (.inr (.inl rfl))) (.inl rfl) e.symm
                · exact TX.out.ap MB C (.inr (.inr (.inr (.inl rfl)))) (.inl rfl) e.symm)
              by_cases d012 : d = 0 ∨ d = 1 ∨ d = 2
              · rcases d012 with rfl | rfl | rfl
                all_goals
                  as_aux_lemma =>
                    go_wp2_with fail
                    refine (TX.out.load ad at').mono ?_
                    rintro e w3 ⟨y, x, rfl, U3, cR⟩
                    have p1 := U3.cell o1 hg3.out
                    have p2 := U3.cell o2 hg3.out
                    go_wp2_with fail
                    refine cR.mono ?_
                    rintro e w4 ⟨rfl, root', asid', m', B', D', U4⟩
                    go_wp2_with fail
                    go_meet
                    exact ⟨by simp, _, _, _, _, Lib.hid D', Lib.hid (VX.out.since U4 NB.out), Lib.hid (U4.at HX.out hgT.out)⟩
              by_cases d34 : d = 3 ∨ d = 4
              · rcases d34 with rfl | rfl
                all_goals
                  clear d012
                  as_aux_lemma =>
                    go_wp2_with fail
                    go_region_held3 (fun w' => w'.cell? ⟨g, 1, none⟩ = some (.int .i64 ad) ∧ w'.cell? ⟨g, 2, none⟩ = some (.int .i64 at') ∧ w'.cell? ⟨g, 5, none⟩ = some (.int .u64 v))
                        (first
                          | exact ⟨o1, o2, o5⟩
                          | exact ⟨d1, d2, d5⟩
                          | exact ⟨q1, q2, q5⟩
                          | exact ⟨p1, p2, p5⟩)
                        (first
                          | (go_at_call 15; refine (TXd.out.store ad v at' Hv.out.1 Hv.out.2).mono ?_; rintro e w3 ⟨x, rfl, U3, cR⟩; have p1 := U3.cell d1 hg3.out; have p2 := U3.cell d2 hg3.out; have p5 := U3.cell d5 hg3.out)
                          | (go_at_call 16; refine cR.mono ?_; rintro e w4 ⟨rfl, root', asid', m', B', D', U4⟩; have q1 := U4.cell d1 hgT.out; have q2 := U4.cell d2 hgT.out; have q5 := U4.cell d5 hgT.out))
                    go_wp2_with fail
                    go_meet
                    exact ⟨by simp, _, _, _, _, Lib.hid D', Lib.hid (VX.out.drew.since U4 NB.out), Lib.hid (U4.at HX.out hgT.out)⟩
              by_cases d5' : d = 5
              · subst d5'
                clear d012 d34
                as_aux_lemma =>
                  go_wp2_with fail
                  go_region_held3 (fun w' => w'.cell? ⟨g, 3, none⟩ = some (.int .i64 f) ∧ w'.cell? ⟨g, 4, none⟩ = some (.int .i64 pl) ∧ w'.cell? ⟨g, 6, none⟩ = some (.bool ev) ∧ w'.cell? ⟨g, 7, none⟩ = some (.bool er) ∧ w'.cell? ⟨g, 8, none⟩ = some (.bool et) ∧ w'.cell? ⟨g, 9, none⟩ = some (.int .i64 ef))
                      (first
                        | exact ⟨o3, o4, o6, o7, o8, o9⟩
                        | exact ⟨d3, d4, d6, d7, d8, d9⟩
                        | exact ⟨q3, q4, q6, q7, q8, q9⟩
                        | exact ⟨p3, p4, p6, p7, p8, p9⟩)
                      (first
                        | (go_at_call 17; refine (TXd.out.put f pl ⟨ev, er, et, ef⟩ Hf.out).mono ?_; rintro e w3 ⟨x, rfl, U3, cR⟩; have p3 := U3.cell d3 hg3.out; have p4 := U3.cell d4 hg3.out; have p6 := U3.cell d6 hg3.out; have p7 := U3.cell d7 hg3.out; have p8 := U3.cell d8 hg3.out; have p9 := U3.cell d9 hg3.out)
                        | (go_at_call 11; refine cR.mono ?_; rintro e w4 ⟨rfl, root', asid', m', B', D', U4⟩; have q3 := U4.cell d3 hgT.out; have q4 := U4.cell d4 hgT.out; have q6 := U4.cell d6 hgT.out; have q7 := U4.cell d7 hgT.out; have q8 := U4.cell d8 hgT.out; have q9 := U4.cell d9 hgT.out))
                  go_wp2_with fail
                  go_meet
                  exact ⟨by simp, _, _, _, _, Lib.hid D', Lib.hid (VX.out.drew.since U4 NB.out), Lib.hid (U4.at HX.out hgT.out)⟩
              by_cases d6' : d = 6
              · subst d6'
                clear d012 d34 d5'
                as_aux_lemma =>
                  go_wp2_with fail
                  go_region_held3 (fun w' => w'.cell? ⟨g, 3, none⟩ = some (.int .i64 f) ∧ w'.cell? ⟨g, 4, none⟩ = some (.int .i64 pl))
                      (first
                        | exact ⟨o3, o4⟩
                        | exact ⟨d3, d4⟩
                        | exact ⟨q3, q4⟩
                        | exact ⟨p3, p4⟩)
                      (first
                        | (go_at_call 18; refine (TXd.out.use f pl).mono ?_; rintro e w3 ⟨x, rfl, U3, cR⟩; have p3 := U3.cell d3 hg3.out; have p4 := U3.cell d4 hg3.out)
                        | (go_at_call 12; refine cR.mono ?_; rintro e w4 ⟨rfl, root', asid', m', B', D', U4⟩; have q3 := U4.cell d3 hgT.out; have q4 := U4.cell d4 hgT.out))
                  go_wp2_with fail
                  go_meet
                  exact ⟨by simp, _, _, _, _, Lib.hid D', Lib.hid (VX.out.drew.since U4 NB.out), Lib.hid (U4.at HX.out hgT.out)⟩
              by_cases d7' : d = 7
              · subst d7'
                clear d012 d34 d5' d6'
                as_aux_lemma =>
                  go_wp2_with fail
                  go_region_held3 (fun w' => w'.cell? ⟨g, 4, none⟩ = some (.int .i64 pl) ∧ w'.cell? ⟨C, 1, none⟩ = some (.pointer (some ⟨RC, 0, none⟩)))
                      (first
                        | exact ⟨o4, oC⟩
                        | exact ⟨d4, dC⟩
                        | exact ⟨q4, qC⟩
                        | exact ⟨p4, pC⟩)
                      (first
                        | (go_at_call 19; refine (TXd.out.flush pl).mono ?_; rintro e w3 ⟨x, rfl, U3, cR⟩; have p4 := U3.cell d4 hg3.out; have pC := U3.cell dC hCm.out)
                        | (go_at_call 20; refine cR.mono ?_; rintro e w4 ⟨rfl, root', asid', m', B', D', U4⟩; have q4 := U4.cell d4 hgT.out; have qC := D'.R.c.2.1))
                  go_wp2_with fail
                  go_meet
                  exact ⟨by simp, _, _, _, _, Lib.hid D', Lib.hid (VX.out.drew.since U4 NB.out), Lib.hid (U4.at HX.out hgT.out)⟩
              have n0 : ¬ d = 0 := fun e => d012 (.inl e)
              have n1 : ¬ d = 1 := fun e => d012 (.inr (.inl e))
              have n2 : ¬ d = 2 := fun e => d012 (.inr (.inr e))
              have n3 : ¬ d = 3 := fun e => d34 (.inl e)
              have n4 : ¬ d = 4 := fun e => d34 (.inr e)
              clear d012 d34
              go_upto_region 23 with fail
              have A := heap_alloc_last W (.cells #[.int .i64 pl, .int .i64 (wrap64 (ad.tdiv 16)), .int .i64 f, .bool (v.tmod 2 == 1)] 41)
              have uA := (Upd.refl (fun _ => False) W).alloc (.cells #[.int .i64 pl, .int .i64 (wrap64 (ad.tdiv 16)), .int .i64 f, .bool (v.tmod 2 == 1)] 41)
              generalize wrap64 (ad.tdiv 16) = lp at A uA ⊢
              generalize (v.tmod 2 == 1) = lw at A uA ⊢
              have hDT := Lib.hid (show ¬ DuS U BA MB C RC RM W.heap.size from fun e => Nat.lt_irrefl _ (TX.out.lt _ e))
              have TX7 := Lib.hid (TX.out.still uA)
              have VX7 := Lib.hid (VX.out.trans uA)
              have HX7 := Lib.hid (uA.at HX.out id)
              have x2 := uA.cell o2 id
              have xC := uA.cell oC id
              clear uA TX VX HX TXd d1 d2 d3 d4 d5 d6 d7 d8 d9 dC o0 o1 o2 o3 o4 o5 o6 o7 o8 o9 oC
              generalize W.alloc (.cells #[.int .i64 pl, .int .i64 lp, .int .i64 f, .bool lw] 41) = W7 at A TX7 VX7 HX7 x2 xC ⊢
              generalize W.heap.size = D at A hDT ⊢
              have AL : LnAt W7 D pl lp f lw := A
              obtain ⟨xe0, xe1, xe2, xe3, -, -, -, -⟩ := AL.eight
              clear A AL
              have TXd := Lib.hid (TX7.out.still (Upd.refl (fun _ => False) W7).drew)
              have de0 : W7.drew.cell? ⟨D, 0, none⟩ = some (.int .i64 pl) := xe0
              have de1 : W7.drew.cell? ⟨D, 1, none⟩ = some (.int .i64 lp) := xe1
              have de2 : W7.drew.cell? ⟨D, 2, none⟩ = some (.int .i64 f) := xe2
              have de3 : W7.drew.cell? ⟨D, 3, none⟩ = some (.bool lw) := xe3
              have d2 : W7.drew.cell? ⟨g, 2, none⟩ = some (.int .i64 at') := x2
              have dC : W7.drew.cell? ⟨C, 1, none⟩ = some (.pointer (some ⟨RC, 0, none⟩)) := xC
              have hD3 := Lib.hid (show ¬ MmS U BA MB D from fun e => hDT.out (by unfold MmS at e; unfold DuS; omega))
              as_aux_lemma =>
                go_region_held3 (fun w' => w'.cell? ⟨D, 0, none⟩ = some (.int .i64 pl) ∧ w'.cell? ⟨D, 1, none⟩ = some (.int .i64 lp) ∧ w'.cell? ⟨D, 2, none⟩ = some (.int .i64 f) ∧ w'.cell? ⟨D, 3, none⟩ = some (.bool lw) ∧ w'.cell? ⟨g, 2, none⟩ = some (.int .i64 at') ∧ w'.cell? ⟨C, 1, none⟩ = some (.pointer (some ⟨RC, 0, none⟩)))
                  (first
                    | exact ⟨xe0, xe1, xe2, xe3, x2, xC⟩
                    | exact ⟨de0, de1, de2, de3, d2, dC⟩
                    | exact ⟨qe0, qe1, qe2, qe3, q2, qC⟩
                    | exact ⟨pe0, pe1, pe2, pe3, p2, pC⟩)
                  (first
                    | (go_at_call 21; refine (TXd.out.line pl lp f lw at').mono ?_; rintro e w3 ⟨x, rfl, U3, cR⟩; have pe0 := U3.cell de0 hD3.out; have pe1 := U3.cell de1 hD3.out; have pe2 := U3.cell de2 hD3.out; have pe3 := U3.cell de3 hD3.out; have p2 := U3.cell d2 hg3.out; have pC := U3.cell dC hCm.out)
                    | (go_at_call 22; refine cR.mono ?_; rintro e w4 ⟨rfl, root', asid', m', B', D', U4⟩; have qe0 := U4.cell de0 hDT.out; have qe1 := U4.cell de1 hDT.out; have qe2 := U4.cell de2 hDT.out; have qe3 := U4.cell de3 hDT.out; have q2 := U4.cell d2 hgT.out; have qC := D'.R.c.2.1))
                go_wp2_with fail
                go_meet
                exact ⟨by simp, _, _, _, _, Lib.hid D', Lib.hid (VX7.out.drew.since U4 NB.out), Lib.hid (U4.at HX7.out hgT.out)⟩
            case rest =>
              obtain ⟨rfl, root, asid, m, B, TW, V, HX⟩ := hcut
              obtain ⟨W9, hW9⟩ : ∃ W9, W9 = wc := ⟨_, rfl⟩
              subst hW9
              obtain ⟨y0, y1, y2, y3, y4, y5, y6, y7, y8, y9⟩ := ob10 HX.out
              clear TX VX o0 o1 o2 o3 o4 o5 o6 o7 o8 o9 y0 y3 y4 y6 y7 y8 y9
              go_wp2_with fail
              refine (TW.out.find ad _ at').mono ?_
              rintro e w3 ⟨z, y, x, rfl, U3, cR⟩
              have p1 := U3.cell y1 hg3.out
              have p2 := U3.cell y2 hg3.out
              have p5 := U3.cell y5 hg3.out
              have CR := Lib.hid cR
              clear cR U3 y1 y2 y5 HX
              go_wp2_with fail
              refine CR.out.mono ?_
              rintro e w4 ⟨rfl, root', asid', m', B', D', U4⟩
              have TW4 := Lib.hid D'
              have V4 := Lib.hid (V.out.since U4 NB.out)
              clear D' U4 CR TW V p1 p2 p5
              have oC := TW4.out.R.c.2.1
              have hS := Lib.hid (show ∀ (W' : World), Upd (fun _ => False) w4 W' → W'.cell? ⟨C, 1, none⟩ = some (.pointer (some ⟨RC, 0, none⟩)) ∧ Upd (fun _ => False) w4 W' from fun W' u => ⟨u.cell oC id, u⟩)
              have h8 := Lib.hid (show B'.lines.length ≤ 8 from Buf.linesTo_len B' 8)
              have cA := Lib.hid (fun (W : World) (u : Upd (fun _ => False) w4 W) => tlines_any BA B' TW4.out.P.bo W (TW4.out.still u).P.bu)
              have cB := Lib.hid (fun (W : World) (u : Upd (fun _ => False) w4 W) => rlines_any RC B' W (TW4.out.still u).K)
              go_upto_region 41 with fail
              go_cut [28] (fun s28 wx => s28 = .bool true ∧ Upd (fun _ => False) w4 wx)
              case first =>
                go_region_held3 (fun w' => w'.cell? ⟨C, 1, none⟩ = some (.pointer (some ⟨RC, 0, none⟩)) ∧ Upd (fun _ => False) w4 w')
                  (first
                    | assumption
                    | exact hS.out _ (Upd.refl _ _).drew
                    | exact hS.out _ u7
                    | exact hS.out _ u9
                    | exact hS.out _ ua)
                  (first
                    | (go_at_call 26; refine (cA.out _ (Upd.refl (fun _ => False) w4).drew).mono ?_; rintro e w6 ⟨v6, rfl, r6, u6⟩; have u7 := (Upd.refl (fun _ => False) w4).drew.trans u6; obtain ⟨o6, k6, rfl⟩ := wk_slice r6)
                    | (go_at_call 27; refine (cB.out _ u7).mono ?_; rintro e w7 ⟨v7, rfl, r7, u8⟩; have u9 := u7.trans u8; obtain ⟨o7, k7, rfl⟩ := wk_slice r7; have r67 := wk_kept r6 u8 (fun _ _ => id))
                    | (go_at_call 25; refine (lsame_any _ _ _ _ _ _ B'.lines _ rfl h8.out _ r67 r7).mono ?_; rintro e w8 ⟨rfl, nk, rfl⟩; have ua := u9.drewN nk))
                all_goals (go_wp2_with fail)
                all_goals go_meet
                all_goals exact ⟨by simp, ua⟩
              case rest =>
                obtain ⟨rfl, u5⟩ := hcut
                obtain ⟨w5, hw5⟩ : ∃ w5, w5 = wc := ⟨_, rfl⟩
                subst hw5
                have TW5 := Lib.hid (TW4.out.still u5)
                have V5 := Lib.hid (V4.out.trans u5)
                clear u5 hS cA cB oC h8 TW4 V4
                have c9 : w5.cell? ⟨RA, 0, none⟩ = some (.slice (some ⟨RM, 0, none⟩) 128 128) := by
                  have := TW5.out.M.cellA
                  rw [show (m'.re RM).n = 8 from TW5.out.n8] at this
                  exact this
                have cB := Lib.hid (show ∀ k, k < 128 → w5.cell? ⟨RM, k, none⟩ = some (.int .u64 (m'.at k)) from fun k hk => TW5.out.M.cellB k (by rw [show (m'.re RM).n = 8 from TW5.out.n8]; exact hk))
                have cR := Lib.hid (fun k => read_any MA m' k w5 TW5.out.P.me)
                have hrd := Lib.hid (show ∀ k : Nat, k < 128 → m'.rd k = m'.at k from fun k hk => by
                  have h1 : m'.has k = true := decide_eq_true (by have := TW5.out.n8; omega)
                  unfold Mem.rd
                  rw [h1, if_pos rfl, Int.toNat_natCast])
                go_wp2_with fail
                go_loopw [29] (fun t w9 => ∃ k : Nat, k ≤ 128 ∧ t = .int .i64 k ∧ w9 = w5) (fun t _ => 128 - (intOf t).toNat)
                case atStart => exact ⟨0, by omega, rfl, rfl⟩
                case round =>
                  obtain ⟨k, hk, rfl, rfl⟩ := hrel
                  by_cases hlt2 : k < 128
                  · have cb := cB.out k hlt2
                    have hr := hrd.out k hlt2
                    generalize m'.at k = q at cb hr
                    go_wp2_with fail
                    refine (cR.out k).mono ?_
                    rintro e w9 ⟨rfl, rfl⟩
                    rw [hr]
                    clear hr
                    go_wp2
                    go_roundw
                    case rel => exact ⟨k + 1, by omega, by go_num, trivial⟩
                    case measure => simp [intOf]; omega
                  · have ek : k = 128 := by omega
                    clear cB cR hrd
                    go_wp2
                    go_roundw
                    case rel => exact ⟨i + 1, root', asid', m', B', by omega, by omega, by go_num, TW5, V5⟩
                    case measure => simp [intOf]; omega
          · have e : i = 60 := by omega
            subst e
            go_wp2
            go_ret
            exact ⟨rfl, V.out.below (Nat.le_refl _) fun _ _ => id⟩
        · have e : i = n := by omega
          subst e
          go_wp2
          go_ret
          exact ⟨rfl, V.out.below (Nat.le_refl _) fun _ _ => id⟩
/-! ### the row's frame, and its tied card -/
theorem own : ownKnob Tryd.prog.godebug = none := by kernel_rfl
theorem laidOut : laidOutB Tryd.prog = true := by kernel_rfl
/-- the door's own heap meets the condition -/
theorem door_met (os : Os) (args : Array Value) : laidMetH Tryd.prog Rows.mmuPlaysRow.laid ((World.doorLaid Tryd.prog 400 os).forCall (fun _ _ => 0) ⟨#[], args, []⟩).memory :=
  laidMetH_of_parts3 (fuel := 8) (laidMet_of_run' 8 (by kernel_rfl) (by kernel_rfl)) (by kernel_rfl) (by kernel_rfl)
set_option linter.unusedVariables false in
set_option maxRecDepth 100000 in
theorem lifted (os : Os) (started : os.Started) (H : Type) (enc : TypeId × Value → H) :
    ReturnsInHanded {} Tryd.checked os 3 .any (fun w args => (Rows.mmuPlaysSpec.pre enc Tryd.prog Tryd.f3 [] false w args ∧ laidMetH Tryd.prog Rows.mmuPlaysRow.laid w) ∧ sizedMet enc Tryd.prog Tryd.f3 (OpenSpec.ofChange Rows.mmuPlaysSpec) false w args)
      (Rows.mmuPlaysSpec.post enc Tryd.prog Tryd.f3 false true false false) := by
  refine returnsInHanded_of_change_and (C := Tryd.checked) (X := fun w _ => laidMetH Tryd.prog Rows.mmuPlaysRow.laid w) (fun _ _ _ hh h => h.of_heap hh) own started (by kernel_rfl) Tryd.func3
    (ChangeSpec.witness_shaped (enc := enc) (C := Tryd.checked) (os := os) (X := fun w _ => laidMetH Tryd.prog Rows.mmuPlaysRow.laid w) false (World.doorLaid Tryd.prog 400 os) #[.slice none 0 0] 8 rfl (World.shaped_of_RefB (by kernel_rfl) (by kernel_rfl)) (by kernel_rfl) (by kernel_rfl) (by kernel_rfl) (door_met os _)) ?_
  intro W base args ds gs before hval0 hW _ _ hL _
  have hLd := hL
  rw [MakeChecks.laidMetH_plain _ _ _ (by kernel_rfl)] at hLd
  have T0 : Fr.VarIs W 0 (Fr.datCells (Rows.laid_trunnion_entry_fields (H := Unit))) := Fr.varIs_of_laid (t := 156) (ks := [some .i64, some .i64, some .i64, some .i64, some .i64, some .i64, some .i64, some .i64, some .i64, some .i64, some .i64, some .i64, some .i64, some .i64, some .i64, some .i64, some .i64, some .i64]) 12 (hLd : laidMet Tryd.prog Rows.mmuPlaysRow.laid W) "trunnion/entry.fields" (Rows.laid_trunnion_entry_fields (H := Unit)) (by simp [Rows.mmuPlaysRow]) (by kernel_rfl) (by kernel_rfl) (by kernel_rfl)
  clear hL hLd
  have hval : ∀ (j : Nat) t v, Tryd.f3.params[j]? = some t → args[j]? = some v → Value.okWide Tryd.prog W .any base t v := hval0
  have hW' := hW
  obtain ⟨p, q, hA0, hV, rfl, hfz, hnd⟩ := hW
  have hA : DataW.TrodAll enc Tryd.prog W 0 (fun _ => true) true Tryd.f3.params.toList args.toList ds p := hA0
  rw [Tryd.params3] at hA hval
  obtain ⟨v0, vs0, d0, ds0, p0, q0, hargs, rfl, rfl, h0, r0⟩ := trodAll_cons hA
  obtain ⟨rfl, rfl, rfl⟩ := trodAll_nil r0
  obtain rfl : args = #[v0] := by cases args; simp_all
  obtain ⟨rfl, rfl⟩ := trodVars_none hV
  have k0 := h0
  have lt0 : ∀ x ∈ p0, x.block < W.heap.size := by obtain ⟨m, hm⟩ := k0; exact DataW.trod_lt m _ _ _ hm
  obtain ⟨ao0, n0, cap0, b0, of0, E0, rfl, w0⟩ := Fr.open_rows 12 [some .i64, some .i64, some .i64, some .i64, some .i64, some .u64, none, none, none, some .i64] Tryd.underlying22 (by kernel_rfl) (by kernel_rfl) (by decide) (hval 0 22 v0 rfl rfl) h0
  clear hA0 hval0
  refine (walk ao0 n0 cap0 b0 of0 E0  W w0 T0).mono fun e W' ⟨he, bel⟩ => ?_
  subst he
  exact ⟨_, rfl, _, _, _, [], _, [], hW', trodAll_mk1 (shut_bool Tryd.underlying4 _), (trodAll_cons_mk (Below.trod laidOut (by kernel_rfl) (of_decide_eq_true (by kernel_rfl)) k0 bel lt0) trodAll_mk0), rfl, bel.frame _, fun h => by cases h⟩

theorem over : Rows.mmuPlaysRow.holds Tryd.pinned (OpenSpec.ofChange Rows.mmuPlaysSpec) :=
  OpenClaim.holds_of_wide 3 Tryd.f3 rfl rfl rfl rfl rfl rfl rfl ⟨rfl, rfl, rfl, rfl, rfl⟩ rfl rfl rfl rfl rfl (by kernel_rfl) Tryd.func3 (by kernel_rfl)
    (of_decide_eq_true (by kernel_rfl)) (by unfold Func.isWrapper; first | (rw [if_pos (by decide +kernel)]; kernel_rfl) | (rw [if_neg (by decide +kernel)]; exact ⟨rfl, rfl⟩))
    (fun os started H enc _ => lifted os started H enc)

theorem proved : Rows.MmuPlaysCardSaid :=
  Claim7.holds_tied_plain_at .later [] [.data] true (true, "1fbe003839927454e2127db742a1aa9d648a46633fd1db5cf4822c9650777034") false
    over (fun _ h => by cases h) (by kernel_rfl) (fun _ h => by cases h) mmuPlays_row_tie rfl ⟨rfl, rfl⟩ (by kernel_rfl) rfl
    (fun f fn hf hfn => by
      obtain rfl : f = 3 := Option.some.inj ((show Tryd.prog.funcNamed "trunnion/trunnionlaw11.MmuPlays" = some 3 by kernel_rfl).symm.trans hf) |>.symm
      obtain rfl : fn = Tryd.f3 := (Option.some.inj (Tryd.func3.symm.trans hfn)).symm
      exact ⟨by kernel_rfl, fun j t ht => by
        rw [Tryd.params3] at ht
        have hm : t ∈ [22] := by simpa using Array.mem_of_getElem? ht
        have hall : ([22].all fun u => !Tryd.prog.wantsStandIn u) = true := by kernel_rfl
        exact (show Tryd.prog.wantsStandIn t = false by simpa using List.all_eq_true.1 hall t hm)⟩)
    (by kernel_rfl)
end Go.Proofs.YtfdnfllefednjaaDoor.mmuPlays
