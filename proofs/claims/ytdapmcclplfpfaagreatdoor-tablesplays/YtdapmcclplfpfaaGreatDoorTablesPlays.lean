/-
  Proved: trunnionlaw08.TablesPlays answers true for every input: in a memory of any number of frames, whatever is mapped, unmapped and protected, a space answers as the document's own one does, and all words of both memories are the same.
  Conditions: package entry's table of fields starts as the program's text lays it (the card ties it).
-/
import Derived.Test.YtdapmcclplfpfaaGreatDoorCards
import Derived.Test.YtdapmcclplfpfaaGreatDoorTie
import Derived.SevenTiedAt
import Derived.LaidMore
import Derived.Stop.Joined
import Derived.Deep.DeepCutAuto
import Derived.Deep.CutBlock
import Derived.Deep.RegionHeld3
import Derived.Test.YtdapmcclplfpfaaGreatDoorPart11
namespace Go.Proofs.YtdapmcclplfpfaaGreatDoor.tablesPlays
open Go.ChangeShapes Go.WideShapes Go.ChangeAt Go.RowKit Go.Shelf Go.Sort
set_option linter.unusedVariables false
set_option linter.unusedSimpArgs false

theorem twin_lt {w : World} {S MA A GB MB C MC BC FB DB : Nat} {s : Sp} {m : Mem} {b : Bud} {Nd : List (Nat × Nat)} {vL vT g : Value} {md : Mem} {bd : Bud} (h : Twin w S MA A GB MB C MC BC FB DB s m b Nd vL vT g md bd) : ∀ k, TwS GB MB C BC FB DB k → k < w.heap.size := by
  have l := h.P.lts
  have l1 := lt_of_heap h.Q.D.a.head
  have l2 := lt_of_heap h.Q.D.d.head
  have l3 := lt_of_heap h.Q.D.d.fr
  have l4 := lt_of_heap h.Q.D.r.body
  rw [h.B] at l4
  unfold TwS
  rintro k (rfl | rfl | rfl | rfl | rfl | rfl) <;> omega
theorem ob4 {w : World} {g : Nat} {a b c d : Value} {t : TypeId} (h : w.heap[g]? = some (.cells #[a, b, c, d] t (0, 0))) :
    w.cell? ⟨g, 0, none⟩ = some a ∧ w.cell? ⟨g, 1, none⟩ = some b ∧ w.cell? ⟨g, 2, none⟩ = some c ∧ w.cell? ⟨g, 3, none⟩ = some d := by
  refine ⟨?_, ?_, ?_, ?_⟩ <;> (rw [cell_of_row _ _ _ _ _ _ h]; rfl)
theorem tab_lt {w : World} (T : Tab w) : 0 < w.heap.size := World.block_lt_of_cell? w _ (T 0 (by omega)).1
set_option maxRecDepth 100000 in
set_option maxHeartbeats 8000000 in
theorem walk (fs : Int) (ao : Option Addr) (n cap b off : Nat) (E : Nat → Nat → Value) (_w0 : (Lit.int .i64 fs).wf = true)
    (w : World) (R : Fr.RowArg w ao n b off topKs E) (T0 : Fr.VarIs w 0 (Fr.datCells (Rows.laid_trunnion_entry_fields (H := Unit)))) :
    Calls Tryz.prog 3 #[.int .i64 fs, .slice ao n cap] w fun e w' => e = .returned (.bool true) ∧ Below w.heap.size w w' := by
  have T := tab_of T0
  have hmost := R.most
  clear T0 _w0
  have cA := Lib.hid (tawake_any w T)
  by_cases h1 : fs < 1
  · go_enter Tryz.func3, Tryz.ntmps3
    go_wp2_with fail
    refine cA.out.mono ?_
    rintro e w1 ⟨rfl, U1⟩
    go_wp2
    go_ret
    exact ⟨rfl, U1.below (Nat.le_refl _) fun _ _ => id⟩
  by_cases h2 : 24 < fs
  · go_enter Tryz.func3, Tryz.ntmps3
    go_wp2_with fail
    refine cA.out.mono ?_
    rintro e w1 ⟨rfl, U1⟩
    go_wp2
    go_ret
    exact ⟨rfl, U1.below (Nat.le_refl _) fun _ _ => id⟩
  go_enter Tryz.func3, Tryz.ntmps3
  go_wp2_with fail
  refine cA.out.mono ?_
  rintro e w1 ⟨rfl, U1⟩
  clear cA
  go_wp2_with fail
  refine (tbegun_z fs _ (T.kept U1)).mono ?_
  rintro e w2 (⟨hno, _⟩ | ⟨F, S, MA, A, GB, MB, s, m, bb, rfl, hF1, hF2, rfl, P2, N2, hmn, hres, hl, hE, hr, hbb, hz, U2⟩)
  · exact absurd ⟨by omega, by omega⟩ hno
  have V2 := Lib.hid (U1.trans U2)
  have NN := Lib.hid N2
  have PP := Lib.hid P2
  have HS := Lib.hid (And.intro hmn (And.intro hE (And.intro hr (And.intro hbb hz))))
  have HF := Lib.hid (And.intro hF1 hF2)
  have lt2 := Lib.hid P2.lts
  have hl0 := Lib.hid (show 1 ≤ (bud0 F 0).left from by rw [bud0_left F hF1 hF2]; exact hF1)
  have s1 := Lib.hid U1.size
  clear hmn hE hr hbb hz U1 U2 N2 P2 hres hl T
  go_wp2_with fail
  refine (rNew_yes F _ (by omega) (by omega)).mono ?_
  rintro e w3 ⟨rfl, R3, U3, s3⟩
  have S3 := Lib.hid s3
  clear s3
  go_wp2_with fail
  refine (rbNew_yes _ _ 0 _ R3 (by omega)).mono ?_
  rintro e w4 ⟨rfl, K4, B4⟩
  have U4 : Upd (fun _ => False) w3 w4 := Upd.of_below B4
  have R4 := R3.kept U4 (fun h => h) (fun h => h)
  have S34 := Lib.hid U4.size
  go_wp2_with fail
  refine (rnewS_any _ _ _ _ _ _ K4).mono ?_
  rintro e w5 (⟨h0, _⟩ | ⟨x, g', C, vT, hx, rfl, K5, A5, hC, hg5, hv5, U5⟩)
  · have e : (bud0 F 0).left = 0 := sel_left h0
    have h9 := hl0.out
    rw [e] at h9
    omega
  have hal : bb = (bud0 F 0).give (x.1, 0) ∧ ((bud0 F 0).al 1).1.getD 0 0 = x.1 := by
    have e := al_next (b := bud0 F 0) (j := 0) hx
    refine ⟨by rw [HS.out.2.2.2.1, e]; rfl, by rw [e]; rfl⟩
  have P5 := ((PP.out.still U3).still U4).kept U5 (by have := lt2.out; have := S3.out; omega) (by have := lt2.out; have := S3.out; omega) (by have := lt2.out; have := S3.out; omega) (by have := lt2.out; have := S3.out; omega) (by have := lt2.out; have := S3.out; omega) (by have := tab_lt (PP.out.T); have := S3.out; omega)
  have tw : Twin w5 S MA A GB MB C (w2.heap.size + 1) (w3.heap.size + 1) w3.heap.size w2.heap.size s m bb [(0, 0)] (.slice none 0 0) vT g' (memNew w2.heap.size F) bb :=
    twin_start (n := F) (x := x.1) P5 HS.out.2.2.2.2 HS.out.2.1 (by rw [HS.out.2.2.1, hal.2]) HS.out.1 ⟨A5, R4.kept U5 (by have := S3.out; omega) (by show ¬ (w2.heap.size = _ ∨ w2.heap.size = _); have := S3.out; omega), by rw [hal.1]; exact K5, by rw [hal.1]; rfl⟩ (by
      have l1 := lt2.out
      have l2 := S3.out
      have l3 := tab_lt PP.out.T
      have l4 := S34.out
      rintro i j (rfl | rfl | rfl | rfl | rfl | rfl) (rfl | rfl | rfl | rfl | rfl) <;> omega)
  have TW := Lib.hid tw
  have NB := Lib.hid (show ∀ k, TwS GB MB C (w3.heap.size + 1) w3.heap.size w2.heap.size k → w.heap.size ≤ k from by
    have n1 := NN.out.gb
    have n2 := NN.out.mb
    have l2 := S3.out
    have l4 := S34.out
    have l5 := V2.out.size
    have l6 := s1.out
    unfold TwS
    rintro k (rfl | rfl | rfl | rfl | rfl | rfl) <;> omega)
  have V5 := Lib.hid (show Upd (fun _ => False) w w5 from ((V2.out.trans U3).trans U4).since U5 (by rintro j (rfl | rfl) <;> (have := V2.out.size; have := S3.out; omega)))
  clear tw P5 hal K5 A5 hx hg5 hv5 hC U5 R4 U4 U3 R3 K4 B4 HS PP NN lt2 hl0 V2 s1
  generalize w2.heap.size + 1 = MC at TW ⊢
  generalize w3.heap.size + 1 = BC at TW NB ⊢
  generalize w3.heap.size = FB at TW NB
  generalize w2.heap.size = DB at TW NB
  clear S3 S34
  go_wp2_with fail
  go_loopw [15] (fun t wr => ∃ (i : Nat) (s : Sp) (m : Mem) (b : Bud) (Nd : List (Nat × Nat)) (vL vT g : Value) (md : Mem) (bd : Bud), i ≤ n ∧ i ≤ 50 ∧ t = .int .i64 i ∧ Hid (Twin wr S MA A GB MB C MC BC FB DB s m b Nd vL vT g md bd) ∧ Hid (Upd (fun _ => False) w wr)) (fun t _ => 50 - (intOf t).toNat)
  case atStart => exact ⟨0, s, m, bb, _, _, _, _, _, _, by omega, by omega, rfl, TW, V5⟩
  case round =>
    clear TW V5
    obtain ⟨i, s, m, b', Nd, vL, vT, gg, md, bd, hi, hi5, rfl, TW, V⟩ := hrel
    by_cases hlt : i < n
    · by_cases hl5 : i < 50
      · obtain rfl := R.place (by omega)
        obtain ⟨d, q, f, wb, hop, hwq, hwf⟩ := top4 (rows_below R V.out) i hlt
        have Hwf := Lib.hid hwf
        have p0 := hop.c0
        have p1 := hop.c1
        have p2 := hop.c2
        have p3 := hop.c3
        clear hop hwq hwf
        go_upto_region 13 with fail
        go_upto_region 14 with fail
        have X := heap_alloc_last wr (.cells #[.int .i64 d, .int .i64 q, .int .i64 f, .bool wb] 40)
        have UW := (Upd.refl (fun _ => False) wr).alloc (.cells #[.int .i64 d, .int .i64 q, .int .i64 f, .bool wb] 40)
        have TX := Lib.hid (TW.out.still UW)
        have VX := Lib.hid (V.out.trans UW)
        have hgT := Lib.hid (show ¬ TwS GB MB C BC FB DB wr.heap.size from fun e => Nat.lt_irrefl _ (twin_lt TW.out _ e))
        have hgw := Lib.hid (show w.heap.size ≤ wr.heap.size from V.out.size)
        generalize wr.alloc (.cells #[.int .i64 d, .int .i64 q, .int .i64 f, .bool wb] 40) = W at X TX VX ⊢
        generalize wr.heap.size = g at X hgT hgw ⊢
        clear TW V UW p0 p1 p2 p3
        obtain ⟨o0, o1, o2, o3⟩ := ob4 X
        have HX := Lib.hid X
        clear X
        have hg3 := Lib.hid (show ¬ (g = GB ∨ g = MB) from fun e => hgT.out (by unfold TwS; omega))
        go_upto_block 2 with fail
        go_cut [17] (fun s17 wx => s17 = .bool true ∧ ∃ (s : Sp) (m : Mem) (b : Bud) (Nd : List (Nat × Nat)) (vL vT g' : Value) (md : Mem) (bd : Bud), Hid (Twin wx S MA A GB MB C MC BC FB DB s m b Nd vL vT g' md bd) ∧ Hid (Upd (fun _ => False) w wx) ∧ Hid (wx.heap[g]? = some (.cells #[.int .i64 d, .int .i64 q, .int .i64 f, .bool wb] 40 (0, 0))))
        case first =>
          have TXd := Lib.hid (TX.out.still (Upd.refl (fun _ => False) W).drew)
          have d1 : W.drew.cell? ⟨g, 1, none⟩ = some (.int .i64 q) := o1
          have d2 : W.drew.cell? ⟨g, 2, none⟩ = some (.int .i64 f) := o2
          have d3 : W.drew.cell? ⟨g, 3, none⟩ = some (.bool wb) := o3
          by_cases d01 : d = 0 ∨ d = 1
          · rcases d01 with rfl | rfl
            all_goals
              as_aux_lemma =>
                go_wp2_with fail
                go_region_held3 (fun w' => w'.cell? ⟨g, 1, none⟩ = some (.int .i64 q) ∧ w'.cell? ⟨g, 2, none⟩ = some (.int .i64 f) ∧ w'.cell? ⟨g, 3, none⟩ = some (.bool wb))
                    (first
                      | exact ⟨o1, o2, o3⟩
                      | exact ⟨d1, d2, d3⟩
                      | exact ⟨q1, q2, q3⟩
                      | exact ⟨p1, p2, p3⟩)
                    (first
                      | (go_at_call 9; refine (twin_map TXd.out q f wb Hwf.out).mono ?_; rintro e w3 ⟨x, rfl, U3, cR⟩; have p1 := U3.cell d1 hg3.out; have p2 := U3.cell d2 hg3.out; have p3 := U3.cell d3 hg3.out)
                      | (go_at_call 10; refine cR.mono ?_; rintro e w4 ⟨rfl, s', m', b'', Nd', vL', vT', g', md', bd', TW', U4⟩; have q1 := U4.cell d1 hgT.out; have q2 := U4.cell d2 hgT.out; have q3 := U4.cell d3 hgT.out))
                go_wp2_with fail
                go_meet
                exact ⟨by simp, _, _, _, _, _, _, _, _, _, Lib.hid TW', Lib.hid (VX.out.drew.since U4 NB.out), Lib.hid (U4.at HX.out hgT.out)⟩
          · obtain ⟨da, db⟩ := not_or.1 d01
            clear d01
            by_cases d2' : d = 2
            · subst d2'
              go_wp2_with fail
              refine (twin_unmap TX.out q).mono ?_
              rintro e w3 ⟨f3, x3, rfl, U3, cR⟩
              have p1 := U3.cell o1 hg3.out
              go_wp2_with fail
              refine cR.mono ?_
              rintro e w4 ⟨rfl, s', m', b'', Nd', vL', vT', g', md', bd', TW', U4⟩
              go_wp2_with fail
              go_meet
              exact ⟨by simp, _, _, _, _, _, _, _, _, _, Lib.hid TW', Lib.hid (VX.out.since U4 NB.out), Lib.hid (U4.at HX.out hgT.out)⟩
            · go_wp2_with fail
              go_region_held3 (fun w' => w'.cell? ⟨g, 1, none⟩ = some (.int .i64 q) ∧ w'.cell? ⟨g, 2, none⟩ = some (.int .i64 f) ∧ w'.cell? ⟨g, 3, none⟩ = some (.bool wb))
                (first
                  | exact ⟨o1, o2, o3⟩
                  | exact ⟨d1, d2, d3⟩
                  | exact ⟨q1, q2, q3⟩
                  | exact ⟨p1, p2, p3⟩)
                (first
                  | (go_at_call 13; refine (twin_protect TXd.out q wb).mono ?_; rintro e w3 ⟨x, rfl, U3, cR⟩; have p1 := U3.cell d1 hg3.out; have p2 := U3.cell d2 hg3.out; have p3 := U3.cell d3 hg3.out)
                  | (go_at_call 14; refine cR.mono ?_; rintro e w4 ⟨rfl, s', m', b'', Nd', vL', vT', g', md', bd', TW', U4⟩; have q1 := U4.cell d1 hgT.out; have q2 := U4.cell d2 hgT.out; have q3 := U4.cell d3 hgT.out))
              go_wp2_with fail
              go_meet
              exact ⟨by simp, _, _, _, _, _, _, _, _, _, Lib.hid TW', Lib.hid (VX.out.drew.since U4 NB.out), Lib.hid (U4.at HX.out hgT.out)⟩
        case rest =>
          obtain ⟨rfl, s, m, b', Nd, vL, vT, gg, md, bd, TW, V, HX⟩ := hcut
          clear TX VX o0 o1 o2 o3 hg3
          generalize wc = W at *
          obtain ⟨o0, o1, o2, o3⟩ := ob4 HX.out
          clear o0 o2 o3
          go_wp2_with fail
          refine (spc_find TW.out.P q).mono ?_
          rintro e w3 ⟨rfl, u3⟩
          have c1 := u3.cell o1 id
          have TW3 := Lib.hid (TW.out.still u3)
          have V3 := Lib.hid (V.out.trans u3)
          have cF := Lib.hid (fun (W : World) (Q : DSp W C MC BC FB s Nd vL vT gg md bd) => rfindS_any C MC BC 0 s (Nd.map (tbOf s)) vL vT md.n Q.I.ok q W Q.D.a)
          generalize s.findX q = X at cF ⊢
          generalize s.findE q = G at cF ⊢
          obtain ⟨gv, gr, gt, gf⟩ := G
          clear TW V u3 HX o1
          have a4 := heap_alloc_last w3 (.cells #[.bool gv, .bool gr, .bool gt, .int .i64 gf] 46)
          have u4 := (Upd.refl (fun _ => False) w3).alloc (.cells #[.bool gv, .bool gr, .bool gt, .int .i64 gf] 46)
          have c4 := u4.cell c1 id
          go_upto_region 24 with fail
          go_upto_region 25 with fail
          have TW4 := Lib.hid (TW3.out.still u4)
          have V4 := Lib.hid (V3.out.trans u4)
          generalize w3.alloc (.cells #[.bool gv, .bool gr, .bool gt, .int .i64 gf] 46) = w4 at a4 TW4 V4 c4 ⊢
          generalize w3.heap.size = D1 at a4 ⊢
          clear TW3 V3 u4 c1
          have A4 := Lib.hid a4
          clear a4
          go_wp2_with fail
          refine (cF.out w4 TW4.out.Q).mono ?_
          rintro e w5 ⟨rfl, u5⟩
          have TW5 := Lib.hid (TW4.out.still u5)
          have V5 := Lib.hid (V4.out.trans u5)
          have A5 := Lib.hid (u5.at A4.out id)
          have a6 := heap_alloc_last w5 (.cells #[.bool gv, .bool gr, .bool gt, .int .i64 gf] 46)
          have u6 := (Upd.refl (fun _ => False) w5).alloc (.cells #[.bool gv, .bool gr, .bool gt, .int .i64 gf] 46)
          clear TW4 V4 c4 A4 u5 cF
          go_upto_region 25 with fail
          go_upto_region 26 with fail
          have TW6 := Lib.hid (TW5.out.still u6)
          have V6 := Lib.hid (V5.out.trans u6)
          have A6 := Lib.hid (u6.at A5.out id)
          generalize w5.alloc (.cells #[.bool gv, .bool gr, .bool gt, .int .i64 gf] 46) = w6 at a6 TW6 V6 A6 ⊢
          generalize w5.heap.size = D2 at a6 ⊢
          clear TW5 V5 u6 A5
          have B6 := Lib.hid a6
          clear a6
          go_wp2_with fail
          refine (spc_pages TW6.out.P).mono ?_
          rintro e w7 ⟨v7, rfl, row7, u7⟩
          obtain ⟨o7, c7, rfl⟩ := wk_slice row7
          have TW7 := Lib.hid (TW6.out.still u7)
          have u67 := Lib.hid u7
          have Row7 := Lib.hid row7
          clear row7 u7
          go_wp2_with fail
          refine (rpagesS_any C MC BC 0 s _ vL vT w7 TW7.out.Q.D.a).mono ?_
          rintro e w8 ⟨v8, rfl, row8, u8⟩
          obtain ⟨o8, c8, rfl⟩ := wk_slice row8
          have TW8 := Lib.hid (TW7.out.still u8)
          have Row7' := Lib.hid (wk_kept Row7.out u8 (fun _ _ => id))
          have Row8 := Lib.hid row8
          have u68 := Lib.hid (u67.out.trans u8)
          have Hl := Lib.hid (show s.pgi.length ≤ 100000 from by rw [s.pgi_len]; have := s.pgs_len; omega)
          clear row8 u8 Row7 TW7 u67 TW6
          go_wp2_with fail
          refine (tsame_any s.pgi s.pgi _ _ _ _ _ _ _ Row7'.out Row8.out Hl.out Hl.out).mono ?_
          rintro e w9 ⟨rfl, q9, rfl⟩
          have u9 := (Upd.refl (fun _ => False) w8).drewN q9
          have TW9 := Lib.hid (TW8.out.still u9)
          have u69 := Lib.hid (u68.out.trans u9)
          clear TW8 u68 Row7' Row8 Hl u9
          generalize w8.drewN q9 = w9 at TW9 u69 ⊢
          go_wp2_with fail
          refine (spc_tables TW9.out.P).mono ?_
          rintro e wa ⟨va, rfl, rowa, ua⟩
          obtain ⟨oa, ca, rfl⟩ := wk_slice rowa
          have TWa := Lib.hid (TW9.out.still ua)
          have u6a := Lib.hid (u69.out.trans ua)
          have Rowa := Lib.hid rowa
          clear rowa ua TW9 u69
          go_wp2_with fail
          refine (rtablesS_any C MC BC FB s Nd vL vT gg md bd wa TWa.out.Q).mono ?_
          rintro e wb' ⟨vb, rfl, rowb, ub⟩
          obtain ⟨ob, cb, rfl⟩ := wk_slice rowb
          have TWb := Lib.hid (TWa.out.still ub)
          have u6b := Lib.hid (u6a.out.trans ub)
          have Rowa' := Lib.hid (wk_kept Rowa.out ub (fun _ _ => id))
          have Rowb := Lib.hid rowb
          have Hl := Lib.hid (show s.tbs.length ≤ 100000 from by rw [s.tbs_len]; have := TWb.out.P.I.tabs_bd; omega)
          clear rowb ub Rowa TWa u6a
          go_wp2_with fail
          refine (tsame_any s.tbs s.tbs _ _ _ _ _ _ _ Rowa'.out Rowb.out Hl.out Hl.out).mono ?_
          rintro e wc' ⟨rfl, qc, rfl⟩
          have uc := (Upd.refl (fun _ => False) wb').drewN qc
          have TWc := Lib.hid (TWb.out.still uc)
          have u6c := Lib.hid (u6b.out.trans uc)
          clear TWb u6b Rowa' Rowb Hl uc
          generalize wb'.drewN qc = wd at TWc u6c ⊢
          have Ac := Lib.hid (show EntAt wd D1 gv gr gt gf from u6c.out.at A6.out id)
          have Bc := Lib.hid (show EntAt wd D2 gv gr gt gf from u6c.out.at B6.out id)
          have Vc := Lib.hid (V6.out.trans u6c.out)
          have he := run_eqE gv gr gt gf gv gr gt gf true (by simp)
          clear A6 B6 V6 u6c
          have cL := Lib.hid (bLeft_any A MA GB m b' wd TWc.out.P.D.B TWc.out.P.D.M TWc.out.P.D.n)
          have hlr := Lib.hid TWc.out.left
          go_upto_region 28 with fail
          go_wp2_with (first
            | (refine wpList_load_sz (by kernel_rfl) 46 (.tmp 22) rfl D1 0 rfl [.bool gv, .bool gr, .bool gt, .int .i64 gf] _ Ac.out.range Tryz.underlying46 rfl 4 (ent_len _ _ _ _) size_ent ?_)
            | (refine wpList_load_sz (by kernel_rfl) 46 (.tmp 24) rfl D2 0 rfl [.bool gv, .bool gr, .bool gt, .int .i64 gf] _ Bc.out.range Tryz.underlying46 rfl 4 (ent_len _ _ _ _) size_ent ?_))
          refine cL.out.mono ?_
          rintro e we ⟨rfl, ue⟩
          have TWe := Lib.hid (TWc.out.still ue)
          have Ve := Lib.hid (Vc.out.trans ue)
          clear TWc Vc Ac Bc he cL ue
          go_wp2_with fail
          refine (rleft_any BC MC FB gg bd we TWe.out.Q.D.d).mono ?_
          rintro e wf' ⟨rfl, rfl⟩
          rw [hlr.out]
          clear hlr
          obtain ⟨M, hM⟩ : ∃ M, M = 16 * md.n := ⟨_, rfl⟩
          have HM := Lib.hid hM
          have hM8 : M ≤ 4096 := by have := TWe.out.Q.D.r.hi; omega
          have c9 := TWe.out.Q.D.r.cellA
          rw [← hM] at c9
          have cB := Lib.hid (fun k (hk : k < M) => TWe.out.Q.D.r.cellB k (by rw [← HM.out]; exact hk))
          have cR := Lib.hid (fun k => read_any MA m k we TWe.out.P.D.M)
          have hrd := Lib.hid (show ∀ k : Nat, k < M → m.rd k = md.at k from fun k hk => by
            have h1 : m.has k = true := decide_eq_true (by have := TWe.out.n; have := HM.out; omega)
            unfold Mem.rd Mem.at
            rw [h1, if_pos rfl, Int.toNat_natCast, TWe.out.words])
          clear hM
          go_wp2_with fail
          go_loopw [28] (fun t w9 => ∃ k : Nat, k ≤ M ∧ t = .int .i64 k ∧ w9 = we) (fun t _ => M - (intOf t).toNat)
          case atStart => exact ⟨0, by omega, rfl, rfl⟩
          case round =>
            obtain ⟨k, hk, rfl, rfl⟩ := hrel
            by_cases hlt2 : k < M
            · have cb := cB.out k hlt2
              have hr := hrd.out k hlt2
              generalize md.at k = x at cb hr
              go_wp2_with fail
              refine (cR.out k).mono ?_
              rintro e w9 ⟨rfl, rfl⟩
              rw [hr]
              clear hr
              go_wp2
              go_roundw
              case rel => exact ⟨k + 1, by omega, by go_num, trivial⟩
              case measure => simp [intOf]; omega
            · have ek : k = M := by omega
              clear cB cR hrd
              go_wp2
              go_roundw
              case rel => exact ⟨i + 1, s, m, b', Nd, vL, vT, gg, md, bd, by omega, by omega, by go_num, TWe, Ve⟩
              case measure => simp [intOf]; omega
      · have e : i = 50 := by omega
        subst e
        clear R
        go_wp2_with fail
        refine (twin_close TW.out).mono ?_
        rintro e x1 ⟨v1, rfl, row1, z1, c2⟩
        obtain ⟨o1, cap1, rfl⟩ := wk_slice row1
        have C2 := Lib.hid c2
        clear c2 row1 z1
        go_wp2_with fail
        refine C2.out.mono ?_
        rintro e x2 ⟨v2, rfl, row1, row2, U2, x, cL1, cL2⟩
        obtain ⟨o2, cap2, rfl⟩ := wk_slice row2
        have hl := Lib.hid (show s.frs.length ≤ 100000 from by have := s.frs_len; have := s.pgs_len; omega)
        have V2 := Lib.hid (V.out.since U2 NB.out)
        have CL1 := Lib.hid cL1
        have CL2 := Lib.hid cL2
        have R1 := Lib.hid row1
        have R2 := Lib.hid row2
        clear TW V NB C2 U2 cL1 cL2 row1 row2
        go_wp2_with fail
        refine (tsame_any s.frs s.frs _ _ _ _ _ _ _ R1.out R2.out hl.out hl.out).mono ?_
        rintro e x3 ⟨rfl, q, rfl⟩
        have u3 := Lib.hid ((Upd.refl (fun _ => False) x2).drewN q)
        clear R1 R2 hl
        go_wp2_with fail
        refine (CL1.out _ u3.out).mono ?_
        rintro e x4 ⟨rfl, u4⟩
        have u5 := Lib.hid (u3.out.trans u4)
        clear u3 u4 CL1
        go_wp2_with fail
        refine (CL2.out _ u5.out).mono ?_
        rintro e x5 ⟨rfl, rfl⟩
        go_wp2
        go_ret
        exact ⟨rfl, (V2.out.trans u5.out).below (Nat.le_refl _) fun _ _ => id⟩
    · have e : i = n := by omega
      subst e
      clear R
      go_wp2_with fail
      refine (twin_close TW.out).mono ?_
      rintro e x1 ⟨v1, rfl, row1, z1, c2⟩
      obtain ⟨o1, cap1, rfl⟩ := wk_slice row1
      have C2 := Lib.hid c2
      clear c2 row1 z1
      go_wp2_with fail
      refine C2.out.mono ?_
      rintro e x2 ⟨v2, rfl, row1, row2, U2, x, cL1, cL2⟩
      obtain ⟨o2, cap2, rfl⟩ := wk_slice row2
      have hl := Lib.hid (show s.frs.length ≤ 100000 from by have := s.frs_len; have := s.pgs_len; omega)
      have V2 := Lib.hid (V.out.since U2 NB.out)
      have CL1 := Lib.hid cL1
      have CL2 := Lib.hid cL2
      have R1 := Lib.hid row1
      have R2 := Lib.hid row2
      clear TW V NB C2 U2 cL1 cL2 row1 row2
      go_wp2_with fail
      refine (tsame_any s.frs s.frs _ _ _ _ _ _ _ R1.out R2.out hl.out hl.out).mono ?_
      rintro e x3 ⟨rfl, q, rfl⟩
      have u3 := Lib.hid ((Upd.refl (fun _ => False) x2).drewN q)
      clear R1 R2 hl
      go_wp2_with fail
      refine (CL1.out _ u3.out).mono ?_
      rintro e x4 ⟨rfl, u4⟩
      have u5 := Lib.hid (u3.out.trans u4)
      clear u3 u4 CL1
      go_wp2_with fail
      refine (CL2.out _ u5.out).mono ?_
      rintro e x5 ⟨rfl, rfl⟩
      go_wp2
      go_ret
      exact ⟨rfl, (V2.out.trans u5.out).below (Nat.le_refl _) fun _ _ => id⟩
/-! ### the row's frame, and its tied card -/
theorem own : ownKnob Tryz.prog.godebug = none := by kernel_rfl
theorem laidOut : laidOutB Tryz.prog = true := by kernel_rfl
/-- the door's own heap meets the condition -/
theorem door_met (os : Os) (args : Array Value) : laidMetH Tryz.prog Rows.tablesPlaysRow.laid ((World.doorLaid Tryz.prog 400 os).forCall (fun _ _ => 0) ⟨#[], args, []⟩).memory :=
  laidMetH_of_parts3 (fuel := 8) (laidMet_of_run' 8 (by kernel_rfl) (by kernel_rfl)) (by kernel_rfl) (by kernel_rfl)
set_option linter.unusedVariables false in
set_option maxRecDepth 100000 in
theorem lifted (os : Os) (started : os.Started) (H : Type) (enc : TypeId × Value → H) :
    ReturnsInHanded {} Tryz.checked os 3 .any (fun w args => (Rows.tablesPlaysSpec.pre enc Tryz.prog Tryz.f3 [] false w args ∧ laidMetH Tryz.prog Rows.tablesPlaysRow.laid w) ∧ sizedMet enc Tryz.prog Tryz.f3 (OpenSpec.ofChange Rows.tablesPlaysSpec) false w args)
      (Rows.tablesPlaysSpec.post enc Tryz.prog Tryz.f3 false true false false) := by
  refine returnsInHanded_of_change_and (C := Tryz.checked) (X := fun w _ => laidMetH Tryz.prog Rows.tablesPlaysRow.laid w) (fun _ _ _ hh h => h.of_heap hh) own started (by kernel_rfl) Tryz.func3
    (ChangeSpec.witness_shaped (enc := enc) (C := Tryz.checked) (os := os) (X := fun w _ => laidMetH Tryz.prog Rows.tablesPlaysRow.laid w) false (World.doorLaid Tryz.prog 400 os) #[.int .i64 0, .slice none 0 0] 8 rfl (World.shaped_of_RefB (by kernel_rfl) (by kernel_rfl)) (by kernel_rfl) (by kernel_rfl) (by kernel_rfl) (door_met os _)) ?_
  intro W base args ds gs before hval0 hW _ _ hL _
  have hLd := hL
  rw [MakeChecks.laidMetH_plain _ _ _ (by kernel_rfl)] at hLd
  have T0 : Fr.VarIs W 0 (Fr.datCells (Rows.laid_trunnion_entry_fields (H := Unit))) := Fr.varIs_of_laid (t := 156) (ks := [some .i64, some .i64, some .i64, some .i64, some .i64, some .i64, some .i64, some .i64, some .i64, some .i64, some .i64, some .i64, some .i64, some .i64, some .i64, some .i64, some .i64, some .i64]) 12 (hLd : laidMet Tryz.prog Rows.tablesPlaysRow.laid W) "trunnion/entry.fields" (Rows.laid_trunnion_entry_fields (H := Unit)) (by simp [Rows.tablesPlaysRow]) (by kernel_rfl) (by kernel_rfl) (by kernel_rfl)
  clear hL hLd
  have hval : ∀ (j : Nat) t v, Tryz.f3.params[j]? = some t → args[j]? = some v → Value.okWide Tryz.prog W .any base t v := hval0
  have hW' := hW
  obtain ⟨p, q, hA0, hV, rfl, hfz, hnd⟩ := hW
  have hA : DataW.TrodAll enc Tryz.prog W 0 (fun _ => true) true Tryz.f3.params.toList args.toList ds p := hA0
  rw [Tryz.params3] at hA hval
  obtain ⟨v0, vs0, d0, ds0, p0, q0, hargs, rfl, rfl, h0, r0⟩ := trodAll_cons hA
  obtain ⟨v1, vs1, d1, ds1, p1, q1, rfl, rfl, rfl, h1, r1⟩ := trodAll_cons r0
  obtain ⟨rfl, rfl, rfl⟩ := trodAll_nil r1
  obtain rfl : args = #[v0, v1] := by cases args; simp_all
  obtain ⟨rfl, rfl⟩ := trodVars_none hV
  have k0 := h0
  have lt0 : ∀ x ∈ p0, x.block < W.heap.size := by obtain ⟨m, hm⟩ := k0; exact DataW.trod_lt m _ _ _ hm
  obtain ⟨a0, rfl, rfl, rfl, w0⟩ := open_int Tryz.underlying3 (hval 0 3 v0 rfl rfl) h0
  have k1 := h1
  have lt1 : ∀ x ∈ p1, x.block < W.heap.size := by obtain ⟨m, hm⟩ := k1; exact DataW.trod_lt m _ _ _ hm
  obtain ⟨ao1, n1, cap1, b1, of1, E1, rfl, w1⟩ := Fr.open_rows 12 [some .i64, some .i64, some .i64, none] Tryz.underlying22 (by kernel_rfl) (by kernel_rfl) (by decide) (hval 1 22 v1 rfl rfl) h1
  clear hA0 hval0
  refine (walk a0 ao1 n1 cap1 b1 of1 E1 w0 W w1 T0).mono fun e W' ⟨he, bel⟩ => ?_
  subst he
  exact ⟨_, rfl, _, _, _, [], _, [], hW', trodAll_mk1 (shut_bool Tryz.underlying4 _), (trodAll_cons_mk (Below.trod laidOut (by kernel_rfl) (of_decide_eq_true (by kernel_rfl)) k0 bel lt0) (trodAll_cons_mk (Below.trod laidOut (by kernel_rfl) (of_decide_eq_true (by kernel_rfl)) k1 bel lt1) trodAll_mk0)), rfl, bel.frame _, fun h => by cases h⟩

theorem over : Rows.tablesPlaysRow.holds Tryz.pinned (OpenSpec.ofChange Rows.tablesPlaysSpec) :=
  OpenClaim.holds_of_wide 3 Tryz.f3 rfl rfl rfl rfl rfl rfl rfl ⟨rfl, rfl, rfl, rfl, rfl⟩ rfl rfl rfl rfl rfl (by kernel_rfl) Tryz.func3 (by kernel_rfl)
    (of_decide_eq_true (by kernel_rfl)) (by unfold Func.isWrapper; first | (rw [if_pos (by decide +kernel)]; kernel_rfl) | (rw [if_neg (by decide +kernel)]; exact ⟨rfl, rfl⟩))
    (fun os started H enc _ => lifted os started H enc)

theorem proved : Rows.TablesPlaysCardSaid :=
  Claim7.holds_tied_plain_at .later [] [.data] true (true, "6d9e54182ce71c571704ea150121f86bafcea1e851136e0b035e9560181ee5b6") false
    over (fun _ h => by cases h) (by kernel_rfl) (fun _ h => by cases h) tablesPlays_row_tie rfl ⟨rfl, rfl⟩ (by kernel_rfl) rfl
    (fun f fn hf hfn => by
      obtain rfl : f = 3 := Option.some.inj ((show Tryz.prog.funcNamed "trunnion/trunnionlaw08.TablesPlays" = some 3 by kernel_rfl).symm.trans hf) |>.symm
      obtain rfl : fn = Tryz.f3 := (Option.some.inj (Tryz.func3.symm.trans hfn)).symm
      exact ⟨by kernel_rfl, fun j t ht => by
        rw [Tryz.params3] at ht
        have hm : t ∈ [3, 22] := by simpa using Array.mem_of_getElem? ht
        have hall : ([3, 22].all fun u => !Tryz.prog.wantsStandIn u) = true := by kernel_rfl
        exact (show Tryz.prog.wantsStandIn t = false by simpa using List.all_eq_true.1 hall t hm)⟩)
    (by kernel_rfl)
end Go.Proofs.YtdapmcclplfpfaaGreatDoor.tablesPlays
