/-
  Proved: trunnionlaw08.TablesBack answers true for every input: whatever pages are mapped and unmapped, what is refused changes nothing of pages, tables and what is free, free frames and tables are all frames at all times, and behind Close all frames are free.
  Conditions: package entry's table of fields starts as the program's text lays it (the card ties it).
-/
import Derived.Test.YtpfpcmadhbejiaaDoorCards
import Derived.Test.YtpfpcmadhbejiaaDoorTie
import Derived.SevenTiedAt
import Derived.LaidMore
import Derived.Stop.Joined
import Derived.Deep.DeepCutAuto
import Derived.Deep.CutBlock
import Derived.Deep.RegionHeld3
import Derived.Test.YtpfpcmadhbejiaaDoorPart7
namespace Go.Proofs.YtpfpcmadhbejiaaDoor.tablesBack
open Go.ChangeShapes Go.WideShapes Go.ChangeAt Go.RowKit Go.Shelf Go.Sort
set_option linter.unusedVariables false
set_option linter.unusedSimpArgs false

/-- what a round leaves -/
structure Rnd (s s' : Sp) (b b' : Bud) (x : Int) : Prop where
  no : x ≠ 0 → s' = s ∧ b' = b
  yes : x = 0 → s.pgi ≠ s'.pgi
theorem rnd_map {s s' : Sp} {m m' : Mem} {b b' : Bud} {Y : Nat × Nat → Prop} {q f : Int} {wb : Bool} {x : Int} (h : MapR s m b Y q f wb x s' m' b') : Rnd s s' b b' x := by
  rcases h.r with ⟨h0, h1, _, h2⟩ | ⟨h0, qn, _, hq, _, hv, _, _, _, hE⟩
  · exact ⟨fun _ => ⟨h1, h2⟩, fun e => absurd e h0⟩
  · exact ⟨fun e => absurd h0 e, fun _ => Sp.pgi_ne hq (by rw [hv, hE, if_pos rfl]; simp)⟩
theorem rnd_un {s s' : Sp} {m m' : Mem} {b b' : Bud} {Y : Nat × Nat → Prop} {q f x : Int} (h : UnR s m b Y q f x s' m' b') : Rnd s s' b b' x := by
  rcases h.r with ⟨h0, _, h1, _, h2⟩ | ⟨h0, qn, _, hq, hv, _, _, hE⟩
  · exact ⟨fun _ => ⟨h1, h2⟩, fun e => absurd e h0⟩
  · exact ⟨fun e => absurd h0 e, fun _ => Sp.pgi_ne hq (by rw [hv, hE, if_pos rfl]; simp [En.zero])⟩
set_option maxRecDepth 100000 in
set_option maxHeartbeats 4000000 in
theorem walk (N : Int) (ao : Option Addr) (n cap b off : Nat) (E : Nat → Nat → Value) (_wN : (Lit.int .i64 N).wf = true)
    (w : World) (R : Fr.RowArg w ao n b off topKs E) (T0 : Fr.VarIs w 0 (Fr.datCells (Rows.laid_trunnion_entry_fields (H := Unit)))) :
    Calls Tryd.prog 4 #[.int .i64 N, .slice ao n cap] w fun e w' => e = .returned (.bool true) ∧ Below w.heap.size w w' := by
  have T := tab_of T0
  have hmost := R.most
  clear T0 _wN
  go_enter Tryd.func4, Tryd.ntmps4
  go_wp2_with fail
  refine (tawake_any _ T).mono ?_
  rintro e w1 ⟨rfl, U1⟩
  go_wp2_with fail
  refine (tbegun_any N _ (T.kept U1)).mono ?_
  rintro e w2 (⟨hno, rfl, U2⟩ | ⟨F, S, MA, A, GB, MB, s, m, bb, hF, hF1, hF2, rfl, P2, N2, hmn, hres, hl, hE, hr, U2⟩)
  · have U := U1.trans U2
    clear hno hmost
    go_wp2
    go_ret
    exact ⟨rfl, U.below (Nat.le_refl _) fun _ _ => id⟩
  have U := U1.trans U2
  have hS1 := Lib.hid (show ∀ j, j = GB ∨ j = MB → w.heap.size ≤ j from by have := U1.size; rintro j (rfl | rfl); exact Nat.le_trans this N2.gb; exact Nat.le_trans this N2.mb)
  clear hF hl hE hr U1 U2 N2 T
  by_cases hn : 40 < n
  · clear hmost
    go_wp2
    go_ret
    exact ⟨rfl, U.below (Nat.le_refl _) fun _ _ => id⟩
  have hn' : n ≤ 40 := by omega
  clear hn hmost
  have hnn : ¬ (40 : Int) < n := by omega
  have HF := Lib.hid (And.intro hF1 hF2)
  clear hF1 hF2
  go_wp2_with fail
  go_loopw [9] (fun t wr => ∃ (k : Nat) (s : Sp) (m : Mem) (bb : Bud), k ≤ n ∧ t = .int .i64 k ∧ Spc wr S MA A GB MB s m bb (fun _ => False) ∧ Upd (fun _ => False) w wr ∧ Hid (m.n = F ∧ bb.res = 0)) (fun t _ => n - (intOf t).toNat)
  case atStart => exact ⟨0, s, m, bb, by omega, rfl, P2, U, Lib.hid ⟨hmn, hres⟩⟩
  case round =>
    clear P2 U hmn hres
    obtain ⟨k, s, m, bb, hk, rfl, P, U, HI⟩ := hrel
    by_cases hlt : k < n
    · have hlts := P.lts
      have hb3 := Lib.hid (show ∀ j, wr.heap.size ≤ j → ¬ (j = GB ∨ j = MB) from fun j hj => by omega)
      clear hlts
      go_wp2_with fail
      refine (spc_pages P).mono ?_
      rintro e w3 ⟨v3, rfl, row3, u3⟩
      obtain ⟨o3, c3, rfl⟩ := wk_slice row3
      have P3 := P.still u3
      have U3 := U.trans u3
      go_wp2_with fail
      refine (spc_tables P3).mono ?_
      rintro e w4 ⟨v4, rfl, row4, u4⟩
      obtain ⟨o4, c4, rfl⟩ := wk_slice row4
      have P4 := P3.still u4
      have U4 := U3.trans u4
      have Row3 := Lib.hid (wk_kept row3 u4 (fun _ _ => id))
      have Row4 := Lib.hid (row_mono row4 u3.size)
      have Hl3 := Lib.hid (show s.pgi.length ≤ 100000 from by rw [s.pgi_len]; have := s.pgs_len; omega)
      have Hl4 := Lib.hid (show s.tbs.length ≤ 100000 from by rw [s.tbs_len]; have := P.I.tabs_bd; omega)
      clear P P3 U U3 u3 u4 row3 row4
      go_wp2_with fail
      refine (bLeft_any A MA GB m bb _ P4.D.B P4.D.M P4.D.n).mono ?_
      rintro e w5 ⟨rfl, u5⟩
      have P5 := P4.still u5
      have U5 := U4.trans u5
      have Row3' := Lib.hid (wk_kept Row3.out u5 (fun _ _ => id))
      have Row4' := Lib.hid (wk_kept Row4.out u5 (fun _ _ => id))
      clear P4 U4 u5 Row3 Row4
      obtain ⟨d, q, f, wb, hop, -, hwf⟩ := top4 (rows_below R U5) k hlt
      have hao := R.place (by omega)
      subst hao
      have Hwf := Lib.hid hwf
      clear hwf
      have c0 := hop.c0
      go_upto_if 66 with fail
      clear c0
      go_cut [13, 14, 15] from 49 to 136 (fun s13 s14 s15 wx => ∃ (x : Int) (s' : Sp) (m' : Mem) (b' : Bud), s13 = .int .i64 x ∧ Spc wx S MA A GB MB s' m' b' (fun _ => False) ∧ Upd (fun k => k = GB ∨ k = MB) w5 wx ∧ Hid (Rnd s s' bb b' x) ∧ Hid (m'.n = F ∧ b'.res = 0))
      case first =>
        have c1 := hop.c1
        by_cases h2 : d = 2
        · subst h2
          go_wp2_with fail
          refine (spc_unmap P5 q).mono ?_
          rintro e w6 ⟨f6, x6, s6, m6, b6, rfl, P6, U6, hR⟩
          have hR1 := Lib.hid (rnd_un hR)
          have hR2 := Lib.hid (show m6.n = F ∧ b6.res = 0 from ⟨hR.n.trans HI.out.1, hR.res.trans HI.out.2⟩)
          clear hop c1 P5 hR
          go_wp2_with fail
          go_meet
          exact ⟨x6, s6, m6, b6, rfl, P6, U6, hR1, hR2⟩
        · go_upto_region 15 with fail
          clear c1
          refine wp_region_tail 16 (by kernel_rfl) (by kernel_rfl) ?_
          simp only [List.take_succ_cons, List.take_zero, List.drop_succ_cons, List.drop_zero]
          intro w6 hw6
          have u6 : Upd (fun _ => False) w5 w6 := by rw [hw6]; exact (Upd.refl _ _).drew
          have ho6 := hop.kept u6 id
          have P6 := P5.still u6
          clear hw6 P5 hop
          have c1 := ho6.c1
          have c2 := ho6.c2
          have c3 := ho6.c3
          clear ho6
          repeat still_step
          refine wpStill_nil ?_
          go_wp2_with fail
          refine (spc_map P6 q f wb Hwf.out).mono ?_
          rintro e w7 ⟨x7, s7, m7, b7, rfl, P7, U7, hR⟩
          have hR1 := Lib.hid (rnd_map hR)
          have hR2 := Lib.hid (show m7.n = F ∧ b7.res = 0 from ⟨hR.n.trans HI.out.1, hR.res.trans HI.out.2⟩)
          have U8 := (u6.none (T := fun k => k = GB ∨ k = MB)).trans U7
          clear c1 c2 c3 P6 hR
          go_wp2_with fail
          go_meet
          exact ⟨x7, s7, m7, b7, rfl, P7, U8, hR1, hR2⟩
      case rest =>
        obtain ⟨x, s', m', b', rfl, P6, U6, HR, HI'⟩ := hcut
        rename_i w6 _ _
        have V6 := Upd.since U5 U6 hS1.out
        have row3 := wk_kept Row3'.out U6 (fun j hj => hb3.out j ((Row3'.out.lt j hj).1))
        have row4 := wk_kept Row4'.out U6 (fun j hj => hb3.out j ((Row4'.out.lt j hj).1))
        clear Row3' Row4' U5 U6 P5 hop
        go_wp2_with fail
        refine (spc_pages P6).mono ?_
        rintro e w7 ⟨v7, rfl, row7, u7⟩
        obtain ⟨o7, c7, rfl⟩ := wk_slice row7
        have P7 := P6.still u7
        have V7 := V6.trans u7
        have row3' := wk_kept row3 u7 (fun _ _ => id)
        have row4' := wk_kept row4 u7 (fun _ _ => id)
        have hl7 : s'.pgi.length ≤ 100000 := by rw [s'.pgi_len]; have := s'.pgs_len; omega
        clear P6 V6 row3 row4 u7
        go_wp2_with fail
        refine (tsame_any s.pgi s'.pgi _ _ _ _ _ _ _ row3' row7 Hl3.out hl7).mono ?_
        rintro e w8 ⟨rfl, q8, rfl⟩
        have u8 := (Upd.refl (fun _ => False) w7).drewN q8
        have P8 := P7.still u8
        have V8 := V7.trans u8
        have row4 := wk_kept row4' u8 (fun _ _ => id)
        clear row3' row7 row4' P7 V7 u8
        generalize w7.drewN q8 = w8 at P8 V8 row4 ⊢
        go_wp2_with fail
        refine (spc_tables P8).mono ?_
        rintro e w9 ⟨v9, rfl, row9, u9⟩
        obtain ⟨o9, c9, rfl⟩ := wk_slice row9
        have P9 := P8.still u9
        have V9 := V8.trans u9
        have row4' := wk_kept row4 u9 (fun _ _ => id)
        have hl9 : s'.tbs.length ≤ 100000 := by rw [s'.tbs_len]; have := P9.I.tabs_bd; omega
        clear P8 V8 row4 u9
        go_wp2_with fail
        refine (tsame_any s.tbs s'.tbs _ _ _ _ _ _ _ row4' row9 Hl4.out hl9).mono ?_
        rintro e w10 ⟨rfl, q10, rfl⟩
        have u10 := (Upd.refl (fun _ => False) w9).drewN q10
        have PA := P9.still u10
        have VA := V9.trans u10
        clear row4' row9 P9 V9 u10 hl9 hl7
        generalize w9.drewN q10 = wa at PA VA ⊢
        have hsum : Hid ((b'.left : Int) + s'.tbs.length = F ∧ m'.n = F ∧ b'.left ≤ 256 ∧ s'.tbs.length ≤ 273) := Lib.hid (by
          have h1 := PA.I.left_len
          have h2 := HI'.out
          have h3 := s'.tbs_len
          have h4 := PA.I.tabs_bd
          have h5 := HF.out
          omega)
        by_cases hx : x = 0
        · subst hx
          have h1 : Hid (decide (s.pgi = s'.pgi) = false) := Lib.hid (decide_eq_false (HR.out.yes rfl))
          rw [h1.out]
          generalize decide (s.tbs = s'.tbs) = D2
          go_wp2_with fail
          refine (bLeft_any A MA GB m' b' _ PA.D.B PA.D.M PA.D.n).mono ?_
          rintro e wb1 ⟨rfl, ub⟩
          have PB := PA.still ub
          have VB := VA.trans ub
          clear PA VA ub
          go_wp2_with fail
          refine (spc_tables PB).mono ?_
          rintro e wc1 ⟨vc, rfl, rowc, uc⟩
          obtain ⟨oc, cc, rfl⟩ := wk_slice rowc
          have PC := PB.still uc
          have VC := VB.trans uc
          clear PB VB uc rowc
          have hs1 : (b'.left : Int) + s'.tbs.length = F := hsum.out.1
          have hs2 : IntKind.i64.wrap ((b'.left : Int) + s'.tbs.length) = F := by rw [hs1, IntWalk.i64_in _ (by have := HF.out; omega)]
          have hs3 : IntKind.i64.wrap (F : Int) = F := IntWalk.i64_in _ (by have := HF.out; omega)
          go_wp2_with fail
          refine (frames_any MA m' _ PC.D.M).mono ?_
          rintro e wd ⟨rfl, rfl⟩
          rw [hsum.out.2.1]
          go_wp2
          exact ⟨⟨k + 1, s', m', b', by omega, by go_num, PC, VC, HI'⟩, by simp [intOf]; omega⟩
        · obtain ⟨rfl, rfl⟩ := HR.out.no hx
          have h1 : Hid (decide (s'.pgi = s'.pgi) = true) := Lib.hid (decide_eq_true rfl)
          have h2 : Hid (decide (s'.tbs = s'.tbs) = true) := Lib.hid (decide_eq_true rfl)
          rw [h1.out, h2.out]
          have hxb : (x == 0) = false := by simpa using hx
          go_wp2_with fail
          refine (bLeft_any A MA GB m' b' _ PA.D.B PA.D.M PA.D.n).mono ?_
          rintro e wb1 ⟨rfl, ub⟩
          have PB := PA.still ub
          have VB := VA.trans ub
          clear PA VA ub
          go_wp2_with fail
          refine (bLeft_any A MA GB m' b' _ PB.D.B PB.D.M PB.D.n).mono ?_
          rintro e wb2 ⟨rfl, ub⟩
          have PB' := PB.still ub
          have VB' := VB.trans ub
          clear PB VB ub
          go_wp2_with fail
          refine (spc_tables PB').mono ?_
          rintro e wc1 ⟨vc, rfl, rowc, uc⟩
          obtain ⟨oc, cc, rfl⟩ := wk_slice rowc
          have PC := PB'.still uc
          have VC := VB'.trans uc
          clear PB' VB' uc rowc
          have hs1 : (b'.left : Int) + s'.tbs.length = F := hsum.out.1
          have hs2 : IntKind.i64.wrap ((b'.left : Int) + s'.tbs.length) = F := by rw [hs1, IntWalk.i64_in _ (by have := HF.out; omega)]
          have hs3 : IntKind.i64.wrap (F : Int) = F := IntWalk.i64_in _ (by have := HF.out; omega)
          go_wp2_with fail
          refine (frames_any MA m' _ PC.D.M).mono ?_
          rintro e wd ⟨rfl, rfl⟩
          rw [hsum.out.2.1]
          go_wp2
          exact ⟨⟨k + 1, s', m', b', by omega, by go_num, PC, VC, HI'⟩, by simp [intOf]; omega⟩
    · obtain rfl : k = n := by omega
      clear hlt hk
      go_wp2_with fail
      refine (spc_pages P).mono ?_
      rintro e w3 ⟨v3, rfl, row3, u3⟩
      obtain ⟨o3, c3, rfl⟩ := wk_slice row3
      have P3 := P.still u3
      have U3 := U.trans u3
      rw [s.pgi_len]
      clear row3 P U u3
      go_wp2_with fail
      refine (spc_close P3).mono ?_
      rintro e w4 ⟨v4, m4, b4, rfl, row4, D4, U4, T4, F4, hG⟩
      obtain ⟨o4, c4, rfl⟩ := wk_slice row4
      have V4 := Upd.since U3 U4 hS1.out
      have hleft := none_left F4.bk hG
      have hl4 : b4.left = F := by have := F4.res; have := F4.bn; have := HI.out; have := P3.I.bn; omega
      have hm4 : m4.n = F := F4.n.trans HI.out.1
      have hbp := blocks_pos (b := b4) (by have := HF.out; omega)
      have Hl4 := Lib.hid hl4
      have Hm4 := Lib.hid hm4
      clear row4 P3 U3 U4 F4 hG hleft hl4 hm4
      go_wp2_with fail
      refine (bLeft_any A MA GB m4 b4 _ D4.B D4.M D4.n).mono ?_
      rintro e w5 ⟨rfl, u5⟩
      rw [Hl4.out]
      have D5 := D4.still u5
      go_wp2_with fail
      refine (frames_any MA m4 _ D5.M).mono ?_
      rintro e w6 ⟨rfl, rfl⟩
      rw [Hm4.out]
      go_wp2_with fail
      refine (bBlocks_any A MA GB m4 b4 _ D5.B D5.M D5.n).mono ?_
      rintro e w7 ⟨v7, rfl, row7, u7⟩
      obtain ⟨o7, c7, rfl⟩ := wk_slice row7
      have V7 := (V4.trans u5).trans u7
      clear row7
      generalize (blocks b4.F b4.n).length = L7 at hbp ⊢
      have hbi : (1 : Int) ≤ L7 := by omega
      go_wp2
      go_ret
      exact ⟨rfl, V7.below (Nat.le_refl _) fun _ _ => id⟩
/-! ### the row's frame, and its tied card -/
theorem own : ownKnob Tryd.prog.godebug = none := by kernel_rfl
theorem laidOut : laidOutB Tryd.prog = true := by kernel_rfl
/-- the door's own heap meets the condition -/
theorem door_met (os : Os) (args : Array Value) : laidMetH Tryd.prog Rows.tablesBackRow.laid ((World.doorLaid Tryd.prog 400 os).forCall (fun _ _ => 0) ⟨#[], args, []⟩).memory :=
  laidMetH_of_parts3 (fuel := 8) (laidMet_of_run' 8 (by kernel_rfl) (by kernel_rfl)) (by kernel_rfl) (by kernel_rfl)
set_option linter.unusedVariables false in
set_option maxRecDepth 100000 in
theorem lifted (os : Os) (started : os.Started) (H : Type) (enc : TypeId × Value → H) :
    ReturnsInHanded {} Tryd.checked os 4 .any (fun w args => (Rows.tablesBackSpec.pre enc Tryd.prog Tryd.f4 [] false w args ∧ laidMetH Tryd.prog Rows.tablesBackRow.laid w) ∧ sizedMet enc Tryd.prog Tryd.f4 (OpenSpec.ofChange Rows.tablesBackSpec) false w args)
      (Rows.tablesBackSpec.post enc Tryd.prog Tryd.f4 false true false false) := by
  refine returnsInHanded_of_change_and (C := Tryd.checked) (X := fun w _ => laidMetH Tryd.prog Rows.tablesBackRow.laid w) (fun _ _ _ hh h => h.of_heap hh) own started (by kernel_rfl) Tryd.func4
    (ChangeSpec.witness_shaped (enc := enc) (C := Tryd.checked) (os := os) (X := fun w _ => laidMetH Tryd.prog Rows.tablesBackRow.laid w) false (World.doorLaid Tryd.prog 400 os) #[.int .i64 0, .slice none 0 0] 8 rfl (World.shaped_of_RefB (by kernel_rfl) (by kernel_rfl)) (by kernel_rfl) (by kernel_rfl) (by kernel_rfl) (door_met os _)) ?_
  intro W base args ds gs before hval0 hW _ _ hL _
  have hLd := hL
  rw [MakeChecks.laidMetH_plain _ _ _ (by kernel_rfl)] at hLd
  have T0 : Fr.VarIs W 0 (Fr.datCells (Rows.laid_trunnion_entry_fields (H := Unit))) := Fr.varIs_of_laid (t := 131) (ks := [some .i64, some .i64, some .i64, some .i64, some .i64, some .i64, some .i64, some .i64, some .i64, some .i64, some .i64, some .i64, some .i64, some .i64, some .i64, some .i64, some .i64, some .i64]) 12 (hLd : laidMet Tryd.prog Rows.tablesBackRow.laid W) "trunnion/entry.fields" (Rows.laid_trunnion_entry_fields (H := Unit)) (by simp [Rows.tablesBackRow]) (by kernel_rfl) (by kernel_rfl) (by kernel_rfl)
  clear hL hLd
  have hval : ∀ (j : Nat) t v, Tryd.f4.params[j]? = some t → args[j]? = some v → Value.okWide Tryd.prog W .any base t v := hval0
  have hW' := hW
  obtain ⟨p, q, hA0, hV, rfl, hfz, hnd⟩ := hW
  have hA : DataW.TrodAll enc Tryd.prog W 0 (fun _ => true) true Tryd.f4.params.toList args.toList ds p := hA0
  rw [Tryd.params4] at hA hval
  obtain ⟨v0, vs0, d0, ds0, p0, q0, hargs, rfl, rfl, h0, r0⟩ := trodAll_cons hA
  obtain ⟨v1, vs1, d1, ds1, p1, q1, rfl, rfl, rfl, h1, r1⟩ := trodAll_cons r0
  obtain ⟨rfl, rfl, rfl⟩ := trodAll_nil r1
  obtain rfl : args = #[v0, v1] := by cases args; simp_all
  obtain ⟨rfl, rfl⟩ := trodVars_none hV
  have k0 := h0
  have lt0 : ∀ x ∈ p0, x.block < W.heap.size := by obtain ⟨m, hm⟩ := k0; exact DataW.trod_lt m _ _ _ hm
  obtain ⟨a0, rfl, rfl, rfl, w0⟩ := open_int Tryd.underlying3 (hval 0 3 v0 rfl rfl) h0
  have k1 := h1
  have lt1 : ∀ x ∈ p1, x.block < W.heap.size := by obtain ⟨m, hm⟩ := k1; exact DataW.trod_lt m _ _ _ hm
  obtain ⟨ao1, n1, cap1, b1, of1, E1, rfl, w1⟩ := Fr.open_rows 12 [some .i64, some .i64, some .i64, none] Tryd.underlying22 (by kernel_rfl) (by kernel_rfl) (by decide) (hval 1 22 v1 rfl rfl) h1
  clear hA0 hval0
  refine (walk a0 ao1 n1 cap1 b1 of1 E1 w0 W w1 T0).mono fun e W' ⟨he, bel⟩ => ?_
  subst he
  exact ⟨_, rfl, _, _, _, [], _, [], hW', trodAll_mk1 (shut_bool Tryd.underlying4 _), (trodAll_cons_mk (Below.trod laidOut (by kernel_rfl) (of_decide_eq_true (by kernel_rfl)) k0 bel lt0) (trodAll_cons_mk (Below.trod laidOut (by kernel_rfl) (of_decide_eq_true (by kernel_rfl)) k1 bel lt1) trodAll_mk0)), rfl, bel.frame _, fun h => by cases h⟩

theorem over : Rows.tablesBackRow.holds Tryd.pinned (OpenSpec.ofChange Rows.tablesBackSpec) :=
  OpenClaim.holds_of_wide 4 Tryd.f4 rfl rfl rfl rfl rfl rfl rfl ⟨rfl, rfl, rfl, rfl, rfl⟩ rfl rfl rfl rfl rfl (by kernel_rfl) Tryd.func4 (by kernel_rfl)
    (of_decide_eq_true (by kernel_rfl)) (by unfold Func.isWrapper; first | (rw [if_pos (by decide +kernel)]; kernel_rfl) | (rw [if_neg (by decide +kernel)]; exact ⟨rfl, rfl⟩))
    (fun os started H enc _ => lifted os started H enc)

theorem proved : Rows.TablesBackCardSaid :=
  Claim7.holds_tied_plain_at .later [] [.data] true (true, "8fbe12d87b591f72c90e963653a25df0b00f8d07ecf637b8a87be6f3bde5a51c") false
    over (fun _ h => by cases h) (by kernel_rfl) (fun _ h => by cases h) tablesBack_row_tie rfl ⟨rfl, rfl⟩ (by kernel_rfl) rfl
    (fun f fn hf hfn => by
      obtain rfl : f = 4 := Option.some.inj ((show Tryd.prog.funcNamed "trunnion/trunnionlaw08.TablesBack" = some 4 by kernel_rfl).symm.trans hf) |>.symm
      obtain rfl : fn = Tryd.f4 := (Option.some.inj (Tryd.func4.symm.trans hfn)).symm
      exact ⟨by kernel_rfl, fun j t ht => by
        rw [Tryd.params4] at ht
        have hm : t ∈ [3, 22] := by simpa using Array.mem_of_getElem? ht
        have hall : ([3, 22].all fun u => !Tryd.prog.wantsStandIn u) = true := by kernel_rfl
        exact (show Tryd.prog.wantsStandIn t = false by simpa using List.all_eq_true.1 hall t hm)⟩)
    (by kernel_rfl)
end Go.Proofs.YtpfpcmadhbejiaaDoor.tablesBack
