/-
  Proved: trunnionlaw09.TlbPlays answers true for every input: whatever calls are made one by one, the buffer answers and holds just what the document's own buffer does.
  Conditions: none.
-/
import Derived.Test.YtjkomkcjoooiiaaPart2
namespace Go.Proofs.Ytjkomkcjoooiiaa.tlbPlays
open Go.ChangeShapes Go.WideShapes Go.ChangeAt Go.RowKit
set_option linter.unusedVariables false
set_option linter.unusedSimpArgs false

theorem below_none {w w' : World} (h : Upd (fun _ => False) w w') : Below w.heap.size w w' := h.below (Nat.le_refl _) (fun _ _ e => e)
theorem upd_new {w wr w' : World} {A : Nat} (h : Upd (fun _ => False) w wr) (u : Upd (· = A) wr w') (hA : w.heap.size ≤ A) : Upd (fun _ => False) w w' :=
  ⟨u.os.trans h.os, u.tape.trans h.tape, u.output.trans h.output, Nat.le_trans h.size u.size, fun k hk _ => by
    rw [u.block k (Nat.lt_of_lt_of_le hk h.size) (by omega)]; exact h.block k hk id⟩
/-- both buffers say the same -/
structure Two (w wr : World) (A C : Nat) (B : Buf) : Prop where
  P : BufAt wr A B
  R : RB wr C B
  ok : B.Ok
  U : Upd (fun _ => False) w wr
  la : w.heap.size ≤ A
  lc : w.heap.size ≤ C
  ne : A ≠ C
theorem Two.kept {w wr w' : World} {A C : Nat} {B : Buf} (h : Two w wr A C B) (u : Upd (fun _ => False) wr w') : Two w w' A C B := ⟨h.P.kept u id, h.R.kept u id, h.ok, h.U.trans u, h.la, h.lc, h.ne⟩
theorem Two.step {w w1 w2 w3 : World} {A C : Nat} {B B' : Buf} (h : Two w w1 A C B) (hP : BufAt w2 A B') (u : Upd (· = A) w1 w2) (hR : RB w3 C B') (u' : Upd (· = C) w2 w3) (hok : B'.Ok) : Two w w3 A C B' :=
  ⟨hP.kept u' h.ne, hR, hok, upd_new (upd_new h.U u h.la) u' h.lc, h.la, h.lc, h.ne⟩
theorem box6 {w : World} {b t : Nat} {x0 x1 x2 x3 x4 x5 : Value} (h : w.heap[b]? = some (.cells #[x0, x1, x2, x3, x4, x5] t (0, 0))) :
    w.cell? ⟨b, 0, none⟩ = some x0 ∧ w.cell? ⟨b, 1, none⟩ = some x1 ∧ w.cell? ⟨b, 2, none⟩ = some x2 ∧ w.cell? ⟨b, 3, none⟩ = some x3 ∧ w.cell? ⟨b, 4, none⟩ = some x4 ∧ w.cell? ⟨b, 5, none⟩ = some x5 := by
  refine ⟨?_, ?_, ?_, ?_, ?_, ?_⟩ <;> (rw [cell_of_row w b _ _ _ _ h]; rfl)
set_option maxRecDepth 100000 in
set_option maxHeartbeats 8000000 in
theorem walk (ao : Option Addr) (n cap b off : Nat) (E : Nat → Nat → Value) (w : World) (R : Fr.RowArg w ao n b off [some .i64, some .i64, some .i64, some .i64, some .i64, none] E) :
    Calls Try.prog 3 #[.slice ao n cap] w fun e w' => e = .returned (.bool true) ∧ Below w.heap.size w w' := by
  have hmost := R.most
  have hz : ∀ w : World, (zeroValue 32).run Try.prog w = .ok (.agg (rcells (fun _ => ln0) (fun _ => false)).toArray) w := fun w => by kernel_rfl
  have hrc : Hid (∀ W : World, RBufAt (W.alloc (.cells (rcells (fun _ => ln0) (fun _ => false)).toArray 32)) W.heap.size (fun _ => ln0) (fun _ => false)) := Lib.hid (fun W => heap_alloc_last W _)
  generalize (rcells (fun _ => ln0) (fun _ => false)).toArray = Z at hz hrc
  have hRZ : Hid (∀ W : World, RB (W.alloc (.cells Z 32)) W.heap.size buf0) := Lib.hid (fun W => ⟨_, _, Rsay.zero, hrc.out W⟩)
  clear hrc
  go_enter Try.func3, Try.ntmps3
  go_wp2_with fail
  refine (awake_any _).mono ?_
  rintro e w1 ⟨rfl, U1⟩
  go_wp2_with fail
  refine (tnew_any _).mono ?_
  rintro e w2 ⟨A, rfl, hA1, hA, U2⟩
  have hAw : w.heap.size ≤ A := Nat.le_trans U1.size hA1
  have U := U1.trans U2
  go_upto_region 4 with fail
  have u3 := (Upd.refl (fun _ => False) w2).alloc (.cells Z 32)
  have T0 : Two w (w2.alloc (.cells Z 32)) A w2.heap.size buf0 := ⟨hA.kept u3 id, hRZ.out w2, buf0_ok, U.trans u3, hAw, U.size, Nat.ne_of_lt hA.lt⟩
  clear hA1 U1 U2 hA u3 U
  generalize w2.alloc (.cells Z 32) = w3 at T0 ⊢
  generalize w2.heap.size = C at T0 ⊢
  generalize buf0 = B0 at T0
  go_wp2_with fail
  go_loopw [6, 5] (fun t u wr => ∃ (k : Nat) (C : Nat) (B : Buf), k ≤ n ∧ k ≤ 120 ∧ t = .int .i64 k ∧ u = .pointer (some ⟨C, 0, none⟩) ∧ Two w wr A C B) (fun t _ _ => 120 - (intOf t).toNat)
  case atStart => exact ⟨0, C, B0, by omega, by omega, rfl, rfl, T0⟩
  case round =>
    clear T0
    obtain ⟨k, C, B, hk, hk6, rfl, rfl, T⟩ := hrel
    by_cases hlt : k < n
    · by_cases hl6 : k < 120
      · obtain rfl := R.place (by omega)
        have R' := R.kept (below_none T.U)
        obtain ⟨d, x, la, lp, lf, lw, c0, c1, c2, c3, c4, c5⟩ := op_cells R' k hlt
        clear R'
        have hl6' : (k : Int) < 120 := by omega
        go_upto_region 10 with fail
        have Tw := T.kept ((Upd.refl (fun _ => False) wr).alloc (.cells #[.int .i64 d, .int .i64 x, .int .i64 la, .int .i64 lp, .int .i64 lf, .bool lw] 34))
        have hX := heap_alloc_last wr (.cells #[.int .i64 d, .int .i64 x, .int .i64 la, .int .i64 lp, .int .i64 lf, .bool lw] 34)
        have hXA : wr.heap.size ≠ A := Nat.ne_of_gt T.P.lt
        have hXC : wr.heap.size ≠ C := Nat.ne_of_gt T.R.lt
        clear T c0 c1 c2 c3 c4 c5
        generalize wr.alloc (.cells #[.int .i64 d, .int .i64 x, .int .i64 la, .int .i64 lp, .int .i64 lf, .bool lw] 34) = W at Tw hX ⊢
        generalize wr.heap.size = X at hX hXA hXC ⊢
        have T := Tw
        clear Tw
        have o0 := (box6 hX).1
        go_upto_block 2 with fail
        go_cut [5, 8] from 34 to 90 (fun s5 s8 wx => ∃ (C' : Nat) (B' : Buf), s5 = .pointer (some ⟨C', 0, none⟩) ∧ s8 = .bool true ∧ Two w wx A C' B' ∧ Hid (wx.heap[X]? = some (.cells #[.int .i64 d, .int .i64 x, .int .i64 la, .int .i64 lp, .int .i64 lf, .bool lw] 34 (0, 0))))
        case first =>
          have hS := Lib.hid (show ∀ W' : World, W'.heap[X]? = some (.cells #[.int .i64 d, .int .i64 x, .int .i64 la, .int .i64 lp, .int .i64 lf, .bool lw] 34 (0, 0)) → W'.cell? ⟨X, 1, none⟩ = some (.int .i64 x) ∧ W'.cell? ⟨X, 2, none⟩ = some (.int .i64 la) ∧ W'.cell? ⟨X, 3, none⟩ = some (.int .i64 lp) ∧ W'.cell? ⟨X, 4, none⟩ = some (.int .i64 lf) ∧ W'.cell? ⟨X, 5, none⟩ = some (.bool lw) from fun W' h => ⟨(box6 h).2.1, (box6 h).2.2.1, (box6 h).2.2.2.1, (box6 h).2.2.2.2.1, (box6 h).2.2.2.2.2⟩)
          have Td := T.kept (Upd.refl (fun _ => False) W).drew
          by_cases d0 : d = 0
          · subst d0
            go_wp2_with fail
            go_region_held3 (fun w' => w'.cell? ⟨X, 1, none⟩ = some (.int .i64 x) ∧ w'.cell? ⟨X, 2, none⟩ = some (.int .i64 la) ∧ w'.cell? ⟨X, 3, none⟩ = some (.int .i64 lp) ∧ w'.cell? ⟨X, 4, none⟩ = some (.int .i64 lf) ∧ w'.cell? ⟨X, 5, none⟩ = some (.bool lw))
              (first
                | assumption
                | exact hS.out _ hX
                | exact hS.out _ hX3
                | exact hS.out _ hX4)
              (first
                | (go_at_call 9; refine (tput_any A B T.ok la lp lf lw x _ Td.P).mono ?_; rintro e w3 ⟨rfl, P3, u3⟩; have hX3 := u3.at hX hXA)
                | (go_at_call 10; refine (rput_any C B la lp lf lw x _ (Td.R.kept u3 (fun e => T.ne e.symm))).mono ?_; rintro e w4 ⟨rfl, R4, u4⟩; have hX4 := u4.at hX3 hXC))
            all_goals (go_wp2_with fail)
            all_goals go_meet
            all_goals exact ⟨C, _, rfl, rfl, Td.step P3 u3 R4 u4 (T.ok.put _ _), Lib.hid hX4⟩
          by_cases d1 : d = 1
          · subst d1
            go_wp2_with fail
            go_region_held3 (fun w' => w'.cell? ⟨X, 1, none⟩ = some (.int .i64 x) ∧ w'.cell? ⟨X, 2, none⟩ = some (.int .i64 la) ∧ w'.cell? ⟨X, 3, none⟩ = some (.int .i64 lp) ∧ w'.cell? ⟨X, 4, none⟩ = some (.int .i64 lf) ∧ w'.cell? ⟨X, 5, none⟩ = some (.bool lw))
              (first
                | assumption
                | exact hS.out _ hX
                | exact hS.out _ hX3
                | exact hS.out _ hX4)
              (first
                | (go_at_call 9; refine (tput_any A B T.ok la lp lf lw x _ Td.P).mono ?_; rintro e w3 ⟨rfl, P3, u3⟩; have hX3 := u3.at hX hXA)
                | (go_at_call 10; refine (rput_any C B la lp lf lw x _ (Td.R.kept u3 (fun e => T.ne e.symm))).mono ?_; rintro e w4 ⟨rfl, R4, u4⟩; have hX4 := u4.at hX3 hXC))
            all_goals (go_wp2_with fail)
            all_goals go_meet
            all_goals exact ⟨C, _, rfl, rfl, Td.step P3 u3 R4 u4 (T.ok.put _ _), Lib.hid hX4⟩
          by_cases d2 : d = 2
          · subst d2
            go_wp2_with fail
            go_region_held3 (fun w' => w'.cell? ⟨X, 1, none⟩ = some (.int .i64 x) ∧ w'.cell? ⟨X, 2, none⟩ = some (.int .i64 la) ∧ w'.cell? ⟨X, 3, none⟩ = some (.int .i64 lp) ∧ w'.cell? ⟨X, 4, none⟩ = some (.int .i64 lf) ∧ w'.cell? ⟨X, 5, none⟩ = some (.bool lw))
              (first
                | assumption
                | exact hS.out _ hX
                | exact hS.out _ hX3
                | exact hS.out _ hX4)
              (first
                | (go_at_call 9; refine (tput_any A B T.ok la lp lf lw x _ Td.P).mono ?_; rintro e w3 ⟨rfl, P3, u3⟩; have hX3 := u3.at hX hXA)
                | (go_at_call 10; refine (rput_any C B la lp lf lw x _ (Td.R.kept u3 (fun e => T.ne e.symm))).mono ?_; rintro e w4 ⟨rfl, R4, u4⟩; have hX4 := u4.at hX3 hXC))
            all_goals (go_wp2_with fail)
            all_goals go_meet
            all_goals exact ⟨C, _, rfl, rfl, Td.step P3 u3 R4 u4 (T.ok.put _ _), Lib.hid hX4⟩
          have e0 : (d == 0) = false := by simpa using d0
          have e1 : (d == 1) = false := by simpa using d1
          have e2 : (d == 2) = false := by simpa using d2
          by_cases d3 : d = 3
          · subst d3
            go_wp2_with fail
            go_region_held3 (fun w' => w'.cell? ⟨X, 1, none⟩ = some (.int .i64 x) ∧ w'.cell? ⟨X, 2, none⟩ = some (.int .i64 la) ∧ w'.cell? ⟨X, 3, none⟩ = some (.int .i64 lp) ∧ w'.cell? ⟨X, 4, none⟩ = some (.int .i64 lf) ∧ w'.cell? ⟨X, 5, none⟩ = some (.bool lw))
              (first
                | assumption
                | exact hS.out _ hX
                | exact hS.out _ hX3
                | exact hS.out _ hX4)
              (first
                | (go_at_call 11; refine (tdrop_any A B T.ok la lp _ Td.P).mono ?_; rintro e w3 ⟨rfl, P3, u3⟩; have hX3 := u3.at hX hXA)
                | (go_at_call 12; refine (rdrop_any C B la lp _ (Td.R.kept u3 (fun e => T.ne e.symm))).mono ?_; rintro e w4 ⟨rfl, R4, u4⟩; have hX4 := u4.at hX3 hXC))
            all_goals (go_wp2_with fail)
            all_goals go_meet
            all_goals exact ⟨C, _, rfl, rfl, Td.step P3 u3 R4 u4 (T.ok.drop _ _), Lib.hid hX4⟩
          by_cases d4 : d = 4
          · subst d4
            go_wp2_with fail
            go_region_held3 (fun w' => w'.cell? ⟨X, 1, none⟩ = some (.int .i64 x) ∧ w'.cell? ⟨X, 2, none⟩ = some (.int .i64 la) ∧ w'.cell? ⟨X, 3, none⟩ = some (.int .i64 lp) ∧ w'.cell? ⟨X, 4, none⟩ = some (.int .i64 lf) ∧ w'.cell? ⟨X, 5, none⟩ = some (.bool lw))
              (first
                | assumption
                | exact hS.out _ hX
                | exact hS.out _ hX3
                | exact hS.out _ hX4)
              (first
                | (go_at_call 13; refine (tflush_any A B T.ok la _ Td.P).mono ?_; rintro e w3 ⟨rfl, P3, u3⟩; have hX3 := u3.at hX hXA)
                | (go_at_call 14; refine (rflush_any C B T.ok la _ (Td.R.kept u3 (fun e => T.ne e.symm))).mono ?_; rintro e w4 ⟨rfl, R4, u4⟩; have hX4 := u4.at hX3 hXC))
            all_goals (go_wp2_with fail)
            all_goals go_meet
            all_goals exact ⟨C, _, rfl, rfl, Td.step P3 u3 R4 u4 (T.ok.flush _), Lib.hid hX4⟩
          have e3 : (d == 3) = false := by simpa using d3
          have e4 : (d == 4) = false := by simpa using d4
          by_cases d5 : d = 5
          · subst d5
            go_wp2_with fail
            refine (tclear_any A B T.ok _ T.P).mono ?_
            rintro e w4 ⟨rfl, P4, u4⟩
            have hX4 := Lib.hid (u4.at hX hXA)
            have U4 := Lib.hid (upd_new T.U u4 T.la)
            go_wp2_with fail
            go_meet
            have u5 := (Upd.refl (fun _ => False) w4).alloc (.cells Z 32)
            exact ⟨_, _, rfl, rfl, ⟨P4.kept u5 id, hRZ.out w4, buf0_ok, U4.out.trans u5, T.la, U4.out.size, Nat.ne_of_lt P4.lt⟩, Lib.hid (u5.at hX4.out id)⟩
          · have e5 : (d == 5) = false := by simpa using d5
            go_wp2_with fail
            go_meet
            exact ⟨C, B, rfl, rfl, T, Lib.hid hX⟩
        case rest =>
          clear T hX hXA hXC o0
          obtain ⟨C, B, rfl, rfl, T, hX⟩ := hcut
          have cF := Lib.hid (fun W hA => tfind_any A B T.ok la lp W hA)
          have cR := Lib.hid (fun W hA => rfind_any C B la lp W hA)
          have cL := Lib.hid (fun W hA => tlines_any A B T.ok W hA)
          have cM := Lib.hid (fun W hA => rlines_any C B W hA)
          have hle := B.lines_le
          have HG : Hid (∃ g, lnOf (B.find la lp) = g) := Lib.hid ⟨_, rfl⟩
          generalize lnOf (B.find la lp) = G at cF cR
          generalize (B.find la lp).isSome = I at cF cR
          generalize B.lines = WL at cL cM hle
          generalize hWn : WL.length = L at cL cM hle
          have HL := Lib.hid hWn
          clear hWn HG
          obtain ⟨ga, gp, gf, gw⟩ := G
          have o2 := (box6 hX.out).2.2.1
          have o3 := (box6 hX.out).2.2.2.1
          go_wp2_with fail
          refine (cF.out _ T.P).mono ?_
          rintro e w4 ⟨rfl, u4⟩
          have T4 := T.kept u4
          have o2 := u4.cell o2 id
          have o3 := u4.cell o3 id
          obtain ⟨b1, b2, b3⟩ := ln_box w4 ga gp gf gw
          clear T hX u4 cF
          go_upto_region 24 with (with_reducible refine wpList_store_sz rfl 28 (.tmp 9) (.tmp 100) rfl w4.heap.size 0 #[.int .i64 ga, .int .i64 gp, .int .i64 gf, .bool gw] rfl rfl 4 (ln_sz _ _ _ _) b3 size_ln (ln_one _ _ _ _) [.int .i64 ga, .int .i64 gp, .int .i64 gf, .bool gw] (ln_ls _ _ _ _) ?_)
          have T5 := T4.kept b2
          have o2 := b2.cell o2 id
          have o3 := b2.cell o3 id
          have B1 := Lib.hid b1
          clear b1 b2 b3 T4
          generalize (w4.alloc (.cells #[.int .i64 0, .int .i64 0, .int .i64 0, .bool false] 28)).setCells w4.heap.size 0 [.int .i64 ga, .int .i64 gp, .int .i64 gf, .bool gw] = w5 at B1 T5 o2 o3 ⊢
          generalize w4.heap.size = D1 at B1 ⊢
          go_wp2_with fail
          refine (cR.out _ T5.R).mono ?_
          rintro e w6 ⟨rfl, u6⟩
          have T6 := T5.kept u6
          have B2 := Lib.hid (B1.out.kept u6 id)
          obtain ⟨b1, b2, b3⟩ := ln_box w6 ga gp gf gw
          clear T5 u6 cR B1
          go_upto_region 25 with (with_reducible refine wpList_store_sz rfl 28 (.tmp 11) (.tmp 111) rfl w6.heap.size 0 #[.int .i64 ga, .int .i64 gp, .int .i64 gf, .bool gw] rfl rfl 4 (ln_sz _ _ _ _) b3 size_ln (ln_one _ _ _ _) [.int .i64 ga, .int .i64 gp, .int .i64 gf, .bool gw] (ln_ls _ _ _ _) ?_)
          have T7 := T6.kept b2
          have B3 := Lib.hid (B2.out.kept b2 id)
          have B4 := Lib.hid b1
          clear b1 b2 b3 T6 B2
          generalize (w6.alloc (.cells #[.int .i64 0, .int .i64 0, .int .i64 0, .bool false] 28)).setCells w6.heap.size 0 [.int .i64 ga, .int .i64 gp, .int .i64 gf, .bool gw] = w7 at B3 B4 T7 ⊢
          generalize w6.heap.size = D2 at B4 ⊢
          clear o2 o3
          go_wp2_with fail
          refine (cL.out _ T7.P).mono ?_
          rintro e w8 ⟨v1, rfl, h1, u8⟩
          obtain ⟨o1, cp1, rfl⟩ := row_slice h1
          have H1 := Lib.hid h1
          have T8 := T7.kept u8
          have B5 := Lib.hid (B3.out.kept u8 id)
          have B6 := Lib.hid (B4.out.kept u8 id)
          clear h1 T7 u8 B3 B4 cL
          go_wp2_with fail
          refine (cM.out _ T8.R).mono ?_
          rintro e w9 ⟨v2, rfl, h2, u9⟩
          obtain ⟨o2, cp2, rfl⟩ := row_slice h2
          have H2 := Lib.hid h2
          have H3 := Lib.hid (row_still H1.out u9)
          have T9 := T8.kept u9
          have B7 := Lib.hid (B5.out.kept u9 id)
          have B8 := Lib.hid (B6.out.kept u9 id)
          clear h2 T8 u9 B5 B6 cM H1
          have cS := Lib.hid (lsame_any _ _ _ _ _ _ WL L HL.out hle w9 H3.out H2.out)
          clear H2 H3 HL
          go_wp2_with fail
          refine cS.out.mono ?_
          rintro e w10 ⟨rfl, q, rfl⟩
          have T10 := T9.kept ((Upd.refl (fun _ => False) w9).drewN q)
          have r1 : (w9.drewN q).rangeAt D1 0 [.int .i64 ga, .int .i64 gp, .int .i64 gf, .bool gw] := B7.out.range
          have r2 : (w9.drewN q).rangeAt D2 0 [.int .i64 ga, .int .i64 gp, .int .i64 gf, .bool gw] := B8.out.range
          have he := run_eqL ga gp gf gw ga gp gf gw true (by simp)
          clear T9 B7 B8 cS
          generalize w9.drewN q = w11 at T10 r1 r2 ⊢
          go_wp2_with (first
            | (with_reducible refine wpList_load_sz rfl 28 (.tmp 9) rfl D1 0 rfl [.int .i64 ga, .int .i64 gp, .int .i64 gf, .bool gw] _ r1 Try.underlying28 rfl 4 (ln_len _ _ _ _) size_ln ?_)
            | (with_reducible refine wpList_load_sz rfl 28 (.tmp 11) rfl D2 0 rfl [.int .i64 ga, .int .i64 gp, .int .i64 gf, .bool gw] _ r2 Try.underlying28 rfl 4 (ln_len _ _ _ _) size_ln ?_))
          go_roundw
          case rel => exact ⟨k + 1, C, B, by omega, by omega, by go_num, rfl, T10⟩
          case measure => simp [intOf]; omega
      · obtain rfl : k = 120 := by omega
        go_wp2
        go_ret
        exact ⟨rfl, below_none T.U⟩
    · obtain rfl : k = n := by omega
      go_wp2
      go_ret
      exact ⟨rfl, below_none T.U⟩
/-! ### the row's frame -/
theorem own : ownKnob Try.prog.godebug = none := by kernel_rfl
theorem laidOut : laidOutB Try.prog = true := by kernel_rfl
set_option linter.unusedVariables false in
set_option maxRecDepth 100000 in
theorem lifted (os : Os) (started : os.Started) (H : Type) (enc : TypeId × Value → H) :
    ReturnsInHanded {} Try.checked os 3 .any (Rows.tlbPlaysSpec.pre6 enc Try.prog Try.f3 Rows.tlbPlaysRow.domain false) (Rows.tlbPlaysSpec.post enc Try.prog Try.f3 false true false false) := by
  refine returnsInHanded_of_change (C := Try.checked) own started (by kernel_rfl) Try.func3
    (ChangeSpec.witness6 (enc := enc) (C := Try.checked) false ⟨#[], #[.slice none 0 0], []⟩ 8 (by kernel_rfl) (by kernel_rfl) (by kernel_rfl) (by kernel_rfl)) ?_
  intro W base args ds gs before hval0 hW hcnd _
  have hval : ∀ (j : Nat) t v, Try.f3.params[j]? = some t → args[j]? = some v → Value.okWide Try.prog W .any base t v := hval0
  have hW' := hW
  obtain ⟨p, q, hA0, hV, rfl, hfz, hnd⟩ := hW
  have hA : DataW.TrodAll enc Try.prog W 0 (fun _ => true) true Try.f3.params.toList args.toList ds p := hA0
  rw [Try.params3] at hA hval
  obtain ⟨v0, vs0, d0, ds0, p0, q0, hargs, rfl, rfl, h0, r0⟩ := trodAll_cons hA
  obtain ⟨rfl, rfl, rfl⟩ := trodAll_nil r0
  obtain rfl : args = #[v0] := by cases args; simp_all
  obtain ⟨rfl, rfl⟩ := trodVars_none hV
  have k0 := h0
  have lt0 : ∀ x ∈ p0, x.block < W.heap.size := by obtain ⟨m, hm⟩ := k0; exact DataW.trod_lt m _ _ _ hm
  obtain ⟨ao0, n0, cap0, b0, of0, E0, rfl, w0⟩ := Fr.open_rows 12 [some .i64, some .i64, some .i64, some .i64, some .i64, none] Try.underlying22 (by kernel_rfl) (by kernel_rfl) (by decide) (hval 0 22 v0 rfl rfl) h0
  clear hA0 hval0
  refine (walk ao0 n0 cap0 b0 of0 E0  W w0).mono fun e W' ⟨he, bel⟩ => ?_
  subst he
  exact ⟨_, rfl, _, _, _, [], _, [], hW', trodAll_mk1 (shut_bool Try.underlying4 _), (trodAll_cons_mk (Below.trod laidOut (by kernel_rfl) (of_decide_eq_true (by kernel_rfl)) k0 bel lt0) trodAll_mk0), rfl, bel.frame _, fun h => by cases h⟩

theorem over : Rows.tlbPlaysRow.holds Try.pinned (OpenSpec.ofChange Rows.tlbPlaysSpec) :=
  OpenClaim.holds_of_wide 3 Try.f3 rfl rfl rfl rfl rfl rfl rfl ⟨rfl, rfl, rfl, rfl, rfl⟩ rfl rfl rfl rfl rfl (by kernel_rfl) Try.func3 (by kernel_rfl)
    (of_decide_eq_true (by kernel_rfl)) (by unfold Func.isWrapper; first | (rw [if_pos (by decide +kernel)]; kernel_rfl) | (rw [if_neg (by decide +kernel)]; exact ⟨rfl, rfl⟩))
    (fun os started H enc _ => lifted os started H enc)

theorem proved : Rows.TlbPlaysSaid :=
  over
end Go.Proofs.Ytjkomkcjoooiiaa.tlbPlays
