/-
  Proved: trunnionlaw09.TlbLast answers true for every input: what is found was put last of that address space and page; no two lines are of the same, and never more than eight are there.
  Conditions: none.
-/
import Derived.Test.YtjkomkcjoooiiaaPart2
namespace Go.Proofs.Ytjkomkcjoooiiaa.tlbLast
open Go.ChangeShapes Go.WideShapes Go.ChangeAt Go.RowKit
set_option linter.unusedVariables false
set_option linter.unusedSimpArgs false

theorem below_own {w w' : World} {A : Nat} (h : Upd (· = A) w w') (hA : w.heap.size ≤ A) : Below w.heap.size w w' := h.below (Nat.le_refl _) (fun k hk e => by omega)
set_option maxRecDepth 100000 in
set_option maxHeartbeats 8000000 in
theorem walk (ao : Option Addr) (n cap b off : Nat) (E : Nat → Nat → Value) (w : World) (R : Fr.RowArg w ao n b off [some .i64, some .i64, some .i64, some .i64, some .i64, none] E) :
    Calls Try.prog 4 #[.slice ao n cap] w fun e w' => e = .returned (.bool true) ∧ Below w.heap.size w w' := by
  have hmost := R.most
  go_enter Try.func4, Try.ntmps4
  go_wp2_with fail
  refine (awake_any _).mono ?_
  rintro e w1 ⟨rfl, U1⟩
  go_wp2_with fail
  refine (tnew_any _).mono ?_
  rintro e w2 ⟨A, rfl, hA1, hA, U2⟩
  have hAw : w.heap.size ≤ A := Nat.le_trans U1.size hA1
  have U := Lib.hid (show Upd (· = A) w w2 from U1.sub.trans U2.sub)
  have hOk := buf0_ok
  have hLs := Lib.hid (lasts_zero (opL E) (opA E))
  clear hA1 U1 U2
  generalize buf0 = B0 at hA hOk hLs
  by_cases hn : n ≤ 100
  · have hn' : (n : Int) ≤ 100 := by omega
    go_wp2_with fail
    go_loopw [5] (fun t wr => ∃ (k : Nat) (B : Buf), k ≤ n ∧ t = .int .i64 k ∧ BufAt wr A B ∧ B.Ok ∧ Hid (Lasts (opL E) (opA E) k B) ∧ Hid (Upd (· = A) w wr)) (fun t _ => n - (intOf t).toNat)
    case atStart => exact ⟨0, B0, by omega, rfl, hA, hOk, hLs, U⟩
    case round =>
      clear hA hOk U hLs
      obtain ⟨k, B, hk, rfl, hA, hOk, hLs, U⟩ := hrel
      by_cases hlt : k < n
      · obtain rfl := R.place (by omega)
        have R' := R.kept (below_own U.out hAw)
        obtain ⟨-, c1, hrl⟩ := op_line R' k hlt
        have hkn : (k : Int) < (n : Int) := by omega
        have hls := Lib.hid (hLs.out.put hOk)
        have hpf := Lib.hid (fun h => hOk.find_put (l := opL E k) (at' := opA E k) h)
        have cP := Lib.hid (fun W hA => tput_any A B hOk (opL E k).a (opL E k).p (opL E k).f (opL E k).w (opA E k) W hA)
        rw [show (⟨(opL E k).a, (opL E k).p, (opL E k).f, (opL E k).w⟩ : Ln) = opL E k from rfl] at cP
        have hB2 := hOk.put (opL E k) (opA E k)
        generalize B.put (opL E k) (opA E k) = B2 at hls hpf cP hB2
        obtain ⟨P, hP⟩ : ∃ P, P = putOk (opL E k) (opA E k) := ⟨_, rfl⟩
        rw [← hP] at hpf cP
        clear hP hLs hOk
        generalize opA E k = x at c1 cP
        obtain ⟨l, hl⟩ : ∃ l, l = opL E k := ⟨_, rfl⟩
        rw [← hl] at hrl cP hpf
        have Hl := Lib.hid hl
        clear hl
        obtain ⟨la, lp, lf, lw⟩ := l
        simp only at hrl cP hpf
        go_upto_region 8 with fail
        refine wp_region_tail 11 (by kernel_rfl) (by kernel_rfl) ?_
        simp only [List.take_succ_cons, List.take_zero, List.drop_succ_cons, List.drop_zero]
        intro w3 hw3
        have hA3 : BufAt w3 A B := by rw [hw3]; exact hA
        have U3 : Hid (Upd (· = A) w w3) := Lib.hid (by rw [hw3]; exact U.out.drew)
        have c1' : w3.cell? ⟨b, off + k * 6 + 1, none⟩ = some (.int .i64 x) := by rw [hw3]; simpa using c1
        have hrl' : w3.rangeAt b (off + k * 6 + 2) [.int .i64 la, .int .i64 lp, .int .i64 lf, .bool lw] := by rw [hw3]; exact hrl
        clear hw3 c1 hrl hA U R'
        iterate 5 still_step
        with_reducible refine wpStill_load_sz rfl 28 (.tmp 38) rfl b (off + k * 6 + 2) rfl [.int .i64 la, .int .i64 lp, .int .i64 lf, .bool lw] _ hrl' Try.underlying28 rfl 4 (ln_len _ _ _ _) size_ln ?_
        simp only [Act.put, List.setIfInBounds_toArray, List.set_cons_succ, List.set_cons_zero]
        repeat still_step
        refine wpStill_nil ?_
        go_wp2_with fail
        refine (cP.out _ hA3).mono ?_
        rintro e w4 ⟨rfl, hA4, u4⟩
        have U4 : Hid (Upd (· = A) w w4) := Lib.hid (U3.out.trans u4)
        clear hA3 U3 cP c1' hrl' u4
        cases P
        · rw [show errP false = 1 from rfl]
          go_wp2
          go_roundw
          case rel => exact ⟨k + 1, _, by omega, by go_num, hA4, hB2, hls, U4⟩
          case measure => simp [intOf]; omega
        · rw [show errP true = 0 from rfl]
          have hfd := Lib.hid (hpf.out rfl)
          clear hpf
          have R4 := R.kept (below_own U4.out hAw)
          have hrl : w4.rangeAt b (off + k * 6 + 2) [.int .i64 la, .int .i64 lp, .int .i64 lf, .bool lw] := by
            have := (op_line R4 k hlt).2.2
            rwa [← Hl.out] at this
          have c0 := hrl 0 _ rfl
          have c1 := hrl 1 _ rfl
          rw [Nat.add_zero] at c0
          rw [Nat.add_assoc (off + k * 6)] at c1
          have cG := Lib.hid (fun W hA => tfind_any A B2 hB2 la lp W hA)
          rw [hfd.out] at cG
          go_upto_region 9 with fail
          have hS := Lib.hid (show ∀ (W' : World), Upd (fun _ => False) w4 W' → W'.cell? ⟨b, off + k * 6 + 2, none⟩ = some (.int .i64 la) ∧ W'.cell? ⟨b, off + k * 6 + 2 + 1, none⟩ = some (.int .i64 lp) ∧ Upd (fun _ => False) w4 W' from fun W' u => ⟨u.cell c0 id, u.cell c1 id, u⟩)
          go_cut [6, 7] from 47 to 63 (fun s12 s13 wx => ∃ D : Nat, s12 = .pointer (some ⟨D, 0, none⟩) ∧ s13 = .bool true ∧ Hid (LnAt wx D la lp lf lw) ∧ Upd (fun _ => False) w4 wx)
          case first =>
            go_region_held3 (fun w' => w'.cell? ⟨b, off + k * 6 + 2, none⟩ = some (.int .i64 la) ∧ w'.cell? ⟨b, off + k * 6 + 2 + 1, none⟩ = some (.int .i64 lp) ∧ Upd (fun _ => False) w4 w')
              (first
                | assumption
                | exact hS.out _ (Upd.refl _ _).drew
                | exact hS.out _ ((Upd.refl _ _).drew.alloc _)
                | exact hS.out _ u7
                | exact hS.out _ (u7.alloc _)
                | exact hS.out _ ((((u7.setCell (.inr (Nat.le_refl _)) _).setCell (.inr (Nat.le_refl _)) _).setCell (.inr (Nat.le_refl _)) _).setCell (.inr (Nat.le_refl _)) _)
                | exact hS.out _ (((((u7.alloc _).setCell (.inr u7.size) _).setCell (.inr u7.size) _).setCell (.inr u7.size) _).setCell (.inr u7.size) _))
              (first
                | (go_at_call 16; go_split_ands; rename_i s1 s2 s3; refine (cG.out (w4.alloc (.cells #[.int .i64 0, .int .i64 0, .int .i64 0, .bool false] 28)).drew (hA4.kept s3 id)).mono ?_; rintro e w6 ⟨rfl, u6⟩; have u7 := s3.trans u6; have e7 : Hid (LnAt w6 w4.heap.size 0 0 0 false) := Lib.hid (u6.at (heap_alloc_last w4 _) id); obtain ⟨e0, e1, e2, e3, z0, z1, z2, z3⟩ := e7.out.eight)
                | (go_at_call 16; go_split_ands; rename_i s1 s2 s3; refine (cG.out _ (hA4.kept s3 id)).mono ?_; rintro e w6 ⟨rfl, u6⟩; have u7 := s3.trans u6))
            all_goals (go_wp2_with fail)
            all_goals go_meet
            all_goals
              first
                | exact ⟨w4.heap.size, rfl, rfl, Lib.hid (e7.out.set la lp lf lw), (((u7.setCell (.inr (Nat.le_refl _)) _).setCell (.inr (Nat.le_refl _)) _).setCell (.inr (Nat.le_refl _)) _).setCell (.inr (Nat.le_refl _)) _⟩
                | exact ⟨w6.heap.size, rfl, rfl, Lib.hid (heap_alloc_last w6 _), u7.alloc _⟩
          case rest =>
            obtain ⟨D, rfl, rfl, hD, u8⟩ := hcut
            have hA8 := Lib.hid (hA4.kept u8 id)
            have U8 : Hid (Upd (· = A) w _) := Lib.hid (U4.out.trans u8.sub)
            have hr8 : Hid (World.rangeAt _ b (off + k * 6 + 2) [.int .i64 la, .int .i64 lp, .int .i64 lf, .bool lw]) := Lib.hid (fun i v h => u8.cell (hrl i v h) id)
            clear hS cG c0 c1 hrl u8 hA4 U4 R4
            go_upto_region 10 with fail
            refine wp_region_tail 10 (by kernel_rfl) (by kernel_rfl) ?_
            simp only [List.take_succ_cons, List.take_zero, List.drop_succ_cons, List.drop_zero]
            intro w9 hw9
            have hA9 : Hid (BufAt w9 A B2) := Lib.hid (by rw [hw9]; exact hA8.out)
            have U9 : Hid (Upd (· = A) w w9) := Lib.hid (by rw [hw9]; exact U8.out.drew)
            have hr9 : w9.rangeAt b (off + k * 6 + 2) [.int .i64 la, .int .i64 lp, .int .i64 lf, .bool lw] := by rw [hw9]; exact hr8.out
            have hD9 : Hid (LnAt w9 D la lp lf lw) := Lib.hid (by rw [hw9]; exact hD.out)
            have he := run_eqL la lp lf lw la lp lf lw true (by simp)
            clear hw9 hA8 U8 hr8 hD
            iterate 3 still_step
            with_reducible refine still_on (by simp [Region.wanted, yielded]) ?_
            with_reducible refine wpStill_load_sz rfl 28 (.tmp 6) rfl D 0 rfl [.int .i64 la, .int .i64 lp, .int .i64 lf, .bool lw] _ hD9.out.range Try.underlying28 rfl 4 (ln_len _ _ _ _) size_ln ?_
            simp only [Act.put, List.setIfInBounds_toArray, List.set_cons_succ, List.set_cons_zero]
            iterate 4 (with_reducible refine still_on (by simp [Region.wanted, yielded]) ?_; still_step)
            with_reducible refine still_on (by simp [Region.wanted, yielded]) ?_
            with_reducible refine wpStill_load_sz rfl 28 (.tmp 71) rfl b (off + k * 6 + 2) rfl [.int .i64 la, .int .i64 lp, .int .i64 lf, .bool lw] _ hr9 Try.underlying28 rfl 4 (ln_len _ _ _ _) size_ln ?_
            simp only [Act.put, List.setIfInBounds_toArray, List.set_cons_succ, List.set_cons_zero]
            with_reducible refine still_on (by simp [Region.wanted, yielded]) ?_
            still_step
            refine wpStill_nil ?_
            clear hD9 hr9 he hfd Hl
            have cL := Lib.hid (fun W hA => tlines_any A B2 hB2 W hA)
            have hlf := Lib.hid (fun (j : Nat) l (h : B2.lines[j]? = some l) => hB2.lines_find h)
            have hll := Lib.hid (fun (j : Nat) l (h : B2.lines[j]? = some l) => hls.out.line hB2 h)
            have hle := B2.lines_le
            go_wp2_with fail
            refine (cL.out _ hA9.out).mono ?_
            rintro e w3 ⟨v, rfl, hrow, u3⟩
            generalize w9.heap.size = N at hrow
            generalize hWL : B2.lines = WL at hlf hll hle hrow cL
            clear hWL
            generalize hL : WL.length = L at hle hrow
            have HL := Lib.hid hL
            clear hL cL
            obtain ⟨o, cp, rfl⟩ := row_slice hrow
            have hA3 := hA9.out.kept u3 id
            have U3 : Hid (Upd (· = A) w w3) := Lib.hid (U9.out.trans u3.sub)
            have Hrow := Lib.hid hrow
            clear u3 U9 hA9 hrow
            have hL8 : (L : Int) ≤ 8 := by omega
            go_wp2_with fail
            go_loopw [9] (fun t wr => ∃ (j : Nat), j ≤ L ∧ t = .int .i64 j ∧ BufAt wr A B2 ∧ Hid (wr.ownsRow N 28 4 (.slice o L cp) L (lnsC WL)) ∧ Hid (Upd (· = A) w wr)) (fun t _ => L - (intOf t).toNat)
            case atStart => exact ⟨0, by omega, rfl, hA3, Hrow, U3⟩
            case round =>
              clear hA3 Hrow U3
              obtain ⟨j, hj, rfl, hA, hrow, U⟩ := hrel
              by_cases hlt2 : j < L
              · obtain ⟨l, hl⟩ : ∃ l, WL[j]? = some l := ⟨_, List.getElem?_eq_getElem (by have := HL.out; omega)⟩
                have hf := Lib.hid (hlf.out j l hl)
                have hlst := Lib.hid (hll.out j l hl)
                obtain ⟨g, rfl, hr⟩ := lns_row (L := WL) (by rw [HL.out]; exact hrow.out) j l hl
                obtain ⟨ga, gp, gf, gw⟩ := l
                simp only at hf hlst hr
                have cG := Lib.hid (fun W hA => tfind_any A B2 hB2 ga gp W hA)
                rw [hf.out] at cG
                clear hf hl hlf hll
                have c0 := hr 0 _ rfl
                have c1 := hr 1 _ rfl
                rw [Nat.add_zero] at c0
                have hj0 : (0 : Int) ≤ (j : Int) := by omega
                have hj1 : (j : Int) < (L : Int) := by omega
                go_upto_region 18 with fail
                have hS := Lib.hid (show ∀ (W' : World), Upd (fun _ => False) wr W' → W'.cell? ⟨g, j * 4, none⟩ = some (.int .i64 ga) ∧ W'.cell? ⟨g, j * 4 + 1, none⟩ = some (.int .i64 gp) ∧ Upd (fun _ => False) wr W' from fun W' u => ⟨u.cell c0 id, u.cell c1 id, u⟩)
                go_cut [10, 11] from 86 to 100 (fun s12 s13 wx => ∃ D : Nat, s12 = .pointer (some ⟨D, 0, none⟩) ∧ s13 = .bool true ∧ Hid (LnAt wx D ga gp gf gw) ∧ Upd (fun _ => False) wr wx)
                case first =>
                  go_region_held3 (fun w' => w'.cell? ⟨g, j * 4, none⟩ = some (.int .i64 ga) ∧ w'.cell? ⟨g, j * 4 + 1, none⟩ = some (.int .i64 gp) ∧ Upd (fun _ => False) wr w')
                    (first
                      | assumption
                      | exact hS.out _ (Upd.refl _ _).drew
                      | exact hS.out _ ((Upd.refl _ _).drew.alloc _)
                      | exact hS.out _ u7
                      | exact hS.out _ (u7.alloc _)
                      | exact hS.out _ ((((u7.setCell (.inr (Nat.le_refl _)) _).setCell (.inr (Nat.le_refl _)) _).setCell (.inr (Nat.le_refl _)) _).setCell (.inr (Nat.le_refl _)) _)
                      | exact hS.out _ (((((u7.alloc _).setCell (.inr u7.size) _).setCell (.inr u7.size) _).setCell (.inr u7.size) _).setCell (.inr u7.size) _))
                    (first
                      | (go_at_call 16; go_split_ands; rename_i s1 s2 s3; refine (cG.out (wr.alloc (.cells #[.int .i64 0, .int .i64 0, .int .i64 0, .bool false] 28)).drew (hA.kept s3 id)).mono ?_; rintro e w6 ⟨rfl, u6⟩; have u7 := s3.trans u6; have e7 : Hid (LnAt w6 wr.heap.size 0 0 0 false) := Lib.hid (u6.at (heap_alloc_last wr _) id); obtain ⟨e0, e1, e2, e3, z0, z1, z2, z3⟩ := e7.out.eight)
                      | (go_at_call 16; go_split_ands; rename_i s1 s2 s3; refine (cG.out _ (hA.kept s3 id)).mono ?_; rintro e w6 ⟨rfl, u6⟩; have u7 := s3.trans u6))
                  all_goals (go_wp2_with fail)
                  all_goals go_meet
                  all_goals
                    first
                      | exact ⟨wr.heap.size, rfl, rfl, Lib.hid (e7.out.set ga gp gf gw), (((u7.setCell (.inr (Nat.le_refl _)) _).setCell (.inr (Nat.le_refl _)) _).setCell (.inr (Nat.le_refl _)) _).setCell (.inr (Nat.le_refl _)) _⟩
                      | exact ⟨w6.heap.size, rfl, rfl, Lib.hid (heap_alloc_last w6 _), u7.alloc _⟩
                case rest =>
                  obtain ⟨D, rfl, rfl, hD, u8⟩ := hcut
                  have hA8 := Lib.hid (hA.kept u8 id)
                  have hrow8 := Lib.hid (row_still hrow.out u8)
                  have U8 : Hid (Upd (· = A) w _) := Lib.hid (U.out.trans u8.sub)
                  have hr8 : Hid (World.rangeAt _ g (j * 4) [.int .i64 ga, .int .i64 gp, .int .i64 gf, .bool gw]) := Lib.hid (fun i v h => u8.cell (hr i v h) id)
                  clear hS cG c0 c1 hr u8 hA hrow U
                  go_upto_region 19 with fail
                  refine wp_region_tail 9 (by kernel_rfl) (by kernel_rfl) ?_
                  simp only [List.take_succ_cons, List.take_zero, List.drop_succ_cons, List.drop_zero]
                  intro w9 hw9
                  have hA9 : Hid (BufAt w9 A B2) := Lib.hid (by rw [hw9]; exact hA8.out)
                  have hrow9 : Hid (w9.ownsRow N 28 4 (.slice (some ⟨g, 0, none⟩) L cp) L (lnsC WL)) := Lib.hid (by rw [hw9]; exact row_still hrow8.out (Upd.refl _ _).drew)
                  have U9 : Hid (Upd (· = A) w w9) := Lib.hid (by rw [hw9]; exact U8.out.drew)
                  have hr9 : w9.rangeAt g (j * 4) [.int .i64 ga, .int .i64 gp, .int .i64 gf, .bool gw] := by rw [hw9]; exact hr8.out
                  have hD9 : Hid (LnAt w9 D ga gp gf gw) := Lib.hid (by rw [hw9]; exact hD.out)
                  have he := run_eqL ga gp gf gw ga gp gf gw true (by simp)
                  clear hw9 hA8 hrow8 U8 hr8 hD
                  iterate 3 still_step
                  with_reducible refine still_on (by simp [Region.wanted, yielded]) ?_
                  with_reducible refine wpStill_load_sz rfl 28 (.tmp 10) rfl D 0 rfl [.int .i64 ga, .int .i64 gp, .int .i64 gf, .bool gw] _ hD9.out.range Try.underlying28 rfl 4 (ln_len _ _ _ _) size_ln ?_
                  simp only [Act.put, List.setIfInBounds_toArray, List.set_cons_succ, List.set_cons_zero]
                  iterate 3 (with_reducible refine still_on (by simp [Region.wanted, yielded]) ?_; still_step)
                  with_reducible refine still_on (by simp [Region.wanted, yielded]) ?_
                  with_reducible refine wpStill_load_sz rfl 28 (.tmp 107) rfl g (j * 4) rfl [.int .i64 ga, .int .i64 gp, .int .i64 gf, .bool gw] _ hr9 Try.underlying28 rfl 4 (ln_len _ _ _ _) size_ln ?_
                  simp only [Act.put, List.setIfInBounds_toArray, List.set_cons_succ, List.set_cons_zero]
                  with_reducible refine still_on (by simp [Region.wanted, yielded]) ?_
                  still_step
                  refine wpStill_nil ?_
                  clear hD9
                  obtain ⟨b1, b2, b3⟩ := ln_box w9 0 0 0 false
                  have B1 := Lib.hid b1
                  have V1 := Lib.hid b2
                  have B3 := Lib.hid b3
                  clear b1 b2 b3
                  go_upto_region 22 with (with_reducible refine wpList_store_sz rfl 28 (.tmp 12) (.tmp 111) rfl w9.heap.size 0 #[.int .i64 0, .int .i64 0, .int .i64 0, .bool false] rfl rfl 4 (ln_sz _ _ _ _) B3.out size_ln (ln_one _ _ _ _) [.int .i64 0, .int .i64 0, .int .i64 0, .bool false] (ln_ls _ _ _ _) ?_)
                  generalize (w9.alloc (.cells #[.int .i64 0, .int .i64 0, .int .i64 0, .bool false] 28)).setCells w9.heap.size 0 [.int .i64 0, .int .i64 0, .int .i64 0, .bool false] = w10 at B1 V1 ⊢
                  have hA10 := Lib.hid (hA9.out.kept V1.out id)
                  have hrow10 := Lib.hid (row_still hrow9.out V1.out)
                  have U10 : Hid (Upd (· = A) w w10) := Lib.hid (U9.out.trans V1.out.sub)
                  have hr10 : Hid (w10.rangeAt g (j * 4) [.int .i64 ga, .int .i64 gp, .int .i64 gf, .bool gw]) := Lib.hid (fun i v h => V1.out.cell (hr9 i v h) id)
                  have hDA : w9.heap.size ≠ A := Nat.ne_of_gt hA9.out.lt
                  have hDg : w9.heap.size ≠ g := by
                    exact Nat.ne_of_gt (show g < w9.heap.size from World.block_lt_of_cell? w9 _ (hr9 0 _ rfl))
                  have hDw : w.heap.size ≤ w9.heap.size := U9.out.size
                  generalize w9.heap.size = D2 at B1 hDA hDg hDw ⊢
                  clear B3 V1 hA9 hrow9 U9 hr9
                  go_wp2_with fail
                  go_loopw [13] (fun t wr => ∃ (m : Nat), m ≤ k + 1 ∧ t = .int .i64 m ∧ Hid (∃ x, x = lastTo (opL E) (opA E) ga gp m ∧ LnAt wr D2 x.a x.p x.f x.w) ∧ Hid (Upd (· = D2) w10 wr)) (fun t _ => k + 1 - (intOf t).toNat)
                  case atStart => exact ⟨0, by omega, rfl, Lib.hid ⟨ln0, rfl, B1.out⟩, Lib.hid (Upd.refl _ _)⟩
                  case round =>
                    clear B1
                    obtain ⟨m, hm, rfl, hB1, V⟩ := hrel
                    by_cases hlt3 : m < k + 1
                    · have hmn : m < n := by omega
                      have V2 : Hid (Upd (fun q => q = A ∨ q = D2) w wr) := Lib.hid ((U10.out.mono fun _ _ h => .inl h).trans (V.out.mono fun _ _ h => .inr h))
                      have R2 := R.kept (V2.out.below (Nat.le_refl _) (fun q hq e => by omega))
                      obtain ⟨-, d1, hrl⟩ := op_line R2 m hmn
                      obtain ⟨x, hx, hB1⟩ := hB1.out
                      have hnx : Hid (lastTo (opL E) (opA E) ga gp (m + 1) = if hitsO (opL E m) (opA E m) ga gp then opL E m else x) := Lib.hid (by rw [hx]; rfl)
                      clear hx R2 V2
                      have HR := Lib.hid hrl
                      have hgr := Lib.hid (show wr.rangeAt g (j * 4) [.int .i64 ga, .int .i64 gp, .int .i64 gf, .bool gw] from fun i v h => V.out.cell (hr10.out i v h) (fun e => hDg e.symm))
                      generalize opA E m = y at d1 hnx
                      generalize opL E m = ol at hrl HR hnx
                      obtain ⟨oa, op, of, ow⟩ := ol
                      simp only at hrl HR
                      have d2 := hrl 0 _ rfl
                      have d3 := hrl 1 _ rfl
                      have d4 := hrl 2 _ rfl
                      rw [Nat.add_zero] at d2
                      have g1 := hgr.out 0 _ rfl
                      have g2 := hgr.out 1 _ rfl
                      rw [Nat.add_zero] at g1
                      obtain ⟨H, hH⟩ : ∃ H, H = decide (hitsO ⟨oa, op, of, ow⟩ y ga gp) := ⟨_, rfl⟩
                      have HH := Lib.hid hH
                      clear hH hrl
                      have m0 : (0 : Int) ≤ (m : Int) := by omega
                      have m1 : (m : Int) < (n : Int) := by omega
                      have m2 : (m : Int) ≤ (k : Int) := by omega
                      go_upto_region 25 with fail
                      go_cut [176] from 117 to 176 (fun s wx => s = .bool H ∧ ∃ q, wx = wr.drewN q)
                      case first =>
                        by_cases h1 : oa = ga
                        · subst h1
                          by_cases h2 : op = gp
                          · subst h2
                            by_cases h3 : 0 ≤ y
                            · by_cases h4 : y < 8
                              · by_cases h5 : 0 ≤ of
                                · by_cases h6 : of < 256
                                  · obtain rfl : H = true := by rw [HH.out]; exact decide_eq_true ⟨rfl, rfl, h3, h4, h5, h6⟩
                                    go_quiet (fail)
                                    all_goals (go_wp2_with fail)
                                    all_goals go_meet
                                    all_goals exact ⟨rfl, _, rfl⟩
                                  · obtain rfl : H = false := by rw [HH.out]; exact decide_eq_false (fun c => h6 c.2.2.2.2.2)
                                    go_quiet (fail)
                                    all_goals (go_wp2_with fail)
                                    all_goals go_meet
                                    all_goals exact ⟨rfl, _, rfl⟩
                                · obtain rfl : H = false := by rw [HH.out]; exact decide_eq_false (fun c => h5 c.2.2.2.2.1)
                                  go_quiet (fail)
                                  all_goals (go_wp2_with fail)
                                  all_goals go_meet
                                  all_goals exact ⟨rfl, _, rfl⟩
                              · obtain rfl : H = false := by rw [HH.out]; exact decide_eq_false (fun c => h4 c.2.2.2.1)
                                go_quiet (fail)
                                all_goals (go_wp2_with fail)
                                all_goals go_meet
                                all_goals exact ⟨rfl, _, rfl⟩
                            · obtain rfl : H = false := by rw [HH.out]; exact decide_eq_false (fun c => h3 c.2.2.1)
                              go_quiet (fail)
                              all_goals (go_wp2_with fail)
                              all_goals go_meet
                              all_goals exact ⟨rfl, _, rfl⟩
                          · have h2b : (op == gp) = false := by simpa using h2
                            obtain rfl : H = false := by rw [HH.out]; exact decide_eq_false (fun c => h2 c.2.1)
                            go_quiet (fail)
                            all_goals (go_wp2_with fail)
                            all_goals go_meet
                            all_goals exact ⟨rfl, _, rfl⟩
                        · have h1b : (oa == ga) = false := by simpa using h1
                          obtain rfl : H = false := by rw [HH.out]; exact decide_eq_false (fun c => h1 c.1)
                          go_quiet (fail)
                          all_goals (go_wp2_with fail)
                          all_goals go_meet
                          all_goals exact ⟨rfl, _, rfl⟩
                      case rest =>
                        obtain ⟨rfl, q, rfl⟩ := hcut
                        have HR2 : Hid (World.rangeAt (wr.drewN q) b (off + m * 6 + 2) [.int .i64 oa, .int .i64 op, .int .i64 of, .bool ow]) := Lib.hid HR.out
                        have hB2 : Hid (LnAt (wr.drewN q) D2 x.a x.p x.f x.w) := Lib.hid hB1
                        have V2 : Hid (Upd (· = D2) w10 (wr.drewN q)) := Lib.hid (V.out.drewN q)
                        clear HR hgr d1 d2 d3 d4 g1 g2 hB1 V
                        generalize wr.drewN q = w11 at HR2 hB2 V2 ⊢
                        by_cases hh : hitsO ⟨oa, op, of, ow⟩ y ga gp
                        · obtain rfl : H = true := by rw [HH.out]; exact decide_eq_true hh
                          have hl2 : Hid (lastTo (opL E) (opA E) ga gp (m + 1) = ⟨oa, op, of, ow⟩) := Lib.hid (by rw [hnx.out, if_pos hh])
                          clear hnx hh HH
                          have hr3 := HR2.out
                          have hT := hB2.out.there
                          have hB3 := Lib.hid (hB2.out.set oa op of ow)
                          have V3 : Hid (Upd (· = D2) w10 (w11.setCells D2 0 [.int .i64 oa, .int .i64 op, .int .i64 of, .bool ow])) := Lib.hid (Upd.setCells (S := (· = D2)) (.inl rfl) _ _ V2.out)
                          clear HR2 hB2 V2
                          go_wp2_with (first
                            | (with_reducible refine wpList_load_sz rfl 28 (.tmp 180) rfl b (off + m * 6 + 2) rfl [.int .i64 oa, .int .i64 op, .int .i64 of, .bool ow] _ hr3 Try.underlying28 rfl 4 (ln_len _ _ _ _) size_ln ?_)
                            | (with_reducible refine wpList_store_sz rfl 28 (.tmp 12) (.tmp 181) rfl D2 0 #[.int .i64 oa, .int .i64 op, .int .i64 of, .bool ow] rfl rfl 4 (ln_sz _ _ _ _) hT size_ln (ln_one _ _ _ _) [.int .i64 oa, .int .i64 op, .int .i64 of, .bool ow] (ln_ls _ _ _ _) ?_))
                          go_roundw
                          case rel => exact ⟨m + 1, by omega, by go_num, Lib.hid ⟨_, rfl, by rw [hl2.out]; exact hB3.out⟩, V3⟩
                          case measure => simp [intOf]; omega
                        · obtain rfl : H = false := by rw [HH.out]; exact decide_eq_false hh
                          have hl2 : Hid (lastTo (opL E) (opA E) ga gp (m + 1) = x) := Lib.hid (by rw [hnx.out, if_neg hh])
                          clear hnx hh HH
                          go_wp2
                          go_roundw
                          case rel => exact ⟨m + 1, by omega, by go_num, Lib.hid ⟨_, rfl, by rw [hl2.out]; exact hB2.out⟩, V2⟩
                          case measure => simp [intOf]; omega
                    · have hmk : m = k + 1 := by omega
                      obtain ⟨x, hx, hB1⟩ := hB1.out
                      rw [hmk, hlst.out] at hx
                      subst hx
                      have hmk2 : ¬ (m : Int) ≤ (k : Int) := by omega
                      clear hmk hlt3 hm
                      go_upto_region 27 with fail
                      refine wp_region_tail 5 (by kernel_rfl) (by kernel_rfl) ?_
                      simp only [List.take_succ_cons, List.take_zero, List.drop_succ_cons, List.drop_zero]
                      intro w12 hw12
                      have hA12 : Hid (BufAt w12 A B2) := Lib.hid (by rw [hw12]; exact hA10.out.kept (S := (· = D2)) V.out.drew (fun e => hDA e.symm))
                      have hrow12 : Hid (w12.ownsRow N 28 4 (.slice (some ⟨g, 0, none⟩) L cp) L (lnsC WL)) := Lib.hid (by rw [hw12]; exact row_kept hrow10.out V.out.drew (fun q hq e => by simp [Value.ownBlock] at hq; omega))
                      have U12 : Hid (Upd (· = A) w w12) := Lib.hid (by
                        rw [hw12]
                        have := ((U10.out.mono fun _ _ h => .inl h).trans (V.out.mono fun _ _ h => .inr h) : Upd (fun q => q = A ∨ q = D2) w wr).drew
                        exact this.mono fun q hq e => by omega)
                      have hr12 : w12.rangeAt g (j * 4) [.int .i64 ga, .int .i64 gp, .int .i64 gf, .bool gw] := by rw [hw12]; exact fun i v h => V.out.cell (hr10.out i v h) (fun e => hDg e.symm)
                      have hD12 : Hid (LnAt w12 D2 ga gp gf gw) := Lib.hid (by rw [hw12]; exact hB1)
                      clear hw12 hA10 hrow10 U10 hr10 hB1 V
                      with_reducible refine wpStill_load_sz rfl 28 (.tmp 12) rfl D2 0 rfl [.int .i64 ga, .int .i64 gp, .int .i64 gf, .bool gw] _ hD12.out.range Try.underlying28 rfl 4 (ln_len _ _ _ _) size_ln ?_
                      simp only [Act.put, List.setIfInBounds_toArray, List.set_cons_succ, List.set_cons_zero]
                      iterate 3 still_step
                      with_reducible refine wpStill_load_sz rfl 28 (.tmp 185) rfl g (j * 4) rfl [.int .i64 ga, .int .i64 gp, .int .i64 gf, .bool gw] _ hr12 Try.underlying28 rfl 4 (ln_len _ _ _ _) size_ln ?_
                      simp only [Act.put, List.setIfInBounds_toArray, List.set_cons_succ, List.set_cons_zero]
                      refine wpStill_nil ?_
                      clear hD12 hr12
                      go_wp2
                      go_roundw
                      case rel => exact ⟨j + 1, by omega, by go_num, hA12.out, hrow12, U12⟩
                      case measure => simp [intOf]; omega
              · obtain rfl : j = L := by omega
                go_wp2
                go_roundw
                case rel => exact ⟨k + 1, _, by omega, by go_num, hA, hB2, hls, U⟩
                case measure => simp [intOf]; omega
      · obtain rfl : k = n := by omega
        go_wp2
        go_ret
        exact ⟨rfl, below_own U.out hAw⟩
  · have hn' : (100 : Int) < (n : Int) := by omega
    go_wp2
    go_ret
    exact ⟨rfl, below_own U.out hAw⟩
/-! ### the row's frame -/
theorem own : ownKnob Try.prog.godebug = none := by kernel_rfl
theorem laidOut : laidOutB Try.prog = true := by kernel_rfl
set_option linter.unusedVariables false in
set_option maxRecDepth 100000 in
theorem lifted (os : Os) (started : os.Started) (H : Type) (enc : TypeId × Value → H) :
    ReturnsInHanded {} Try.checked os 4 .any (Rows.tlbLastSpec.pre6 enc Try.prog Try.f4 Rows.tlbLastRow.domain false) (Rows.tlbLastSpec.post enc Try.prog Try.f4 false true false false) := by
  refine returnsInHanded_of_change (C := Try.checked) own started (by kernel_rfl) Try.func4
    (ChangeSpec.witness6 (enc := enc) (C := Try.checked) false ⟨#[], #[.slice none 0 0], []⟩ 8 (by kernel_rfl) (by kernel_rfl) (by kernel_rfl) (by kernel_rfl)) ?_
  intro W base args ds gs before hval0 hW hcnd _
  have hval : ∀ (j : Nat) t v, Try.f4.params[j]? = some t → args[j]? = some v → Value.okWide Try.prog W .any base t v := hval0
  have hW' := hW
  obtain ⟨p, q, hA0, hV, rfl, hfz, hnd⟩ := hW
  have hA : DataW.TrodAll enc Try.prog W 0 (fun _ => true) true Try.f4.params.toList args.toList ds p := hA0
  rw [Try.params4] at hA hval
  obtain ⟨v0, vs0, d0, ds0, p0, q0, hargs, rfl, rfl, h0, r0⟩ := trodAll_cons hA
  obtain ⟨rfl, rfl, rfl⟩ := trodAll_nil r0
  obtain rfl : args = #[v0] := by cases args; simp_all
  obtain ⟨rfl, rfl⟩ := trodVars_none hV
  have k0 := h0
  have lt0 : ∀ x ∈ p0, x.block < W.heap.size := by obtain ⟨m, hm⟩ := k0; exact DataW.trod_lt m _ _ _ hm
  obtain ⟨ao0, n0, cap0, b0, of0, E0, rfl, w0⟩ := Fr.open_rows 12 [some .i64, some .i64, some .i64, some .i64, some .i64, none] Try.underlying22 (by kernel_rfl) (by kernel_rfl) (by decide) (hval 0 22 v0 rfl rfl) h0
  clear hA0 hval0
  refine (walk ao0 n0 cap0 b0 of0 E0  W w0).mono fun e W' ⟨he, bel⟩ => ?_
  subst he
  exact ⟨_, rfl, _, _, _, [], _, [], hW', trodAll_mk1 (shut_bool Try.underlying4 _), (trodAll_cons_mk (Below.trod laidOut (by kernel_rfl) (of_decide_eq_true (by kernel_rfl)) k0 bel lt0) trodAll_mk0), rfl, bel.frame _, fun h => by cases h⟩

theorem over : Rows.tlbLastRow.holds Try.pinned (OpenSpec.ofChange Rows.tlbLastSpec) :=
  OpenClaim.holds_of_wide 4 Try.f4 rfl rfl rfl rfl rfl rfl rfl ⟨rfl, rfl, rfl, rfl, rfl⟩ rfl rfl rfl rfl rfl (by kernel_rfl) Try.func4 (by kernel_rfl)
    (of_decide_eq_true (by kernel_rfl)) (by unfold Func.isWrapper; first | (rw [if_pos (by decide +kernel)]; kernel_rfl) | (rw [if_neg (by decide +kernel)]; exact ⟨rfl, rfl⟩))
    (fun os started H enc _ => lifted os started H enc)

theorem proved : Rows.TlbLastSaid :=
  over
end Go.Proofs.Ytjkomkcjoooiiaa.tlbLast
