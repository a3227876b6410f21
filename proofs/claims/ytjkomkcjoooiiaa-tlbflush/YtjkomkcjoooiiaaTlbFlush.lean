/-
  Proved: trunnionlaw09.TlbFlush answers true for every input: behind a flush nothing of that address space is found, and all of others is, as it was.
  Conditions: none.
-/
import Derived.Test.YtjkomkcjoooiiaaPart2
namespace Go.Proofs.Ytjkomkcjoooiiaa.tlbFlush
open Go.ChangeShapes Go.WideShapes Go.ChangeAt Go.RowKit
set_option linter.unusedVariables false
set_option linter.unusedSimpArgs false

theorem below_own {w w' : World} {A : Nat} (h : Upd (· = A) w w') (hA : w.heap.size ≤ A) : Below w.heap.size w w' := h.below (Nat.le_refl _) (fun k hk e => by omega)
set_option maxRecDepth 100000 in
set_option maxHeartbeats 1000000 in
theorem walk (ao : Option Addr) (n cap b off : Nat) (E : Nat → Nat → Value) (asid : Int) (wa : (Lit.int .i64 asid).wf = true) (w : World) (R : Fr.RowArg w ao n b off [some .i64, some .i64, some .i64, some .i64, some .i64, none] E) :
    Calls Try.prog 5 #[.slice ao n cap, .int .i64 asid] w fun e w' => e = .returned (.bool true) ∧ Below w.heap.size w w' := by
  clear wa
  have hmost := R.most
  go_enter Try.func5, Try.ntmps5
  go_wp2_with fail
  refine (awake_any _).mono ?_
  rintro e w1 ⟨rfl, U1⟩
  go_wp2_with fail
  refine (tnew_any _).mono ?_
  rintro e w2 ⟨A, rfl, hA1, hA, U2⟩
  have hAw : w.heap.size ≤ A := Nat.le_trans U1.size hA1
  have U := Lib.hid (show Upd (· = A) w w2 from U1.sub.trans U2.sub)
  have hOk := buf0_ok
  clear hA1 U1 U2
  generalize buf0 = B0 at hA hOk
  by_cases hn : n ≤ 100
  · have hn' : (n : Int) ≤ 100 := by omega
    go_wp2_with fail
    go_loopw [7] (fun t wr => ∃ (k : Nat) (B : Buf), k ≤ n ∧ t = .int .i64 k ∧ BufAt wr A B ∧ B.Ok ∧ Hid (Upd (· = A) w wr)) (fun t _ => n - (intOf t).toNat)
    case atStart => exact ⟨0, B0, by omega, rfl, hA, hOk, U⟩
    case round =>
      clear hA hOk U
      obtain ⟨k, B, hk, rfl, hA, hOk, U⟩ := hrel
      by_cases hlt : k < n
      · obtain rfl := R.place (by omega)
        have R' := R.kept (below_own U.out hAw)
        obtain ⟨d, x, la, lp, lf, lw, c0, c1, c2, c3, c4, c5⟩ := op_cells R' k hlt
        have hrl : wr.rangeAt b (off + k * 6 + 2) [.int .i64 la, .int .i64 lp, .int .i64 lf, .bool lw] := by
          intro j v hv
          match j, hv with
          | 0, hv => simp at hv; subst hv; exact c2
          | 1, hv => simp at hv; subst hv; exact c3
          | 2, hv => simp at hv; subst hv; exact c4
          | 3, hv => simp at hv; subst hv; exact c5
          | j + 4, hv => simp at hv
        clear c0 c2 c3 c4 c5 R'
        have hkn : (k : Int) < (n : Int) := by omega
        go_upto_region 8 with fail
        refine wp_region_tail 11 (by kernel_rfl) (by kernel_rfl) ?_
        simp only [List.take_succ_cons, List.take_zero, List.drop_succ_cons, List.drop_zero]
        intro w3 hw3
        have hA3 : BufAt w3 A B := by rw [hw3]; exact hA
        have U3 : Hid (Upd (· = A) w w3) := Lib.hid (by rw [hw3]; exact U.out.drew)
        have c1' : w3.cell? ⟨b, off + k * 6 + 1, none⟩ = some (.int .i64 x) := by rw [hw3]; simpa using c1
        have hrl' : w3.rangeAt b (off + k * 6 + 2) [.int .i64 la, .int .i64 lp, .int .i64 lf, .bool lw] := by rw [hw3]; exact hrl
        clear hw3 c1 hrl hA U
        iterate 5 still_step
        with_reducible refine wpStill_load_sz rfl 28 (.tmp 38) rfl b (off + k * 6 + 2) rfl [.int .i64 la, .int .i64 lp, .int .i64 lf, .bool lw] _ hrl' Try.underlying28 rfl 4 (ln_len _ _ _ _) size_ln ?_
        simp only [Act.put, List.setIfInBounds_toArray, List.set_cons_succ, List.set_cons_zero]
        repeat still_step
        refine wpStill_nil ?_
        go_wp2_with fail
        refine (tput_any A B hOk la lp lf lw x _ hA3).mono ?_
        rintro e w4 ⟨rfl, hA4, u4⟩
        go_wp2
        go_roundw
        case rel => exact ⟨k + 1, _, by omega, by go_num, hA4, hOk.put _ _, Lib.hid (U3.out.trans u4)⟩
        case measure => simp [intOf]; omega
      · obtain rfl : k = n := by omega
        clear hlt hk hn'
        have cL := Lib.hid (fun W hA => tlines_any A B hOk W hA)
        have cF := Lib.hid (fun W hA => tflush_any A B hOk asid W hA)
        have cF2 := Lib.hid (fun W hA => tflush_any A (B.flush asid) (hOk.flush asid) asid W hA)
        have cD := Lib.hid (fun x y W hA => tfind_any A (B.flush asid) (hOk.flush asid) x y W hA)
        have cL2 := Lib.hid (fun W hA => tlines_any A (B.flush asid) (hOk.flush asid) W hA)
        rw [B.many_flush] at cF2
        have hfd : Hid (∀ (j : Nat) (l : Ln), B.lines[j]? = some l → (B.flush asid).find l.a l.p = if l.a = asid then none else some l) := Lib.hid (fun j l hj => by
          obtain ⟨i, hi⟩ := (Buf.mem_lines hOk).1 (List.mem_of_getElem? hj)
          exact hOk.find_flush hi asid)
        have hll := Lib.hid (B.lefts_all asid)
        have hml := Lib.hid (B.many_left asid)
        have hle := B.lines_le
        generalize B.many asid 8 = M at cF hml
        generalize (B.flush asid).lines = FL at cL2 hml hll
        generalize B.flush asid = F at cF cF2 cD cL2 hfd
        have HA := Lib.hid hA
        clear hA hOk
        go_wp2_with fail
        refine (cL.out _ HA.out).mono ?_
        rintro e w3 ⟨v, rfl, hrow, u3⟩
        have hlt := HA.out.lt
        generalize wr.heap.size = N at hrow hlt
        generalize B.lines = WL at hfd hll hml hle hrow cL
        generalize hL : WL.length = L at hll hml hle hrow
        have HL := Lib.hid hL
        clear hL
        obtain ⟨o, cp, rfl⟩ := row_slice hrow
        have hA3 := HA.out.kept u3 id
        have U3 : Hid (Upd (· = A) w w3) := Lib.hid (U.out.trans u3.sub)
        clear u3 U HA cL
        go_wp2_with fail
        refine (cF.out _ hA3).mono ?_
        rintro e w4 ⟨rfl, hA4, u4⟩
        have hrow4 : Hid (w4.ownsRow N 28 4 (.slice o L cp) L (lnsC WL)) := Lib.hid (row_below hrow u4 (by intro j h; omega))
        have U4 : Hid (Upd (· = A) w w4) := Lib.hid (U3.out.trans u4)
        clear u4 U3 hA3 cF hrow
        go_wp2_with fail
        go_loopw [11, 10] (fun t u wr => ∃ (j : Nat), j ≤ L ∧ t = .int .i64 j ∧ u = .int .i64 (lefts WL asid j : Nat) ∧ BufAt wr A F ∧ Hid (wr.ownsRow N 28 4 (.slice o L cp) L (lnsC WL)) ∧ Hid (Upd (· = A) w wr)) (fun t _ _ => L - (intOf t).toNat)
        case atStart => exact ⟨0, by omega, rfl, by simp [lefts], hA4, hrow4, U4⟩
        case round =>
          clear hA4 hrow4 U4
          obtain ⟨j, hj, rfl, rfl, hA, hrow, U⟩ := hrel
          by_cases hlt : j < L
          · obtain ⟨l, hl⟩ : ∃ l, WL[j]? = some l := ⟨_, List.getElem?_eq_getElem (by have := HL.out; omega)⟩
            have hf := Lib.hid (hfd.out j l hl)
            have hl0 := Lib.hid (fun h : l.a = asid => lefts_no hl h)
            have hl1 := Lib.hid (fun h : ¬ l.a = asid => lefts_yes hl h)
            have hlf := lefts_le WL asid j
            obtain ⟨g, rfl, hr⟩ := lns_row (L := WL) (by rw [HL.out]; exact hrow.out) j l hl
            obtain ⟨la, lp, lf, lw⟩ := l
            simp only at hf hl0 hl1 hr
            have cG := Lib.hid (fun W hA => cD.out la lp W hA)
            rw [hf.out] at cG
            clear hf hl hfd
            have c0 := hr 0 _ rfl
            have c1 := hr 1 _ rfl
            rw [Nat.add_zero] at c0
            have hj0 : (0 : Int) ≤ (j : Int) := by omega
            have hj1 : (j : Int) < (L : Int) := by omega
            go_upto_region 15 with fail
            have hS := Lib.hid (show ∀ (W' : World), Upd (fun _ => False) wr W' → W'.cell? ⟨g, j * 4, none⟩ = some (.int .i64 la) ∧ W'.cell? ⟨g, j * 4 + 1, none⟩ = some (.int .i64 lp) ∧ Upd (fun _ => False) wr W' from fun W' u => ⟨u.cell c0 id, u.cell c1 id, u⟩)
            obtain ⟨G, hG⟩ : ∃ G, G = (if la = asid then none else some (⟨la, lp, lf, lw⟩ : Ln)) := ⟨_, rfl⟩
            rw [← hG] at cG
            have HG := Lib.hid hG
            clear hG
            have HG2 : Hid (lnOf G = ⟨(lnOf G).a, (lnOf G).p, (lnOf G).f, (lnOf G).w⟩) := Lib.hid rfl
            generalize hgv : lnOf G = GL at cG HG2
            have Hgv := Lib.hid hgv
            generalize hgi : G.isSome = I at cG
            have Hgi := Lib.hid hgi
            clear hgv hgi
            obtain ⟨ga, gp, gf, gw⟩ := GL
            go_cut [12, 13] from 57 to 71 (fun s12 s13 wx => ∃ D : Nat, s12 = .pointer (some ⟨D, 0, none⟩) ∧ s13 = .bool I ∧ Hid (LnAt wx D ga gp gf gw) ∧ Upd (fun _ => False) wr wx)
            case first =>
              go_region_held3 (fun w' => w'.cell? ⟨g, j * 4, none⟩ = some (.int .i64 la) ∧ w'.cell? ⟨g, j * 4 + 1, none⟩ = some (.int .i64 lp) ∧ Upd (fun _ => False) wr w')
                (first
                  | assumption
                  | exact hS.out _ (Upd.refl _ _).drew
                  | exact hS.out _ ((Upd.refl _ _).drew.alloc _)
                  | exact hS.out _ u7
                  | exact hS.out _ (u7.alloc _)
                  | exact hS.out _ ((((u7.setCell (.inr (Nat.le_refl _)) _).setCell (.inr (Nat.le_refl _)) _).setCell (.inr (Nat.le_refl _)) _).setCell (.inr (Nat.le_refl _)) _)
                  | exact hS.out _ (((((u7.alloc _).setCell (.inr u7.size) _).setCell (.inr u7.size) _).setCell (.inr u7.size) _).setCell (.inr u7.size) _))
                (first
                  | (go_at_call 16; go_split_ands; rename_i s1 s2 s3; refine (cG.out (wr.alloc (.cells #[.int .i64 0, .int .i64 0, .int .i64 0, .bool false] 28)).drew (hA.kept s3 id)).mono ?_; rintro e w6 ⟨rfl, u6⟩; have u7 := s3.trans u6; have e7 : Hid (LnAt w6 wr.heap.size 0 0 0 false) := Lib.hid (u6.at (heap_alloc_last wr _) id); obtain ⟨e0, e1, e2, e3, z0, z1, z2, z3⟩ := e7.out.eight)
                  | (go_at_call 16; go_split_ands; rename_i s1 s2 s3; refine (cG.out _ (hA.kept s3 id)).mono ?_; rintro e w6 ⟨rfl, u6⟩; have u7 := s3.trans u6))
              all_goals (go_wp2_with fail)
              all_goals go_meet
              all_goals
                first
                  | exact ⟨wr.heap.size, rfl, rfl, Lib.hid (e7.out.set ga gp gf gw), (((u7.setCell (.inr (Nat.le_refl _)) _).setCell (.inr (Nat.le_refl _)) _).setCell (.inr (Nat.le_refl _)) _).setCell (.inr (Nat.le_refl _)) _⟩
                  | exact ⟨w6.heap.size, rfl, rfl, Lib.hid (heap_alloc_last w6 _), u7.alloc _⟩
            case rest =>
              obtain ⟨D, rfl, rfl, hD, u8⟩ := hcut
              have hA8 := Lib.hid (hA.kept u8 id)
              have hrow8 := Lib.hid (row_still hrow.out u8)
              have U8 : Hid (Upd (· = A) w _) := Lib.hid (U.out.trans u8.sub)
              have hr8 : Hid (World.rangeAt _ g (j * 4) [.int .i64 la, .int .i64 lp, .int .i64 lf, .bool lw]) := Lib.hid (fun i v h => u8.cell (hr i v h) id)
              clear hS cG c0 c1 hr u8 hA hrow U cD
              go_upto_region 16 with fail
              refine wp_region_tail 19 (by kernel_rfl) (by kernel_rfl) ?_
              simp only [List.take_succ_cons, List.take_zero, List.drop_succ_cons, List.drop_zero]
              intro w9 hw9
              have hA9 : Hid (BufAt w9 A F) := Lib.hid (by rw [hw9]; exact hA8.out)
              have hrow9 : Hid (w9.ownsRow N 28 4 (.slice (some ⟨g, 0, none⟩) L cp) L (lnsC WL)) := Lib.hid (by rw [hw9]; exact row_still hrow8.out (Upd.refl _ _).drew)
              have U9 : Hid (Upd (· = A) w w9) := Lib.hid (by rw [hw9]; exact U8.out.drew)
              have hr9 : w9.rangeAt g (j * 4) [.int .i64 la, .int .i64 lp, .int .i64 lf, .bool lw] := by rw [hw9]; exact hr8.out
              have hD9 : Hid (LnAt w9 D ga gp gf gw) := Lib.hid (by rw [hw9]; exact hD.out)
              have k0 := hr9 0 _ rfl
              rw [Nat.add_zero] at k0
              clear hw9 hA8 hrow8 U8 hr8 hD
              by_cases ha : la = asid
              · have hG0 := HG.out
                rw [if_pos ha] at hG0
                subst hG0
                obtain rfl : I = false := Hgi.out.symm
                clear Hgi Hgv HG HG2 hD9
                have hls := Lib.hid (hl0.out ha)
                subst ha
                iterate 10 still_step
                iterate 2 (with_reducible refine still_on (by simp [Region.wanted, yielded]) ?_; still_step)
                iterate 6 (with_reducible refine still_off (by simp [Region.wanted, yielded]) ?_; simp only [Act.put, List.setIfInBounds_toArray, List.set_cons_succ, List.set_cons_zero])
                with_reducible refine still_on (by simp [Region.wanted, yielded]) ?_
                still_step
                refine wpStill_nil ?_
                go_wp2
                go_roundw
                case rel => exact ⟨j + 1, by omega, by go_num, by rw [hls.out], hA9.out, hrow9, U9⟩
                case measure => simp [intOf]; omega
              · have hG0 := HG.out
                rw [if_neg ha] at hG0
                subst hG0
                obtain rfl : I = true := Hgi.out.symm
                obtain ⟨rfl, rfl, rfl, rfl⟩ := Ln.mk.inj (show (⟨la, lp, lf, lw⟩ : Ln) = ⟨ga, gp, gf, gw⟩ from Hgv.out)
                have hls := Lib.hid (hl1.out ha)
                have he := run_eqL la lp lf lw la lp lf lw true (by simp)
                have ha2 : (la == asid) = false := by simpa using ha
                have ha3 : (la != asid) = true := by simpa using ha
                clear Hgi Hgv HG HG2
                iterate 10 still_step
                iterate 2 (with_reducible refine still_on (by simp [Region.wanted, yielded, ha, ha2]) ?_; still_step)
                with_reducible refine still_on (by simp [Region.wanted, yielded, ha, ha2]) ?_
                with_reducible refine wpStill_load_sz rfl 28 (.tmp 12) rfl D 0 rfl [.int .i64 la, .int .i64 lp, .int .i64 lf, .bool lw] _ hD9.out.range Try.underlying28 rfl 4 (ln_len _ _ _ _) size_ln ?_
                simp only [Act.put, List.setIfInBounds_toArray, List.set_cons_succ, List.set_cons_zero]
                iterate 3 (with_reducible refine still_on (by simp [Region.wanted, yielded, ha, ha2]) ?_; still_step)
                with_reducible refine still_on (by simp [Region.wanted, yielded, ha, ha2]) ?_
                with_reducible refine wpStill_load_sz rfl 28 (.tmp 87) rfl g (j * 4) rfl [.int .i64 la, .int .i64 lp, .int .i64 lf, .bool lw] _ hr9 Try.underlying28 rfl 4 (ln_len _ _ _ _) size_ln ?_
                simp only [Act.put, List.setIfInBounds_toArray, List.set_cons_succ, List.set_cons_zero]
                iterate 2 (with_reducible refine still_on (by simp [Region.wanted, yielded, ha, ha2]) ?_; still_step)
                refine wpStill_nil ?_
                go_wp2
                exact ⟨⟨j + 1, by omega, by go_num, by rw [hls.out]; go_num, hA9.out, hrow9, U9⟩, by simp [intOf]; omega⟩
          · obtain rfl : j = L := by omega
            have hm2 : ((M : Nat) : Int) = (j : Int) - ((lefts WL asid j : Nat) : Int) := by have := hml.out; have := hll.out; omega
            have hw := Lib.hid (IntWalk.i64_in ((j : Int) - ((lefts WL asid j : Nat) : Int)) (by omega))
            have hFL := Lib.hid (show FL.length = lefts WL asid j from hll.out.symm)
            generalize lefts WL asid j = T at hm2 hw hFL ⊢
            clear hll hml hlt hj hfd cD
            go_wp2_with fail
            refine (cL2.out _ hA).mono ?_
            rintro e w5 ⟨v, rfl, hrow5, u5⟩
            rw [hFL.out] at hrow5
            obtain ⟨o5, cp5, rfl⟩ := row_slice hrow5
            have hA5 := hA.kept u5 id
            have U5 : Hid (Upd (· = A) w w5) := Lib.hid (U.out.trans u5.sub)
            clear hrow hrow5 hA U u5 cL2
            go_wp2_with fail
            refine (cF2.out _ hA5).mono ?_
            rintro e w6 ⟨rfl, hA6, u6⟩
            have U6 : Hid (Upd (· = A) w w6) := Lib.hid (U5.out.trans u6)
            clear u6 U5 cF2
            go_wp2
            go_ret
            exact ⟨rfl, below_own U6.out hAw⟩
  · have hn' : (100 : Int) < (n : Int) := by omega
    go_wp2
    go_ret
    exact ⟨rfl, below_own U.out hAw⟩
/-! ### the row's frame -/
theorem own : ownKnob Try.prog.godebug = none := by kernel_rfl
theorem laidOut : laidOutB Try.prog = true := by kernel_rfl
set_option linter.unusedVariables false in
set_option maxRecDepth 100000 in
theorem lifted (os : Os) (started : os.Started) (H : Type) (enc : TypeId × Value → H) :
    ReturnsInHanded {} Try.checked os 5 .any (Rows.tlbFlushSpec.pre6 enc Try.prog Try.f5 Rows.tlbFlushRow.domain false) (Rows.tlbFlushSpec.post enc Try.prog Try.f5 false true false false) := by
  refine returnsInHanded_of_change (C := Try.checked) own started (by kernel_rfl) Try.func5
    (ChangeSpec.witness6 (enc := enc) (C := Try.checked) false ⟨#[], #[.slice none 0 0, .int .i64 0], []⟩ 8 (by kernel_rfl) (by kernel_rfl) (by kernel_rfl) (by kernel_rfl)) ?_
  intro W base args ds gs before hval0 hW hcnd _
  have hval : ∀ (j : Nat) t v, Try.f5.params[j]? = some t → args[j]? = some v → Value.okWide Try.prog W .any base t v := hval0
  have hW' := hW
  obtain ⟨p, q, hA0, hV, rfl, hfz, hnd⟩ := hW
  have hA : DataW.TrodAll enc Try.prog W 0 (fun _ => true) true Try.f5.params.toList args.toList ds p := hA0
  rw [Try.params5] at hA hval
  obtain ⟨v0, vs0, d0, ds0, p0, q0, hargs, rfl, rfl, h0, r0⟩ := trodAll_cons hA
  obtain ⟨v1, vs1, d1, ds1, p1, q1, rfl, rfl, rfl, h1, r1⟩ := trodAll_cons r0
  obtain ⟨rfl, rfl, rfl⟩ := trodAll_nil r1
  obtain rfl : args = #[v0, v1] := by cases args; simp_all
  obtain ⟨rfl, rfl⟩ := trodVars_none hV
  have k0 := h0
  have lt0 : ∀ x ∈ p0, x.block < W.heap.size := by obtain ⟨m, hm⟩ := k0; exact DataW.trod_lt m _ _ _ hm
  obtain ⟨ao0, n0, cap0, b0, of0, E0, rfl, w0⟩ := Fr.open_rows 12 [some .i64, some .i64, some .i64, some .i64, some .i64, none] Try.underlying22 (by kernel_rfl) (by kernel_rfl) (by decide) (hval 0 22 v0 rfl rfl) h0
  have k1 := h1
  have lt1 : ∀ x ∈ p1, x.block < W.heap.size := by obtain ⟨m, hm⟩ := k1; exact DataW.trod_lt m _ _ _ hm
  obtain ⟨a1, rfl, rfl, rfl, w1⟩ := open_int Try.underlying3 (hval 1 3 v1 rfl rfl) h1
  clear hA0 hval0
  refine (walk ao0 n0 cap0 b0 of0 E0 a1 w1 W w0).mono fun e W' ⟨he, bel⟩ => ?_
  subst he
  exact ⟨_, rfl, _, _, _, [], _, [], hW', trodAll_mk1 (shut_bool Try.underlying4 _), (trodAll_cons_mk (Below.trod laidOut (by kernel_rfl) (of_decide_eq_true (by kernel_rfl)) k0 bel lt0) (trodAll_cons_mk (Below.trod laidOut (by kernel_rfl) (of_decide_eq_true (by kernel_rfl)) k1 bel lt1) trodAll_mk0)), rfl, bel.frame _, fun h => by cases h⟩

theorem over : Rows.tlbFlushRow.holds Try.pinned (OpenSpec.ofChange Rows.tlbFlushSpec) :=
  OpenClaim.holds_of_wide 5 Try.f5 rfl rfl rfl rfl rfl rfl rfl ⟨rfl, rfl, rfl, rfl, rfl⟩ rfl rfl rfl rfl rfl (by kernel_rfl) Try.func5 (by kernel_rfl)
    (of_decide_eq_true (by kernel_rfl)) (by unfold Func.isWrapper; first | (rw [if_pos (by decide +kernel)]; kernel_rfl) | (rw [if_neg (by decide +kernel)]; exact ⟨rfl, rfl⟩))
    (fun os started H enc _ => lifted os started H enc)

theorem proved : Rows.TlbFlushSaid :=
  over
end Go.Proofs.Ytjkomkcjoooiiaa.tlbFlush
