/-
  Proved: trunnionlaw04.BuddyPlays answers true for every input: whatever calls are made one by one, the allocator answers and holds just what the document's own allocator does.
  Conditions: none.
-/
import Derived.Test.YtmobhojblclmjaaBgQ
namespace Go.Proofs.Ytmobhojblclmjaa.buddyPlays
open Go.ChangeShapes Go.WideShapes Go.ChangeAt Go.RowKit Go.Maps
set_option linter.unusedVariables false
set_option linter.unusedSimpArgs false

set_option maxRecDepth 100000 in
set_option maxHeartbeats 8000000 in
theorem walk (fs rs : Int) (ao : Option Addr) (n cap b off : Nat) (E : Nat → Nat → Value) (w0 : (Lit.int .i64 fs).wf = true) (w1 : (Lit.int .i64 rs).wf = true) (w : World) (R : Fr.RowArg w ao n b off [some .i64, some .i64, some .i64, some .u64] E) :
    Calls Try.prog 3 #[.int .i64 fs, .int .i64 rs, .slice ao n cap] w fun e w' => e = .returned (.bool true) ∧ Below w.heap.size w w' := by
  clear w0 w1
  have hmost := R.most
  by_cases hN : 1 ≤ fs ∧ fs ≤ 256
  · obtain ⟨n1, n2⟩ := hN
    obtain ⟨fn, rfl⟩ := Int.eq_ofNat_of_zero_le (by omega : 0 ≤ fs)
    go_enter Try.func3, Try.ntmps3
    go_wp2_with fail
    refine (awake_any _).mono ?_
    rintro e w1 ⟨rfl, U1⟩
    go_wp2_with fail
    refine (new_yes fn _ (by omega) (by omega)).mono ?_
    rintro e w2 ⟨rfl, M2, U2, s2⟩
    have S2 := Lib.hid s2
    clear s2
    go_wp2_with fail
    refine (rNew_yes fn _ (by omega) (by omega)).mono ?_
    rintro e w3 ⟨rfl, R3, U3, s3⟩
    have S3 := Lib.hid s3
    clear s3
    have M3 := M2.kept U3 (fun h => h) (fun h => h)
    have V3 := (U1.trans U2).trans U3
    have z1 := Lib.hid U1.size
    by_cases hr : 0 ≤ rs ∧ rs ≤ (fn : Int)
    · obtain ⟨r, rfl⟩ := Int.eq_ofNat_of_zero_le hr.1
      have hrn : r ≤ fn := by omega
      go_wp2_with fail
      refine (bNew_yes _ _ r _ M3 hrn).mono ?_
      rintro e w4 ⟨rfl, B4, U4, s4⟩
      have S4 := Lib.hid s4
      clear s4
      have R4 := R3.kept U4 (fun h => h) (fun h => h)
      go_wp2_with fail
      refine (rbNew_yes _ _ r _ R4 hrn).mono ?_
      rintro e w5 ⟨rfl, K5, B5⟩
      have U5 : Upd (fun _ => False) w4 w5 := Upd.of_below B5
      rw [re_new w1.heap.size w2.heap.size fn] at R4
      have Q5 : Qu w w5 (w3.heap.size + 1) (w1.heap.size + 1) w3.heap.size w1.heap.size (w2.heap.size + 1) w2.heap.size (w4.heap.size + 1) w4.heap.size (.slice none 0 0) (memNew w1.heap.size fn) (bud0 fn r) :=
        ⟨⟨B4.kept U5 (fun h => h) (fun h => h), (M3.kept U4 (fun h => h) (fun h => h)).kept U5 (fun h => h) (fun h => h), rfl⟩, R4.kept U5 (fun h => h) (fun h => h), K5, rfl, (V3.trans U4).trans U5, by have := S2.out; have := S3.out; have := S4.out; have := z1.out; omega, z1.out, by have := S2.out; have := z1.out; omega, by have := S2.out; have := S3.out; have := S4.out; have := z1.out; omega, by have := S2.out; have := S3.out; have := S4.out; have := z1.out; omega⟩
      clear M2 R3 M3 V3 B4 R4 K5 B5 U1 U2 U3 U4 U5
      generalize memNew w1.heap.size fn = m at Q5
      generalize bud0 fn r = bu at Q5
      generalize Value.slice none 0 0 = gg at Q5
      generalize w3.heap.size + 1 = A at Q5 ⊢
      generalize w1.heap.size + 1 = MA at Q5 ⊢
      generalize w2.heap.size + 1 = RA at Q5 ⊢
      generalize w4.heap.size + 1 = C at Q5 ⊢
      generalize w3.heap.size = GB at Q5
      generalize w1.heap.size = MB at Q5
      generalize w2.heap.size = RB at Q5
      generalize w4.heap.size = FB at Q5
      clear S2 S3 S4 z1 hr hrn
      go_wp2
      go_loopw [16] (fun t wr => ∃ (i : Nat) (g : Value) (m : Mem) (bu : Bud), i ≤ n ∧ i ≤ 60 ∧ t = .int .i64 i ∧ Qu w wr A MA GB MB RA RB C FB g m bu) (fun t _ => 60 - (intOf t).toNat)
      case atStart => exact ⟨0, gg, m, bu, by omega, by omega, rfl, Q5⟩
      case round =>
        clear Q5
        obtain ⟨i, gg, m, bu, hi, hi6, rfl, Q⟩ := hrel
        by_cases hlt : i < n
        · by_cases hl6 : i < 60
          · obtain rfl := R.place (by omega)
            obtain ⟨d, N, o, W, c0, c1, c2, c3, wd, wN, wo, wW⟩ := op_cells R i hlt
            have p0 := Q.U.cell c0 (fun h => h)
            have p1 := Q.U.cell c1 (fun h => h)
            have p2 := Q.U.cell c2 (fun h => h)
            have p3 := Q.U.cell c3 (fun h => h)
            have HwN := Lib.hid wN
            clear c0 c1 c2 c3 wd wN wo wW
            go_upto_region 13 with fail
            go_upto_region 14 with fail
            have Qw := Q.still ((Upd.refl (fun _ => False) wr).alloc (.cells #[.int .i64 d, .int .i64 N, .int .i64 o, .int .u64 W] 39))
            have X := heap_alloc_last wr (.cells #[.int .i64 d, .int .i64 N, .int .i64 o, .int .u64 W] 39)
            generalize wr.alloc (.cells #[.int .i64 d, .int .i64 N, .int .i64 o, .int .u64 W] 39) = W5 at Qw X ⊢
            generalize wr.heap.size = OB at X ⊢
            clear Q p0 p1 p2 p3
            obtain ⟨o0, o1, o2, o3⟩ := box4 X
            have HX := Lib.hid X
            clear X
            obtain ⟨v1, v2, v3, v4, v5⟩ := Qw.op HX.out
            go_upto_block 2 with fail
            go_cut [18] (fun s18 wx => s18 = .bool true ∧ ∃ (g' : Value) (m' : Mem) (bu' : Bud), Qu w wx A MA GB MB RA RB C FB g' m' bu' ∧ Hid (wx.heap[OB]? = some (.cells #[.int .i64 d, .int .i64 N, .int .i64 o, .int .u64 W] 39 (0, 0))))
            case first =>
              have Qd := Qw.still (Upd.refl (fun _ => False) W5).drew
              have HXd := Lib.hid (show W5.drew.heap[OB]? = some (.cells #[.int .i64 d, .int .i64 N, .int .i64 o, .int .u64 W] 39 (0, 0)) from HX.out)
              by_cases d01 : d = 0 ∨ d = 1
              · rcases d01 with rfl | rfl
                all_goals
                  as_aux_lemma =>
                    clear Qd HXd o0 o1 o3
                    go_wp2_with fail
                    refine (Qw.alloc o).mono ?_
                    rintro z w6 ⟨x, y, rfl, U6, hR⟩
                    have o26 := (box4 (op_kept1 HX.out U6 v1 v2)).2.2.1
                    have HR := Lib.hid hR
                    clear hR o2
                    go_wp2_with fail
                    refine HR.out.mono ?_
                    rintro z w7 ⟨rfl, U7, g', b', Q7⟩
                    have HX7 := Lib.hid (op_kept HX.out U6 U7 v1 v2 v3 v4 v5)
                    clear HR o26 U6 U7 HX Qw
                    go_wp2_with fail
                    go_meet
                    exact ⟨rfl, g', m, b', Q7, HX7⟩
              · have e0 : (d == 0) = false := by simp; omega
                have e1 : (d == 1) = false := by simp; omega
                by_cases d2 : d = 2
                · subst d2
                  clear d01 Qd HXd
                  obtain ⟨og, cg, rfl⟩ := slice2 Qw.K.gv
                  have hC0 := Qw.K.head
                  have hC2 := Qw.K.c2
                  obtain ⟨og', cg', eg, hc⟩ := brow_of Qw.K.gv
                  injection eg with eg1 eg2 eg3
                  subst eg1
                  have hmem := Lib.hid (fun j (hj : j < bu.gave.length) => show bu.gave.getD j (0, 0) ∈ bu.gave from by rw [List.getD_eq_getElem?_getD, List.getElem?_eq_getElem hj]; exact List.getElem_mem _)
                  have hgl := Qw.K.ok.gave_len
                  obtain ⟨ln, hln⟩ : ∃ ln, bu.gave.length = ln := ⟨_, rfl⟩
                  rw [hln] at hc hmem hC2 hgl
                  clear eg2 eg3 hC0 cg' o0 o2 o3
                  by_cases h0 : 0 < ln
                  · have h0I : (0 : Int) < (ln : Int) := by omega
                    by_cases hN : 0 ≤ N
                    · obtain ⟨N', rfl⟩ := Int.eq_ofNat_of_zero_le hN
                      obtain ⟨q, hq⟩ : ∃ q, N' % ln = q := ⟨_, rfl⟩
                      have hql : q < ln := by rw [← hq]; exact Nat.mod_lt _ h0
                      have hqI : (N' : Int) % (ln : Int) = (q : Int) := by rw [← hq]; omega
                      have hqT : (N' : Int).tmod (ln : Int) = (q : Int) := by rw [Int.tmod_eq_emod_of_nonneg (by omega)]; exact hqI
                      have hne : ¬ (ln : Int) = 0 := by omega
                      have hqlI : (q : Int) < (ln : Int) := by omega
                      have hneN : ¬ ln = 0 := by omega
                      obtain ⟨gb, rfl, g0, g1⟩ := hc q hql
                      have Hx := Lib.hid (hmem.out q hql)
                      generalize bu.gave.getD q (0, 0) = x at g0 g1 Hx
                      have Hq := Lib.hid hq
                      clear hc hmem hq
                      as_aux_lemma =>
                        have hS := Lib.hid (show ∀ (W' : World) (S : Nat → Prop), Upd S W5 W' → ¬ S OB → ¬ S C → ¬ S gb → W'.cell? ⟨OB, 1, none⟩ = some (.int .i64 (N' : Int)) ∧ W'.cell? ⟨C, 2, none⟩ = some (.slice (some ⟨gb, 0, none⟩) ln cg) ∧ W'.cell? ⟨gb, q * 2, none⟩ = some (.int .i64 (x.1 : Int)) ∧ W'.cell? ⟨gb, q * 2 + 1, none⟩ = some (.int .i64 (x.2 : Int)) from fun W' S u h1 h2 h3 => ⟨u.cell o1 h1, u.cell hC2 h2, u.cell g0 h3, u.cell g1 h3⟩)
                        go_upto_region 24 with fail
                        go_region_held3 (fun w' => w'.cell? ⟨OB, 1, none⟩ = some (.int .i64 (N' : Int)) ∧ w'.cell? ⟨C, 2, none⟩ = some (.slice (some ⟨gb, 0, none⟩) ln cg) ∧ w'.cell? ⟨gb, q * 2, none⟩ = some (.int .i64 (x.1 : Int)) ∧ w'.cell? ⟨gb, q * 2 + 1, none⟩ = some (.int .i64 (x.2 : Int)))
                          (first
                            | exact ⟨o1, hC2, g0, g1⟩
                            | exact hS.out _ (fun _ => False) ((Upd.refl _ _).drew) (fun h => h) (fun h => h) (fun h => h)
                            | exact hS.out _ (fun _ => False) (((Upd.refl _ _).drew).alloc _) (fun h => h) (fun h => h) (fun h => h))
                          (fail)
                        have U7 : Upd (fun _ => False) W5 (W5.alloc (.cells #[.int .i64 x.1, .int .i64 x.2] 47)).drew := ((Upd.refl _ _).alloc _).drew
                        have a1 : (W5.alloc (.cells #[.int .i64 x.1, .int .i64 x.2] 47)).drew.heap[W5.heap.size]? = some (.cells #[.int .i64 x.1, .int .i64 x.2] 47 (0, 0)) := heap_alloc_last W5 _
                        have Q7 := Qw.still U7
                        have HX7 := Lib.hid (U7.at HX.out (fun h => h))
                        clear U7 Qw HX o1 hC2 g0 g1 hS
                        generalize (W5.alloc (.cells #[.int .i64 x.1, .int .i64 x.2] 47)).drew = W7 at a1 Q7 HX7 ⊢
                        generalize W5.heap.size = TB at a1 ⊢
                        go_wp2_with fail
                        as_aux_lemma =>
                          obtain ⟨u0, u1⟩ := box2 a1
                          have Qd := Q7.still (Upd.refl (fun _ => False) W7).drew
                          have HXd := Lib.hid (show W7.drew.heap[OB]? = some (.cells #[.int .i64 2, .int .i64 N', .int .i64 o, .int .u64 W] 39 (0, 0)) from HX7.out)
                          have a1d := Lib.hid (show W7.drew.heap[TB]? = some (.cells #[.int .i64 x.1, .int .i64 x.2] 47 (0, 0)) from a1)
                          have t1 : TB ≠ GB := map2 Q7.D.B a1
                          have t2 : TB ≠ MB := ty2 a1 Q7.body (by decide)
                          have t3 : TB ≠ C := ty2 a1 Q7.K.head (by decide)
                          have t4 : TB ≠ FB := ty2 a1 Q7.K.fr (by decide)
                          have t5 : TB ≠ RB := ty2 a1 Q7.rbody (by decide)
                          clear Q7 HX7
                          go_region_held3 (fun w' => w'.cell? ⟨TB, 0, none⟩ = some (.int .i64 (x.1 : Int)) ∧ w'.cell? ⟨TB, 1, none⟩ = some (.int .i64 (x.2 : Int)))
                            (first
                              | exact ⟨u0, u1⟩
                              | exact box2 a1d.out
                              | exact box2 b7.out
                              | exact box2 b6.out)
                            (first
                              | (go_at_call 17; refine (Qd.free Hx.out).mono ?_; rintro e w8 ⟨rfl, U8, hR⟩; have b6 := Lib.hid (op_kept1 a1d.out U8 t1 t2); have HR := Lib.hid hR; clear hR)
                              | (go_at_call 18; refine HR.out.mono ?_; rintro e w9 ⟨rfl, U9, g', m', b', Q9⟩; have b7 := Lib.hid (op_kept a1d.out U8 U9 t1 t2 t3 t4 t5); have HX9 := Lib.hid (op_kept HXd.out U8 U9 v1 v2 v3 v4 v5)))
                          go_wp2_with fail
                          go_meet
                          exact ⟨rfl, g', m', b', Q9, HX9⟩
                    · have hN' : decide (0 ≤ N) = false := decide_eq_false hN
                      clear hc hmem
                      go_wp2_with fail
                      go_meet
                      exact ⟨rfl, _, m, bu, Qw, HX⟩
                  · obtain rfl : ln = 0 := by omega
                    clear hc hmem h0
                    go_wp2_with fail
                    go_meet
                    exact ⟨rfl, _, m, bu, Qw, HX⟩
                · have e2 : (d == 2) = false := by simpa using d2
                  by_cases d3 : d = 3
                  · subst d3
                    clear d01 d2
                    by_cases hx : ∃ x, x ∈ bu.gave ∧ isB x N o = true
                    · obtain ⟨x, hx, hxb⟩ := hx
                      obtain ⟨rfl, rfl⟩ := of_decide_eq_true hxb
                      as_aux_lemma =>
                        have Hx := Lib.hid hx
                        clear hx hxb o0 o3
                        go_wp2_with fail
                        go_region_held3 (fun w' => w'.cell? ⟨OB, 1, none⟩ = some (.int .i64 (x.1 : Int)) ∧ w'.cell? ⟨OB, 2, none⟩ = some (.int .i64 (x.2 : Int)))
                          (first
                            | exact ⟨o1, o2⟩
                            | exact ⟨(box4 HXd.out).2.1, (box4 HXd.out).2.2.1⟩
                            | exact ⟨(box4 HX7.out).2.1, (box4 HX7.out).2.2.1⟩
                            | exact ⟨(box4 HX6.out).2.1, (box4 HX6.out).2.2.1⟩)
                          (first
                            | (go_at_call 17; refine (Qd.free Hx.out).mono ?_; rintro e w6 ⟨rfl, U6, hR⟩; have HX6 := Lib.hid (op_kept1 HXd.out U6 v1 v2); have HR := Lib.hid hR; clear hR)
                            | (go_at_call 18; refine HR.out.mono ?_; rintro e w7 ⟨rfl, U7, g', m', b', Q7⟩; have HX7 := Lib.hid (op_kept HXd.out U6 U7 v1 v2 v3 v4 v5)))
                        go_wp2_with fail
                        go_meet
                        exact ⟨rfl, g', m', b', Q7, HX7⟩
                    · have Hno := Lib.hid (show ∀ x, x ∈ bu.gave → isB x N o = false from fun x hx' => by
                        cases hb : isB x N o
                        · rfl
                        · exact absurd ⟨x, hx', hb⟩ hx)
                      as_aux_lemma =>
                        clear hx o0 o3
                        go_wp2_with fail
                        go_region_held3 (fun w' => w'.cell? ⟨OB, 1, none⟩ = some (.int .i64 N) ∧ w'.cell? ⟨OB, 2, none⟩ = some (.int .i64 o))
                          (first
                            | exact ⟨o1, o2⟩
                            | exact ⟨(box4 HXd.out).2.1, (box4 HXd.out).2.2.1⟩)
                          (first
                            | (go_at_call 17; refine (bfree_no A MA GB _ bu N o _ Qd.D HwN.out Hno.out).mono ?_; rintro e w6 ⟨rfl, rfl⟩)
                            | (go_at_call 18; refine (rfree_no C RA FB _ bu _ N o _ Qd.K Qd.R (by rw [re_n]; exact Qd.D.n) Hno.out).mono ?_; rintro e w7 ⟨rfl, rfl⟩))
                        go_wp2_with fail
                        go_meet
                        exact ⟨rfl, gg, m, bu, Qd, HXd⟩
                  · have e3 : (d == 3) = false := by simpa using d3
                    as_aux_lemma =>
                      clear d01 d2 d3 o0 o2
                      go_wp2_with fail
                      go_region_held3 (fun w' => w'.cell? ⟨OB, 1, none⟩ = some (.int .i64 N) ∧ w'.cell? ⟨OB, 3, none⟩ = some (.int .u64 W))
                        (first
                          | exact ⟨o1, o3⟩
                          | exact ⟨(box4 HXd.out).2.1, (box4 HXd.out).2.2.2⟩
                          | exact ⟨(box4 HX7.out).2.1, (box4 HX7.out).2.2.2⟩
                          | exact ⟨(box4 HX6.out).2.1, (box4 HX6.out).2.2.2⟩)
                        (first
                          | (go_at_call 19; refine (Qd.write N W).mono ?_; rintro e w6 ⟨rfl, U6, hR⟩; have HX6 := Lib.hid (op_kept1 HXd.out U6 v1 v2); have HR := Lib.hid hR; clear hR)
                          | (go_at_call 20; refine HR.out.mono ?_; rintro e w7 ⟨rfl, U7, g', m', b', Q7⟩; have HX7 := Lib.hid (op_kept HXd.out U6 U7 v1 v2 v3 v4 v5)))
                      go_wp2_with fail
                      go_meet
                      exact ⟨rfl, g', m', b', Q7, HX7⟩
            case rest =>
              obtain ⟨rfl, g', m', bu', Q6, HX6⟩ := hcut
              clear Qw HX o0 o1 o2 o3 v1 v2 v3 v4 v5 HwN
              as_aux_lemma =>
                have hLb : (blocks bu'.F bu'.n).length ≤ 256 := Nat.le_trans (blocks_len _ _) Q6.D.B.ok.hi
                have hLh : bu'.held.length ≤ 256 := by rw [held_len]; exact Q6.D.B.ok.gave_len
                go_wp2_with fail
                refine (bBlocks_any A MA GB m' bu' _ Q6.D.B Q6.D.M Q6.D.n).mono ?_
                rintro z w7 ⟨x7, rfl, r7, U7⟩
                have Q7 := Q6.still U7
                have HX7 := Lib.hid (U7.at HX6.out (fun h => h))
                clear Q6 HX6 U7
                go_wp2_with fail
                refine (rblocks_any C RA FB g' bu' _ Q7.K).mono ?_
                rintro z w8 ⟨x8, rfl, r8, B8⟩
                have U8 : Upd (fun _ => False) w7 w8 := Upd.of_below B8
                have r78 := row_kept r7 U8 (fun _ _ h => h)
                have Q8 := Q7.still U8
                have HX8 := Lib.hid (U8.at HX7.out (fun h => h))
                clear Q7 HX7 U8 B8 r7
                go_wp2_with fail
                refine (bsame_any _ _ x7 x8 _ (brow_of r78) (brow_of r8) hLb hLb).mono ?_
                rintro z w9 ⟨rfl, p9, rfl⟩
                rw [decide_eq_true (show blocks bu'.F bu'.n = blocks bu'.F bu'.n from rfl)]
                have Q9 := Q8.still ((Upd.refl (fun _ => False) w8).drewN p9)
                have HX9 := Lib.hid (show (w8.drewN p9).heap[OB]? = _ from HX8.out)
                clear Q8 HX8 r78 r8 hLb
                generalize w8.drewN p9 = W9 at Q9 HX9 ⊢
                go_wp2_with fail
                refine (bHeld_any A MA GB bu' _ Q9.D.B).mono ?_
                rintro z w10 ⟨x10, rfl, r10, U10⟩
                have Q10 := Q9.still U10
                have HX10 := Lib.hid (U10.at HX9.out (fun h => h))
                clear Q9 HX9 U10
                go_wp2_with fail
                refine (rheld_any C RA FB g' bu' _ Q10.K).mono ?_
                rintro z w11 ⟨x11, rfl, r11, B11⟩
                have U11 : Upd (fun _ => False) w10 w11 := Upd.of_below B11
                have r1011 := row_kept r10 U11 (fun _ _ h => h)
                have Q11 := Q10.still U11
                have HX11 := Lib.hid (U11.at HX10.out (fun h => h))
                clear Q10 HX10 U11 B11 r10
                go_wp2_with fail
                refine (bsame_any _ _ x10 x11 _ (brow_of r1011) (brow_of r11) hLh hLh).mono ?_
                rintro z w12 ⟨rfl, p12, rfl⟩
                rw [decide_eq_true (show bu'.held = bu'.held from rfl)]
                have Q12 := Q11.still ((Upd.refl (fun _ => False) w11).drewN p12)
                have HX12 := Lib.hid (show (w11.drewN p12).heap[OB]? = _ from HX11.out)
                clear Q11 HX11 r1011 r11 hLh
                generalize w11.drewN p12 = W12 at Q12 HX12 ⊢
                obtain ⟨o0, o1, o2, o3⟩ := box4 HX12.out
                clear o0 o2 o3
                go_wp2_with fail
                refine (read_any MA m' N _ Q12.D.M).mono ?_
                rintro z w13 ⟨rfl, rfl⟩
                go_wp2_with fail
                refine (rRead_any RA _ N _ Q12.R).mono ?_
                rintro z w13 ⟨rfl, rfl⟩
                rw [re_rd, re_has]
                go_wp2_with fail
                refine (bLeft_any A MA GB m' bu' _ Q12.D.B Q12.D.M Q12.D.n).mono ?_
                rintro z w14 ⟨rfl, U14⟩
                have Q14 := Q12.still U14
                clear Q12 HX12 U14 o1
                go_wp2_with fail
                refine (rleft_any C RA FB g' bu' _ Q14.K).mono ?_
                rintro z w15 ⟨rfl, rfl⟩
                go_wp2
                go_roundw
                case rel => exact ⟨i + 1, g', m', bu', by omega, by omega, by go_num, Q14⟩
                case measure => simp [intOf]; omega
          · have e : i = 60 := by omega
            subst e
            have hU := Q.U
            clear Q
            go_wp2
            go_ret
            exact ⟨rfl, below_none hU⟩
        · have e : i = n := by omega
          subst e
          have hU := Q.U
          clear Q
          go_wp2
          go_ret
          exact ⟨rfl, below_none hU⟩
    · go_wp2_with fail
      refine (bNew_no _ _ rs _ M3 (by show rs < 0 ∨ (fn : Int) < rs; omega)).mono ?_
      rintro e w4 ⟨rfl, rfl⟩
      go_wp2_with fail
      refine (rbNew_no _ _ rs _ R3 (by show rs < 0 ∨ (fn : Int) < rs; omega)).mono ?_
      rintro e w5 ⟨rfl, rfl⟩
      go_wp2
      go_loop [16] (fun t => t = .int .i64 0) (fun _ => 0)
      case atStart => rfl
      case round =>
        subst hrel
        by_cases hn0 : n = 0
        · subst hn0
          go_wp2
          go_ret
          exact ⟨rfl, below_none V3⟩
        · have hnI : (0 : Int) < (n : Int) := by omega
          go_wp2
          go_ret
          exact ⟨rfl, below_none V3⟩
  · go_enter Try.func3, Try.ntmps3
    go_wp2_with fail
    refine (awake_any _).mono ?_
    rintro e w1 ⟨rfl, U1⟩
    go_wp2_with fail
    refine (new_no fs _ (by omega)).mono ?_
    rintro e w2 ⟨rfl, rfl⟩
    go_wp2_with fail
    refine (rNew_no fs _ (by omega)).mono ?_
    rintro e w3 ⟨rfl, rfl⟩
    go_wp2
    go_ret
    exact ⟨rfl, below_none U1⟩
/-! ### the row's frame -/
theorem own : ownKnob Try.prog.godebug = none := by kernel_rfl
theorem laidOut : laidOutB Try.prog = true := by kernel_rfl
set_option linter.unusedVariables false in
set_option maxRecDepth 100000 in
theorem lifted (os : Os) (started : os.Started) (H : Type) (enc : TypeId × Value → H) :
    ReturnsInHanded {} Try.checked os 3 .any (Rows.buddyPlaysSpec.pre6 enc Try.prog Try.f3 Rows.buddyPlaysRow.domain false) (Rows.buddyPlaysSpec.post enc Try.prog Try.f3 false true false false) := by
  refine returnsInHanded_of_change (C := Try.checked) own started (by kernel_rfl) Try.func3
    (ChangeSpec.witness6 (enc := enc) (C := Try.checked) false ⟨#[], #[.int .i64 0, .int .i64 0, .slice none 0 0], []⟩ 8 (by kernel_rfl) (by kernel_rfl) (by kernel_rfl) (by kernel_rfl)) ?_
  intro W base args ds gs before hval0 hW hcnd _
  have hval : ∀ (j : Nat) t v, Try.f3.params[j]? = some t → args[j]? = some v → Value.okWide Try.prog W .any base t v := hval0
  have hW' := hW
  obtain ⟨p, q, hA0, hV, rfl, hfz, hnd⟩ := hW
  have hA : DataW.TrodAll enc Try.prog W 0 (fun _ => true) true Try.f3.params.toList args.toList ds p := hA0
  rw [Try.params3] at hA hval
  obtain ⟨v0, vs0, d0, ds0, p0, q0, hargs, rfl, rfl, h0, r0⟩ := trodAll_cons hA
  obtain ⟨v1, vs1, d1, ds1, p1, q1, rfl, rfl, rfl, h1, r1⟩ := trodAll_cons r0
  obtain ⟨v2, vs2, d2, ds2, p2, q2, rfl, rfl, rfl, h2, r2⟩ := trodAll_cons r1
  obtain ⟨rfl, rfl, rfl⟩ := trodAll_nil r2
  obtain rfl : args = #[v0, v1, v2] := by cases args; simp_all
  obtain ⟨rfl, rfl⟩ := trodVars_none hV
  have k0 := h0
  have lt0 : ∀ x ∈ p0, x.block < W.heap.size := by obtain ⟨m, hm⟩ := k0; exact DataW.trod_lt m _ _ _ hm
  obtain ⟨a0, rfl, rfl, rfl, w0⟩ := open_int Try.underlying3 (hval 0 3 v0 rfl rfl) h0
  have k1 := h1
  have lt1 : ∀ x ∈ p1, x.block < W.heap.size := by obtain ⟨m, hm⟩ := k1; exact DataW.trod_lt m _ _ _ hm
  obtain ⟨a1, rfl, rfl, rfl, w1⟩ := open_int Try.underlying3 (hval 1 3 v1 rfl rfl) h1
  have k2 := h2
  have lt2 : ∀ x ∈ p2, x.block < W.heap.size := by obtain ⟨m, hm⟩ := k2; exact DataW.trod_lt m _ _ _ hm
  obtain ⟨ao2, n2, cap2, b2, of2, E2, rfl, w2⟩ := Fr.open_rows 12 [some .i64, some .i64, some .i64, some .u64] Try.underlying22 (by kernel_rfl) (by kernel_rfl) (by decide) (hval 2 22 v2 rfl rfl) h2
  clear hA0 hval0
  refine (walk a0 a1 ao2 n2 cap2 b2 of2 E2 w0 w1 W w2).mono fun e W' ⟨he, bel⟩ => ?_
  subst he
  exact ⟨_, rfl, _, _, _, [], _, [], hW', trodAll_mk1 (shut_bool Try.underlying4 _), (trodAll_cons_mk (Below.trod laidOut (by kernel_rfl) (of_decide_eq_true (by kernel_rfl)) k0 bel lt0) (trodAll_cons_mk (Below.trod laidOut (by kernel_rfl) (of_decide_eq_true (by kernel_rfl)) k1 bel lt1) (trodAll_cons_mk (Below.trod laidOut (by kernel_rfl) (of_decide_eq_true (by kernel_rfl)) k2 bel lt2) trodAll_mk0))), rfl, bel.frame _, fun h => by cases h⟩

theorem over : Rows.buddyPlaysRow.holds Try.pinned (OpenSpec.ofChange Rows.buddyPlaysSpec) :=
  OpenClaim.holds_of_wide 3 Try.f3 rfl rfl rfl rfl rfl rfl rfl ⟨rfl, rfl, rfl, rfl, rfl⟩ rfl rfl rfl rfl rfl (by kernel_rfl) Try.func3 (by kernel_rfl)
    (of_decide_eq_true (by kernel_rfl)) (by unfold Func.isWrapper; first | (rw [if_pos (by decide +kernel)]; kernel_rfl) | (rw [if_neg (by decide +kernel)]; exact ⟨rfl, rfl⟩))
    (fun os started H enc _ => lifted os started H enc)

theorem proved : Rows.BuddyPlaysSaid :=
  over
end Go.Proofs.Ytmobhojblclmjaa.buddyPlays
