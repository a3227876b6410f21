/-
  Proved: trunnionlaw04.BuddyRefuses answers true for every input: what is refused changes nothing.
  Conditions: none.
-/
import Derived.Test.YtmobhojblclmjaaBgJ
namespace Go.Proofs.Ytmobhojblclmjaa.buddyRefuses
open Go.ChangeShapes Go.WideShapes Go.ChangeAt Go.RowKit Go.Maps
set_option linter.unusedVariables false
set_option linter.unusedSimpArgs false

/-- is the block among the first i of the list? -/
def seen (L : List (Nat × Nat)) (f o : Int) (i : Nat) : Bool := (L.take i).any fun x => isB x f o
theorem seen_succ {L : List (Nat × Nat)} {f o : Int} {i : Nat} (h : i < L.length) : seen L f o (i + 1) = (seen L f o i || isB (L.getD i (0, 0)) f o) := by
  unfold seen
  rw [take_snoc L i h, List.any_append]
  simp
theorem seen_all {L : List (Nat × Nat)} {f o : Int} : seen L f o L.length = true ↔ ∃ x, x ∈ L ∧ isB x f o = true := by
  unfold seen
  rw [List.take_of_length_le (Nat.le_refl _), List.any_eq_true]
theorem heap_box (w : World) (x y : Value) (t : TypeId) : (w.alloc (.cells #[x, y] t)).cell? ⟨w.heap.size, 0, none⟩ = some x ∧ (w.alloc (.cells #[x, y] t)).cell? ⟨w.heap.size, 1, none⟩ = some y := box2 (heap_alloc_last w _)

set_option maxRecDepth 100000 in
set_option maxHeartbeats 4000000 in
theorem walk (fs : Int) (ao : Option Addr) (n cap b off : Nat) (E : Nat → Nat → Value) (x0 x1 : Int) (w0 : (Lit.int .i64 fs).wf = true) (w1 : ∀ z ∈ [x0, x1], (Lit.int .i64 z).wf = true) (w : World) (R : Fr.RowArg w ao n b off [some .i64, some .i64, some .i64, some .u64] E) :
    Calls Try.prog 7 #[.int .i64 fs, .slice ao n cap, .agg #[.int .i64 x0, .int .i64 x1]] w fun e w' => e = .returned (.bool true) ∧ Below w.heap.size w w' := by
  have hmost := R.most
  have hw0 := Lib.hid (w1 x0 (by simp))
  clear w0 w1
  obtain ⟨b0, b1⟩ := heap_box w (.int .i64 x0) (.int .i64 x1) 64
  have U0 : Upd (fun _ => False) w (w.alloc (.cells #[.int .i64 x0, .int .i64 x1] 64)) := (Upd.refl _ _).alloc _
  go_enter Try.func7, Try.ntmps7
  go_wp2_with fail
  refine (awake_any _).mono ?_
  rintro x w1 ⟨rfl, U1⟩
  have c0 := U1.cell b0 (fun h => h)
  have c1 := U1.cell b1 (fun h => h)
  have V1 := U0.trans U1
  have hs1 := V1.size
  clear b0 b1 U0 U1
  go_wp2_with fail
  refine (begun_any fs 0 _).mono ?_
  rintro x w2 (⟨hno, rfl, U2⟩ | ⟨fn, r, A, MA, GB, MB, rfl, hr, n1, n2, _, rfl, D2, S2, U2⟩)
  · clear hno hmost
    go_wp2
    go_ret
    exact ⟨rfl, below_none (V1.trans U2)⟩
  obtain rfl : r = 0 := by omega
  have V2 := V1.trans U2
  have hge : w.heap.size ≤ GB := Nat.le_trans hs1 S2.gb
  have hmb : w.heap.size ≤ MB := Nat.le_trans hs1 S2.mb
  clear V1 U2 hr hs1 S2 c0 c1
  by_cases hn : 40 < n
  · have hnI : (40 : Int) < (n : Int) := by omega
    clear hmost
    go_wp2
    go_ret
    exact ⟨rfl, below_none V2⟩
  clear hmost
  go_wp2
  go_loopw [12] (fun t wr => ∃ (i : Nat) (bu : Bud), i ≤ n ∧ t = .int .i64 i ∧ bu.n = fn ∧ Duo wr A MA GB (memNew MB fn) bu ∧ Upd (fun _ => False) w wr) (fun t _ => n - (intOf t).toNat)
  case atStart => exact ⟨0, bud0 fn 0, by omega, rfl, rfl, D2, V2⟩
  case round =>
    obtain ⟨i, bu, hi, rfl, hbn, hD, hU⟩ := hrel
    by_cases hlt : i < n
    · obtain ⟨d, N, o, W, c0, c1, c2, c3, _⟩ := op_cells R i hlt
      have hao := R.place (by omega)
      subst hao
      have hc2 := hU.cell c2 (fun h => h)
      clear c0 c1 c2 c3
      go_wp2_with fail
      refine (balloc_all A MA GB _ bu o _ hD).mono ?_
      rintro x w3 ⟨y1, y2, bu', rfl, D3, e1, e2, U3⟩
      have V3 : Upd (fun _ => False) w w3 := hU.trans' U3 hge
      clear hD hU U3 hc2
      go_wp2
      exact ⟨⟨i + 1, bu', by omega, by go_num, by rw [e1, hbn], D3, V3⟩, by simp [intOf]; omega⟩
    · have e : i = n := by omega
      subst e
      clear D2 V2
      go_wp2_with fail
      refine (bHeld_any A MA GB bu _ hD.B).mono ?_
      rintro x w3 ⟨v, rfl, hrow, U3⟩
      have D3 := hD.still U3
      have V3 := hU.trans U3
      obtain ⟨oa, cap', rfl, hc⟩ := brow_of hrow
      have hLn : bu.held.length ≤ 256 := by rw [held_len]; exact hD.B.ok.gave_len
      obtain ⟨ln, hln⟩ : ∃ ln, bu.held.length = ln := ⟨_, rfl⟩
      rw [hln] at hc hLn ⊢
      have HLn := Lib.hid hln
      clear hrow hD hU U3 hln
      go_wp2
      go_loop [14, 15] (fun g t => ∃ j : Nat, j ≤ ln ∧ t = .int .i64 j ∧ g = .bool (seen bu.held x0 x1 j)) (fun _ t => ln - (intOf t).toNat)
      case atStart => exact ⟨0, by omega, rfl, rfl⟩
      case round =>
        obtain ⟨j, hj, rfl, rfl⟩ := hrel
        by_cases hjl : j < ln
        · obtain ⟨ga, rfl, g0, g1⟩ := hc j hjl
          have hsn := Lib.hid (seen_succ (L := bu.held) (f := x0) (o := x1) (i := j) (by rw [HLn.out]; exact hjl))
          generalize bu.held.getD j (0, 0) = y at g0 g1 hsn
          generalize seen bu.held x0 x1 j = sj at hsn ⊢
          cases sj
          · by_cases e0 : (y.1 : Int) = x0
            · by_cases e1 : (y.2 : Int) = x1
              · subst e0 e1
                have hv := Lib.hid (show seen bu.held y.1 y.2 (j + 1) = true from by rw [hsn.out]; simp [isB])
                clear hsn
                go_wp2
                exact ⟨⟨j + 1, by omega, by go_num, by rw [hv.out]⟩, by simp [intOf]; omega⟩
              · subst e0
                have hv := Lib.hid (show seen bu.held y.1 x1 (j + 1) = false from by rw [hsn.out]; simp [isB]; exact e1)
                have he : ((y.2 : Int) == x1) = false := by simpa using e1
                clear hsn
                go_wp2
                exact ⟨⟨j + 1, by omega, by go_num, by rw [hv.out]⟩, by simp [intOf]; omega⟩
            · have hv := Lib.hid (show seen bu.held x0 x1 (j + 1) = false from by rw [hsn.out]; simp [isB]; intro h; exact absurd h e0)
              have he : ((y.1 : Int) == x0) = false := by simpa using e0
              clear hsn
              go_wp2
              exact ⟨⟨j + 1, by omega, by go_num, by rw [hv.out]⟩, by simp [intOf]; omega⟩
          · have hv := Lib.hid (show seen bu.held x0 x1 (j + 1) = true from by rw [hsn.out]; rfl)
            clear hsn
            go_wp2
            exact ⟨⟨j + 1, by omega, by go_num, by rw [hv.out]⟩, by simp [intOf]; omega⟩
        · have e : j = ln := by omega
          subst e
          clear hc
          have hleft : (bu.left : Int) ≤ 256 := by have := left_sum D3.B.ok; have := D3.B.ok.hi; omega
          cases hg : seen bu.held x0 x1 j
          · have hno : ∀ y, y ∈ bu.gave → isB y x0 x1 = false := fun y hy => by
              cases hy' : isB y x0 x1
              · rfl
              · rw [← HLn.out] at hg
                rw [seen_all.2 ⟨y, show y ∈ bu.held from (heldOf_mem _).2 hy, hy'⟩] at hg
                cases hg
            clear hg
            go_wp2_with fail
            refine (bLeft_any A MA GB _ bu _ D3.B D3.M D3.n).mono ?_
            rintro x w4 ⟨rfl, U4⟩
            have D4 := D3.still U4
            have V4 := V3.trans U4
            clear D3 V3 U4
            go_wp2_with fail
            refine (bFree_any A MA GB _ bu x0 x1 _ D4.B D4.M hw0.out).mono ?_
            rintro x w5 (⟨_, rfl, rfl⟩ | ⟨y, hy, e0, e1, _⟩)
            case inr =>
              have := hno y hy
              simp [isB] at this
              exact absurd e1 (this e0)
            clear hno
            go_wp2_with fail
            have hbad : 8 < wrap64 (9 + bits BinOp.and IntKind.i64 x1 7) := by rw [and7]; unfold wrap64; omega
            generalize wrap64 (9 + bits BinOp.and IntKind.i64 x1 7) = ob at hbad ⊢
            generalize bits BinOp.and IntKind.i64 x1 7 = oc
            refine (bAlloc_bad A ob _ (.inr hbad)).mono ?_
            rintro x w6 ⟨rfl, rfl⟩
            go_wp2_with fail
            refine (bAlloc_bad A (-1) _ (.inl (by omega))).mono ?_
            rintro x w7 ⟨rfl, rfl⟩
            go_wp2_with fail
            refine (bHeld_any A MA GB bu _ D4.B).mono ?_
            rintro x w8 ⟨v8, rfl, hrow8, U8⟩
            have D8 := D4.still U8
            have V8 := V4.trans U8
            obtain ⟨o8, cap8, rfl⟩ := slice2 hrow8
            rw [HLn.out]
            clear hrow8 D4 V4 U8
            go_wp2_with fail
            refine (bLeft_any A MA GB _ bu _ D8.B D8.M D8.n).mono ?_
            rintro x w9 ⟨rfl, U9⟩
            go_wp2
            go_ret
            exact ⟨rfl, below_none (V8.trans U9)⟩
          · rw [← HLn.out] at hg
            obtain ⟨y, hy, hyb⟩ := seen_all.1 hg
            have hyg := (heldOf_mem _).1 hy
            obtain ⟨rfl, rfl⟩ := of_decide_eq_true hyb
            have y8 := (D3.B.ok.blk y hyg).1
            clear hg hyb hy
            go_wp2_with fail
            refine (bLeft_any A MA GB _ bu _ D3.B D3.M D3.n).mono ?_
            rintro x w4 ⟨rfl, U4⟩
            have D4 := D3.still U4
            have V4 := V3.trans U4
            have hj1 : 1 ≤ j := by rw [← HLn.out, held_len]; exact List.length_pos_of_mem hyg
            have hln1 : (bu.take y).held.length = j - 1 := by
              rw [held_len]
              show (bu.gave.erase y).length = j - 1
              rw [List.length_erase_of_mem hyg, ← held_len, HLn.out]
            obtain ⟨hl, hle⟩ : ∃ hl, (bu.take y).held.length = hl := ⟨_, rfl⟩
            have Hle := Lib.hid hle
            have hwj : IntKind.i64.wrap ((j : Int) - 1) = (hl : Int) := by rw [IntWalk.i64_in _ (by omega)]; omega
            have hlt := Lib.hid (show ((bu.take y).left : Int) = (bu.left : Int) + pw y.2 from by rw [left_take D4.B.ok hyg]; unfold pw; omega)
            clear hln1 hle
            clear D3 V3 U4
            go_wp2_with fail
            refine (bfree_yes A MA GB _ bu y _ D4 hyg).mono ?_
            rintro x w5 ⟨rfl, D5, U5⟩
            have V5 : Upd (fun _ => False) w w5 := V4.since U5 (fun k hk => by rcases hk with rfl | rfl; exact hge; exact hmb)
            have hbd := pw_bd y.2 y8
            have hsh := shl_pw2 y.2 y8
            have hwa : IntKind.i64.wrap ((bu.left : Int) + pw y.2) = (bu.left : Int) + pw y.2 := IntWalk.i64_in _ (by omega)
            clear D4 V4 U5
            go_upto_region 20 with fail
            have D5d := D5.still (Upd.refl (fun _ => False) w5).drew
            have V5d := V5.drew
            go_region_held3 (fun w' => True) (exact trivial)
              (first
                | (go_at_call 24; refine (bHeld_any A MA GB _ _ D5d.B).mono ?_; rintro e w6 ⟨v6, rfl, hrow6, U6⟩; obtain ⟨o6, cap6, rfl⟩ := slice2 hrow6; rw [Hle.out]; have D6 := D5d.still U6; have V6 := V5d.trans U6)
                | (go_at_call 28; refine (bLeft_any A MA GB _ _ _ D6.B D6.M D6.n).mono ?_; rintro e w7 ⟨rfl, U7⟩; rw [hlt.out]; have V7 := V6.trans U7))
            go_wp2
            go_ret
            exact ⟨rfl, below_none V7⟩
/-! ### the row's frame -/
theorem own : ownKnob Try.prog.godebug = none := by kernel_rfl
theorem laidOut : laidOutB Try.prog = true := by kernel_rfl
set_option linter.unusedVariables false in
set_option maxRecDepth 100000 in
theorem lifted (os : Os) (started : os.Started) (H : Type) (enc : TypeId × Value → H) :
    ReturnsInHanded {} Try.checked os 7 .any (Rows.buddyRefusesSpec.pre6 enc Try.prog Try.f7 Rows.buddyRefusesRow.domain false) (Rows.buddyRefusesSpec.post enc Try.prog Try.f7 false true false false) := by
  refine returnsInHanded_of_change (C := Try.checked) own started (by kernel_rfl) Try.func7
    (ChangeSpec.witness6 (enc := enc) (C := Try.checked) false ⟨#[], #[.int .i64 0, .slice none 0 0, .agg #[.int .i64 0, .int .i64 0]], []⟩ 8 (by kernel_rfl) (by kernel_rfl) (by kernel_rfl) (by kernel_rfl)) ?_
  intro W base args ds gs before hval0 hW hcnd _
  have hval : ∀ (j : Nat) t v, Try.f7.params[j]? = some t → args[j]? = some v → Value.okWide Try.prog W .any base t v := hval0
  have hW' := hW
  obtain ⟨p, q, hA0, hV, rfl, hfz, hnd⟩ := hW
  have hA : DataW.TrodAll enc Try.prog W 0 (fun _ => true) true Try.f7.params.toList args.toList ds p := hA0
  rw [Try.params7] at hA hval
  obtain ⟨v0, vs0, d0, ds0, p0, q0, hargs, rfl, rfl, h0, r0⟩ := trodAll_cons hA
  obtain ⟨v1, vs1, d1, ds1, p1, q1, rfl, rfl, rfl, h1, r1⟩ := trodAll_cons r0
  obtain ⟨v2, vs2, d2, ds2, p2, q2, rfl, rfl, rfl, h2, r2⟩ := trodAll_cons r1
  obtain ⟨rfl, rfl, rfl⟩ := trodAll_nil r2
  obtain rfl : args = #[v0, v1, v2] := by cases args; simp_all
  obtain ⟨rfl, rfl⟩ := trodVars_none hV
  have k0 := h0
  have lt0 : ∀ x ∈ p0, x.block < W.heap.size := by obtain ⟨m, hm⟩ := k0; exact DataW.trod_lt m _ _ _ hm
  obtain ⟨a0, rfl, rfl, rfl, w0⟩ := open_int Try.underlying3 (hval 0 3 v0 rfl rfl) h0
  have k1 := h1
  have lt1 : ∀ x ∈ p1, x.block < W.heap.size := by obtain ⟨m, hm⟩ := k1; exact DataW.trod_lt m _ _ _ hm
  obtain ⟨ao1, n1, cap1, b1, of1, E1, rfl, w1⟩ := Fr.open_rows 12 [some .i64, some .i64, some .i64, some .u64] Try.underlying22 (by kernel_rfl) (by kernel_rfl) (by decide) (hval 1 22 v1 rfl rfl) h1
  have k2 := h2
  have lt2 : ∀ x ∈ p2, x.block < W.heap.size := by obtain ⟨m, hm⟩ := k2; exact DataW.trod_lt m _ _ _ hm
  obtain ⟨z2, l2, rfl, w2⟩ := Fr.open_intArr Try.underlying64 Try.underlying3 (by kernel_rfl) (by kernel_rfl) (hval 2 64 v2 rfl rfl) h2
  obtain ⟨a2_0, a2_1, rfl⟩ := Fr.len2 l2
  clear hA0 hval0
  refine (walk a0 ao1 n1 cap1 b1 of1 E1 a2_0 a2_1 w0 w2 W w1).mono fun e W' ⟨he, bel⟩ => ?_
  subst he
  exact ⟨_, rfl, _, _, _, [], _, [], hW', trodAll_mk1 (shut_bool Try.underlying4 _), (trodAll_cons_mk (Below.trod laidOut (by kernel_rfl) (of_decide_eq_true (by kernel_rfl)) k0 bel lt0) (trodAll_cons_mk (Below.trod laidOut (by kernel_rfl) (of_decide_eq_true (by kernel_rfl)) k1 bel lt1) (trodAll_cons_mk (Below.trod laidOut (by kernel_rfl) (of_decide_eq_true (by kernel_rfl)) k2 bel lt2) trodAll_mk0))), rfl, bel.frame _, fun h => by cases h⟩

theorem over : Rows.buddyRefusesRow.holds Try.pinned (OpenSpec.ofChange Rows.buddyRefusesSpec) :=
  OpenClaim.holds_of_wide 7 Try.f7 rfl rfl rfl rfl rfl rfl rfl ⟨rfl, rfl, rfl, rfl, rfl⟩ rfl rfl rfl rfl rfl (by kernel_rfl) Try.func7 (by kernel_rfl)
    (of_decide_eq_true (by kernel_rfl)) (by unfold Func.isWrapper; first | (rw [if_pos (by decide +kernel)]; kernel_rfl) | (rw [if_neg (by decide +kernel)]; exact ⟨rfl, rfl⟩))
    (fun os started H enc _ => lifted os started H enc)

theorem proved : Rows.BuddyRefusesSaid :=
  over
end Go.Proofs.Ytmobhojblclmjaa.buddyRefuses
