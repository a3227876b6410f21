/-
  Proved: trunnionlaw03.BitmapRises answers true for every input: those that are in rise, are told anew, and can be left off.
  Conditions: none.
-/
import Derived.Test.YthlehgohpagfnaaBmF
import Derived.Deep.DeepCutAuto
import Derived.Deep.CutBlock
import Derived.Deep.RegionHeld3
namespace Go.Proofs.Ythlehgohpagfnaa.bitmapRises
open Go.ChangeShapes Go.WideShapes Go.ChangeAt Go.RowKit Go.Shelf
set_option linter.unusedVariables false
set_option linter.unusedSimpArgs false
attribute [local go_sem] Oper.semAt_some

theorem els_at (m : Nat → Bool) (k : Nat) (h : k < (els m).length) : (els m).getD k 0 < 256 ∧ m ((els m).getD k 0) = true := by
  have : (els m).getD k 0 ∈ els m := by rw [List.getD_eq_getElem?_getD, List.getElem?_eq_getElem h]; exact List.getElem_mem h
  exact mem_upto.1 this
theorem els_lt (m : Nat → Bool) (k : Nat) (h : k + 1 < (els m).length) : (els m).getD k 0 < (els m).getD (k + 1) 0 := by
  have := List.pairwise_iff_getElem.1 (els_rises m) k (k + 1) (by omega) h (by omega)
  rw [List.getD_eq_getElem?_getD, List.getD_eq_getElem?_getD, List.getElem?_eq_getElem h, List.getElem?_eq_getElem (show k < (els m).length from by omega)]
  exact this

set_option maxRecDepth 100000 in
set_option maxHeartbeats 1000000 in
theorem walk (ao : Option Addr) (n cap b off : Nat) (E : Nat → Nat → Value) (lim : Int) (w1 : (Lit.int .i64 lim).wf = true) (w : World) (R : Fr.RowArg w ao n b off [some .i64, none] E) :
    Calls Try.prog 5 #[.slice ao n cap, .int .i64 lim] w fun e w' => e = .returned (.bool true) ∧ Below w.heap.size w w' := by
  clear w1
  have hmost := R.most
  refine (callsIn_wide (n := 3)).1 ?_
  refine callsIn_of_wp_marks Try.func5 rfl trivial ?_ rfl
  simp only [Try.ntmps5, List.size_toArray, List.length_cons, List.length_nil, Nat.reduceAdd, Nat.reduceSub, Array.replicate_succ, Array.replicate_zero, List.push_toArray, List.append_toArray, List.nil_append, List.cons_append]
  refine wpIn_wide.2 ?_
  go_wp2_with fail
  have bL := Boxed.new w 3 (.int .i64 lim)
  have hB00 : Below w.heap.size w (w.alloc (.cells #[.int .i64 lim] 3)) := (Below.refl _ w).alloc (Nat.le_refl _) _
  have hsz : w.heap.size < (w.alloc (.cells #[.int .i64 lim] 3)).heap.size := by simp
  obtain ⟨N, hN⟩ : ∃ N, w.heap.size = N := ⟨_, rfl⟩
  generalize w.alloc (.cells #[.int .i64 lim] 3) = w0 at bL hB00 hsz ⊢
  rw [hN] at bL hB00 hsz ⊢
  refine (awake_any _).mono ?_
  rintro x w1 ⟨rfl, B1⟩
  have h0 := new_set w1
  have hA := Nat.lt_of_lt_of_le hsz B1.size
  have bL1 : Boxed w1 N 3 (.int .i64 lim) := (B1.block N hsz).trans bL
  have hB0 := (hB00.trans (B1.mono (Nat.le_of_lt hsz))).trans (((Below.refl _ w1).alloc (Nat.le_refl _) (.cells #[.int .u64 0, .int .u64 0, .int .u64 0, .int .u64 0] 28)).mono (Nat.le_of_lt hA))
  have bL0 := bL1.alloc (.cells #[.int .u64 0, .int .u64 0, .int .u64 0, .int .u64 0] 28)
  clear bL hB00 bL1
  go_upto_block 0 with fail
  generalize w1.alloc (.cells #[.int .u64 0, .int .u64 0, .int .u64 0, .int .u64 0] 28) = W0 at h0 hB0 bL0 ⊢
  clear B1 hsz
  generalize w1.heap.size = A at h0 hA ⊢
  have hNle : N ≤ w.heap.size := by omega
  go_cut [7] from 16 to 37 (fun s7 wx => ∃ (k : Nat) (m : Nat → Bool), s7 = .int .i64 k ∧ SetAt wx A m ∧ Below N w wx ∧ Boxed wx N 3 (.int .i64 lim))
  case first =>
    go_wp2_with fail
    go_loopw [7] (fun t wr => ∃ (k : Nat) (m : Nat → Bool), k ≤ n ∧ k ≤ 300 ∧ t = .int .i64 k ∧ SetAt wr A m ∧ Below N w wr ∧ Boxed wr N 3 (.int .i64 lim)) (fun t _ => 300 - (intOf t).toNat)
    case atStart => exact ⟨0, _, by omega, by omega, rfl, h0, hB0, bL0⟩
    case round =>
      obtain ⟨k, m, hk, hk3, rfl, hS, hB, hL⟩ := hrel
      clear h0 hB0 bL0
      by_cases hlt : k < n
      · by_cases hl3 : k < 300
        · obtain rfl := R.place (by omega)
          have R' := R.kept (show Below w.heap.size w wr from hN ▸ hB)
          obtain ⟨x, y, c0, c1⟩ := op2 R' k hlt
          have hkn : (k : Int) < (n : Int) := by omega
          go_wp2_with fail
          refine wp_region_tail 11 (by kernel_rfl) (by kernel_rfl) ?_
          simp only [List.take_succ_cons, List.take_zero, List.drop_succ_cons, List.drop_zero]
          intro w3 hw3
          have hS3 : SetAt w3 A m := by rw [hw3]; exact hS.drew
          have hL3 : Boxed w3 N 3 (.int .i64 lim) := by rw [hw3]; exact hL
          have hB3 : Below N w w3 := by rw [hw3]; exact below_drew hB
          have c0' : w3.cell? ⟨b, off + k * 2, none⟩ = some (.int .i64 x) := by rw [hw3]; simpa using c0
          have c1' : w3.cell? ⟨b, off + k * 2 + 1, none⟩ = some (.bool y) := by rw [hw3]; simpa using c1
          clear hw3 c0 c1 hS hB hL R'
          repeat still_step
          refine wpStill_nil ?_
          go_wp2_with fail
          refine (bput_any A m x y _ hS3).mono ?_
          rintro z w4 ⟨rfl, M4, U4⟩
          have B4 := below_one hB3 U4 (Nat.le_of_lt hA) hNle
          have L4 : Boxed w4 N 3 (.int .i64 lim) := U4.at hL3 (by omega)
          go_wp2
          go_roundw
          case rel => exact ⟨k + 1, _, by omega, by omega, by go_num, M4, B4, L4⟩
          case measure => simp [intOf]; omega
        · go_wp2
          go_meet
          exact ⟨k, m, rfl, hS, hB, hL⟩
      · go_wp2
        go_meet
        exact ⟨k, m, rfl, hS, hB, hL⟩
  case rest =>
    obtain ⟨k, m, rfl, hS, hB, hL⟩ := hcut
    clear R hmost h0 hB0 bL0
    go_wp2_with fail
    refine (told_any A m _ hS).mono ?_
    rintro z w2 ⟨v, rfl, hrow, b2⟩
    have hS2 := hS.below b2 hS.lt
    have hB2 := hB.trans (b2.mono (Nat.le_of_lt (Nat.lt_trans hA hS.lt)))
    have hL2 : Boxed w2 N 3 (.int .i64 lim) := (b2.block N hL.lt).trans hL
    have hr := row_of hrow
    have hl : (els m).length ≤ 256 := upto_len m 256
    clear hS hB hL b2 hrow
    obtain ⟨L, hLen⟩ : ∃ L, (els m).length = L := ⟨_, rfl⟩
    have hr' := hr
    obtain ⟨o, cap', rfl, hc⟩ := hr'
    rw [hLen] at hc hl ⊢
    have HLen := Lib.hid hLen
    have Hr := Lib.hid hr
    clear hLen hr
    go_upto_block 2 with fail
    go_cut [9] from 40 to 68 (fun s9 wx => ∃ q : Nat, wx = w2.drewN q)
    case first =>
      go_wp2_with fail
      go_loopw [9] (fun t wr => ∃ k q : Nat, k ≤ L ∧ t = .int .i64 k ∧ wr = w2.drewN q) (fun t _ => L - (intOf t).toNat)
      case atStart => exact ⟨0, 0, by omega, rfl, rfl⟩
      case round =>
        obtain ⟨k, q, hk, rfl, rfl⟩ := hrel
        by_cases hlt : k < L
        · obtain ⟨g, rfl, hg⟩ := hc k hlt
          obtain ⟨e1, e2⟩ := els_at m k (by rw [HLen.out]; exact hlt)
          have hh := has_any A m ((els m).getD k 0 : Nat)
          rw [hasB_nat m _ e1, e2] at hh
          have hcall : ∀ q', Calls Try.prog 10 #[.pointer (some ⟨A, 0, none⟩), .int .i64 ((els m).getD k 0 : Nat)] (w2.drewN q') fun e w' => e = .returned (.bool true) ∧ ∃ k, w' = (w2.drewN q').drewN k := fun q' => hh _ (hS2.drewN q')
          cases k with
          | zero =>
            generalize (els m).getD 0 0 = x at hg hcall
            clear hh e1 e2 hc
            go_wp2
            go_quiet ((go_at_call 10; exact draws1 (hcall _)))
            go_wp2
            go_roundw
            case rel => exact ⟨1, _, by omega, by go_num, rfl⟩
            case measure => simp [intOf]; omega
          | succ k =>
            have hlt2 := els_lt m k (by rw [HLen.out]; exact hlt)
            obtain ⟨g', eg, hg'⟩ := hc k (by omega)
            cases eg
            have hw1 : IntKind.i64.wrap (((k + 1 : Nat) : Int) - 1) = k := by rw [IntWalk.i64_in _ (by omega)]; omega
            generalize (els m).getD (k + 1) 0 = x at hg hcall hlt2
            generalize (els m).getD k 0 = y at hg' hlt2
            clear hh e1 e2 hc
            go_wp2
            go_quiet ((go_at_call 10; exact draws1 (hcall _)))
            go_wp2
            go_roundw
            case rel => exact ⟨k + 1 + 1, _, by omega, by go_num, rfl⟩
            case measure => simp [intOf]; omega
        · go_wp2
          go_meet
          exact ⟨_, rfl⟩
    case rest =>
      obtain ⟨q, rfl⟩ := hcut
      have hS3 := hS2.drewN q
      have hB3 := below_drewN hB2 q
      have hL3 : Boxed (w2.drewN q) N 3 (.int .i64 lim) := hL2
      have Hr3 := Lib.hid (Hr.out.drewN q)
      generalize w2.drewN q = w3 at hS3 hB3 hL3 Hr3 ⊢
      clear hS2 hB2 hL2 Hr hc
      have hnil : ∀ (B : Nat) (w : World), (binOp .eql 45 (.func (.func 23) #[] #[.pointer (some ⟨B, 0, none⟩)]) .nilFunc).run Try.prog w = .ok (.bool false) w := fun B w => by kernel_rfl
      go_wp2_with fail
      refine (all_any A _).mono ?_
      rintro z w4 ⟨rfl, rfl⟩
      go_wp2_with fail
      have bF := Boxed.new w3 3 (.int .i64 0)
      have bN := Boxed.new (w3.alloc (.cells #[.int .i64 0] 3)) 24 (.pointer (some ⟨A, 0, none⟩))
      rw [World.size_alloc] at bN
      have b4 : Below w3.heap.size w3 ((w3.alloc (.cells #[.int .i64 0] 3)).alloc (.cells #[.pointer (some ⟨A, 0, none⟩)] 24)) := ((Below.refl _ w3).alloc (Nat.le_refl _) _).alloc (by simp) _
      have bF := bF.alloc (.cells #[.pointer (some ⟨A, 0, none⟩)] 24)
      have hsz : ((w3.alloc (.cells #[.int .i64 0] 3)).alloc (.cells #[.pointer (some ⟨A, 0, none⟩)] 24)).heap.size = w3.heap.size + 2 := by simp
      have hAlt := hS3.lt
      generalize ((w3.alloc (.cells #[.int .i64 0] 3)).alloc (.cells #[.pointer (some ⟨A, 0, none⟩)] 24)) = W4 at bF bN b4 hsz ⊢
      have hS4 : SetAt W4 A m := hS3.below b4 hAlt
      obtain ⟨M, hM⟩ : ∃ M, w3.heap.size = M := ⟨_, rfl⟩
      rw [hM] at bF bN b4 hsz hAlt ⊢
      have hNM : N < M := by omega
      refine (wpIn_wide (n := 3)).1 ?_
      refine wpIn_rangeFunc_ownG rfl (by decide) (gf := 23) (lb := #[.pointer (some ⟨M + 1, 0, none⟩)]) rfl trivial (enters_of Try.func23 (by kernel_rfl) rfl)
        (all_stops (3 - 1) (by decide) (M + 1) A m W4 bN hS4) keepsTwo_t (keepsTwo_b (by omega) (by omega)) (Below.refl _ _) (fun _ => rfl)
        (fun pre W => (lim < 0 ∨ (pre.length : Int) ≤ lim) ∧ Boxed W M 3 (.int .i64 pre.length) ∧ Boxed W (M + 1) 24 (.pointer (some ⟨A, 0, none⟩)) ∧ Below M w3 W)
        (fun c pre W => c = .exit 4 ∧ (0 ≤ lim ∧ lim < pre.length) ∧ Boxed W M 3 (.int .i64 lim) ∧ Below M w3 W)
        (by rintro s X Y row ⟨g1, b1, b2, bl⟩ hg hr; exact ⟨g1, boxed_from b1 hg hr, boxed_from b2 hg hr, below_from bl (by omega) (by omega) hg hr⟩)
        (by rintro c s X Y row ⟨rfl, g1, b1, bl⟩ hg hr; exact ⟨rfl, g1, boxed_from b1 hg hr, below_from bl (by omega) (by omega) hg hr⟩)
        ⟨by simp; omega, bF, bN, b4⟩
        ?a1 ?assign ?body ?done ?stop
      case assign =>
        intro l x W K hK
        gi_wp2
        exact hK
      case body =>
        rintro l pre x W ⟨g1, b1, b2, bl⟩ hlt
        have hc1 := b1.cell
        have hf1 := b1.frozen
        have hc2 := ((show Boxed W N 3 (.int .i64 lim) from (bl.block N (by omega)).trans hL3)).cell
        have hSW : SetAt W A m := hS3.below bl (by omega)
        by_cases hq : (pre.length : Int) = lim
        · rw [hq] at hc1 b1
          gi_wp2
          exact ⟨KeepsFrom.refl _ _, rfl, ⟨by omega, by rw [List.length_append, List.length_singleton]; omega⟩, b1, bl⟩
        · have hne : ((pre.length : Int) == lim) = false := by simpa using hq
          gi_wp2
          have hst := b1.set (.int .i64 ((pre.length : Int) + 1))
          have ht := (Below.refl M W).setCell (p := ⟨M, 0, none⟩) (by simp) (.int .i64 ((pre.length : Int) + 1))
          refine ⟨(KeepsOthers.setCell _ _ _).from _, keepsTwo_of hSW (hSW.below ht (by omega)) b2 (b2.other (by omega) _), ?_, ?_, b2.other (by omega) _, bl.trans ht⟩
          · rw [List.length_append, List.length_singleton]; omega
          · rw [List.length_append, List.length_singleton]; exact hst
      case done =>
        rintro D ys W hD rfl ⟨g1, b1, b2, bl⟩ hK
        rw [show (lift (els m)).length = L from by have := congrArg List.length (lift_els m); rw [List.length_map] at this; rw [this, HLen.out]] at g1 b1
        have hS5 : SetAt W A m := hS3.below bl (by omega)
        have hL5 : Boxed W N 3 (.int .i64 lim) := (bl.block N (by omega)).trans hL3
        have hB5 : Below N w W := hB3.trans (bl.mono (by omega))
        have Hr5 := Lib.hid (Hr3.out.kept bl (by omega))
        have hDW := lt_of_heap hK
        have hMW := b1.lt
        clear hS3 hB3 hL3 Hr3 bl hS4 bF bN b4
        go_wp2_with fail
        refine (told_any A m _ hS5).mono ?_
        rintro z w6 ⟨v6, rfl, row6, b6⟩
        have hS6 := hS5.below b6 hS5.lt
        have hL6 : Boxed w6 N 3 (.int .i64 lim) := (b6.block N hL5.lt).trans hL5
        have hF6 : Boxed w6 M 3 (.int .i64 L) := (b6.block M hMW).trans b1
        have hB6 := hB5.trans (b6.mono (by have := hL5.lt; omega))
        have hK6 := (b6.block D hDW).trans hK
        have Ra := Hr5.out.kept b6 (Nat.le_refl _)
        have Rb := row_of row6
        have hlen : (els m).length ≤ 256 := by rw [HLen.out]; exact hl
        rw [HLen.out] at Ra
        clear row6 b6 Hr5 hS5 hL5 b1 hB5 hK hDW hMW
        go_wp2_with fail
        refine (same_any (els m) (els m) _ _ _ Ra Rb hlen hlen).mono ?_
        rintro z w7 ⟨rfl, q7, rfl⟩
        rw [decide_eq_true rfl]
        have hS7 := hS6.drewN q7
        have hL7 : Boxed (w6.drewN q7) N 3 (.int .i64 lim) := hL6
        have hF7 : Boxed (w6.drewN q7) M 3 (.int .i64 L) := hF6
        have hB7 := below_drewN hB6 q7
        have hK7 : (w6.drewN q7).heap[D]? = some (.deferred (some [])) := hK6
        generalize w6.drewN q7 = w7 at hS7 hL7 hF7 hB7 hK7 ⊢
        clear hS6 hL6 hF6 hB6 hK6 Ra Rb
        have hl7 := len_any A m _ hS7
        rw [HLen.out] at hl7
        go_wp2_with fail
        refine hl7.mono ?_
        rintro z w8 ⟨rfl, rfl⟩
        have hc1 := hL7.cell
        have hc2 := hF7.cell
        have hfin := hB7.trans (belowK_b (w := w) (n₀ := N) (by omega) _ D _ (.deferred none) (by omega) hK7 rfl rfl)
        rcases g1 with g1 | g1
        · go_wp2
          refine ⟨by simp, .inl ⟨_, _, rfl, run_takeDeferred hK7, ?_⟩⟩
          exact ⟨_, results_tmp rfl _ _ _, rfl, by first | exact hfin | (rw [hN]; exact hfin)⟩
        · have h0l : 0 ≤ lim := by omega
          by_cases heq : (L : Int) = lim
          · have he1 : ((L : Int) == lim) = true := by simp [heq]
            go_wp2
            all_goals refine ⟨by simp, .inl ⟨_, _, rfl, run_takeDeferred hK7, ?_⟩⟩
            all_goals exact ⟨_, results_tmp rfl _ _ _, rfl, by first | exact hfin | (rw [hN]; exact hfin)⟩
          · go_wp2
            refine ⟨by simp, .inl ⟨_, _, rfl, run_takeDeferred hK7, ?_⟩⟩
            exact ⟨_, results_tmp rfl _ _ _, rfl, by first | exact hfin | (rw [hN]; exact hfin)⟩
      case stop =>
        rintro D c pre W hD hp ⟨rfl, ⟨g1, g2⟩, b1, bl⟩ hK
        have hpl : lim < L := by
          have h1 := hp.length_le
          rw [show (lift (els m)).length = L from by have := congrArg List.length (lift_els m); rw [List.length_map] at this; rw [this, HLen.out]] at h1
          omega
        clear hp g2
        refine (wpIn_wide (n := 3)).2 ?_
        have hS5 : SetAt W A m := hS3.below bl (by omega)
        have hL5 : Boxed W N 3 (.int .i64 lim) := (bl.block N (by omega)).trans hL3
        have hB5 : Below N w W := hB3.trans (bl.mono (by omega))
        have Hr5 := Lib.hid (Hr3.out.kept bl (by omega))
        have hDW := lt_of_heap hK
        have hMW := b1.lt
        clear hS3 hB3 hL3 Hr3 bl hS4 bF bN b4
        go_wp2_with fail
        refine (told_any A m _ hS5).mono ?_
        rintro z w6 ⟨v6, rfl, row6, b6⟩
        have hS6 := hS5.below b6 hS5.lt
        have hL6 : Boxed w6 N 3 (.int .i64 lim) := (b6.block N hL5.lt).trans hL5
        have hF6 : Boxed w6 M 3 (.int .i64 lim) := (b6.block M hMW).trans b1
        have hB6 := hB5.trans (b6.mono (by have := hL5.lt; omega))
        have hK6 := (b6.block D hDW).trans hK
        have Ra := Hr5.out.kept b6 (Nat.le_refl _)
        have Rb := row_of row6
        have hlen : (els m).length ≤ 256 := by rw [HLen.out]; exact hl
        rw [HLen.out] at Ra
        clear row6 b6 Hr5 hS5 hL5 b1 hB5 hK hDW hMW
        go_wp2_with fail
        refine (same_any (els m) (els m) _ _ _ Ra Rb hlen hlen).mono ?_
        rintro z w7 ⟨rfl, q7, rfl⟩
        rw [decide_eq_true rfl]
        have hS7 := hS6.drewN q7
        have hL7 : Boxed (w6.drewN q7) N 3 (.int .i64 lim) := hL6
        have hF7 : Boxed (w6.drewN q7) M 3 (.int .i64 lim) := hF6
        have hB7 := below_drewN hB6 q7
        have hK7 : (w6.drewN q7).heap[D]? = some (.deferred (some [])) := hK6
        generalize w6.drewN q7 = w7 at hS7 hL7 hF7 hB7 hK7 ⊢
        clear hS6 hL6 hF6 hB6 hK6 Ra Rb
        have hl7 := len_any A m _ hS7
        rw [HLen.out] at hl7
        go_wp2_with fail
        refine hl7.mono ?_
        rintro z w8 ⟨rfl, rfl⟩
        have hc1 := hL7.cell
        have hc2 := hF7.cell
        have hfin := hB7.trans (belowK_b (w := w) (n₀ := N) (by omega) _ D _ (.deferred none) (by omega) hK7 rfl rfl)
        go_wp2
        refine ⟨by simp, .inl ⟨_, _, rfl, run_takeDeferred hK7, ?_⟩⟩
        exact ⟨_, results_tmp rfl _ _ _, rfl, by first | exact hfin | (rw [hN]; exact hfin)⟩
/-! ### the row's frame -/
theorem own : ownKnob Try.prog.godebug = none := by kernel_rfl
theorem laidOut : laidOutB Try.prog = true := by kernel_rfl
set_option linter.unusedVariables false in
set_option maxRecDepth 100000 in
theorem lifted (os : Os) (started : os.Started) (H : Type) (enc : TypeId × Value → H) :
    ReturnsInHanded {} Try.checked os 5 .any (Rows.bitmapRisesSpec.pre6 enc Try.prog Try.f5 Rows.bitmapRisesRow.domain false) (Rows.bitmapRisesSpec.post enc Try.prog Try.f5 false true false false) := by
  refine returnsInHanded_of_change (C := Try.checked) own started (by kernel_rfl) Try.func5
    (ChangeSpec.witness6 (enc := enc) (C := Try.checked) false ⟨#[], #[.slice none 0 0, .int .i64 0], []⟩ 8 (by kernel_rfl) (by kernel_rfl) (by kernel_rfl) (by kernel_rfl)) ?_
  intro W base args ds gs before hval0 hW hcnd _
  have hval : ∀ (j : Nat) t v, Try.f5.params[j]? = some t → args[j]? = some v → Value.okWide Try.prog W .any base t v := hval0
  have hW' := hW
  obtain ⟨p, q, hA0, hV, rfl, hfz, hnd⟩ := hW
  have hA : DataW.TrodAll enc Try.prog W 0 (fun _ => true) true Try.f5.params.toList args.toList ds p := hA0
  rw [Try.params5] at hA hval
  obtain ⟨v0, vs0, d0, ds0, p0, q0, hargs, rfl, rfl, h0, r0⟩ := trodAll_cons hA
  obtain ⟨v1, vs1, d1, ds1, p1, q1, rfl, rfl, rfl, h1, r1⟩ := trodAll_cons r0
  obtain ⟨rfl, rfl, rfl⟩ := trodAll_nil r1
  obtain rfl : args = #[v0, v1] := by cases args; simp_all
  obtain ⟨rfl, rfl⟩ := trodVars_none hV
  have k0 := h0
  have lt0 : ∀ x ∈ p0, x.block < W.heap.size := by obtain ⟨m, hm⟩ := k0; exact DataW.trod_lt m _ _ _ hm
  obtain ⟨ao0, n0, cap0, b0, of0, E0, rfl, w0⟩ := Fr.open_rows 12 [some .i64, none] Try.underlying22 (by kernel_rfl) (by kernel_rfl) (by decide) (hval 0 22 v0 rfl rfl) h0
  have k1 := h1
  have lt1 : ∀ x ∈ p1, x.block < W.heap.size := by obtain ⟨m, hm⟩ := k1; exact DataW.trod_lt m _ _ _ hm
  obtain ⟨a1, rfl, rfl, rfl, w1⟩ := open_int Try.underlying3 (hval 1 3 v1 rfl rfl) h1
  clear hA0 hval0
  refine (walk ao0 n0 cap0 b0 of0 E0 a1 w1 W w0).mono fun e W' ⟨he, bel⟩ => ?_
  subst he
  exact ⟨_, rfl, _, _, _, [], _, [], hW', trodAll_mk1 (shut_bool Try.underlying4 _), (trodAll_cons_mk (Below.trod laidOut (by kernel_rfl) (of_decide_eq_true (by kernel_rfl)) k0 bel lt0) (trodAll_cons_mk (Below.trod laidOut (by kernel_rfl) (of_decide_eq_true (by kernel_rfl)) k1 bel lt1) trodAll_mk0)), rfl, bel.frame _, fun h => by cases h⟩

theorem over : Rows.bitmapRisesRow.holds Try.pinned (OpenSpec.ofChange Rows.bitmapRisesSpec) :=
  OpenClaim.holds_of_wide 5 Try.f5 rfl rfl rfl rfl rfl rfl rfl ⟨rfl, rfl, rfl, rfl, rfl⟩ rfl rfl rfl rfl rfl (by kernel_rfl) Try.func5 (by kernel_rfl)
    (of_decide_eq_true (by kernel_rfl)) (by unfold Func.isWrapper; first | (rw [if_pos (by decide +kernel)]; kernel_rfl) | (rw [if_neg (by decide +kernel)]; exact ⟨rfl, rfl⟩))
    (fun os started H enc _ => lifted os started H enc)

theorem proved : Rows.BitmapRisesSaid :=
  over
end Go.Proofs.Ythlehgohpagfnaa.bitmapRises
