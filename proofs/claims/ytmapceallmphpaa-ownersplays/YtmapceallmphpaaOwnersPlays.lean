/-
  Proved: trunnionlaw05.OwnersPlays answers true for every input: any calls, one by one, answer as the document does.
  Conditions: none.
-/
import Derived.Test.YtmapceallmphpaaOwP
import Derived.Test.YtmapceallmphpaaFrame
import Derived.Deep.DeepCutAuto
import Derived.Deep.CutBlock
import Derived.Deep.RegionHeld3
namespace Go.Proofs.Ytmapceallmphpaa.ownersPlays
open Go.ChangeShapes Go.WideShapes Go.ChangeAt Go.RowKit
set_option linter.unusedVariables false
set_option linter.unusedSimpArgs false

/-- both owners, the same in both -/
structure Pair (w wr : World) (A LB C RB : Nat) (o : Ow) : Prop where
  P : OwAt wr A LB o
  R : ROw wr C RB o
  U : Upd (fun _ => False) w wr
  l0 : w.heap.size ≤ LB
  l1 : LB < A
  l2 : A < RB
  l3 : RB < C
theorem Pair.kept {w wr w' : World} {A LB C RB : Nat} {o : Ow} (h : Pair w wr A LB C RB o) (u : Upd (fun _ => False) wr w') : Pair w w' A LB C RB o :=
  ⟨h.P.kept u (fun h => h) (fun h => h), h.R.kept u (fun h => h) (fun h => h), h.U.trans u, h.l0, h.l1, h.l2, h.l3⟩
theorem Pair.lt {w wr : World} {A LB C RB : Nat} {o : Ow} (h : Pair w wr A LB C RB o) : C < wr.heap.size := lt_of_heap h.R.head
/-- a call on the one, then on the other -/
theorem Pair.step {w w1 w2 w3 : World} {A LB C RB a c : Nat} {o o' : Ow} (h : Pair w w1 A LB C RB o) (ha : a = A ∨ a = LB) (hc : c = C ∨ c = RB) (hP : OwAt w2 A LB o') (u : Upd (· = a) w1 w2) (hR : ROw w3 C RB o') (u' : Upd (· = c) w2 w3) : Pair w w3 A LB C RB o' := by
  have h0 := h.l0
  have h1 := h.l1
  have h2 := h.l2
  have h3 := h.l3
  refine ⟨hP.kept u' (show A ≠ c by omega) (show LB ≠ c by omega), hR, ?_, h0, h1, h2, h3⟩
  exact (h.U.newer u (by intro j hj; have : j = a := hj; omega)).newer u' (by intro j hj; have : j = c := hj; omega)
theorem Pair.mid {w w1 w2 : World} {A LB C RB a : Nat} {o : Ow} (h : Pair w w1 A LB C RB o) (ha : a = A ∨ a = LB) (u : Upd (· = a) w1 w2) : ROw w2 C RB o := by
  have h1 := h.l1
  have h2 := h.l2
  have h3 := h.l3
  exact h.R.kept u (show C ≠ a by omega) (show RB ≠ a by omega)

set_option maxRecDepth 100000 in
set_option maxHeartbeats 4000000 in
theorem walk (N : Int) (ao : Option Addr) (n cap b off : Nat) (E : Nat → Nat → Value) (w0 : (Lit.int .i64 N).wf = true) (w : World) (R : Fr.RowArg w ao n b off [some .i64, some .i64, some .i64, some .i64] E) :
    Calls Try.prog 3 #[.int .i64 N, .slice ao n cap] w fun e w' => e = .returned (.bool true) ∧ Below w.heap.size w w' := by
  clear w0
  have hmost := R.most
  by_cases hN : 1 ≤ N ∧ N ≤ 256
  · obtain ⟨n1, n2⟩ := hN
    obtain ⟨F, rfl⟩ := Int.eq_ofNat_of_zero_le (by omega : 0 ≤ N)
    go_enter Try.func3, Try.ntmps3
    go_wp2_with fail
    refine (awake_any owc _).mono ?_
    rintro e w1 ⟨rfl, U1⟩
    go_wp2_with fail
    refine (gNew_yes F _ (by omega) (by omega)).mono ?_
    rintro e w2 ⟨rfl, M2, U2⟩
    have s2 := lt_of_heap M2.head
    have S2 := Lib.hid s2
    clear s2
    go_wp2_with fail
    refine (oNew_yes F _ (by omega) (by omega)).mono ?_
    rintro e w3 ⟨rfl, R3, U3⟩
    have T0 : Pair w w3 (w1.heap.size + 1) w1.heap.size (w2.heap.size + 1) w2.heap.size (ow0 F) :=
      ⟨M2.kept U3 (fun h => h) (fun h => h), R3, (U1.trans U2).trans U3, U1.size, by omega, S2.out, by omega⟩
    clear M2 R3 U1 U2 U3 S2
    generalize ow0 F = o0 at T0
    generalize w1.heap.size + 1 = A at T0 ⊢
    generalize w2.heap.size + 1 = C at T0 ⊢
    generalize w1.heap.size = LB at T0
    generalize w2.heap.size = RB at T0
    go_wp2_with fail
    go_loopw [10] (fun t wr => ∃ (i : Nat) (o : Ow), i ≤ n ∧ i ≤ 100 ∧ t = .int .i64 i ∧ Pair w wr A LB C RB o) (fun t _ => 100 - (intOf t).toNat)
    case atStart => exact ⟨0, o0, by omega, by omega, rfl, T0⟩
    case round =>
      obtain ⟨i, o, hi, hi1, rfl, T⟩ := hrel
      clear T0
      by_cases hlt : i < n
      · by_cases hl1 : i < 100
        · obtain rfl := R.place (by omega)
          obtain ⟨d, f, k, v, c0, c1, c2, c3, bf, bk, bv⟩ := oop_cells R i hlt
          have Bk := Lib.hid bk
          have p0 := T.U.cell c0 (fun h => h)
          have p1 := T.U.cell c1 (fun h => h)
          have p2 := T.U.cell c2 (fun h => h)
          have p3 := T.U.cell c3 (fun h => h)
          clear c0 c1 c2 c3 bf bk bv
          go_upto_region 9 with fail
          go_upto_region 10 with fail
          have Tw := T.kept ((Upd.refl (fun _ => False) wr).alloc (.cells #[.int .i64 d, .int .i64 f, .int .i64 k, .int .i64 v] 32))
          have X := heap_alloc_last wr (.cells #[.int .i64 d, .int .i64 f, .int .i64 k, .int .i64 v] 32)
          have hg := T.lt
          generalize wr.alloc (.cells #[.int .i64 d, .int .i64 f, .int .i64 k, .int .i64 v] 32) = W at Tw X ⊢
          generalize wr.heap.size = g at X hg ⊢
          clear T p0 p1 p2 p3
          obtain ⟨o0, o1, o2, o3⟩ := obox4 X
          have HX := Lib.hid X
          clear X
          have hg1 : g ≠ A := by have := Tw.l2; have := Tw.l3; omega
          have hg2 : g ≠ LB := by have := Tw.l1; have := Tw.l2; have := Tw.l3; omega
          have hg3 : g ≠ C := by omega
          have hg4 : g ≠ RB := by have := Tw.l3; omega
          clear hg
          go_upto_block 2 with fail
          go_cut [12] (fun s12 wx => s12 = .bool true ∧ ∃ o' : Ow, Pair w wx A LB C RB o' ∧ Hid (wx.heap[g]? = some (.cells #[.int .i64 d, .int .i64 f, .int .i64 k, .int .i64 v] 32 (0, 0))))
          case first =>
            have Td := Tw.kept (Upd.refl (fun _ => False) W).drew
            have HXd := Lib.hid (show W.drew.heap[g]? = some (.cells #[.int .i64 d, .int .i64 f, .int .i64 k, .int .i64 v] 32 (0, 0)) from HX.out)
            have d1 : W.drew.cell? ⟨g, 1, none⟩ = some (.int .i64 f) := o1
            have d2 : W.drew.cell? ⟨g, 2, none⟩ = some (.int .i64 k) := o2
            have d3 : W.drew.cell? ⟨g, 3, none⟩ = some (.int .i64 v) := o3
            by_cases d01 : d = 0 ∨ d = 1
            · rcases d01 with rfl | rfl
              all_goals
                as_aux_lemma =>
                  go_wp2_with fail
                  go_region_held3 (fun w' => w'.cell? ⟨g, 1, none⟩ = some (.int .i64 f) ∧ w'.cell? ⟨g, 2, none⟩ = some (.int .i64 k) ∧ w'.cell? ⟨g, 3, none⟩ = some (.int .i64 v))
                    (first
                      | exact ⟨o1, o2, o3⟩
                      | exact ⟨d1, d2, d3⟩
                      | exact ⟨q1, q2, q3⟩
                      | exact ⟨p1, p2, p3⟩)
                    (first
                      | (go_at_call 10; refine (gGive_any _ _ _ _ _ _ _ Td.P Bk.out).mono ?_; rintro e w3 ⟨rfl, P3, U3⟩; have R3 := Td.mid (.inr rfl) U3; have p1 := U3.cell d1 hg2; have p2 := U3.cell d2 hg2; have p3 := U3.cell d3 hg2)
                      | (go_at_call 11; refine (oGive_any _ _ _ _ _ _ _ R3 Bk.out).mono ?_; rintro e w4 ⟨rfl, R4, U4⟩; have q1 := U4.cell p1 hg4; have q2 := U4.cell p2 hg4; have q3 := U4.cell p3 hg4))
                  go_wp2_with fail
                  go_meet
                  exact ⟨by simp, _, Td.step (.inr rfl) (.inr rfl) P3 U3 R4 U4, Lib.hid (U4.at (U3.at HXd.out hg2) hg4)⟩
            · have e0 : (d == 0) = false := by simp; omega
              have e1 : (d == 1) = false := by simp; omega
              by_cases d2' : d = 2
              · subst d2'
                clear d01
                as_aux_lemma =>
                  go_wp2_with fail
                  go_region_held3 (fun w' => w'.cell? ⟨g, 1, none⟩ = some (.int .i64 f) ∧ w'.cell? ⟨g, 2, none⟩ = some (.int .i64 k) ∧ w'.cell? ⟨g, 3, none⟩ = some (.int .i64 v))
                    (first
                      | exact ⟨o1, o2, o3⟩
                      | exact ⟨d1, d2, d3⟩
                      | exact ⟨q1, q2, q3⟩
                      | exact ⟨p1, p2, p3⟩)
                    (first
                      | (go_at_call 12; refine (gTake_any _ _ _ _ _ _ _ Td.P Bk.out).mono ?_; rintro e w3 ⟨rfl, P3, U3⟩; have R3 := Td.mid (.inr rfl) U3; have p1 := U3.cell d1 hg2; have p2 := U3.cell d2 hg2; have p3 := U3.cell d3 hg2)
                      | (go_at_call 13; refine (oTake_any _ _ _ _ _ _ _ R3 Bk.out).mono ?_; rintro e w4 ⟨rfl, R4, U4⟩; have q1 := U4.cell p1 hg4; have q2 := U4.cell p2 hg4; have q3 := U4.cell p3 hg4))
                  go_wp2_with fail
                  go_meet
                  exact ⟨by simp, _, Td.step (.inr rfl) (.inr rfl) P3 U3 R4 U4, Lib.hid (U4.at (U3.at HXd.out hg2) hg4)⟩
              · have e2 : (d == 2) = false := by simp; omega
                clear d01 d2'
                as_aux_lemma =>
                  go_wp2_with fail
                  go_region_held3 (fun w' => w'.cell? ⟨g, 2, none⟩ = some (.int .i64 k) ∧ w'.cell? ⟨g, 3, none⟩ = some (.int .i64 v))
                    (first
                      | exact ⟨o2, o3⟩
                      | exact ⟨d2, d3⟩
                      | exact ⟨q2, q3⟩
                      | exact ⟨p2, p3⟩)
                    (first
                      | (go_at_call 14; refine (gQuota_any _ _ _ _ _ _ Td.P).mono ?_; rintro e w3 ⟨rfl, P3, U3⟩; have R3 := Td.mid (.inl rfl) U3; have p2 := U3.cell d2 hg1; have p3 := U3.cell d3 hg1)
                      | (go_at_call 15; refine (oQuota_any _ _ _ _ _ _ R3).mono ?_; rintro e w4 ⟨rfl, R4, U4⟩; have q2 := U4.cell p2 hg3; have q3 := U4.cell p3 hg3))
                  go_wp2_with fail
                  go_meet
                  exact ⟨by simp, _, Td.step (.inl rfl) (.inl rfl) P3 U3 R4 U4, Lib.hid (U4.at (U3.at HXd.out hg1) hg3)⟩
          case rest =>
            obtain ⟨rfl, o', T', HX'⟩ := hcut
            clear Tw HX o0 o1 o2 o3
            obtain ⟨o0, o1, o2, o3⟩ := obox4 HX'.out
            clear o0 o2 HX'
            have Z1 := Lib.hid (show ∀ q, Calls Try.prog 16 #[.pointer (some ⟨A, 0, none⟩), .int .i64 f] (wc.drewN q) fun e w'' => e = .returned (.int .i64 (o'.of f)) ∧ ∃ p, w'' = wc.drewN p from fun q => still0 (gOf_any _ _ _ _ _ (T'.kept ((Upd.refl (fun _ => False) _).drewN q)).P))
            have Z2 := Lib.hid (show ∀ q, Calls Try.prog 17 #[.pointer (some ⟨C, 0, none⟩), .int .i64 f] (wc.drewN q) fun e w'' => e = .returned (.int .i64 (o'.of f)) ∧ ∃ p, w'' = wc.drewN p from fun q => still0 (oOf_any _ _ _ _ _ (T'.kept ((Upd.refl (fun _ => False) _).drewN q)).R))
            have Z3 := Lib.hid (show ∀ q, Calls Try.prog 18 #[.pointer (some ⟨A, 0, none⟩), .int .i64 v] (wc.drewN q) fun e w'' => e = .returned (.int .i64 (o'.count v)) ∧ ∃ p, w'' = wc.drewN p from fun q => still0 (gCount_any _ _ _ _ _ (T'.kept ((Upd.refl (fun _ => False) _).drewN q)).P))
            have Z4 := Lib.hid (show ∀ q, Calls Try.prog 19 #[.pointer (some ⟨C, 0, none⟩), .int .i64 v] (wc.drewN q) fun e w'' => e = .returned (.int .i64 (o'.count v)) ∧ ∃ p, w'' = wc.drewN p from fun q => still0 (oCount_any _ _ _ _ _ (T'.kept ((Upd.refl (fun _ => False) _).drewN q)).R))
            generalize o'.of f = x1 at Z1 Z2
            generalize ((o'.count v : Nat) : Int) = x2 at Z3 Z4
            have hx1 : (x1 != x1) = false := by simp
            have hx2 : (x2 != x2) = false := by simp
            go_upto_region 18 with fail
            go_quiet ((first | (go_at_call 16; exact Z1.out _) | (go_at_call 17; exact Z2.out _) | (go_at_call 18; exact Z3.out _) | (go_at_call 19; exact Z4.out _)))
            have T7 := T'.kept ((Upd.refl (fun _ => False) _).drewN nq)
            generalize wc.drewN nq = W7 at T7 ⊢
            clear Z1 Z2 Z3 Z4 T' o1 o3
            go_wp2
            exact ⟨⟨i + 1, o', by omega, by omega, by go_num, T7⟩, by simp [intOf]; omega⟩
        · have e : i = 100 := by omega
          subst e
          go_wp2
          go_ret
          exact ⟨rfl, T.U.below (Nat.le_refl _) (fun _ _ e => e)⟩
      · have e : i = n := by omega
        subst e
        go_wp2
        go_ret
        exact ⟨rfl, T.U.below (Nat.le_refl _) (fun _ _ e => e)⟩
  · have hN' : N < 1 ∨ 256 < N := by omega
    clear R
    go_enter Try.func3, Try.ntmps3
    go_wp2_with fail
    refine (awake_any owc _).mono ?_
    rintro e w1 ⟨rfl, U1⟩
    go_wp2_with fail
    refine (gNew_no _ _ hN').mono ?_
    rintro e w2 ⟨rfl, rfl⟩
    go_wp2_with fail
    refine (oNew_no _ _ hN').mono ?_
    rintro e w2 ⟨rfl, rfl⟩
    clear hN hN'
    go_wp2_with fail
    go_loop [10] (fun t => t = .int .i64 0) (fun _ => 0)
    case atStart => exact rfl
    case round =>
      obtain rfl := hrel
      by_cases hn : 0 < n
      · go_wp2
        go_ret
        exact ⟨rfl, U1.below (Nat.le_refl _) (fun _ _ e => e)⟩
      · go_wp2
        go_ret
        exact ⟨rfl, U1.below (Nat.le_refl _) (fun _ _ e => e)⟩
/-! ### the row's frame -/
theorem own : ownKnob Try.prog.godebug = none := by kernel_rfl
theorem laidOut : laidOutB Try.prog = true := by kernel_rfl
set_option linter.unusedVariables false in
set_option maxRecDepth 100000 in
theorem lifted (os : Os) (started : os.Started) (H : Type) (enc : TypeId × Value → H) :
    ReturnsInHanded {} Try.checked os 3 .any (Rows.ownersPlaysSpec.pre6 enc Try.prog Try.f3 Rows.ownersPlaysRow.domain false) (Rows.ownersPlaysSpec.post enc Try.prog Try.f3 false true false false) := by
  refine returnsInHanded_of_change (C := Try.checked) own started (by kernel_rfl) Try.func3
    (ChangeSpec.witness6 (enc := enc) (C := Try.checked) false ⟨#[], #[.int .i64 0, .slice none 0 0], []⟩ 8 (by kernel_rfl) (by kernel_rfl) (by kernel_rfl) (by kernel_rfl)) ?_
  intro W base args ds gs before hval0 hW hcnd _
  have hval : ∀ (j : Nat) t v, Try.f3.params[j]? = some t → args[j]? = some v → Value.okWide Try.prog W .any base t v := hval0
  have hW' := hW
  obtain ⟨p, q, hA0, hV, rfl, hfz, hnd⟩ := hW
  have hA : DataW.TrodAll enc Try.prog W 0 (fun _ => true) true Try.f3.params.toList args.toList ds p := hA0
  rw [Try.params3] at hA hval
  obtain ⟨v0, vs0, d0, ds0, p0, q0, hargs, rfl, rfl, h0, r0⟩ := trodAll_cons hA
  obtain ⟨v1, vs1, d1, ds1, p1, q1, rfl, rfl, rfl, h1, r1⟩ := trodAll_cons r0
  obtain ⟨rfl, rfl, rfl⟩ := trodAll_nil r1
  obtain rfl : args = #[v0, v1] := by cases args; simp_all
  obtain ⟨rfl, rfl⟩ := trodVars_none hV
  have k0 := h0
  have lt0 : ∀ x ∈ p0, x.block < W.heap.size := by obtain ⟨m, hm⟩ := k0; exact DataW.trod_lt m _ _ _ hm
  obtain ⟨a0, rfl, rfl, rfl, w0⟩ := open_int Try.underlying3 (hval 0 3 v0 rfl rfl) h0
  have k1 := h1
  have lt1 : ∀ x ∈ p1, x.block < W.heap.size := by obtain ⟨m, hm⟩ := k1; exact DataW.trod_lt m _ _ _ hm
  obtain ⟨ao1, n1, cap1, b1, of1, E1, rfl, w1⟩ := Fr.open_rows 12 [some .i64, some .i64, some .i64, some .i64] Try.underlying22 (by kernel_rfl) (by kernel_rfl) (by decide) (hval 1 22 v1 rfl rfl) h1
  clear hA0 hval0
  refine (walk a0 ao1 n1 cap1 b1 of1 E1 w0 W w1).mono fun e W' ⟨he, bel⟩ => ?_
  subst he
  exact ⟨_, rfl, _, _, _, [], _, [], hW', trodAll_mk1 (shut_bool Try.underlying4 _), (trodAll_cons_mk (Below.trod laidOut (by kernel_rfl) (of_decide_eq_true (by kernel_rfl)) k0 bel lt0) (trodAll_cons_mk (Below.trod laidOut (by kernel_rfl) (of_decide_eq_true (by kernel_rfl)) k1 bel lt1) trodAll_mk0)), rfl, bel.frame _, fun h => by cases h⟩

theorem over : Rows.ownersPlaysRow.holds Try.pinned (OpenSpec.ofChange Rows.ownersPlaysSpec) :=
  OpenClaim.holds_of_wide 3 Try.f3 rfl rfl rfl rfl rfl rfl rfl ⟨rfl, rfl, rfl, rfl, rfl⟩ rfl rfl rfl rfl rfl (by kernel_rfl) Try.func3 (by kernel_rfl)
    (of_decide_eq_true (by kernel_rfl)) (by unfold Func.isWrapper; first | (rw [if_pos (by decide +kernel)]; kernel_rfl) | (rw [if_neg (by decide +kernel)]; exact ⟨rfl, rfl⟩))
    (fun os started H enc _ => lifted os started H enc)

theorem proved : Rows.OwnersPlaysSaid :=
  over
end Go.Proofs.Ytmapceallmphpaa.ownersPlays
