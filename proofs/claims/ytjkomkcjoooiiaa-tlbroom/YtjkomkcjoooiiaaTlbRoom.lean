/-
  Proved: trunnionlaw09.TlbRoom answers true for every input: eight lines of their own all stay, whichever place was named; the ninth takes just the place it names.
  Conditions: none.
-/
import Derived.Deep.RegionWith
import Derived.Test.YtjkomkcjoooiiaaPart2
namespace Go.Proofs.Ytjkomkcjoooiiaa.tlbRoom
open Go.ChangeShapes Go.WideShapes Go.ChangeAt Go.RowKit
set_option linter.unusedVariables false
set_option linter.unusedSimpArgs false

theorem below_own {w w' : World} {A : Nat} (h : Upd (· = A) w w') (hA : w.heap.size ≤ A) : Below w.heap.size w w' := h.below (Nat.le_refl _) (fun k hk e => by omega)
theorem below_none {w w' : World} (h : Upd (fun _ => False) w w') : Below w.heap.size w w' := h.below (Nat.le_refl _) (fun _ _ e => e)
set_option maxRecDepth 100000 in
set_option maxHeartbeats 4000000 in
theorem walk (a0 a1 a2 a3 a4 a5 a6 a7 a8 f : Int) (w0 : ∀ z ∈ [a0, a1, a2, a3, a4, a5, a6, a7, a8], (Lit.int .i64 z).wf = true) (w1 : (Lit.int .i64 f).wf = true) (w : World) :
    Calls Try.prog 6 #[.agg #[.int .i64 a0, .int .i64 a1, .int .i64 a2, .int .i64 a3, .int .i64 a4, .int .i64 a5, .int .i64 a6, .int .i64 a7, .int .i64 a8], .int .i64 f] w fun e w' => e = .returned (.bool true) ∧ Below w.heap.size w w' := by
  clear w0 w1
  have hZ : Hid (∀ W : World, ∀ i, i < 9 → (W.alloc (.cells #[.int .i64 a0, .int .i64 a1, .int .i64 a2, .int .i64 a3, .int .i64 a4, .int .i64 a5, .int .i64 a6, .int .i64 a7, .int .i64 a8] 46)).cell? ⟨W.heap.size, i, none⟩ = some (.int .i64 ([a0, a1, a2, a3, a4, a5, a6, a7, a8].getD i 0))) := Lib.hid (fun W i hi => by
    rw [cell_of_row _ _ _ _ _ _ (heap_alloc_last W _)]
    match i, hi with
    | 0, _ | 1, _ | 2, _ | 3, _ | 4, _ | 5, _ | 6, _ | 7, _ | 8, _ => rfl)
  have U0 := Lib.hid ((Upd.refl (fun _ => False) w).alloc (.cells #[.int .i64 a0, .int .i64 a1, .int .i64 a2, .int .i64 a3, .int .i64 a4, .int .i64 a5, .int .i64 a6, .int .i64 a7, .int .i64 a8] 46))
  have hZ0 := Lib.hid (hZ.out w)
  have h88 : [a0, a1, a2, a3, a4, a5, a6, a7, a8].getD 8 0 = a8 := rfl
  generalize hzs : [a0, a1, a2, a3, a4, a5, a6, a7, a8] = zs at hZ0 h88
  clear hzs hZ
  by_cases hf : 0 ≤ f ∧ f ≤ 4000
  · obtain ⟨f0, f1⟩ := hf
    go_enter Try.func6, Try.ntmps6
    go_upto_region 1 with fail
    obtain ⟨wa, hwa⟩ : ∃ wa, wa = w.alloc (.cells #[.int .i64 a0, .int .i64 a1, .int .i64 a2, .int .i64 a3, .int .i64 a4, .int .i64 a5, .int .i64 a6, .int .i64 a7, .int .i64 a8] 46) := ⟨_, rfl⟩
    rw [← hwa] at hZ0 U0 ⊢
    have hXw : w.heap.size < wa.heap.size := by rw [hwa]; simp
    clear hwa
    have hw0 := Lib.hid (Nat.le_refl w.heap.size)
    obtain ⟨X, hX⟩ : ∃ X, X = w.heap.size := ⟨_, rfl⟩
    rw [← hX] at hZ0 hXw ⊢
    have HX := Lib.hid hX
    clear hX hw0
    generalize (Value.agg #[.int .i64 a0, .int .i64 a1, .int .i64 a2, .int .i64 a3, .int .i64 a4, .int .i64 a5, .int .i64 a6, .int .i64 a7, .int .i64 a8]) = ARG
    go_wp2_with fail
    refine (awake_any _).mono ?_
    rintro e w2 ⟨rfl, U1⟩
    go_wp2_with fail
    refine (tnew_any _).mono ?_
    rintro e w3 ⟨A, rfl, hA1, hA, U2⟩
    have hXA : X < A := by have := U1.size; omega
    have hAw : w.heap.size ≤ A := by have := HX.out; omega
    have u := Lib.hid (U1.trans U2)
    obtain ⟨x, hx⟩ : ∃ x : Nat, (x : Int) = a8 % 8 := ⟨(a8 % 8).toNat, by omega⟩
    have hx8 : x < 8 := by omega
    have B0 : BufAt w3 A (seqB f x 0) := by rw [seqB_zero]; exact hA
    clear hA1 U1 U2 hA
    go_wp2_with fail
    go_loopw [7] (fun t wr => ∃ k : Nat, k ≤ 9 ∧ t = .int .i64 k ∧ BufAt wr A (seqB f x k) ∧ Hid (Upd (· = A) wa wr)) (fun t _ => 9 - (intOf t).toNat)
    case atStart => exact ⟨0, by omega, rfl, B0, Lib.hid u.out.sub⟩
    case round =>
      clear B0 u
      obtain ⟨k, hk, rfl, hA, u⟩ := hrel
      by_cases hlt : k < 9
      · have c0 := u.out.cell (hZ0.out k hlt) (by show ¬ X = A; omega)
        obtain ⟨y, hy⟩ : ∃ y : Nat, (y : Int) = zs.getD k 0 % 8 := ⟨(zs.getD k 0 % 8).toNat, by omega⟩
        have hyx : Hid (k = 8 → (y : Int) = x) := Lib.hid (fun e => by rw [hy, hx, e, h88])
        have h7 := tl_and7 (zs.getD k 0)
        rw [← hy] at h7
        have hput := Lib.hid (seqB_put f0 f1 (x := x) hlt (y := (y : Int)) (by omega) (by omega) hyx.out)
        have hpo := Lib.hid (put_okK f0 f1 (k := k) (by omega) (x := (y : Int)) (by omega) (by omega))
        have cP := Lib.hid (fun W hA => tput_any A (seqB f x k) (seqB_ok f0 f1 hx8 hk) (1 + (k : Int) % 3) (f + k) k false y W hA)
        have cL := Lib.hid (fun W hA => tlines_any A (seqB f x (k + 1)) (seqB_ok f0 f1 hx8 (by omega)) W hA)
        rw [seqB_len (by omega)] at cL
        rw [show (⟨1 + (k : Int) % 3, f + k, k, false⟩ : Ln) = lnK f k from rfl, hput.out, hpo.out] at cP
        generalize zs.getD k 0 = z at c0 h7 hy
        have t3 : (k : Int).tmod 3 = ((k % 3 : Nat) : Int) := by rw [Int.tmod_eq_emod_of_nonneg (by omega)]; omega
        have hy8 : (y : Int) < 8 := by omega
        clear hput hpo hyx hy
        go_wp2_with fail
        refine (cP.out _ hA).mono ?_
        rintro e w4 ⟨rfl, hA4, u4⟩
        rw [show errP true = 0 from rfl]
        have U4 := Lib.hid (u.out.trans u4)
        clear hA u u4 cP c0 h7
        go_wp2_with fail
        refine (cL.out _ hA4).mono ?_
        rintro e w5 ⟨v, rfl, hrow, u5⟩
        have hA5 := hA4.kept u5 id
        have U5 := Lib.hid (U4.out.trans u5.sub)
        clear hA4 u5 cL U4
        generalize hM : min (k + 1) 8 = M at hrow
        have hM2 : (M : Int) = min ((k : Int) + 1) 8 := by omega
        obtain ⟨o, cp, rfl⟩ := row_slice hrow
        clear hrow
        go_wp2
        exact ⟨⟨k + 1, by omega, by go_num, hA5, U5⟩, by simp [intOf]; omega⟩
      · have hk9 : k = 9 := by omega
        rw [hk9] at hA
        have hk10 : ¬ ((k : Int) < 9) := by omega
        clear hk9 hk hlt
        have hok := seqB_ok f0 f1 hx8 (k := 9) (by omega)
        have hfi := Lib.hid (fun i (hi : i < 8) => seqB_find f0 f1 hx8 hi)
        have hf8 := Lib.hid (seqB_find8 f0 f1 hx8)
        have hli := Lib.hid (seqB_line (f := f) hx8)
        have hln := Lib.hid (seqB_len (f := f) (x := x) (k := 9) (by omega))
        generalize seqB f x 9 = B at hA hok hfi hf8 hli hln
        have cF := Lib.hid (fun a p W hA => tfind_any A B hok a p W hA)
        have cL := Lib.hid (fun W hA => tlines_any A B hok W hA)
        have c8 := Lib.hid (fun W (u : Upd (· = A) wa W) => u.cell (hZ0.out 8 (by omega)) (by show ¬ X = A; omega))
        rw [h88] at c8
        have h7 := tl_and7 a8
        rw [← hx] at h7
        clear hx hZ0
        go_wp2_with fail
        go_loopw [8] (fun t wr => ∃ i : Nat, i ≤ 8 ∧ t = .int .i64 i ∧ BufAt wr A B ∧ Hid (Upd (· = A) wa wr)) (fun t _ => 8 - (intOf t).toNat)
        case atStart => exact ⟨0, by omega, rfl, hA, u⟩
        case round =>
          clear hA u
          obtain ⟨i, hi, rfl, hA, u⟩ := hrel
          by_cases hlt2 : i < 8
          · have t3 : (i : Int).tmod 3 = (i : Int) % 3 := Int.tmod_eq_emod_of_nonneg (by omega)
            have cG := Lib.hid (fun W hA => cF.out (1 + (i : Int) % 3) (f + i) W hA)
            rw [show B.find (1 + (i : Int) % 3) (f + i) = _ from hfi.out i hlt2] at cG
            have hx0 : (0 : Int) ≤ (x : Int) := by omega
            by_cases hix : i = x
            · rw [if_pos hix] at cG
              have cG2 : Hid (∀ W, BufAt W A B → Calls Try.prog 16 #[.pointer (some ⟨A, 0, none⟩), .int .i64 (1 + (i : Int) % 3), .int .i64 (f + i)] W fun e w' => e = .returned (.tuple #[.agg #[.int .i64 0, .int .i64 0, .int .i64 0, .bool false], .bool false]) ∧ Upd (fun _ => False) W w') := cG
              clear cG
              have HIX := Lib.hid hix
              clear hix
              go_wp2_with fail
              refine (cG2.out _ hA).mono ?_
              rintro e w4 ⟨rfl, u4⟩
              have hA4 := hA.kept u4 id
              have U4 := Lib.hid (u.out.trans u4.sub)
              obtain ⟨b1, b2, b3⟩ := ln_box w4 0 0 0 false
              clear hA u u4 cG2
              go_upto_region 14 with (with_reducible refine wpList_store_sz rfl 28 (.tmp 9) (.tmp 71) rfl w4.heap.size 0 #[.int .i64 0, .int .i64 0, .int .i64 0, .bool false] rfl rfl 4 (ln_sz _ _ _ _) b3 size_ln (ln_one _ _ _ _) [.int .i64 0, .int .i64 0, .int .i64 0, .bool false] (ln_ls _ _ _ _) ?_)
              have hA5 := hA4.kept b2 id
              have U5 := Lib.hid (U4.out.trans b2.sub)
              clear b1 b2 b3 hA4 U4
              generalize (w4.alloc (.cells #[.int .i64 0, .int .i64 0, .int .i64 0, .bool false] 28)).setCells w4.heap.size 0 [.int .i64 0, .int .i64 0, .int .i64 0, .bool false] = w5 at hA5 U5 ⊢
              have k8 := c8.out w5 U5.out
              obtain rfl := HIX.out
              go_wp2
              go_roundw
              case rel => first | exact ⟨i + 1, by omega, by go_num, hA5, U5⟩ | exact ⟨i + 1, by omega, by go_num⟩
              case measure => simp [intOf]; omega
            · rw [if_neg hix] at cG
              have cG2 : Hid (∀ W, BufAt W A B → Calls Try.prog 16 #[.pointer (some ⟨A, 0, none⟩), .int .i64 (1 + (i : Int) % 3), .int .i64 (f + i)] W fun e w' => e = .returned (.tuple #[.agg #[.int .i64 (1 + (i : Int) % 3), .int .i64 (f + i), .int .i64 i, .bool false], .bool true]) ∧ Upd (fun _ => False) W w') := cG
              clear cG
              go_wp2_with fail
              refine (cG2.out _ hA).mono ?_
              rintro e w4 ⟨rfl, u4⟩
              have hA4 := hA.kept u4 id
              have U4 := Lib.hid (u.out.trans u4.sub)
              obtain ⟨b1, b2, b3⟩ := ln_box w4 (1 + (i : Int) % 3) (f + i) i false
              clear hA u u4 cG2
              go_upto_region 14 with (with_reducible refine wpList_store_sz rfl 28 (.tmp 9) (.tmp 71) rfl w4.heap.size 0 #[.int .i64 (1 + (i : Int) % 3), .int .i64 (f + i), .int .i64 i, .bool false] rfl rfl 4 (ln_sz _ _ _ _) b3 size_ln (ln_one _ _ _ _) [.int .i64 (1 + (i : Int) % 3), .int .i64 (f + i), .int .i64 i, .bool false] (ln_ls _ _ _ _) ?_)
              have hA5 := hA4.kept b2 id
              have U5 := Lib.hid (U4.out.trans b2.sub)
              have q2 := b1.range 2 _ rfl
              clear b1 b2 b3 hA4 U4
              generalize (w4.alloc (.cells #[.int .i64 0, .int .i64 0, .int .i64 0, .bool false] 28)).setCells w4.heap.size 0 [.int .i64 (1 + (i : Int) % 3), .int .i64 (f + i), .int .i64 i, .bool false] = w5 at hA5 U5 q2 ⊢
              generalize w4.heap.size = D at q2 ⊢
              have k8 := c8.out w5 U5.out
              have hix2 : ¬ (i : Int) = (x : Int) := by omega
              have hix3 : ((i : Int) != (x : Int)) = true := by rw [bne_iff_ne]; omega
              go_wp2
              go_roundw
              case rel => first | exact ⟨i + 1, by omega, by go_num, hA5, U5⟩ | exact ⟨i + 1, by omega, by go_num⟩
              case measure => simp [intOf]; omega
          · obtain rfl : i = 8 := by omega
            have hli2 := Lib.hid (fun (W : World) (N cp : Nat) (o : Option Addr) (h : W.ownsRow N 28 4 (.slice o B.lines.length cp) B.lines.length (lnsC B.lines)) => lns_row (L := B.lines) h x _ hli.out)
            rw [hln.out] at hli2 cL
            generalize B.lines = WL at hli2 cL
            have cG2 : Hid (∀ W, BufAt W A B → Calls Try.prog 16 #[.pointer (some ⟨A, 0, none⟩), .int .i64 3, .int .i64 (f + 8)] W fun e w' => e = .returned (.tuple #[.agg #[.int .i64 3, .int .i64 (f + 8), .int .i64 8, .bool false], .bool true]) ∧ Upd (fun _ => False) W w') := Lib.hid (fun W hA => by
              have := cF.out 3 (f + 8) W hA
              rw [show B.find 3 (f + 8) = some (lnK f 8) from hf8.out] at this
              exact this)
            clear cF hfi hf8
            go_wp2_with fail
            refine (cG2.out _ hA).mono ?_
            rintro e w4 ⟨rfl, u4⟩
            have hA4 := hA.kept u4 id
            have U4 := Lib.hid (u.out.trans u4.sub)
            obtain ⟨b1, b2, b3⟩ := ln_box w4 3 (f + 8) 8 false
            clear hA u u4 cG2
            go_upto_region 17 with (with_reducible refine wpList_store_sz rfl 28 (.tmp 11) (.tmp 94) rfl w4.heap.size 0 #[.int .i64 3, .int .i64 (f + 8), .int .i64 8, .bool false] rfl rfl 4 (ln_sz _ _ _ _) b3 size_ln (ln_one _ _ _ _) [.int .i64 3, .int .i64 (f + 8), .int .i64 8, .bool false] (ln_ls _ _ _ _) ?_)
            have hA5 := hA4.kept b2 id
            have U5 := Lib.hid (U4.out.trans b2.sub)
            have KB := Lib.hid b1
            have q2 := b1.range 2 _ rfl
            clear b1 b2 b3 hA4 U4
            generalize (w4.alloc (.cells #[.int .i64 0, .int .i64 0, .int .i64 0, .bool false] 28)).setCells w4.heap.size 0 [.int .i64 3, .int .i64 (f + 8), .int .i64 8, .bool false] = w5 at hA5 U5 KB q2 ⊢
            generalize w4.heap.size = D at KB q2 ⊢
            have k8 := c8.out w5 U5.out
            have q0 := KB.out.range 0 _ rfl
            have q1 := KB.out.range 1 _ rfl
            have q3 := KB.out.range 3 _ rfl
            have hx0 : (0 : Int) ≤ (x : Int) := by omega
            have hx9 : (x : Int) < 8 := by omega
            have he := run_eqL 3 (f + 8) 8 false 3 (f + 8) 8 false true (by simp)
            go_region_with (first
              | (go_at_call 19; refine (cL.out w5.drew (show BufAt w5.drew A B from hA5)).mono ?_; rintro e w6 ⟨v, rfl, hrow, u6⟩; obtain ⟨o, cp, rfl⟩ := row_slice hrow; obtain ⟨g, rfl, hr⟩ := hli2.out _ _ _ _ hrow; have g0 := hr 0 _ rfl; have g1 := hr 1 _ rfl; have g2 := hr 2 _ rfl; have g3 := hr 3 _ rfl; rw [Nat.add_zero] at g0; have k8' : w6.cell? ⟨X, 8, none⟩ = some (.int .i64 a8) := u6.cell (show w5.drew.cell? ⟨X, 8, none⟩ = some (.int .i64 a8) from k8) id; have q0' : w6.cell? ⟨D, 0, none⟩ = some (.int .i64 3) := u6.cell (show w5.drew.cell? ⟨D, 0, none⟩ = some (.int .i64 3) from q0) id; have q1' : w6.cell? ⟨D, 1, none⟩ = some (.int .i64 (f + 8)) := u6.cell (show w5.drew.cell? ⟨D, 1, none⟩ = some (.int .i64 (f + 8)) from q1) id; have q2' : w6.cell? ⟨D, 2, none⟩ = some (.int .i64 8) := u6.cell (show w5.drew.cell? ⟨D, 2, none⟩ = some (.int .i64 8) from q2) id; have q3' : w6.cell? ⟨D, 3, none⟩ = some (.bool false) := u6.cell (show w5.drew.cell? ⟨D, 3, none⟩ = some (.bool false) from q3) id))
            all_goals (go_wp2_with fail)
            all_goals go_ret
            all_goals exact ⟨rfl, below_own (U0.out.sub.trans (U5.out.trans (((Upd.refl (fun _ => False) w5).drew.trans u6).sub))) hAw⟩
  · by_cases hf1 : f < 0
    · go_enter Try.func6, Try.ntmps6
      go_wp2_with fail
      refine (awake_any _).mono ?_
      rintro e w2 ⟨rfl, U1⟩
      go_wp2_with fail
      refine (tnew_any _).mono ?_
      rintro e w3 ⟨A, rfl, hA1, hA, U2⟩
      have U3 := Lib.hid (U0.out.trans (U1.trans U2))
      clear U1 U2 hA hA1 hZ0 U0
      go_wp2
      go_ret
      exact ⟨rfl, below_none U3.out⟩
    · have hf2 : 4000 < f := by omega
      go_enter Try.func6, Try.ntmps6
      go_wp2_with fail
      refine (awake_any _).mono ?_
      rintro e w2 ⟨rfl, U1⟩
      go_wp2_with fail
      refine (tnew_any _).mono ?_
      rintro e w3 ⟨A, rfl, hA1, hA, U2⟩
      have U3 := Lib.hid (U0.out.trans (U1.trans U2))
      clear U1 U2 hA hA1 hZ0 U0
      go_wp2
      go_ret
      exact ⟨rfl, below_none U3.out⟩
/-! ### the row's frame -/
theorem own : ownKnob Try.prog.godebug = none := by kernel_rfl
theorem laidOut : laidOutB Try.prog = true := by kernel_rfl
set_option linter.unusedVariables false in
set_option maxRecDepth 100000 in
theorem lifted (os : Os) (started : os.Started) (H : Type) (enc : TypeId × Value → H) :
    ReturnsInHanded {} Try.checked os 6 .any (Rows.tlbRoomSpec.pre6 enc Try.prog Try.f6 Rows.tlbRoomRow.domain false) (Rows.tlbRoomSpec.post enc Try.prog Try.f6 false true false false) := by
  refine returnsInHanded_of_change (C := Try.checked) own started (by kernel_rfl) Try.func6
    (ChangeSpec.witness6 (enc := enc) (C := Try.checked) false ⟨#[], #[.agg #[.int .i64 0, .int .i64 0, .int .i64 0, .int .i64 0, .int .i64 0, .int .i64 0, .int .i64 0, .int .i64 0, .int .i64 0], .int .i64 0], []⟩ 8 (by kernel_rfl) (by kernel_rfl) (by kernel_rfl) (by kernel_rfl)) ?_
  intro W base args ds gs before hval0 hW hcnd _
  have hval : ∀ (j : Nat) t v, Try.f6.params[j]? = some t → args[j]? = some v → Value.okWide Try.prog W .any base t v := hval0
  have hW' := hW
  obtain ⟨p, q, hA0, hV, rfl, hfz, hnd⟩ := hW
  have hA : DataW.TrodAll enc Try.prog W 0 (fun _ => true) true Try.f6.params.toList args.toList ds p := hA0
  rw [Try.params6] at hA hval
  obtain ⟨v0, vs0, d0, ds0, p0, q0, hargs, rfl, rfl, h0, r0⟩ := trodAll_cons hA
  obtain ⟨v1, vs1, d1, ds1, p1, q1, rfl, rfl, rfl, h1, r1⟩ := trodAll_cons r0
  obtain ⟨rfl, rfl, rfl⟩ := trodAll_nil r1
  obtain rfl : args = #[v0, v1] := by cases args; simp_all
  obtain ⟨rfl, rfl⟩ := trodVars_none hV
  have k0 := h0
  have lt0 : ∀ x ∈ p0, x.block < W.heap.size := by obtain ⟨m, hm⟩ := k0; exact DataW.trod_lt m _ _ _ hm
  obtain ⟨z0, l0, rfl, w0⟩ := Fr.open_intArr Try.underlying46 Try.underlying3 (by kernel_rfl) (by kernel_rfl) (hval 0 46 v0 rfl rfl) h0
  obtain ⟨a0_0, a0_1, a0_2, a0_3, a0_4, a0_5, a0_6, a0_7, a0_8, rfl⟩ := Fr.len9 l0
  have k1 := h1
  have lt1 : ∀ x ∈ p1, x.block < W.heap.size := by obtain ⟨m, hm⟩ := k1; exact DataW.trod_lt m _ _ _ hm
  obtain ⟨a1, rfl, rfl, rfl, w1⟩ := open_int Try.underlying3 (hval 1 3 v1 rfl rfl) h1
  clear hA0 hval0
  refine (walk a0_0 a0_1 a0_2 a0_3 a0_4 a0_5 a0_6 a0_7 a0_8 a1 w0 w1 W ).mono fun e W' ⟨he, bel⟩ => ?_
  subst he
  exact ⟨_, rfl, _, _, _, [], _, [], hW', trodAll_mk1 (shut_bool Try.underlying4 _), (trodAll_cons_mk (Below.trod laidOut (by kernel_rfl) (of_decide_eq_true (by kernel_rfl)) k0 bel lt0) (trodAll_cons_mk (Below.trod laidOut (by kernel_rfl) (of_decide_eq_true (by kernel_rfl)) k1 bel lt1) trodAll_mk0)), rfl, bel.frame _, fun h => by cases h⟩

theorem over : Rows.tlbRoomRow.holds Try.pinned (OpenSpec.ofChange Rows.tlbRoomSpec) :=
  OpenClaim.holds_of_wide 6 Try.f6 rfl rfl rfl rfl rfl rfl rfl ⟨rfl, rfl, rfl, rfl, rfl⟩ rfl rfl rfl rfl rfl (by kernel_rfl) Try.func6 (by kernel_rfl)
    (of_decide_eq_true (by kernel_rfl)) (by unfold Func.isWrapper; first | (rw [if_pos (by decide +kernel)]; kernel_rfl) | (rw [if_neg (by decide +kernel)]; exact ⟨rfl, rfl⟩))
    (fun os started H enc _ => lifted os started H enc)

theorem proved : Rows.TlbRoomSaid :=
  over
end Go.Proofs.Ytjkomkcjoooiiaa.tlbRoom
