/-
  Proved: trunnionlaw11.MmuSpaces answers true for every input: while each change of a space is followed by a flush, an address is found just as the space tells, whichever lines went, and what is stored is loaded.
  Conditions: package entry's table of fields starts as the program's text lays it (the card ties it).
-/
import Derived.Test.YtfdnfllefednjaaDoorCards
import Derived.Test.YtfdnfllefednjaaDoorTie
import Derived.SevenTiedAt
import Derived.LaidMore
import Derived.Stop.Joined
import Derived.Deep.DeepCutAuto
import Derived.Deep.CutBlock
import Derived.Deep.RegionHeld3
import Derived.Test.YtfdnfllefednjaaDoorPart10
namespace Go.Proofs.YtfdnfllefednjaaDoor.mmuSpaces
open Go.ChangeShapes Go.WideShapes Go.ChangeAt Go.RowKit Go.Shelf Go.Sort
set_option linter.unusedVariables false
set_option linter.unusedSimpArgs false

def UsS (U BA GB MB : Nat) : Nat → Prop := fun k => k = U ∨ k = BA ∨ k = GB ∨ k = MB
set_option maxRecDepth 100000 in
set_option maxHeartbeats 8000000 in
theorem walk (ao : Option Addr) (n cap b off : Nat) (E : Nat → Nat → Value)
    (w : World) (R : Fr.RowArg w ao n b off mopKs E) (T0 : Fr.VarIs w 0 (Fr.datCells (Rows.laid_trunnion_entry_fields (H := Unit)))) :
    Calls Tryd.prog 4 #[.slice ao n cap] w fun e w' => e = .returned (.bool true) ∧ Below w.heap.size w w' := by
  have T := tab_of T0
  have hmost := R.most
  clear T0
  have cA := Lib.hid (uawake_any w T)
  go_enter Tryd.func4, Tryd.ntmps4
  go_wp2_with fail
  refine cA.out.mono ?_
  rintro e w1 ⟨rfl, U1⟩
  have V1 := Lib.hid U1
  clear cA
  go_wp2_with fail
  refine (uspace_any w1 (T.kept U1)).mono ?_
  rintro e w2 ⟨S, MA, A, GB, MB, U, BA, s0, m0, b0, rfl, h2, k2, -, -, n2, u2⟩
  have V2 := Lib.hid (V1.out.trans u2)
  have NB := Lib.hid (show ∀ k, UsS U BA GB MB k → w.heap.size ≤ k from by
    have l1 := V1.out.size
    have l2 := n2.u
    have l3 := n2.ba
    have l4 := n2.gb
    have l5 := n2.mb
    unfold UsS
    rintro k (rfl | rfl | rfl | rfl) <;> omega)
  have H2 := Lib.hid h2
  have K2 := Lib.hid k2
  have hlt2 := Lib.hid (show ∀ W s m b B r a, Uni W S MA A GB MB U BA s m b Yu r a B → ∀ k, UsS U BA GB MB k → k < W.heap.size from by
    intro W s m b B r a h
    have l1 := h.P.lts
    have l2 := h.un.lt
    have l3 := h.bu.lt
    unfold UsS
    rintro k (rfl | rfl | rfl | rfl) <;> omega)
  clear h2 k2 n2 u2 U1 V1 T
  by_cases h60 : 60 < n
  · go_wp2
    go_ret
    exact ⟨rfl, V2.out.below (Nat.le_refl _) fun _ _ => id⟩
  obtain ⟨R0, hR0⟩ : ∃ R0, s0.root = R0 := ⟨_, rfl⟩
  have H3 := Lib.hid (show Uni w2 S MA A GB MB U BA s0 m0 b0 Yu R0 1 buf0 from by rw [← hR0]; exact H2.out)
  clear H2
  generalize buf0 = B0 at H3 K2
  go_wp2_with fail
  go_loopw [8] (fun t wr => ∃ (i : Nat) (s : Sp) (m : Mem) (b : Bud) (B : Buf), i ≤ n ∧ t = .int .i64 i ∧ s.root = R0 ∧ Hid (Uni wr S MA A GB MB U BA s m b Yu R0 1 B) ∧ Hid (UniK s m b 1 B) ∧ Hid (Upd (fun _ => False) w wr)) (fun t _ => n - (intOf t).toNat)
  case atStart => exact ⟨0, s0, m0, b0, B0, by omega, rfl, hR0, H3, K2, V2⟩
  case round =>
    clear H3 K2 V2 hR0
    obtain ⟨i, s, m, bb, B, hi, rfl, hr0, TW, K, V⟩ := hrel
    by_cases hlt : i < n
    · obtain rfl := R.place (by omega)
      obtain ⟨d, ad, at', f, pl, v, e, hop⟩ := mop10 (rows_below R V.out) i hlt
      obtain ⟨ev, er, et, ef⟩ := e
      have p0 := hop.c0
      have p1 := hop.c1
      have p2 := hop.c2
      have p3 := hop.c3
      have p4 := hop.c4
      have p5 := hop.c5
      have p6 := hop.c6
      have p7 := hop.c7
      have p8 := hop.c8
      have p9 := hop.c9
      have Hv := Lib.hid hop.wv
      clear hop
      simp only at p6 p7 p8 p9
      go_upto_region 8 with fail
      go_upto_region 9 with fail
      have X := heap_alloc_last wr (.cells #[.int .i64 d, .int .i64 ad, .int .i64 at', .int .i64 f, .int .i64 pl, .int .u64 v, .bool ev, .bool er, .bool et, .int .i64 ef] 51)
      have UW := (Upd.refl (fun _ => False) wr).alloc (.cells #[.int .i64 d, .int .i64 ad, .int .i64 at', .int .i64 f, .int .i64 pl, .int .u64 v, .bool ev, .bool er, .bool et, .int .i64 ef] 51)
      have TX := Lib.hid (TW.out.still UW)
      have VX := Lib.hid (V.out.trans UW)
      have hgT := Lib.hid (show ¬ UsS U BA GB MB wr.heap.size from fun e => Nat.lt_irrefl _ (hlt2.out _ _ _ _ _ _ _ TW.out _ e))
      generalize wr.alloc (.cells #[.int .i64 d, .int .i64 ad, .int .i64 at', .int .i64 f, .int .i64 pl, .int .u64 v, .bool ev, .bool er, .bool et, .int .i64 ef] 51) = W at X TX VX ⊢
      generalize wr.heap.size = g at X hgT ⊢
      clear TW V UW p0 p1 p2 p3 p4 p5 p6 p7 p8 p9
      obtain ⟨o0, o1, o2, o3, o4, o5, o6, o7, o8, o9⟩ := ob10 X
      have HX := Lib.hid X
      clear X
      by_cases t0 : at' < 0
      · go_wp2
        go_roundw
        case rel => exact ⟨i + 1, s, m, bb, B, by omega, by go_num, hr0, TX, K, VX⟩
        case measure => simp [intOf]; omega
      by_cases t1 : 7 < at'
      · go_wp2
        go_roundw
        case rel => exact ⟨i + 1, s, m, bb, B, by omega, by go_num, hr0, TX, K, VX⟩
        case measure => simp [intOf]; omega
      by_cases a0 : ad < 0
      · go_wp2
        go_roundw
        case rel => exact ⟨i + 1, s, m, bb, B, by omega, by go_num, hr0, TX, K, VX⟩
        case measure => simp [intOf]; omega
      by_cases a1 : 65535 < ad
      · go_wp2
        go_roundw
        case rel => exact ⟨i + 1, s, m, bb, B, by omega, by go_num, hr0, TX, K, VX⟩
        case measure => simp [intOf]; omega
      have a0' : 0 ≤ ad := by omega
      have a1' : ad ≤ 65535 := by omega
      have hga := Lib.hid (show ¬ g = BA ∧ ¬ (g = GB ∨ g = MB) ∧ ¬ (g = BA ∨ g = MB) from by have := hgT.out; unfold UsS at this; omega)
      go_upto_region 10 with fail
      obtain ⟨q, hq⟩ := Int.eq_ofNat_of_zero_le (show 0 ≤ ad / 16 by omega)
      have Hq := Lib.hid (show q = (ad / 16).toNat ∧ q < 4096 from by omega)
      rw [hq]
      clear hq
      have e31 := um_and31 f
      have hd : d = 5 ∨ d = 6 ∨ d = 7 ∨ (¬ d = 5 ∧ ¬ d = 6 ∧ ¬ d = 7) := by omega
      rcases hd with rfl | rfl | rfl | ⟨n5, n6, n7⟩
      · go_wp2_with fail
        refine (TX.out.map q (f % 32) _ (frame_wf (n := 32) (by omega) ⟨by omega, by omega⟩)).mono ?_
        rintro e w3 ⟨x, s9, m9, b9, rfl, TW3, u3, r3⟩
        have HX3 := Lib.hid (u3.at HX.out hga.out.2.1)
        have V3 := Lib.hid (VX.out.since u3 (by rintro k (rfl | rfl); exact NB.out k (.inr (.inr (.inl rfl))); exact NB.out k (.inr (.inr (.inr rfl)))))
        obtain ⟨k9, hr⟩ := K.out.map r3 (by omega)
        have K9 := Lib.hid k9
        have hr9 : s9.root = R0 := hr.trans hr0
        have TW3' := Lib.hid TW3
        clear r3 k9 hr TX VX HX o0 o1 o2 o3 o4 o5 o6 o7 o8 o9 u3 TW3 K hr0
        go_wp2_with fail
        refine (TW3'.out.flush 1).mono ?_
        rintro e w9 ⟨y, rfl, tw9, u9⟩
        have TW9 := Lib.hid tw9
        have V9 := Lib.hid (V3.out.since u9 (by rintro k rfl; exact NB.out k (.inr (.inl rfl))))
        have HX9 := Lib.hid (u9.at HX3.out hga.out.1)
        clear tw9 u9 V3 HX3 TW3'
        generalize B.flush 1 = B9 at TW9 K9
        obtain ⟨o0, o1, o2, o3, o4, o5, o6, o7, o8, o9⟩ := ob10 HX9.out
        clear o3 o4 o6 o7 o8 o9
        go_upto_region 20 with fail
        clear o0 o1 o2 o5 e31
        as_aux_lemma =>
          have RN := Lib.hid (K9.out.round TW9.out.P.I hr9 ad at' v a0' a1' (by omega) (by omega) Hv.out.1 Hv.out.2)
          rw [← Hq.out.1] at RN
          have hfE := Lib.hid (show s9.findE q = s9.E 3 q ∧ s9.findX q = if (s9.E 3 q).v = true then 0 else 10 from by
            have hc : 0 ≤ (q : Int) ∧ (q : Int) ≤ 4095 := by have := Hq.out.2; omega
            unfold Sp.findE Sp.findX
            rw [if_pos hc, if_pos hc, Int.toNat_natCast]
            exact ⟨rfl, rfl⟩)
          have hok := Lib.hid (show ((s9.E 3 q).v = false → s9.E 3 q = En.zero) ∧ ((s9.E 3 q).v = true → (s9.E 3 q).t = false) from ⟨TW9.out.P.I.ok.none 3 q, TW9.out.P.I.ok.pg q⟩)
          have hD5' := hlt2.out _ _ _ _ _ _ _ TW9.out
          go_wp2_with fail
          refine (spc_find TW9.out.P q).mono ?_
          rintro e w5 ⟨rfl, u5⟩
          have TW5 := Lib.hid (TW9.out.still u5)
          have V5 := Lib.hid (V9.out.trans u5)
          have HX5 := Lib.hid (u5.at HX9.out id)
          have hD5 := Lib.hid (show ∀ k, UsS U BA GB MB k → k < w5.heap.size from fun k h => Nat.lt_of_lt_of_le (hD5' k h) u5.size)
          rw [hfE.out.1, hfE.out.2]
          clear u5 TW9 V9 HX9 hfE hD5' K9
          have RN := RN.out
          cases hv : (s9.E 3 q).v
          · obtain ⟨x1, x2, x3⟩ := RN.no hv
            rw [hok.out.1 hv]
            clear hok
            rw [if_neg (by decide)]
            rw [show En.zero.val = entV false false false 0 from rfl]
            obtain ⟨a1', a2', a3', a4'⟩ := ent_box w5 false false false 0
            have A1 := Lib.hid a1'
            have A3 := Lib.hid a3'
            have TW6 := Lib.hid (TW5.out.still a2')
            have V6 := Lib.hid (V5.out.trans a2')
            have HX6 := Lib.hid (a2'.at HX5.out id)
            clear a1' a2' a3' a4' TW5 V5 HX5
            go_upto_region 21 with (with_reducible refine wpList_store_sz rfl 34 (.tmp 11) (.tmp 121) rfl w5.heap.size 0 #[.bool false, .bool false, .bool false, .int .i64 0] rfl rfl 4 (ent_sz _ _ _ _) A3.out size_ent (ent_one _ _ _ _) [.bool false, .bool false, .bool false, .int .i64 0] (ent_ls _ _ _ _) ?_)
            have hD0 := Lib.hid (show ¬ UsS U BA GB MB w5.heap.size from fun e => Nat.lt_irrefl _ (hD5.out _ e))
            generalize (w5.alloc (.cells #[.bool false, .bool false, .bool false, .int .i64 0] 34)).setCells w5.heap.size 0 [.bool false, .bool false, .bool false, .int .i64 0] = w6 at A1 TW6 V6 HX6 ⊢
            generalize w5.heap.size = D at A1 hD0 ⊢
            have hD := Lib.hid (show ¬ D = BA ∧ ¬ (D = BA ∨ D = MB) from by have := hD0.out; unfold UsS at this; omega)
            clear A3 hD0 hD5
            obtain ⟨-, y1, y2, -, -, -, -, -, -, -⟩ := ob10 HX6.out
            go_wp2_with fail
            refine (TW6.out.find ad false at').mono ?_
            rintro e w7 ⟨rfl, tw7, u7⟩
            rw [x1]
            generalize uF m9 B9 R0 1 ad false at' = zF
            generalize uO m9 B9 R0 1 ad false at' = zO
            have TW7 := Lib.hid tw7
            have V7 := Lib.hid (V6.out.since u7 (by rintro k rfl; exact NB.out k (.inr (.inl rfl))))
            have HX7 := Lib.hid (u7.at HX6.out hga.out.1)
            have A7 := Lib.hid (A1.out.kept u7 hD.out.1)
            clear tw7 u7 TW6 V6 HX6 A1 y1 y2
            obtain ⟨-, y1, y2, -, -, y5, -, -, -, -⟩ := ob10 HX7.out
            obtain ⟨-, e1, -, e3, -, -, -, -⟩ := A7.out.eight
            go_wp2_with fail
            refine (TW7.out.store ad v at' RN.I).mono ?_
            rintro e w8 ⟨rfl, tw8, u8⟩
            rw [x2]
            have TW8 := Lib.hid tw8
            have V8 := Lib.hid (V7.out.since u8 (by rintro k (rfl | rfl); exact NB.out k (.inr (.inl rfl)); exact NB.out k (.inr (.inr (.inr rfl)))))
            have HX8 := Lib.hid (u8.at HX7.out hga.out.2.2)
            have A8 := Lib.hid (A7.out.kept u8 hD.out.2)
            clear tw8 u8 TW7 V7 HX7 A7 y1 y2 y5 e1 e3
            obtain ⟨-, y1, y2, -, -, -, -, -, -, -⟩ := ob10 HX8.out
            go_wp2_with fail
            refine (TW8.out.load ad at').mono ?_
            rintro e wz ⟨rfl, twz, uz⟩
            rw [x3]
            generalize uW (uM m9 (uB m9 B9 R0 1 ad at') R0 1 ad v at') (uB m9 (uB m9 B9 R0 1 ad at') R0 1 ad at') R0 1 ad at' = zW
            have TWz := Lib.hid twz
            have Vz := Lib.hid (V8.out.since uz (by rintro k rfl; exact NB.out k (.inr (.inl rfl))))
            have HXz := Lib.hid (uz.at HX8.out hga.out.1)
            have Az := Lib.hid (A8.out.kept uz hD.out.1)
            have Kz := Lib.hid RN.K
            clear twz uz TW8 V8 HX8 A8 y1 y2
            obtain ⟨-, -, -, -, -, y5, -, -, -, -⟩ := ob10 HXz.out
            obtain ⟨-, e1, -, -, -, -, -, -⟩ := Az.out.eight
            clear RN hv x1 x2 x3
            go_wp2
            go_roundw
            case rel => exact ⟨i + 1, s9, _, b9, _, by omega, by go_num, hr9, TWz, Kz, Vz⟩
            case measure => simp [intOf]; omega
          · obtain ⟨x1, x1f, x1o, x2, x3, x4⟩ := RN.yes hv
            have ht := hok.out.2 hv
            clear hok
            rw [if_pos rfl]
            generalize hE : s9.E 3 q = G at hv ht x1f x2 x4 ⊢
            obtain ⟨gv, gr, gt, gf⟩ := G
            simp only at hv ht x1f x2 x4
            subst hv ht
            cases gr
            · rw [if_neg (by decide)] at x2
              clear x4
              as_aux_lemma =>
                obtain ⟨a1', a2', a3', a4'⟩ := ent_box w5 true false false gf
                have A1 := Lib.hid a1'
                have A3 := Lib.hid a3'
                have TW6 := Lib.hid (TW5.out.still a2')
                have V6 := Lib.hid (V5.out.trans a2')
                have HX6 := Lib.hid (a2'.at HX5.out id)
                clear a1' a2' a3' a4' TW5 V5 HX5
                go_upto_region 21 with (with_reducible refine wpList_store_sz rfl 34 (.tmp 11) (.tmp 121) rfl w5.heap.size 0 #[.bool true, .bool false, .bool false, .int .i64 gf] rfl rfl 4 (ent_sz _ _ _ _) A3.out size_ent (ent_one _ _ _ _) [.bool true, .bool false, .bool false, .int .i64 gf] (ent_ls _ _ _ _) ?_)
                have hD0 := Lib.hid (show ¬ UsS U BA GB MB w5.heap.size from fun e => Nat.lt_irrefl _ (hD5.out _ e))
                generalize (w5.alloc (.cells #[.bool false, .bool false, .bool false, .int .i64 0] 34)).setCells w5.heap.size 0 [.bool true, .bool false, .bool false, .int .i64 gf] = w6 at A1 TW6 V6 HX6 ⊢
                generalize w5.heap.size = D at A1 hD0 ⊢
                have hD := Lib.hid (show ¬ D = BA ∧ ¬ (D = BA ∨ D = MB) from by have := hD0.out; unfold UsS at this; omega)
                clear A3 hD0 hD5
                obtain ⟨-, y1, y2, -, -, -, -, -, -, -⟩ := ob10 HX6.out
                go_wp2_with fail
                refine (TW6.out.find ad false at').mono ?_
                rintro e w7 ⟨rfl, tw7, u7⟩
                rw [x1, x1f, x1o]
                have TW7 := Lib.hid tw7
                have V7 := Lib.hid (V6.out.since u7 (by rintro k rfl; exact NB.out k (.inr (.inl rfl))))
                have HX7 := Lib.hid (u7.at HX6.out hga.out.1)
                have A7 := Lib.hid (A1.out.kept u7 hD.out.1)
                clear tw7 u7 TW6 V6 HX6 A1 y1 y2
                obtain ⟨-, y1, y2, -, -, y5, -, -, -, -⟩ := ob10 HX7.out
                obtain ⟨-, e1, -, e3, -, -, -, -⟩ := A7.out.eight
                go_wp2_with fail
                refine (TW7.out.store ad v at' RN.I).mono ?_
                rintro e w8 ⟨rfl, tw8, u8⟩
                rw [x2]
                have TW8 := Lib.hid tw8
                have V8 := Lib.hid (V7.out.since u8 (by rintro k (rfl | rfl); exact NB.out k (.inr (.inl rfl)); exact NB.out k (.inr (.inr (.inr rfl)))))
                have HX8 := Lib.hid (u8.at HX7.out hga.out.2.2)
                have A8 := Lib.hid (A7.out.kept u8 hD.out.2)
                clear tw8 u8 TW7 V7 HX7 A7 y1 y2 y5 e1 e3
                obtain ⟨-, y1, y2, -, -, -, -, -, -, -⟩ := ob10 HX8.out
                go_wp2_with fail
                refine (TW8.out.load ad at').mono ?_
                rintro e wz ⟨rfl, twz, uz⟩
                rw [x3]
                generalize uW (uM m9 (uB m9 B9 R0 1 ad at') R0 1 ad v at') (uB m9 (uB m9 B9 R0 1 ad at') R0 1 ad at') R0 1 ad at' = zW
                have TWz := Lib.hid twz
                have Vz := Lib.hid (V8.out.since uz (by rintro k rfl; exact NB.out k (.inr (.inl rfl))))
                have HXz := Lib.hid (uz.at HX8.out hga.out.1)
                have Az := Lib.hid (A8.out.kept uz hD.out.1)
                have Kz := Lib.hid RN.K
                clear twz uz TW8 V8 HX8 A8 y1 y2
                obtain ⟨-, -, -, -, -, y5, -, -, -, -⟩ := ob10 HXz.out
                obtain ⟨-, e1, -, -, -, -, -, -⟩ := Az.out.eight
                clear RN x1 x1f x1o x2 x3
                go_wp2
                go_roundw
                case rel => exact ⟨i + 1, s9, _, b9, _, by omega, by go_num, hr9, TWz, Kz, Vz⟩
                case measure => simp [intOf]; omega
            · rw [if_pos rfl] at x2
              have x4' := x4 rfl
              clear x4
              as_aux_lemma =>
                obtain ⟨a1', a2', a3', a4'⟩ := ent_box w5 true true false gf
                have A1 := Lib.hid a1'
                have A3 := Lib.hid a3'
                have TW6 := Lib.hid (TW5.out.still a2')
                have V6 := Lib.hid (V5.out.trans a2')
                have HX6 := Lib.hid (a2'.at HX5.out id)
                clear a1' a2' a3' a4' TW5 V5 HX5
                go_upto_region 21 with (with_reducible refine wpList_store_sz rfl 34 (.tmp 11) (.tmp 121) rfl w5.heap.size 0 #[.bool true, .bool true, .bool false, .int .i64 gf] rfl rfl 4 (ent_sz _ _ _ _) A3.out size_ent (ent_one _ _ _ _) [.bool true, .bool true, .bool false, .int .i64 gf] (ent_ls _ _ _ _) ?_)
                have hD0 := Lib.hid (show ¬ UsS U BA GB MB w5.heap.size from fun e => Nat.lt_irrefl _ (hD5.out _ e))
                generalize (w5.alloc (.cells #[.bool false, .bool false, .bool false, .int .i64 0] 34)).setCells w5.heap.size 0 [.bool true, .bool true, .bool false, .int .i64 gf] = w6 at A1 TW6 V6 HX6 ⊢
                generalize w5.heap.size = D at A1 hD0 ⊢
                have hD := Lib.hid (show ¬ D = BA ∧ ¬ (D = BA ∨ D = MB) from by have := hD0.out; unfold UsS at this; omega)
                clear A3 hD0 hD5
                obtain ⟨-, y1, y2, -, -, -, -, -, -, -⟩ := ob10 HX6.out
                go_wp2_with fail
                refine (TW6.out.find ad false at').mono ?_
                rintro e w7 ⟨rfl, tw7, u7⟩
                rw [x1, x1f, x1o]
                have TW7 := Lib.hid tw7
                have V7 := Lib.hid (V6.out.since u7 (by rintro k rfl; exact NB.out k (.inr (.inl rfl))))
                have HX7 := Lib.hid (u7.at HX6.out hga.out.1)
                have A7 := Lib.hid (A1.out.kept u7 hD.out.1)
                clear tw7 u7 TW6 V6 HX6 A1 y1 y2
                obtain ⟨-, y1, y2, -, -, y5, -, -, -, -⟩ := ob10 HX7.out
                obtain ⟨-, e1, -, e3, -, -, -, -⟩ := A7.out.eight
                go_wp2_with fail
                refine (TW7.out.store ad v at' RN.I).mono ?_
                rintro e w8 ⟨rfl, tw8, u8⟩
                rw [x2]
                have TW8 := Lib.hid tw8
                have V8 := Lib.hid (V7.out.since u8 (by rintro k (rfl | rfl); exact NB.out k (.inr (.inl rfl)); exact NB.out k (.inr (.inr (.inr rfl)))))
                have HX8 := Lib.hid (u8.at HX7.out hga.out.2.2)
                have A8 := Lib.hid (A7.out.kept u8 hD.out.2)
                clear tw8 u8 TW7 V7 HX7 A7 y1 y2 y5 e1 e3
                obtain ⟨-, y1, y2, -, -, -, -, -, -, -⟩ := ob10 HX8.out
                go_wp2_with fail
                refine (TW8.out.load ad at').mono ?_
                rintro e wz ⟨rfl, twz, uz⟩
                rw [x3, x4']
                have TWz := Lib.hid twz
                have Vz := Lib.hid (V8.out.since uz (by rintro k rfl; exact NB.out k (.inr (.inl rfl))))
                have HXz := Lib.hid (uz.at HX8.out hga.out.1)
                have Az := Lib.hid (A8.out.kept uz hD.out.1)
                have Kz := Lib.hid RN.K
                clear twz uz TW8 V8 HX8 A8 y1 y2
                obtain ⟨-, -, -, -, -, y5, -, -, -, -⟩ := ob10 HXz.out
                obtain ⟨-, e1, -, -, -, -, -, -⟩ := Az.out.eight
                clear RN x1 x1f x1o x2 x3 x4'
                go_wp2
                go_roundw
                case rel => exact ⟨i + 1, s9, _, b9, _, by omega, by go_num, hr9, TWz, Kz, Vz⟩
                case measure => simp [intOf]; omega
      · go_wp2_with fail
        refine (TX.out.unmap q).mono ?_
        rintro e w3 ⟨f3, x, s9, m9, b9, rfl, TW3, u3, r3⟩
        have HX3 := Lib.hid (u3.at HX.out hga.out.2.1)
        have V3 := Lib.hid (VX.out.since u3 (by rintro k (rfl | rfl); exact NB.out k (.inr (.inr (.inl rfl))); exact NB.out k (.inr (.inr (.inr rfl)))))
        obtain ⟨k9, hr⟩ := K.out.unmap r3
        have K9 := Lib.hid k9
        have hr9 : s9.root = R0 := hr.trans hr0
        have TW3' := Lib.hid TW3
        clear r3 k9 hr TX VX HX o0 o1 o2 o3 o4 o5 o6 o7 o8 o9 u3 TW3 K hr0
        go_wp2_with fail
        refine (TW3'.out.flush 1).mono ?_
        rintro e w9 ⟨y, rfl, tw9, u9⟩
        have TW9 := Lib.hid tw9
        have V9 := Lib.hid (V3.out.since u9 (by rintro k rfl; exact NB.out k (.inr (.inl rfl))))
        have HX9 := Lib.hid (u9.at HX3.out hga.out.1)
        clear tw9 u9 V3 HX3 TW3'
        generalize B.flush 1 = B9 at TW9 K9
        obtain ⟨o0, o1, o2, o3, o4, o5, o6, o7, o8, o9⟩ := ob10 HX9.out
        clear o3 o4 o6 o7 o8 o9
        go_upto_region 20 with fail
        clear o0 o1 o2 o5 e31
        as_aux_lemma =>
          have RN := Lib.hid (K9.out.round TW9.out.P.I hr9 ad at' v a0' a1' (by omega) (by omega) Hv.out.1 Hv.out.2)
          rw [← Hq.out.1] at RN
          have hfE := Lib.hid (show s9.findE q = s9.E 3 q ∧ s9.findX q = if (s9.E 3 q).v = true then 0 else 10 from by
            have hc : 0 ≤ (q : Int) ∧ (q : Int) ≤ 4095 := by have := Hq.out.2; omega
            unfold Sp.findE Sp.findX
            rw [if_pos hc, if_pos hc, Int.toNat_natCast]
            exact ⟨rfl, rfl⟩)
          have hok := Lib.hid (show ((s9.E 3 q).v = false → s9.E 3 q = En.zero) ∧ ((s9.E 3 q).v = true → (s9.E 3 q).t = false) from ⟨TW9.out.P.I.ok.none 3 q, TW9.out.P.I.ok.pg q⟩)
          have hD5' := hlt2.out _ _ _ _ _ _ _ TW9.out
          go_wp2_with fail
          refine (spc_find TW9.out.P q).mono ?_
          rintro e w5 ⟨rfl, u5⟩
          have TW5 := Lib.hid (TW9.out.still u5)
          have V5 := Lib.hid (V9.out.trans u5)
          have HX5 := Lib.hid (u5.at HX9.out id)
          have hD5 := Lib.hid (show ∀ k, UsS U BA GB MB k → k < w5.heap.size from fun k h => Nat.lt_of_lt_of_le (hD5' k h) u5.size)
          rw [hfE.out.1, hfE.out.2]
          clear u5 TW9 V9 HX9 hfE hD5' K9
          have RN := RN.out
          cases hv : (s9.E 3 q).v
          · obtain ⟨x1, x2, x3⟩ := RN.no hv
            rw [hok.out.1 hv]
            clear hok
            rw [if_neg (by decide)]
            rw [show En.zero.val = entV false false false 0 from rfl]
            obtain ⟨a1', a2', a3', a4'⟩ := ent_box w5 false false false 0
            have A1 := Lib.hid a1'
            have A3 := Lib.hid a3'
            have TW6 := Lib.hid (TW5.out.still a2')
            have V6 := Lib.hid (V5.out.trans a2')
            have HX6 := Lib.hid (a2'.at HX5.out id)
            clear a1' a2' a3' a4' TW5 V5 HX5
            go_upto_region 21 with (with_reducible refine wpList_store_sz rfl 34 (.tmp 11) (.tmp 121) rfl w5.heap.size 0 #[.bool false, .bool false, .bool false, .int .i64 0] rfl rfl 4 (ent_sz _ _ _ _) A3.out size_ent (ent_one _ _ _ _) [.bool false, .bool false, .bool false, .int .i64 0] (ent_ls _ _ _ _) ?_)
            have hD0 := Lib.hid (show ¬ UsS U BA GB MB w5.heap.size from fun e => Nat.lt_irrefl _ (hD5.out _ e))
            generalize (w5.alloc (.cells #[.bool false, .bool false, .bool false, .int .i64 0] 34)).setCells w5.heap.size 0 [.bool false, .bool false, .bool false, .int .i64 0] = w6 at A1 TW6 V6 HX6 ⊢
            generalize w5.heap.size = D at A1 hD0 ⊢
            have hD := Lib.hid (show ¬ D = BA ∧ ¬ (D = BA ∨ D = MB) from by have := hD0.out; unfold UsS at this; omega)
            clear A3 hD0 hD5
            obtain ⟨-, y1, y2, -, -, -, -, -, -, -⟩ := ob10 HX6.out
            go_wp2_with fail
            refine (TW6.out.find ad false at').mono ?_
            rintro e w7 ⟨rfl, tw7, u7⟩
            rw [x1]
            generalize uF m9 B9 R0 1 ad false at' = zF
            generalize uO m9 B9 R0 1 ad false at' = zO
            have TW7 := Lib.hid tw7
            have V7 := Lib.hid (V6.out.since u7 (by rintro k rfl; exact NB.out k (.inr (.inl rfl))))
            have HX7 := Lib.hid (u7.at HX6.out hga.out.1)
            have A7 := Lib.hid (A1.out.kept u7 hD.out.1)
            clear tw7 u7 TW6 V6 HX6 A1 y1 y2
            obtain ⟨-, y1, y2, -, -, y5, -, -, -, -⟩ := ob10 HX7.out
            obtain ⟨-, e1, -, e3, -, -, -, -⟩ := A7.out.eight
            go_wp2_with fail
            refine (TW7.out.store ad v at' RN.I).mono ?_
            rintro e w8 ⟨rfl, tw8, u8⟩
            rw [x2]
            have TW8 := Lib.hid tw8
            have V8 := Lib.hid (V7.out.since u8 (by rintro k (rfl | rfl); exact NB.out k (.inr (.inl rfl)); exact NB.out k (.inr (.inr (.inr rfl)))))
            have HX8 := Lib.hid (u8.at HX7.out hga.out.2.2)
            have A8 := Lib.hid (A7.out.kept u8 hD.out.2)
            clear tw8 u8 TW7 V7 HX7 A7 y1 y2 y5 e1 e3
            obtain ⟨-, y1, y2, -, -, -, -, -, -, -⟩ := ob10 HX8.out
            go_wp2_with fail
            refine (TW8.out.load ad at').mono ?_
            rintro e wz ⟨rfl, twz, uz⟩
            rw [x3]
            generalize uW (uM m9 (uB m9 B9 R0 1 ad at') R0 1 ad v at') (uB m9 (uB m9 B9 R0 1 ad at') R0 1 ad at') R0 1 ad at' = zW
            have TWz := Lib.hid twz
            have Vz := Lib.hid (V8.out.since uz (by rintro k rfl; exact NB.out k (.inr (.inl rfl))))
            have HXz := Lib.hid (uz.at HX8.out hga.out.1)
            have Az := Lib.hid (A8.out.kept uz hD.out.1)
            have Kz := Lib.hid RN.K
            clear twz uz TW8 V8 HX8 A8 y1 y2
            obtain ⟨-, -, -, -, -, y5, -, -, -, -⟩ := ob10 HXz.out
            obtain ⟨-, e1, -, -, -, -, -, -⟩ := Az.out.eight
            clear RN hv x1 x2 x3
            go_wp2
            go_roundw
            case rel => exact ⟨i + 1, s9, _, b9, _, by omega, by go_num, hr9, TWz, Kz, Vz⟩
            case measure => simp [intOf]; omega
          · obtain ⟨x1, x1f, x1o, x2, x3, x4⟩ := RN.yes hv
            have ht := hok.out.2 hv
            clear hok
            rw [if_pos rfl]
            generalize hE : s9.E 3 q = G at hv ht x1f x2 x4 ⊢
            obtain ⟨gv, gr, gt, gf⟩ := G
            simp only at hv ht x1f x2 x4
            subst hv ht
            cases gr
            · rw [if_neg (by decide)] at x2
              clear x4
              as_aux_lemma =>
                obtain ⟨a1', a2', a3', a4'⟩ := ent_box w5 true false false gf
                have A1 := Lib.hid a1'
                have A3 := Lib.hid a3'
                have TW6 := Lib.hid (TW5.out.still a2')
                have V6 := Lib.hid (V5.out.trans a2')
                have HX6 := Lib.hid (a2'.at HX5.out id)
                clear a1' a2' a3' a4' TW5 V5 HX5
                go_upto_region 21 with (with_reducible refine wpList_store_sz rfl 34 (.tmp 11) (.tmp 121) rfl w5.heap.size 0 #[.bool true, .bool false, .bool false, .int .i64 gf] rfl rfl 4 (ent_sz _ _ _ _) A3.out size_ent (ent_one _ _ _ _) [.bool true, .bool false, .bool false, .int .i64 gf] (ent_ls _ _ _ _) ?_)
                have hD0 := Lib.hid (show ¬ UsS U BA GB MB w5.heap.size from fun e => Nat.lt_irrefl _ (hD5.out _ e))
                generalize (w5.alloc (.cells #[.bool false, .bool false, .bool false, .int .i64 0] 34)).setCells w5.heap.size 0 [.bool true, .bool false, .bool false, .int .i64 gf] = w6 at A1 TW6 V6 HX6 ⊢
                generalize w5.heap.size = D at A1 hD0 ⊢
                have hD := Lib.hid (show ¬ D = BA ∧ ¬ (D = BA ∨ D = MB) from by have := hD0.out; unfold UsS at this; omega)
                clear A3 hD0 hD5
                obtain ⟨-, y1, y2, -, -, -, -, -, -, -⟩ := ob10 HX6.out
                go_wp2_with fail
                refine (TW6.out.find ad false at').mono ?_
                rintro e w7 ⟨rfl, tw7, u7⟩
                rw [x1, x1f, x1o]
                have TW7 := Lib.hid tw7
                have V7 := Lib.hid (V6.out.since u7 (by rintro k rfl; exact NB.out k (.inr (.inl rfl))))
                have HX7 := Lib.hid (u7.at HX6.out hga.out.1)
                have A7 := Lib.hid (A1.out.kept u7 hD.out.1)
                clear tw7 u7 TW6 V6 HX6 A1 y1 y2
                obtain ⟨-, y1, y2, -, -, y5, -, -, -, -⟩ := ob10 HX7.out
                obtain ⟨-, e1, -, e3, -, -, -, -⟩ := A7.out.eight
                go_wp2_with fail
                refine (TW7.out.store ad v at' RN.I).mono ?_
                rintro e w8 ⟨rfl, tw8, u8⟩
                rw [x2]
                have TW8 := Lib.hid tw8
                have V8 := Lib.hid (V7.out.since u8 (by rintro k (rfl | rfl); exact NB.out k (.inr (.inl rfl)); exact NB.out k (.inr (.inr (.inr rfl)))))
                have HX8 := Lib.hid (u8.at HX7.out hga.out.2.2)
                have A8 := Lib.hid (A7.out.kept u8 hD.out.2)
                clear tw8 u8 TW7 V7 HX7 A7 y1 y2 y5 e1 e3
                obtain ⟨-, y1, y2, -, -, -, -, -, -, -⟩ := ob10 HX8.out
                go_wp2_with fail
                refine (TW8.out.load ad at').mono ?_
                rintro e wz ⟨rfl, twz, uz⟩
                rw [x3]
                generalize uW (uM m9 (uB m9 B9 R0 1 ad at') R0 1 ad v at') (uB m9 (uB m9 B9 R0 1 ad at') R0 1 ad at') R0 1 ad at' = zW
                have TWz := Lib.hid twz
                have Vz := Lib.hid (V8.out.since uz (by rintro k rfl; exact NB.out k (.inr (.inl rfl))))
                have HXz := Lib.hid (uz.at HX8.out hga.out.1)
                have Az := Lib.hid (A8.out.kept uz hD.out.1)
                have Kz := Lib.hid RN.K
                clear twz uz TW8 V8 HX8 A8 y1 y2
                obtain ⟨-, -, -, -, -, y5, -, -, -, -⟩ := ob10 HXz.out
                obtain ⟨-, e1, -, -, -, -, -, -⟩ := Az.out.eight
                clear RN x1 x1f x1o x2 x3
                go_wp2
                go_roundw
                case rel => exact ⟨i + 1, s9, _, b9, _, by omega, by go_num, hr9, TWz, Kz, Vz⟩
                case measure => simp [intOf]; omega
            · rw [if_pos rfl] at x2
              have x4' := x4 rfl
              clear x4
              as_aux_lemma =>
                obtain ⟨a1', a2', a3', a4'⟩ := ent_box w5 true true false gf
                have A1 := Lib.hid a1'
                have A3 := Lib.hid a3'
                have TW6 := Lib.hid (TW5.out.still a2')
                have V6 := Lib.hid (V5.out.trans a2')
                have HX6 := Lib.hid (a2'.at HX5.out id)
                clear a1' a2' a3' a4' TW5 V5 HX5
                go_upto_region 21 with (with_reducible refine wpList_store_sz rfl 34 (.tmp 11) (.tmp 121) rfl w5.heap.size 0 #[.bool true, .bool true, .bool false, .int .i64 gf] rfl rfl 4 (ent_sz _ _ _ _) A3.out size_ent (ent_one _ _ _ _) [.bool true, .bool true, .bool false, .int .i64 gf] (ent_ls _ _ _ _) ?_)
                have hD0 := Lib.hid (show ¬ UsS U BA GB MB w5.heap.size from fun e => Nat.lt_irrefl _ (hD5.out _ e))
                generalize (w5.alloc (.cells #[.bool false, .bool false, .bool false, .int .i64 0] 34)).setCells w5.heap.size 0 [.bool true, .bool true, .bool false, .int .i64 gf] = w6 at A1 TW6 V6 HX6 ⊢
                generalize w5.heap.size = D at A1 hD0 ⊢
                have hD := Lib.hid (show ¬ D = BA ∧ ¬ (D = BA ∨ D = MB) from by have := hD0.out; unfold UsS at this; omega)
                clear A3 hD0 hD5
                obtain ⟨-, y1, y2, -, -, -, -, -, -, -⟩ := ob10 HX6.out
                go_wp2_with fail
                refine (TW6.out.find ad false at').mono ?_
                rintro e w7 ⟨rfl, tw7, u7⟩
                rw [x1, x1f, x1o]
                have TW7 := Lib.hid tw7
                have V7 := Lib.hid (V6.out.since u7 (by rintro k rfl; exact NB.out k (.inr (.inl rfl))))
                have HX7 := Lib.hid (u7.at HX6.out hga.out.1)
                have A7 := Lib.hid (A1.out.kept u7 hD.out.1)
                clear tw7 u7 TW6 V6 HX6 A1 y1 y2
                obtain ⟨-, y1, y2, -, -, y5, -, -, -, -⟩ := ob10 HX7.out
                obtain ⟨-, e1, -, e3, -, -, -, -⟩ := A7.out.eight
                go_wp2_with fail
                refine (TW7.out.store ad v at' RN.I).mono ?_
                rintro e w8 ⟨rfl, tw8, u8⟩
                rw [x2]
                have TW8 := Lib.hid tw8
                have V8 := Lib.hid (V7.out.since u8 (by rintro k (rfl | rfl); exact NB.out k (.inr (.inl rfl)); exact NB.out k (.inr (.inr (.inr rfl)))))
                have HX8 := Lib.hid (u8.at HX7.out hga.out.2.2)
                have A8 := Lib.hid (A7.out.kept u8 hD.out.2)
                clear tw8 u8 TW7 V7 HX7 A7 y1 y2 y5 e1 e3
                obtain ⟨-, y1, y2, -, -, -, -, -, -, -⟩ := ob10 HX8.out
                go_wp2_with fail
                refine (TW8.out.load ad at').mono ?_
                rintro e wz ⟨rfl, twz, uz⟩
                rw [x3, x4']
                have TWz := Lib.hid twz
                have Vz := Lib.hid (V8.out.since uz (by rintro k rfl; exact NB.out k (.inr (.inl rfl))))
                have HXz := Lib.hid (uz.at HX8.out hga.out.1)
                have Az := Lib.hid (A8.out.kept uz hD.out.1)
                have Kz := Lib.hid RN.K
                clear twz uz TW8 V8 HX8 A8 y1 y2
                obtain ⟨-, -, -, -, -, y5, -, -, -, -⟩ := ob10 HXz.out
                obtain ⟨-, e1, -, -, -, -, -, -⟩ := Az.out.eight
                clear RN x1 x1f x1o x2 x3 x4'
                go_wp2
                go_roundw
                case rel => exact ⟨i + 1, s9, _, b9, _, by omega, by go_num, hr9, TWz, Kz, Vz⟩
                case measure => simp [intOf]; omega
      · go_wp2_with fail
        refine (TX.out.protect q _).mono ?_
        rintro e w3 ⟨x, s9, m9, rfl, TW3, u3, r3⟩
        have HX3 := Lib.hid (u3.at HX.out hga.out.2.1)
        have V3 := Lib.hid (VX.out.since u3 (by rintro k (rfl | rfl); exact NB.out k (.inr (.inr (.inl rfl))); exact NB.out k (.inr (.inr (.inr rfl)))))
        obtain ⟨k9, hr⟩ := K.out.protect TX.out.bo r3
        have K9 := Lib.hid k9
        have hr9 : s9.root = R0 := hr.trans hr0
        have TW3' := Lib.hid TW3
        clear r3 k9 hr TX VX HX o0 o1 o2 o3 o4 o5 o6 o7 o8 o9 u3 TW3 K hr0
        go_wp2_with fail
        refine (TW3'.out.drop 1 q).mono ?_
        rintro e w9 ⟨y, rfl, tw9, u9⟩
        have TW9 := Lib.hid tw9
        have V9 := Lib.hid (V3.out.since u9 (by rintro k rfl; exact NB.out k (.inr (.inl rfl))))
        have HX9 := Lib.hid (u9.at HX3.out hga.out.1)
        clear tw9 u9 V3 HX3 TW3'
        generalize B.drop 1 q = B9 at TW9 K9
        obtain ⟨b9, hb9⟩ : ∃ b9, b9 = bb := ⟨_, rfl⟩
        subst hb9
        obtain ⟨o0, o1, o2, o3, o4, o5, o6, o7, o8, o9⟩ := ob10 HX9.out
        clear o3 o4 o6 o7 o8 o9
        go_upto_region 20 with fail
        clear o0 o1 o2 o5 e31
        as_aux_lemma =>
          have RN := Lib.hid (K9.out.round TW9.out.P.I hr9 ad at' v a0' a1' (by omega) (by omega) Hv.out.1 Hv.out.2)
          rw [← Hq.out.1] at RN
          have hfE := Lib.hid (show s9.findE q = s9.E 3 q ∧ s9.findX q = if (s9.E 3 q).v = true then 0 else 10 from by
            have hc : 0 ≤ (q : Int) ∧ (q : Int) ≤ 4095 := by have := Hq.out.2; omega
            unfold Sp.findE Sp.findX
            rw [if_pos hc, if_pos hc, Int.toNat_natCast]
            exact ⟨rfl, rfl⟩)
          have hok := Lib.hid (show ((s9.E 3 q).v = false → s9.E 3 q = En.zero) ∧ ((s9.E 3 q).v = true → (s9.E 3 q).t = false) from ⟨TW9.out.P.I.ok.none 3 q, TW9.out.P.I.ok.pg q⟩)
          have hD5' := hlt2.out _ _ _ _ _ _ _ TW9.out
          go_wp2_with fail
          refine (spc_find TW9.out.P q).mono ?_
          rintro e w5 ⟨rfl, u5⟩
          have TW5 := Lib.hid (TW9.out.still u5)
          have V5 := Lib.hid (V9.out.trans u5)
          have HX5 := Lib.hid (u5.at HX9.out id)
          have hD5 := Lib.hid (show ∀ k, UsS U BA GB MB k → k < w5.heap.size from fun k h => Nat.lt_of_lt_of_le (hD5' k h) u5.size)
          rw [hfE.out.1, hfE.out.2]
          clear u5 TW9 V9 HX9 hfE hD5' K9
          have RN := RN.out
          cases hv : (s9.E 3 q).v
          · obtain ⟨x1, x2, x3⟩ := RN.no hv
            rw [hok.out.1 hv]
            clear hok
            rw [if_neg (by decide)]
            rw [show En.zero.val = entV false false false 0 from rfl]
            obtain ⟨a1', a2', a3', a4'⟩ := ent_box w5 false false false 0
            have A1 := Lib.hid a1'
            have A3 := Lib.hid a3'
            have TW6 := Lib.hid (TW5.out.still a2')
            have V6 := Lib.hid (V5.out.trans a2')
            have HX6 := Lib.hid (a2'.at HX5.out id)
            clear a1' a2' a3' a4' TW5 V5 HX5
            go_upto_region 21 with (with_reducible refine wpList_store_sz rfl 34 (.tmp 11) (.tmp 121) rfl w5.heap.size 0 #[.bool false, .bool false, .bool false, .int .i64 0] rfl rfl 4 (ent_sz _ _ _ _) A3.out size_ent (ent_one _ _ _ _) [.bool false, .bool false, .bool false, .int .i64 0] (ent_ls _ _ _ _) ?_)
            have hD0 := Lib.hid (show ¬ UsS U BA GB MB w5.heap.size from fun e => Nat.lt_irrefl _ (hD5.out _ e))
            generalize (w5.alloc (.cells #[.bool false, .bool false, .bool false, .int .i64 0] 34)).setCells w5.heap.size 0 [.bool false, .bool false, .bool false, .int .i64 0] = w6 at A1 TW6 V6 HX6 ⊢
            generalize w5.heap.size = D at A1 hD0 ⊢
            have hD := Lib.hid (show ¬ D = BA ∧ ¬ (D = BA ∨ D = MB) from by have := hD0.out; unfold UsS at this; omega)
            clear A3 hD0 hD5
            obtain ⟨-, y1, y2, -, -, -, -, -, -, -⟩ := ob10 HX6.out
            go_wp2_with fail
            refine (TW6.out.find ad false at').mono ?_
            rintro e w7 ⟨rfl, tw7, u7⟩
            rw [x1]
            generalize uF m9 B9 R0 1 ad false at' = zF
            generalize uO m9 B9 R0 1 ad false at' = zO
            have TW7 := Lib.hid tw7
            have V7 := Lib.hid (V6.out.since u7 (by rintro k rfl; exact NB.out k (.inr (.inl rfl))))
            have HX7 := Lib.hid (u7.at HX6.out hga.out.1)
            have A7 := Lib.hid (A1.out.kept u7 hD.out.1)
            clear tw7 u7 TW6 V6 HX6 A1 y1 y2
            obtain ⟨-, y1, y2, -, -, y5, -, -, -, -⟩ := ob10 HX7.out
            obtain ⟨-, e1, -, e3, -, -, -, -⟩ := A7.out.eight
            go_wp2_with fail
            refine (TW7.out.store ad v at' RN.I).mono ?_
            rintro e w8 ⟨rfl, tw8, u8⟩
            rw [x2]
            have TW8 := Lib.hid tw8
            have V8 := Lib.hid (V7.out.since u8 (by rintro k (rfl | rfl); exact NB.out k (.inr (.inl rfl)); exact NB.out k (.inr (.inr (.inr rfl)))))
            have HX8 := Lib.hid (u8.at HX7.out hga.out.2.2)
            have A8 := Lib.hid (A7.out.kept u8 hD.out.2)
            clear tw8 u8 TW7 V7 HX7 A7 y1 y2 y5 e1 e3
            obtain ⟨-, y1, y2, -, -, -, -, -, -, -⟩ := ob10 HX8.out
            go_wp2_with fail
            refine (TW8.out.load ad at').mono ?_
            rintro e wz ⟨rfl, twz, uz⟩
            rw [x3]
            generalize uW (uM m9 (uB m9 B9 R0 1 ad at') R0 1 ad v at') (uB m9 (uB m9 B9 R0 1 ad at') R0 1 ad at') R0 1 ad at' = zW
            have TWz := Lib.hid twz
            have Vz := Lib.hid (V8.out.since uz (by rintro k rfl; exact NB.out k (.inr (.inl rfl))))
            have HXz := Lib.hid (uz.at HX8.out hga.out.1)
            have Az := Lib.hid (A8.out.kept uz hD.out.1)
            have Kz := Lib.hid RN.K
            clear twz uz TW8 V8 HX8 A8 y1 y2
            obtain ⟨-, -, -, -, -, y5, -, -, -, -⟩ := ob10 HXz.out
            obtain ⟨-, e1, -, -, -, -, -, -⟩ := Az.out.eight
            clear RN hv x1 x2 x3
            go_wp2
            go_roundw
            case rel => exact ⟨i + 1, s9, _, b9, _, by omega, by go_num, hr9, TWz, Kz, Vz⟩
            case measure => simp [intOf]; omega
          · obtain ⟨x1, x1f, x1o, x2, x3, x4⟩ := RN.yes hv
            have ht := hok.out.2 hv
            clear hok
            rw [if_pos rfl]
            generalize hE : s9.E 3 q = G at hv ht x1f x2 x4 ⊢
            obtain ⟨gv, gr, gt, gf⟩ := G
            simp only at hv ht x1f x2 x4
            subst hv ht
            cases gr
            · rw [if_neg (by decide)] at x2
              clear x4
              as_aux_lemma =>
                obtain ⟨a1', a2', a3', a4'⟩ := ent_box w5 true false false gf
                have A1 := Lib.hid a1'
                have A3 := Lib.hid a3'
                have TW6 := Lib.hid (TW5.out.still a2')
                have V6 := Lib.hid (V5.out.trans a2')
                have HX6 := Lib.hid (a2'.at HX5.out id)
                clear a1' a2' a3' a4' TW5 V5 HX5
                go_upto_region 21 with (with_reducible refine wpList_store_sz rfl 34 (.tmp 11) (.tmp 121) rfl w5.heap.size 0 #[.bool true, .bool false, .bool false, .int .i64 gf] rfl rfl 4 (ent_sz _ _ _ _) A3.out size_ent (ent_one _ _ _ _) [.bool true, .bool false, .bool false, .int .i64 gf] (ent_ls _ _ _ _) ?_)
                have hD0 := Lib.hid (show ¬ UsS U BA GB MB w5.heap.size from fun e => Nat.lt_irrefl _ (hD5.out _ e))
                generalize (w5.alloc (.cells #[.bool false, .bool false, .bool false, .int .i64 0] 34)).setCells w5.heap.size 0 [.bool true, .bool false, .bool false, .int .i64 gf] = w6 at A1 TW6 V6 HX6 ⊢
                generalize w5.heap.size = D at A1 hD0 ⊢
                have hD := Lib.hid (show ¬ D = BA ∧ ¬ (D = BA ∨ D = MB) from by have := hD0.out; unfold UsS at this; omega)
                clear A3 hD0 hD5
                obtain ⟨-, y1, y2, -, -, -, -, -, -, -⟩ := ob10 HX6.out
                go_wp2_with fail
                refine (TW6.out.find ad false at').mono ?_
                rintro e w7 ⟨rfl, tw7, u7⟩
                rw [x1, x1f, x1o]
                have TW7 := Lib.hid tw7
                have V7 := Lib.hid (V6.out.since u7 (by rintro k rfl; exact NB.out k (.inr (.inl rfl))))
                have HX7 := Lib.hid (u7.at HX6.out hga.out.1)
                have A7 := Lib.hid (A1.out.kept u7 hD.out.1)
                clear tw7 u7 TW6 V6 HX6 A1 y1 y2
                obtain ⟨-, y1, y2, -, -, y5, -, -, -, -⟩ := ob10 HX7.out
                obtain ⟨-, e1, -, e3, -, -, -, -⟩ := A7.out.eight
                go_wp2_with fail
                refine (TW7.out.store ad v at' RN.I).mono ?_
                rintro e w8 ⟨rfl, tw8, u8⟩
                rw [x2]
                have TW8 := Lib.hid tw8
                have V8 := Lib.hid (V7.out.since u8 (by rintro k (rfl | rfl); exact NB.out k (.inr (.inl rfl)); exact NB.out k (.inr (.inr (.inr rfl)))))
                have HX8 := Lib.hid (u8.at HX7.out hga.out.2.2)
                have A8 := Lib.hid (A7.out.kept u8 hD.out.2)
                clear tw8 u8 TW7 V7 HX7 A7 y1 y2 y5 e1 e3
                obtain ⟨-, y1, y2, -, -, -, -, -, -, -⟩ := ob10 HX8.out
                go_wp2_with fail
                refine (TW8.out.load ad at').mono ?_
                rintro e wz ⟨rfl, twz, uz⟩
                rw [x3]
                generalize uW (uM m9 (uB m9 B9 R0 1 ad at') R0 1 ad v at') (uB m9 (uB m9 B9 R0 1 ad at') R0 1 ad at') R0 1 ad at' = zW
                have TWz := Lib.hid twz
                have Vz := Lib.hid (V8.out.since uz (by rintro k rfl; exact NB.out k (.inr (.inl rfl))))
                have HXz := Lib.hid (uz.at HX8.out hga.out.1)
                have Az := Lib.hid (A8.out.kept uz hD.out.1)
                have Kz := Lib.hid RN.K
                clear twz uz TW8 V8 HX8 A8 y1 y2
                obtain ⟨-, -, -, -, -, y5, -, -, -, -⟩ := ob10 HXz.out
                obtain ⟨-, e1, -, -, -, -, -, -⟩ := Az.out.eight
                clear RN x1 x1f x1o x2 x3
                go_wp2
                go_roundw
                case rel => exact ⟨i + 1, s9, _, b9, _, by omega, by go_num, hr9, TWz, Kz, Vz⟩
                case measure => simp [intOf]; omega
            · rw [if_pos rfl] at x2
              have x4' := x4 rfl
              clear x4
              as_aux_lemma =>
                obtain ⟨a1', a2', a3', a4'⟩ := ent_box w5 true true false gf
                have A1 := Lib.hid a1'
                have A3 := Lib.hid a3'
                have TW6 := Lib.hid (TW5.out.still a2')
                have V6 := Lib.hid (V5.out.trans a2')
                have HX6 := Lib.hid (a2'.at HX5.out id)
                clear a1' a2' a3' a4' TW5 V5 HX5
                go_upto_region 21 with (with_reducible refine wpList_store_sz rfl 34 (.tmp 11) (.tmp 121) rfl w5.heap.size 0 #[.bool true, .bool true, .bool false, .int .i64 gf] rfl rfl 4 (ent_sz _ _ _ _) A3.out size_ent (ent_one _ _ _ _) [.bool true, .bool true, .bool false, .int .i64 gf] (ent_ls _ _ _ _) ?_)
                have hD0 := Lib.hid (show ¬ UsS U BA GB MB w5.heap.size from fun e => Nat.lt_irrefl _ (hD5.out _ e))
                generalize (w5.alloc (.cells #[.bool false, .bool false, .bool false, .int .i64 0] 34)).setCells w5.heap.size 0 [.bool true, .bool true, .bool false, .int .i64 gf] = w6 at A1 TW6 V6 HX6 ⊢
                generalize w5.heap.size = D at A1 hD0 ⊢
                have hD := Lib.hid (show ¬ D = BA ∧ ¬ (D = BA ∨ D = MB) from by have := hD0.out; unfold UsS at this; omega)
                clear A3 hD0 hD5
                obtain ⟨-, y1, y2, -, -, -, -, -, -, -⟩ := ob10 HX6.out
                go_wp2_with fail
                refine (TW6.out.find ad false at').mono ?_
                rintro e w7 ⟨rfl, tw7, u7⟩
                rw [x1, x1f, x1o]
                have TW7 := Lib.hid tw7
                have V7 := Lib.hid (V6.out.since u7 (by rintro k rfl; exact NB.out k (.inr (.inl rfl))))
                have HX7 := Lib.hid (u7.at HX6.out hga.out.1)
                have A7 := Lib.hid (A1.out.kept u7 hD.out.1)
                clear tw7 u7 TW6 V6 HX6 A1 y1 y2
                obtain ⟨-, y1, y2, -, -, y5, -, -, -, -⟩ := ob10 HX7.out
                obtain ⟨-, e1, -, e3, -, -, -, -⟩ := A7.out.eight
                go_wp2_with fail
                refine (TW7.out.store ad v at' RN.I).mono ?_
                rintro e w8 ⟨rfl, tw8, u8⟩
                rw [x2]
                have TW8 := Lib.hid tw8
                have V8 := Lib.hid (V7.out.since u8 (by rintro k (rfl | rfl); exact NB.out k (.inr (.inl rfl)); exact NB.out k (.inr (.inr (.inr rfl)))))
                have HX8 := Lib.hid (u8.at HX7.out hga.out.2.2)
                have A8 := Lib.hid (A7.out.kept u8 hD.out.2)
                clear tw8 u8 TW7 V7 HX7 A7 y1 y2 y5 e1 e3
                obtain ⟨-, y1, y2, -, -, -, -, -, -, -⟩ := ob10 HX8.out
                go_wp2_with fail
                refine (TW8.out.load ad at').mono ?_
                rintro e wz ⟨rfl, twz, uz⟩
                rw [x3, x4']
                have TWz := Lib.hid twz
                have Vz := Lib.hid (V8.out.since uz (by rintro k rfl; exact NB.out k (.inr (.inl rfl))))
                have HXz := Lib.hid (uz.at HX8.out hga.out.1)
                have Az := Lib.hid (A8.out.kept uz hD.out.1)
                have Kz := Lib.hid RN.K
                clear twz uz TW8 V8 HX8 A8 y1 y2
                obtain ⟨-, -, -, -, -, y5, -, -, -, -⟩ := ob10 HXz.out
                obtain ⟨-, e1, -, -, -, -, -, -⟩ := Az.out.eight
                clear RN x1 x1f x1o x2 x3 x4'
                go_wp2
                go_roundw
                case rel => exact ⟨i + 1, s9, _, b9, _, by omega, by go_num, hr9, TWz, Kz, Vz⟩
                case measure => simp [intOf]; omega
      · go_upto_region 20 with fail
        clear o0 o1 o2 o3 o4 o5 o6 o7 o8 o9 e31 n5 n6 n7
        obtain ⟨w9, hw9⟩ : ∃ x, x = W := ⟨_, rfl⟩
        obtain ⟨s9, hs9⟩ : ∃ x, x = s := ⟨_, rfl⟩
        obtain ⟨m9, hm9⟩ : ∃ x, x = m := ⟨_, rfl⟩
        obtain ⟨b9, hb9⟩ : ∃ x, x = bb := ⟨_, rfl⟩
        obtain ⟨B9, hB9⟩ : ∃ x, x = B := ⟨_, rfl⟩
        subst hw9 hs9 hm9 hb9 hB9
        have TW9 := TX
        have K9 := K
        have V9 := VX
        have HX9 := HX
        have hr9 := hr0
        clear TX K VX HX hr0
        as_aux_lemma =>
          have RN := Lib.hid (K9.out.round TW9.out.P.I hr9 ad at' v a0' a1' (by omega) (by omega) Hv.out.1 Hv.out.2)
          rw [← Hq.out.1] at RN
          have hfE := Lib.hid (show s9.findE q = s9.E 3 q ∧ s9.findX q = if (s9.E 3 q).v = true then 0 else 10 from by
            have hc : 0 ≤ (q : Int) ∧ (q : Int) ≤ 4095 := by have := Hq.out.2; omega
            unfold Sp.findE Sp.findX
            rw [if_pos hc, if_pos hc, Int.toNat_natCast]
            exact ⟨rfl, rfl⟩)
          have hok := Lib.hid (show ((s9.E 3 q).v = false → s9.E 3 q = En.zero) ∧ ((s9.E 3 q).v = true → (s9.E 3 q).t = false) from ⟨TW9.out.P.I.ok.none 3 q, TW9.out.P.I.ok.pg q⟩)
          have hD5' := hlt2.out _ _ _ _ _ _ _ TW9.out
          go_wp2_with fail
          refine (spc_find TW9.out.P q).mono ?_
          rintro e w5 ⟨rfl, u5⟩
          have TW5 := Lib.hid (TW9.out.still u5)
          have V5 := Lib.hid (V9.out.trans u5)
          have HX5 := Lib.hid (u5.at HX9.out id)
          have hD5 := Lib.hid (show ∀ k, UsS U BA GB MB k → k < w5.heap.size from fun k h => Nat.lt_of_lt_of_le (hD5' k h) u5.size)
          rw [hfE.out.1, hfE.out.2]
          clear u5 TW9 V9 HX9 hfE hD5' K9
          have RN := RN.out
          cases hv : (s9.E 3 q).v
          · obtain ⟨x1, x2, x3⟩ := RN.no hv
            rw [hok.out.1 hv]
            clear hok
            rw [if_neg (by decide)]
            rw [show En.zero.val = entV false false false 0 from rfl]
            obtain ⟨a1', a2', a3', a4'⟩ := ent_box w5 false false false 0
            have A1 := Lib.hid a1'
            have A3 := Lib.hid a3'
            have TW6 := Lib.hid (TW5.out.still a2')
            have V6 := Lib.hid (V5.out.trans a2')
            have HX6 := Lib.hid (a2'.at HX5.out id)
            clear a1' a2' a3' a4' TW5 V5 HX5
            go_upto_region 21 with (with_reducible refine wpList_store_sz rfl 34 (.tmp 11) (.tmp 121) rfl w5.heap.size 0 #[.bool false, .bool false, .bool false, .int .i64 0] rfl rfl 4 (ent_sz _ _ _ _) A3.out size_ent (ent_one _ _ _ _) [.bool false, .bool false, .bool false, .int .i64 0] (ent_ls _ _ _ _) ?_)
            have hD0 := Lib.hid (show ¬ UsS U BA GB MB w5.heap.size from fun e => Nat.lt_irrefl _ (hD5.out _ e))
            generalize (w5.alloc (.cells #[.bool false, .bool false, .bool false, .int .i64 0] 34)).setCells w5.heap.size 0 [.bool false, .bool false, .bool false, .int .i64 0] = w6 at A1 TW6 V6 HX6 ⊢
            generalize w5.heap.size = D at A1 hD0 ⊢
            have hD := Lib.hid (show ¬ D = BA ∧ ¬ (D = BA ∨ D = MB) from by have := hD0.out; unfold UsS at this; omega)
            clear A3 hD0 hD5
            obtain ⟨-, y1, y2, -, -, -, -, -, -, -⟩ := ob10 HX6.out
            go_wp2_with fail
            refine (TW6.out.find ad false at').mono ?_
            rintro e w7 ⟨rfl, tw7, u7⟩
            rw [x1]
            generalize uF m9 B9 R0 1 ad false at' = zF
            generalize uO m9 B9 R0 1 ad false at' = zO
            have TW7 := Lib.hid tw7
            have V7 := Lib.hid (V6.out.since u7 (by rintro k rfl; exact NB.out k (.inr (.inl rfl))))
            have HX7 := Lib.hid (u7.at HX6.out hga.out.1)
            have A7 := Lib.hid (A1.out.kept u7 hD.out.1)
            clear tw7 u7 TW6 V6 HX6 A1 y1 y2
            obtain ⟨-, y1, y2, -, -, y5, -, -, -, -⟩ := ob10 HX7.out
            obtain ⟨-, e1, -, e3, -, -, -, -⟩ := A7.out.eight
            go_wp2_with fail
            refine (TW7.out.store ad v at' RN.I).mono ?_
            rintro e w8 ⟨rfl, tw8, u8⟩
            rw [x2]
            have TW8 := Lib.hid tw8
            have V8 := Lib.hid (V7.out.since u8 (by rintro k (rfl | rfl); exact NB.out k (.inr (.inl rfl)); exact NB.out k (.inr (.inr (.inr rfl)))))
            have HX8 := Lib.hid (u8.at HX7.out hga.out.2.2)
            have A8 := Lib.hid (A7.out.kept u8 hD.out.2)
            clear tw8 u8 TW7 V7 HX7 A7 y1 y2 y5 e1 e3
            obtain ⟨-, y1, y2, -, -, -, -, -, -, -⟩ := ob10 HX8.out
            go_wp2_with fail
            refine (TW8.out.load ad at').mono ?_
            rintro e wz ⟨rfl, twz, uz⟩
            rw [x3]
            generalize uW (uM m9 (uB m9 B9 R0 1 ad at') R0 1 ad v at') (uB m9 (uB m9 B9 R0 1 ad at') R0 1 ad at') R0 1 ad at' = zW
            have TWz := Lib.hid twz
            have Vz := Lib.hid (V8.out.since uz (by rintro k rfl; exact NB.out k (.inr (.inl rfl))))
            have HXz := Lib.hid (uz.at HX8.out hga.out.1)
            have Az := Lib.hid (A8.out.kept uz hD.out.1)
            have Kz := Lib.hid RN.K
            clear twz uz TW8 V8 HX8 A8 y1 y2
            obtain ⟨-, -, -, -, -, y5, -, -, -, -⟩ := ob10 HXz.out
            obtain ⟨-, e1, -, -, -, -, -, -⟩ := Az.out.eight
            clear RN hv x1 x2 x3
            go_wp2
            go_roundw
            case rel => exact ⟨i + 1, s9, _, b9, _, by omega, by go_num, hr9, TWz, Kz, Vz⟩
            case measure => simp [intOf]; omega
          · obtain ⟨x1, x1f, x1o, x2, x3, x4⟩ := RN.yes hv
            have ht := hok.out.2 hv
            clear hok
            rw [if_pos rfl]
            generalize hE : s9.E 3 q = G at hv ht x1f x2 x4 ⊢
            obtain ⟨gv, gr, gt, gf⟩ := G
            simp only at hv ht x1f x2 x4
            subst hv ht
            cases gr
            · rw [if_neg (by decide)] at x2
              clear x4
              as_aux_lemma =>
                obtain ⟨a1', a2', a3', a4'⟩ := ent_box w5 true false false gf
                have A1 := Lib.hid a1'
                have A3 := Lib.hid a3'
                have TW6 := Lib.hid (TW5.out.still a2')
                have V6 := Lib.hid (V5.out.trans a2')
                have HX6 := Lib.hid (a2'.at HX5.out id)
                clear a1' a2' a3' a4' TW5 V5 HX5
                go_upto_region 21 with (with_reducible refine wpList_store_sz rfl 34 (.tmp 11) (.tmp 121) rfl w5.heap.size 0 #[.bool true, .bool false, .bool false, .int .i64 gf] rfl rfl 4 (ent_sz _ _ _ _) A3.out size_ent (ent_one _ _ _ _) [.bool true, .bool false, .bool false, .int .i64 gf] (ent_ls _ _ _ _) ?_)
                have hD0 := Lib.hid (show ¬ UsS U BA GB MB w5.heap.size from fun e => Nat.lt_irrefl _ (hD5.out _ e))
                generalize (w5.alloc (.cells #[.bool false, .bool false, .bool false, .int .i64 0] 34)).setCells w5.heap.size 0 [.bool true, .bool false, .bool false, .int .i64 gf] = w6 at A1 TW6 V6 HX6 ⊢
                generalize w5.heap.size = D at A1 hD0 ⊢
                have hD := Lib.hid (show ¬ D = BA ∧ ¬ (D = BA ∨ D = MB) from by have := hD0.out; unfold UsS at this; omega)
                clear A3 hD0 hD5
                obtain ⟨-, y1, y2, -, -, -, -, -, -, -⟩ := ob10 HX6.out
                go_wp2_with fail
                refine (TW6.out.find ad false at').mono ?_
                rintro e w7 ⟨rfl, tw7, u7⟩
                rw [x1, x1f, x1o]
                have TW7 := Lib.hid tw7
                have V7 := Lib.hid (V6.out.since u7 (by rintro k rfl; exact NB.out k (.inr (.inl rfl))))
                have HX7 := Lib.hid (u7.at HX6.out hga.out.1)
                have A7 := Lib.hid (A1.out.kept u7 hD.out.1)
                clear tw7 u7 TW6 V6 HX6 A1 y1 y2
                obtain ⟨-, y1, y2, -, -, y5, -, -, -, -⟩ := ob10 HX7.out
                obtain ⟨-, e1, -, e3, -, -, -, -⟩ := A7.out.eight
                go_wp2_with fail
                refine (TW7.out.store ad v at' RN.I).mono ?_
                rintro e w8 ⟨rfl, tw8, u8⟩
                rw [x2]
                have TW8 := Lib.hid tw8
                have V8 := Lib.hid (V7.out.since u8 (by rintro k (rfl | rfl); exact NB.out k (.inr (.inl rfl)); exact NB.out k (.inr (.inr (.inr rfl)))))
                have HX8 := Lib.hid (u8.at HX7.out hga.out.2.2)
                have A8 := Lib.hid (A7.out.kept u8 hD.out.2)
                clear tw8 u8 TW7 V7 HX7 A7 y1 y2 y5 e1 e3
                obtain ⟨-, y1, y2, -, -, -, -, -, -, -⟩ := ob10 HX8.out
                go_wp2_with fail
                refine (TW8.out.load ad at').mono ?_
                rintro e wz ⟨rfl, twz, uz⟩
                rw [x3]
                generalize uW (uM m9 (uB m9 B9 R0 1 ad at') R0 1 ad v at') (uB m9 (uB m9 B9 R0 1 ad at') R0 1 ad at') R0 1 ad at' = zW
                have TWz := Lib.hid twz
                have Vz := Lib.hid (V8.out.since uz (by rintro k rfl; exact NB.out k (.inr (.inl rfl))))
                have HXz := Lib.hid (uz.at HX8.out hga.out.1)
                have Az := Lib.hid (A8.out.kept uz hD.out.1)
                have Kz := Lib.hid RN.K
                clear twz uz TW8 V8 HX8 A8 y1 y2
                obtain ⟨-, -, -, -, -, y5, -, -, -, -⟩ := ob10 HXz.out
                obtain ⟨-, e1, -, -, -, -, -, -⟩ := Az.out.eight
                clear RN x1 x1f x1o x2 x3
                go_wp2
                go_roundw
                case rel => exact ⟨i + 1, s9, _, b9, _, by omega, by go_num, hr9, TWz, Kz, Vz⟩
                case measure => simp [intOf]; omega
            · rw [if_pos rfl] at x2
              have x4' := x4 rfl
              clear x4
              as_aux_lemma =>
                obtain ⟨a1', a2', a3', a4'⟩ := ent_box w5 true true false gf
                have A1 := Lib.hid a1'
                have A3 := Lib.hid a3'
                have TW6 := Lib.hid (TW5.out.still a2')
                have V6 := Lib.hid (V5.out.trans a2')
                have HX6 := Lib.hid (a2'.at HX5.out id)
                clear a1' a2' a3' a4' TW5 V5 HX5
                go_upto_region 21 with (with_reducible refine wpList_store_sz rfl 34 (.tmp 11) (.tmp 121) rfl w5.heap.size 0 #[.bool true, .bool true, .bool false, .int .i64 gf] rfl rfl 4 (ent_sz _ _ _ _) A3.out size_ent (ent_one _ _ _ _) [.bool true, .bool true, .bool false, .int .i64 gf] (ent_ls _ _ _ _) ?_)
                have hD0 := Lib.hid (show ¬ UsS U BA GB MB w5.heap.size from fun e => Nat.lt_irrefl _ (hD5.out _ e))
                generalize (w5.alloc (.cells #[.bool false, .bool false, .bool false, .int .i64 0] 34)).setCells w5.heap.size 0 [.bool true, .bool true, .bool false, .int .i64 gf] = w6 at A1 TW6 V6 HX6 ⊢
                generalize w5.heap.size = D at A1 hD0 ⊢
                have hD := Lib.hid (show ¬ D = BA ∧ ¬ (D = BA ∨ D = MB) from by have := hD0.out; unfold UsS at this; omega)
                clear A3 hD0 hD5
                obtain ⟨-, y1, y2, -, -, -, -, -, -, -⟩ := ob10 HX6.out
                go_wp2_with fail
                refine (TW6.out.find ad false at').mono ?_
                rintro e w7 ⟨rfl, tw7, u7⟩
                rw [x1, x1f, x1o]
                have TW7 := Lib.hid tw7
                have V7 := Lib.hid (V6.out.since u7 (by rintro k rfl; exact NB.out k (.inr (.inl rfl))))
                have HX7 := Lib.hid (u7.at HX6.out hga.out.1)
                have A7 := Lib.hid (A1.out.kept u7 hD.out.1)
                clear tw7 u7 TW6 V6 HX6 A1 y1 y2
                obtain ⟨-, y1, y2, -, -, y5, -, -, -, -⟩ := ob10 HX7.out
                obtain ⟨-, e1, -, e3, -, -, -, -⟩ := A7.out.eight
                go_wp2_with fail
                refine (TW7.out.store ad v at' RN.I).mono ?_
                rintro e w8 ⟨rfl, tw8, u8⟩
                rw [x2]
                have TW8 := Lib.hid tw8
                have V8 := Lib.hid (V7.out.since u8 (by rintro k (rfl | rfl); exact NB.out k (.inr (.inl rfl)); exact NB.out k (.inr (.inr (.inr rfl)))))
                have HX8 := Lib.hid (u8.at HX7.out hga.out.2.2)
                have A8 := Lib.hid (A7.out.kept u8 hD.out.2)
                clear tw8 u8 TW7 V7 HX7 A7 y1 y2 y5 e1 e3
                obtain ⟨-, y1, y2, -, -, -, -, -, -, -⟩ := ob10 HX8.out
                go_wp2_with fail
                refine (TW8.out.load ad at').mono ?_
                rintro e wz ⟨rfl, twz, uz⟩
                rw [x3, x4']
                have TWz := Lib.hid twz
                have Vz := Lib.hid (V8.out.since uz (by rintro k rfl; exact NB.out k (.inr (.inl rfl))))
                have HXz := Lib.hid (uz.at HX8.out hga.out.1)
                have Az := Lib.hid (A8.out.kept uz hD.out.1)
                have Kz := Lib.hid RN.K
                clear twz uz TW8 V8 HX8 A8 y1 y2
                obtain ⟨-, -, -, -, -, y5, -, -, -, -⟩ := ob10 HXz.out
                obtain ⟨-, e1, -, -, -, -, -, -⟩ := Az.out.eight
                clear RN x1 x1f x1o x2 x3 x4'
                go_wp2
                go_roundw
                case rel => exact ⟨i + 1, s9, _, b9, _, by omega, by go_num, hr9, TWz, Kz, Vz⟩
                case measure => simp [intOf]; omega
    · have e : i = n := by omega
      subst e
      go_wp2
      go_ret
      exact ⟨rfl, V.out.below (Nat.le_refl _) fun _ _ => id⟩
/-! ### the row's frame, and its tied card -/
theorem own : ownKnob Tryd.prog.godebug = none := by kernel_rfl
theorem laidOut : laidOutB Tryd.prog = true := by kernel_rfl
/-- the door's own heap meets the condition -/
theorem door_met (os : Os) (args : Array Value) : laidMetH Tryd.prog Rows.mmuSpacesRow.laid ((World.doorLaid Tryd.prog 400 os).forCall (fun _ _ => 0) ⟨#[], args, []⟩).memory :=
  laidMetH_of_parts3 (fuel := 8) (laidMet_of_run' 8 (by kernel_rfl) (by kernel_rfl)) (by kernel_rfl) (by kernel_rfl)
set_option linter.unusedVariables false in
set_option maxRecDepth 100000 in
theorem lifted (os : Os) (started : os.Started) (H : Type) (enc : TypeId × Value → H) :
    ReturnsInHanded {} Tryd.checked os 4 .any (fun w args => (Rows.mmuSpacesSpec.pre enc Tryd.prog Tryd.f4 [] false w args ∧ laidMetH Tryd.prog Rows.mmuSpacesRow.laid w) ∧ sizedMet enc Tryd.prog Tryd.f4 (OpenSpec.ofChange Rows.mmuSpacesSpec) false w args)
      (Rows.mmuSpacesSpec.post enc Tryd.prog Tryd.f4 false true false false) := by
  refine returnsInHanded_of_change_and (C := Tryd.checked) (X := fun w _ => laidMetH Tryd.prog Rows.mmuSpacesRow.laid w) (fun _ _ _ hh h => h.of_heap hh) own started (by kernel_rfl) Tryd.func4
    (ChangeSpec.witness_shaped (enc := enc) (C := Tryd.checked) (os := os) (X := fun w _ => laidMetH Tryd.prog Rows.mmuSpacesRow.laid w) false (World.doorLaid Tryd.prog 400 os) #[.slice none 0 0] 8 rfl (World.shaped_of_RefB (by kernel_rfl) (by kernel_rfl)) (by kernel_rfl) (by kernel_rfl) (by kernel_rfl) (door_met os _)) ?_
  intro W base args ds gs before hval0 hW _ _ hL _
  have hLd := hL
  rw [MakeChecks.laidMetH_plain _ _ _ (by kernel_rfl)] at hLd
  have T0 : Fr.VarIs W 0 (Fr.datCells (Rows.laid_trunnion_entry_fields (H := Unit))) := Fr.varIs_of_laid (t := 156) (ks := [some .i64, some .i64, some .i64, some .i64, some .i64, some .i64, some .i64, some .i64, some .i64, some .i64, some .i64, some .i64, some .i64, some .i64, some .i64, some .i64, some .i64, some .i64]) 12 (hLd : laidMet Tryd.prog Rows.mmuSpacesRow.laid W) "trunnion/entry.fields" (Rows.laid_trunnion_entry_fields (H := Unit)) (by simp [Rows.mmuSpacesRow]) (by kernel_rfl) (by kernel_rfl) (by kernel_rfl)
  clear hL hLd
  have hval : ∀ (j : Nat) t v, Tryd.f4.params[j]? = some t → args[j]? = some v → Value.okWide Tryd.prog W .any base t v := hval0
  have hW' := hW
  obtain ⟨p, q, hA0, hV, rfl, hfz, hnd⟩ := hW
  have hA : DataW.TrodAll enc Tryd.prog W 0 (fun _ => true) true Tryd.f4.params.toList args.toList ds p := hA0
  rw [Tryd.params4] at hA hval
  obtain ⟨v0, vs0, d0, ds0, p0, q0, hargs, rfl, rfl, h0, r0⟩ := trodAll_cons hA
  obtain ⟨rfl, rfl, rfl⟩ := trodAll_nil r0
  obtain rfl : args = #[v0] := by cases args; simp_all
  obtain ⟨rfl, rfl⟩ := trodVars_none hV
  have k0 := h0
  have lt0 : ∀ x ∈ p0, x.block < W.heap.size := by obtain ⟨m, hm⟩ := k0; exact DataW.trod_lt m _ _ _ hm
  obtain ⟨ao0, n0, cap0, b0, of0, E0, rfl, w0⟩ := Fr.open_rows 12 [some .i64, some .i64, some .i64, some .i64, some .i64, some .u64, none, none, none, some .i64] Tryd.underlying22 (by kernel_rfl) (by kernel_rfl) (by decide) (hval 0 22 v0 rfl rfl) h0
  clear hA0 hval0
  refine (walk ao0 n0 cap0 b0 of0 E0  W w0 T0).mono fun e W' ⟨he, bel⟩ => ?_
  subst he
  exact ⟨_, rfl, _, _, _, [], _, [], hW', trodAll_mk1 (shut_bool Tryd.underlying4 _), (trodAll_cons_mk (Below.trod laidOut (by kernel_rfl) (of_decide_eq_true (by kernel_rfl)) k0 bel lt0) trodAll_mk0), rfl, bel.frame _, fun h => by cases h⟩

theorem over : Rows.mmuSpacesRow.holds Tryd.pinned (OpenSpec.ofChange Rows.mmuSpacesSpec) :=
  OpenClaim.holds_of_wide 4 Tryd.f4 rfl rfl rfl rfl rfl rfl rfl ⟨rfl, rfl, rfl, rfl, rfl⟩ rfl rfl rfl rfl rfl (by kernel_rfl) Tryd.func4 (by kernel_rfl)
    (of_decide_eq_true (by kernel_rfl)) (by unfold Func.isWrapper; first | (rw [if_pos (by decide +kernel)]; kernel_rfl) | (rw [if_neg (by decide +kernel)]; exact ⟨rfl, rfl⟩))
    (fun os started H enc _ => lifted os started H enc)

theorem proved : Rows.MmuSpacesCardSaid :=
  Claim7.holds_tied_plain_at .later [] [.data] true (true, "1fbe003839927454e2127db742a1aa9d648a46633fd1db5cf4822c9650777034") false
    over (fun _ h => by cases h) (by kernel_rfl) (fun _ h => by cases h) mmuSpaces_row_tie rfl ⟨rfl, rfl⟩ (by kernel_rfl) rfl
    (fun f fn hf hfn => by
      obtain rfl : f = 4 := Option.some.inj ((show Tryd.prog.funcNamed "trunnion/trunnionlaw11.MmuSpaces" = some 4 by kernel_rfl).symm.trans hf) |>.symm
      obtain rfl : fn = Tryd.f4 := (Option.some.inj (Tryd.func4.symm.trans hfn)).symm
      exact ⟨by kernel_rfl, fun j t ht => by
        rw [Tryd.params4] at ht
        have hm : t ∈ [22] := by simpa using Array.mem_of_getElem? ht
        have hall : ([22].all fun u => !Tryd.prog.wantsStandIn u) = true := by kernel_rfl
        exact (show Tryd.prog.wantsStandIn t = false by simpa using List.all_eq_true.1 hall t hm)⟩)
    (by kernel_rfl)
end Go.Proofs.YtfdnfllefednjaaDoor.mmuSpaces
