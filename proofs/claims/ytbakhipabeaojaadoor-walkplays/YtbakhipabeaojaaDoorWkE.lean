/-
  Contracts of package walk: Walk.
-/
import Derived.Test.YtbakhipabeaojaaDoorWkD
import Derived.WalkMore
namespace Go.Proofs.YtbakhipabeaojaaDoor
open Go.ChangeShapes Go.WideShapes Go.ChangeAt Go.RowKit

set_option maxRecDepth 100000 in
set_option maxHeartbeats 2000000 in
theorem wwalk_any (A : Nat) (m : Mem) (root q : Int) (w : World) (h : MemAt w A m) (T : Tab w) (hg : m.good) :
    Calls Tryd.prog 19 #[.pointer (some ⟨A, 0, none⟩), .int .i64 root, .int .i64 q] w fun e w' => ∃ v, e = .returned (.tuple #[(m.wE root q).val, v, .int .i64 (m.wX root q)]) ∧
      w'.ownsRow w.heap.size 55 2 v (m.wN root q) (m.wS root q (m.wN root q)) ∧ Upd (fun _ => False) w w' := by
  obtain ⟨i0, hi, hz0, hz1, hz2⟩ := info_parts info_step
  have cI := Lib.hid (fun W (T : Tab W) => windices_any q W T)
  have cX := Lib.hid (fun W (h : MemAt W A m) => wexists_any A m root W h)
  have cG := Lib.hid (fun f p W (h : MemAt W A m) (T : Tab W) => wget_any A m f p W h T hg)
  have k0 : Hid (EntAt (w.alloc (.cells #[.bool false, .bool false, .bool false, .int .i64 0] 35)) w.heap.size false false false 0) := Lib.hid (heap_alloc_last w _)
  clear hg
  obtain ⟨p0, e0⟩ : ∃ p, p = idxI q 0 := ⟨_, rfl⟩
  obtain ⟨p1, e1⟩ : ∃ p, p = idxI q 1 := ⟨_, rfl⟩
  obtain ⟨p2, e2⟩ : ∃ p, p = idxI q 2 := ⟨_, rfl⟩
  rw [← e0, ← e1, ← e2] at cI
  have hP := Lib.hid (And.intro e0 (And.intro e1 e2))
  clear e0 e1 e2
  cases hw : m.wB root q
  · obtain ⟨n1, n2, n3⟩ := m.walk_no root q hw
    rw [n1, n2, n3]
    clear n1 n2 n3 cG hP
    cases hq : pageB q
    · rw [hq] at cI
      clear hq hw cX
      go_enter Tryd.func19, Tryd.ntmps19
      go_wp2
      go_step3
      go_wp2_with fail
      refine (cI.out _ (T.kept ((Upd.refl _ _).alloc _))).mono ?_
      rintro e w1 ⟨rfl, u⟩
      rw [show errB false = 1 from rfl]
      have k1 : Hid (EntAt w1 w.heap.size false false false 0) := Lib.hid (k0.out.kept u id)
      have U := Lib.hid (((Upd.refl (fun _ => False) w).alloc _).trans u)
      clear u k0 T h cI
      obtain ⟨a1, a2, a3⟩ := arr_box w1 p0 p1 p2
      have A3 := Lib.hid a3
      have U2 := Lib.hid (U.out.trans a2)
      have k2 := Lib.hid (k1.out.kept a2 id)
      clear a1 a2 a3 U k1
      obtain ⟨B, hB⟩ : ∃ B, B = w.heap.size := ⟨_, rfl⟩
      rw [← hB] at k2 ⊢
      have hB' := Lib.hid hB
      clear hB
      go_upto_region 2 with ((with_reducible refine wpList_store_sz rfl 74 (.tmp 9) (.tmp 22) rfl w1.heap.size 0 #[.int .i64 p0, .int .i64 p1, .int .i64 p2] rfl rfl 3 (arr3_sz _ _ _) A3.out size_arr3 (arr3_one _ _ _) [.int .i64 p0, .int .i64 p1, .int .i64 p2] (arr3_ls _ _ _) ?_))
      generalize (w1.alloc (.cells #[.int .i64 0, .int .i64 0, .int .i64 0] 74)).setCells w1.heap.size 0 [.int .i64 p0, .int .i64 p1, .int .i64 p2] = w2 at U2 k2 ⊢
      clear A3
      go_wp2_with (with_reducible refine wpList_store_sz rfl 35 (.tmp 6) (.tmp 32) rfl B 0 #[.bool false, .bool false, .bool false, .int .i64 0] rfl rfl 4 (ent_sz _ _ _ _) k2.out.there size_ent (ent_one _ _ _ _) [.bool false, .bool false, .bool false, .int .i64 0] (ent_ls _ _ _ _) ?_)
      (try simp only [Exit.inBlock, Exit.then])
      (try rw [Exit.noGoto_ret])
      refine bodyPost_ret (ret_ent2 rfl _ _ B false false false 0 rfl (k2.out.set false false false 0)) rfl ⟨_, rfl, World.ownsRow_nil _ _ _ _, ?_⟩
      exact Upd.setCells (.inr (Nat.le_of_eq hB'.out.symm)) _ _ U2.out
    · have hr : m.ex root 1 = false := by unfold Mem.wB at hw; rw [hq, Bool.and_true] at hw; exact hw
      rw [hq] at cI
      rw [hr] at cX
      clear hq hw hr
      go_enter Tryd.func19, Tryd.ntmps19
      go_wp2
      go_step3
      go_wp2_with fail
      refine (cI.out _ (T.kept ((Upd.refl _ _).alloc _))).mono ?_
      rintro e w1 ⟨rfl, u⟩
      rw [show errB true = 0 from rfl]
      have k1 : Hid (EntAt w1 w.heap.size false false false 0) := Lib.hid (k0.out.kept u id)
      have U := Lib.hid (((Upd.refl (fun _ => False) w).alloc _).trans u)
      clear u k0 T cI
      obtain ⟨a1, a2, a3⟩ := arr_box w1 p0 p1 p2
      have A3 := Lib.hid a3
      have U2 := Lib.hid (U.out.trans a2)
      have k2 := Lib.hid (k1.out.kept a2 id)
      clear a1 a2 a3 U k1
      obtain ⟨B, hB⟩ : ∃ B, B = w.heap.size := ⟨_, rfl⟩
      rw [← hB] at k2 ⊢
      have hB' := Lib.hid hB
      clear hB
      go_upto_region 2 with ((with_reducible refine wpList_store_sz rfl 74 (.tmp 9) (.tmp 22) rfl w1.heap.size 0 #[.int .i64 p0, .int .i64 p1, .int .i64 p2] rfl rfl 3 (arr3_sz _ _ _) A3.out size_arr3 (arr3_one _ _ _) [.int .i64 p0, .int .i64 p1, .int .i64 p2] (arr3_ls _ _ _) ?_))
      generalize (w1.alloc (.cells #[.int .i64 0, .int .i64 0, .int .i64 0] 74)).setCells w1.heap.size 0 [.int .i64 p0, .int .i64 p1, .int .i64 p2] = w2 at U2 k2 ⊢
      clear A3
      go_wp2_with fail
      refine (cX.out _ (h.kept U2.out id id)).mono ?_
      rintro e w3 ⟨rfl, rfl⟩
      go_wp2_with (with_reducible refine wpList_store_sz rfl 35 (.tmp 6) (.tmp 32) rfl B 0 #[.bool false, .bool false, .bool false, .int .i64 0] rfl rfl 4 (ent_sz _ _ _ _) k2.out.there size_ent (ent_one _ _ _ _) [.bool false, .bool false, .bool false, .int .i64 0] (ent_ls _ _ _ _) ?_)
      (try simp only [Exit.inBlock, Exit.then])
      (try rw [Exit.noGoto_ret])
      refine bodyPost_ret (ret_ent2 rfl _ _ B false false false 0 rfl (k2.out.set false false false 0)) rfl ⟨_, rfl, World.ownsRow_nil _ _ _ _, ?_⟩
      exact Upd.setCells (.inr (Nat.le_of_eq hB'.out.symm)) _ _ U2.out
  · obtain ⟨hr, hq⟩ : m.ex root 1 = true ∧ pageB q = true := by simpa [Mem.wB] using hw
    rw [hq] at cI
    rw [hr] at cX
    have hw' := Lib.hid hw
    clear hq hr hw
    go_enter Tryd.func19, Tryd.ntmps19
    go_wp2
    go_step3
    go_wp2_with fail
    refine (cI.out _ (T.kept ((Upd.refl _ _).alloc _))).mono ?_
    rintro e w1 ⟨rfl, u⟩
    rw [show errB true = 0 from rfl]
    have k1 : Hid (EntAt w1 w.heap.size false false false 0) := Lib.hid (k0.out.kept u id)
    have U := Lib.hid (((Upd.refl (fun _ => False) w).alloc _).trans u)
    clear u k0 cI
    obtain ⟨a1, a2, a3⟩ := arr_box w1 p0 p1 p2
    have A1 := Lib.hid a1
    have A3 := Lib.hid a3
    have U2 := Lib.hid (U.out.trans a2)
    have k2 := Lib.hid (k1.out.kept a2 id)
    have hs1 := lt_of_heap k1.out
    clear a1 a2 a3 U k1
    obtain ⟨R, hR⟩ : ∃ R, R = w.heap.size := ⟨_, rfl⟩
    rw [← hR] at k2 hs1 ⊢
    have hRN := Lib.hid (Nat.le_of_eq hR.symm)
    clear hR
    have hRF1 := Lib.hid (lt_of_heap A1.out)
    have hs2 := Lib.hid hs1
    clear hs1
    go_upto_region 2 with ((with_reducible refine wpList_store_sz rfl 74 (.tmp 9) (.tmp 22) rfl w1.heap.size 0 #[.int .i64 p0, .int .i64 p1, .int .i64 p2] rfl rfl 3 (arr3_sz _ _ _) A3.out size_arr3 (arr3_one _ _ _) [.int .i64 p0, .int .i64 p1, .int .i64 p2] (arr3_ls _ _ _) ?_))
    generalize (w1.alloc (.cells #[.int .i64 0, .int .i64 0, .int .i64 0] 74)).setCells w1.heap.size 0 [.int .i64 p0, .int .i64 p1, .int .i64 p2] = w2 at U2 k2 A1 hRF1 ⊢
    generalize w1.heap.size = Bx at A1 hRF1 hs2 ⊢
    have hRF2 : Hid (R < w2.heap.size) := Lib.hid (Nat.lt_trans hs2.out hRF1.out)
    clear A3 hs2 hRF1
    go_wp2_with fail
    refine (cX.out _ (h.kept U2.out id id)).mono ?_
    rintro e w3 ⟨rfl, rfl⟩
    have u3 := (Upd.refl (fun _ => False) w2).alloc (.cells #[.bool false, .bool false, .bool false, .int .i64 0] 35)
    have A2 := Lib.hid (A1.out.kept u3 id)
    have k3 := Lib.hid (k2.out.kept u3 id)
    have kF : Hid (EntAt (w2.alloc (.cells #[.bool false, .bool false, .bool false, .int .i64 0] 35)) w2.heap.size false false false 0) := Lib.hid (heap_alloc_last w2 _)
    have U3 := U2.out.trans u3
    have hFN := Lib.hid U2.out.size
    clear u3 k2 A1 U2 cX
    go_wp2
    go_step3
    generalize w2.alloc (.cells #[.bool false, .bool false, .bool false, .int .i64 0] 35) = W at A2 k3 kF U3 ⊢
    obtain ⟨F, hF⟩ : ∃ F, F = w2.heap.size := ⟨_, rfl⟩
    rw [← hF] at kF hFN hRF2 ⊢
    have hRF0 := hRF2
    clear hF hRF2
    go_wp2_with (with_reducible refine wpList_load_sz rfl 74 (.tmp 9) rfl Bx 0 rfl [.int .i64 p0, .int .i64 p1, .int .i64 p2] _ A2.out.range Tryd.underlying74 rfl 3 (arr_len _ _ _) size_arr3 ?_)
    go_loopw [12, 13, 14, 35] (fun s t x c wr => ∃ k : Nat, k ≤ 3 ∧ c = .int .i64 k ∧ x = .int .i64 0 ∧ (∃ z, t = .int .i64 z ∧ Hid (k < 3 → z = m.wF root q k)) ∧ Hid (wr.ownsRow w.heap.size 55 2 s k (m.wS root q k)) ∧ Upd (fun _ => False) w wr ∧ Hid (EntAt wr R false false false 0) ∧
      (∃ E : En, Hid (EntAt wr F E.v E.r E.t E.f) ∧ Hid (k < 3 → E = En.zero) ∧ Hid (k = 3 → E = m.getE (m.wF root q 2) (idxI q 2))) ∧ Hid (∀ j, j < k → m.wC root q j = 0)) (fun _ _ _ c _ => 3 - (intOf c).toNat)
    case atStart => exact ⟨0, by omega, rfl, rfl, ⟨root, rfl, Lib.hid fun _ => rfl⟩, Lib.hid (World.ownsRow_nil _ _ _ _), U3, k3, ⟨En.zero, kF, Lib.hid fun _ => rfl, Lib.hid fun h => absurd h (by omega)⟩, Lib.hid fun j hj => absurd hj (by omega)⟩
    case round =>
      obtain ⟨k, hk, rfl, rfl, ⟨z, rfl, hz⟩, hrow, hU, KR, ⟨E, KF, hE0, hE3⟩, hC⟩ := hrel
      clear A2 k3 kF U3
      by_cases hlt : k < 3
      · obtain rfl := hE0.out hlt
        have hz' := Lib.hid (hz.out hlt)
        obtain ⟨y, hy⟩ : ∃ y, y = [p0, p1, p2].getD k 0 := ⟨_, rfl⟩
        have hx : ∀ w, (Instr.index 74 (.agg #[.int .i64 p0, .int .i64 p1, .int .i64 p2]) (.int .i64 k)).run Tryd.prog w = .ok (.int .i64 y) w := run_index_ints (P := Tryd.prog) Tryd.underlying74 Tryd.underlying3 (by kernel_rfl) [p0, p1, p2] rfl .i64 k hlt y hy.symm
        have hy' : Hid (y = idxI q k) := Lib.hid (by
          rw [hy]
          have := hP.out
          match k, hlt with
          | 0, _ => exact this.1
          | 1, _ => exact this.2.1
          | 2, _ => exact this.2.2)
        clear hy hE0 hE3 hz
        obtain ⟨o, cap, rfl⟩ := wk_slice hrow.out
        have hsz := hU.size
        have ck := Lib.hid (fun W hM hT => cG.out z y W hM hT)
        have hcd : Hid (m.wC root q k = codeI (m.getE z y) (m.getX z y) k) := Lib.hid (by rw [hz'.out, hy'.out]; rfl)
        have hFn : Hid (m.wF root q (k + 1) = (m.getE z y).f) := Lib.hid (by rw [hz'.out, hy'.out]; rfl)
        have hE2 : Hid (k = 2 → m.getE (m.wF root q 2) (idxI q 2) = m.getE z y) := Lib.hid (by rw [hz'.out, hy'.out]; rintro rfl; rfl)
        have hSn : Hid (m.wS root q (k + 1) = m.wS root q k ++ [.int .i64 z, .int .i64 y]) := Lib.hid (by rw [hz'.out, hy'.out]; rfl)
        generalize m.getE z y = G at ck hcd hFn hE2
        generalize m.getX z y = X at ck hcd
        obtain ⟨v, r, t, f⟩ := G
        clear cG hz' hy' hP
        go_upto_region 11 with ((at_builtin; refine wpList_append_own _ rfl _ _ 46 rfl w.heap.size 55 i0 (.agg #[.int .i64 0, .int .i64 0]) 2 16 Tryd.underlying46 hi hz0 hz1 hz2 rfl (by decide) _ _ _ rfl (hrow.out.alloc _) ⟨wr.heap.size, 0, none⟩ 1 1 [.int .i64 z, .int .i64 y] rfl rfl (wk_two _ _ _ _) (by simp [Value.oneCell']) (by simp [maxLen]; omega) (by omega) (by simp; omega) ?_; intro v' w4 hown' hgrow _; obtain ⟨g', cap', rfl⟩ := ownsRow_succ hown'))
        obtain ⟨U4, hat⟩ := wk_grown hrow.out hgrow hU (Nat.le_refl _)
        have KR4 : Hid (EntAt w4 R false false false 0) := Lib.hid (hat R _ _ KR.out (by decide))
        have KF4 : Hid (EntAt w4 F false false false 0) := Lib.hid (hat F _ _ KF.out (by decide))
        rw [← hSn.out] at hown'
        have hrow4 := Lib.hid hown'
        have ck4 := Lib.hid (ck.out w4 (h.kept U4 id id) (T.kept U4))
        clear hown' hgrow hat hrow hU KR KF hSn hx hsz ck
        go_wp2_with fail
        refine ck4.out.mono ?_
        rintro e w5 ⟨rfl, u⟩
        clear ck4
        obtain ⟨a1, a2, a3, a4⟩ := ent_box w5 v r t f
        have u5 := u.trans a2
        have hU5 := U4.trans u5
        have KR5 := Lib.hid (KR4.out.kept u5 id)
        have KF5 := Lib.hid (KF4.out.kept u5 id)
        have hrow5 := Lib.hid (wk_kept hrow4.out u5 (fun _ _ => id))
        have A1 := Lib.hid a1
        have A3 := Lib.hid a3
        have b0 := a1.range 0 _ rfl
        have b2 := a1.range 2 _ rfl
        have b3 := a1.range 3 _ rfl
        clear a1 a2 a3 a4 u u5 U4 KR4 KF4 hrow4
        go_upto_region 13 with ((with_reducible refine wpList_store_sz rfl 35 (.tmp 17) (.tmp 50) rfl w5.heap.size 0 #[.bool v, .bool r, .bool t, .int .i64 f] rfl rfl 4 (ent_sz _ _ _ _) A3.out size_ent (ent_one _ _ _ _) [.bool v, .bool r, .bool t, .int .i64 f] (ent_ls _ _ _ _) ?_))
        generalize (w5.alloc (.cells #[.bool false, .bool false, .bool false, .int .i64 0] 35)).setCells w5.heap.size 0 [.bool v, .bool r, .bool t, .int .i64 f] = w6 at A1 b0 b2 b3 hU5 KR5 KF5 hrow5 ⊢
        generalize w5.heap.size = Eb at A1 b0 b2 b3 ⊢
        clear A3
        by_cases hX : X = 0
        · subst hX
          cases v
          · have hc : m.wC root q k = 10 := by rw [hcd.out]; simp [codeI]
            have hS0 := m.walk_stop root q hw'.out k hlt hC.out (by rw [hc]; decide)
            rw [hc] at hS0
            have hS := Lib.hid hS0
            clear hc hS0 hcd hFn hE2 hC A1 hw'
            go_wp2_with (first
              | (with_reducible refine wpList_load_sz rfl 35 (.tmp 11) rfl F 0 rfl [.bool false, .bool false, .bool false, .int .i64 0] _ KF5.out.range Tryd.underlying35 rfl 4 (ent_len _ _ _ _) size_ent ?_)
              | (with_reducible refine wpList_store_sz rfl 35 (.tmp 6) (.tmp 72) rfl R 0 #[.bool false, .bool false, .bool false, .int .i64 0] rfl rfl 4 (ent_sz _ _ _ _) KR5.out.there size_ent (ent_one _ _ _ _) [.bool false, .bool false, .bool false, .int .i64 0] (ent_ls _ _ _ _) ?_))
            (try simp only [Exit.inBlock, Exit.then])
            (try rw [Exit.noGoto_ret])
            refine bodyPost_ret (ret_ent2 rfl _ _ R false false false 0 rfl (KR5.out.set false false false 0)) rfl ⟨_, by rw [hS.out.2.1, hS.out.2.2]; rfl, ?_, ?_⟩
            · rw [hS.out.1]
              exact wk_kept hrow5.out (Upd.setCells (S := (· = R)) (.inl rfl) _ _ (Upd.refl _ _)) (fun j hj e => wk_ne hrow5.out KR5.out (by decide) j hj e)
            · exact Upd.setCells (.inr hRN.out) _ _ hU5
          · by_cases ht : t = decide (k < 2)
            · have hc : m.wC root q k = 0 := by rw [hcd.out]; simp [codeI, ht]
              have hC' : Hid (∀ j, j < k + 1 → m.wC root q j = 0) := Lib.hid (fun j hj => by
                by_cases e : j = k
                · rw [e]; exact hc
                · exact hC.out j (by omega))
              clear hc hcd hC
              by_cases h2 : k < 2
              · obtain rfl : t = true := by rw [ht]; exact decide_eq_true h2
                have hdec : decide ((k : Int) < 2) = true := decide_eq_true (by omega)
                clear ht A1 hE2
                go_wp2
                exact ⟨⟨k + 1, by omega, by go_num, rfl, ⟨f, rfl, Lib.hid fun _ => hFn.out.symm⟩, hrow5, hU5, KR5, ⟨En.zero, KF5, Lib.hid fun _ => rfl, Lib.hid fun h => absurd h (by omega)⟩, hC'⟩, by simp [intOf]; omega⟩
              · obtain rfl : t = false := by rw [ht]; exact decide_eq_false h2
                obtain rfl : k = 2 := by omega
                have hE2' := Lib.hid (hE2.out rfl)
                clear ht hE2
                go_wp2_with (first
                  | (with_reducible refine wpList_load_sz rfl 35 (.tmp 17) rfl Eb 0 rfl [.bool true, .bool r, .bool false, .int .i64 f] _ A1.out.range Tryd.underlying35 rfl 4 (ent_len _ _ _ _) size_ent ?_)
                  | (with_reducible refine wpList_store_sz rfl 35 (.tmp 11) (.tmp 52) rfl F 0 #[.bool true, .bool r, .bool false, .int .i64 f] rfl rfl 4 (ent_sz _ _ _ _) KF5.out.there size_ent (ent_one _ _ _ _) [.bool true, .bool r, .bool false, .int .i64 f] (ent_ls _ _ _ _) ?_))
                have hRF : ¬ R = F := fun e => by have := hRF0.out; omega
                have us := Upd.setCells (S := (· = F)) (.inl rfl) [.bool true, .bool r, .bool false, .int .i64 f] 0 (Upd.refl _ w6)
                exact ⟨⟨2 + 1, by omega, by go_num, rfl, ⟨z, rfl, Lib.hid fun h => absurd h (by omega)⟩, Lib.hid (wk_kept hrow5.out us (fun j hj e => wk_ne hrow5.out KF5.out (by decide) j hj e)), Upd.setCells (.inr hFN.out) _ _ hU5, Lib.hid (KR5.out.kept us hRF),
                  ⟨⟨true, r, false, f⟩, Lib.hid (KF5.out.set true r false f), Lib.hid fun h => absurd h (by omega), Lib.hid fun _ => hE2'.out.symm⟩, hC'⟩, by simp [intOf]⟩
            · have hc : m.wC root q k = 11 := by rw [hcd.out]; simp [codeI, ht]
              have hS0 := m.walk_stop root q hw'.out k hlt hC.out (by rw [hc]; decide)
              rw [hc] at hS0
              have hS := Lib.hid hS0
              clear hc hS0 hcd hFn hE2 hC A1 hw'
              by_cases h2 : k < 2
              · obtain rfl : t = false := by simpa [h2] using ht
                have hdec : decide ((k : Int) < 2) = true := decide_eq_true (by omega)
                clear ht
                go_wp2_with (first
                  | (with_reducible refine wpList_load_sz rfl 35 (.tmp 11) rfl F 0 rfl [.bool false, .bool false, .bool false, .int .i64 0] _ KF5.out.range Tryd.underlying35 rfl 4 (ent_len _ _ _ _) size_ent ?_)
                  | (with_reducible refine wpList_store_sz rfl 35 (.tmp 6) (.tmp 72) rfl R 0 #[.bool false, .bool false, .bool false, .int .i64 0] rfl rfl 4 (ent_sz _ _ _ _) KR5.out.there size_ent (ent_one _ _ _ _) [.bool false, .bool false, .bool false, .int .i64 0] (ent_ls _ _ _ _) ?_))
                (try simp only [Exit.inBlock, Exit.then])
                (try rw [Exit.noGoto_ret])
                refine bodyPost_ret (ret_ent2 rfl _ _ R false false false 0 rfl (KR5.out.set false false false 0)) rfl ⟨_, by rw [hS.out.2.1, hS.out.2.2]; rfl, ?_, ?_⟩
                · rw [hS.out.1]
                  exact wk_kept hrow5.out (Upd.setCells (S := (· = R)) (.inl rfl) _ _ (Upd.refl _ _)) (fun j hj e => wk_ne hrow5.out KR5.out (by decide) j hj e)
                · exact Upd.setCells (.inr hRN.out) _ _ hU5
              · obtain rfl : t = true := by simpa [h2] using ht
                have hdec : decide ((k : Int) < 2) = false := decide_eq_false (by omega)
                clear ht
                go_wp2_with (first
                  | (with_reducible refine wpList_load_sz rfl 35 (.tmp 11) rfl F 0 rfl [.bool false, .bool false, .bool false, .int .i64 0] _ KF5.out.range Tryd.underlying35 rfl 4 (ent_len _ _ _ _) size_ent ?_)
                  | (with_reducible refine wpList_store_sz rfl 35 (.tmp 6) (.tmp 72) rfl R 0 #[.bool false, .bool false, .bool false, .int .i64 0] rfl rfl 4 (ent_sz _ _ _ _) KR5.out.there size_ent (ent_one _ _ _ _) [.bool false, .bool false, .bool false, .int .i64 0] (ent_ls _ _ _ _) ?_))
                (try simp only [Exit.inBlock, Exit.then])
                (try rw [Exit.noGoto_ret])
                refine bodyPost_ret (ret_ent2 rfl _ _ R false false false 0 rfl (KR5.out.set false false false 0)) rfl ⟨_, by rw [hS.out.2.1, hS.out.2.2]; rfl, ?_, ?_⟩
                · rw [hS.out.1]
                  exact wk_kept hrow5.out (Upd.setCells (S := (· = R)) (.inl rfl) _ _ (Upd.refl _ _)) (fun j hj e => wk_ne hrow5.out KR5.out (by decide) j hj e)
                · exact Upd.setCells (.inr hRN.out) _ _ hU5
        · have hc : m.wC root q k = 11 := by rw [hcd.out]; simp [codeI, hX]
          have hS0 := m.walk_stop root q hw'.out k hlt hC.out (by rw [hc]; decide)
          rw [hc] at hS0
          have hS := Lib.hid hS0
          clear hc hS0 hcd hFn hE2 hC A1 hw'
          go_wp2_with (first
            | (with_reducible refine wpList_load_sz rfl 35 (.tmp 11) rfl F 0 rfl [.bool false, .bool false, .bool false, .int .i64 0] _ KF5.out.range Tryd.underlying35 rfl 4 (ent_len _ _ _ _) size_ent ?_)
            | (with_reducible refine wpList_store_sz rfl 35 (.tmp 6) (.tmp 72) rfl R 0 #[.bool false, .bool false, .bool false, .int .i64 0] rfl rfl 4 (ent_sz _ _ _ _) KR5.out.there size_ent (ent_one _ _ _ _) [.bool false, .bool false, .bool false, .int .i64 0] (ent_ls _ _ _ _) ?_))
          (try simp only [Exit.inBlock, Exit.then])
          (try rw [Exit.noGoto_ret])
          refine bodyPost_ret (ret_ent2 rfl _ _ R false false false 0 rfl (KR5.out.set false false false 0)) rfl ⟨_, by rw [hS.out.2.1, hS.out.2.2]; rfl, ?_, ?_⟩
          · rw [hS.out.1]
            exact wk_kept hrow5.out (Upd.setCells (S := (· = R)) (.inl rfl) _ _ (Upd.refl _ _)) (fun j hj e => wk_ne hrow5.out KR5.out (by decide) j hj e)
          · exact Upd.setCells (.inr hRN.out) _ _ hU5
      · obtain rfl : k = 3 := by omega
        obtain ⟨v, r, t, f⟩ := E
        have hE := hE3.out rfl
        have hS0 := m.walk_end root q hw'.out hC.out
        rw [← hE] at hS0
        have hS := Lib.hid hS0
        obtain ⟨o, cap, rfl⟩ := wk_slice hrow.out
        clear hS0 hE hE3 hE0 hC hz hw' cG
        go_wp2_with (first
          | (with_reducible refine wpList_load_sz rfl 35 (.tmp 11) rfl F 0 rfl [.bool v, .bool r, .bool t, .int .i64 f] _ KF.out.range Tryd.underlying35 rfl 4 (ent_len _ _ _ _) size_ent ?_)
          | (with_reducible refine wpList_store_sz rfl 35 (.tmp 6) (.tmp 72) rfl R 0 #[.bool v, .bool r, .bool t, .int .i64 f] rfl rfl 4 (ent_sz _ _ _ _) KR.out.there size_ent (ent_one _ _ _ _) [.bool v, .bool r, .bool t, .int .i64 f] (ent_ls _ _ _ _) ?_))
        (try simp only [Exit.inBlock, Exit.then])
        (try rw [Exit.noGoto_ret])
        refine bodyPost_ret (ret_ent2 rfl _ _ R v r t f rfl (KR.out.set v r t f)) rfl ⟨_, by rw [hS.out.2.1, hS.out.2.2]; rfl, ?_, ?_⟩
        · rw [hS.out.1]
          exact wk_kept hrow.out (Upd.setCells (S := (· = R)) (.inl rfl) _ _ (Upd.refl _ _)) (fun j hj e => wk_ne hrow.out KR.out (by decide) j hj e)
        · exact Upd.setCells (.inr hRN.out) _ _ hU
end Go.Proofs.YtbakhipabeaojaaDoor
