/-
  Contracts of the document's own answers for walk: Walk; the laws' steps.
-/
import Derived.Test.YtbakhipabeaojaaDoorWkR
import Derived.Test.YtbakhipabeaojaaDoorWkS
namespace Go.Proofs.YtbakhipabeaojaaDoor
open Go.ChangeShapes Go.WideShapes Go.ChangeAt Go.RowKit

theorem info_kstep : (Tryd.prog.info? 77).map (fun i => (i.zero, i.size, i.bytes)) = some (some (.agg #[.int .i64 0, .int .i64 0]), 2, 16) := by kernel_rfl
set_option maxRecDepth 100000 in
set_option maxHeartbeats 2000000 in
theorem kwalk_any (C : Nat) (m : Mem) (root q : Int) (w : World) (h : RefAt w C m) (hg : m.good) :
    Calls Tryd.prog 20 #[.pointer (some ⟨C, 0, none⟩), .int .i64 root, .int .i64 q] w fun e w' => ∃ v, e = .returned (.tuple #[(m.wE root q).val, v, .int .i64 (m.wX root q)]) ∧
      w'.ownsRow w.heap.size 77 2 v (m.wN root q) (m.wS root q (m.wN root q)) ∧ Upd (fun _ => False) w w' := by
  obtain ⟨i0, hi, hz0, hz1, hz2⟩ := info_parts info_kstep
  have cX := Lib.hid (fun W (h : RefAt W C m) => rHas_any C m root W h)
  have cI := Lib.hid (fun (l : Int) W => rindex_any q l W)
  have cG := Lib.hid (fun f p W (h : RefAt W C m) => kget_any C m f p W h hg)
  have k0 : Hid (EntAt (w.alloc (.cells #[.bool false, .bool false, .bool false, .int .i64 0] 35)) w.heap.size false false false 0) := Lib.hid (heap_alloc_last w _)
  clear hg
  cases hw : m.wB root q
  · obtain ⟨n1, n2, n3⟩ := m.walk_no root q hw
    rw [n1, n2, n3]
    clear n1 n2 n3 cG cI
    cases hr : m.ex root 1
    · rw [hr] at cX
      clear hr hw
      go_enter Tryd.func20, Tryd.ntmps20
      go_wp2_with fail
      refine (cX.out _ (h.allocd _)).mono ?_
      rintro e w1 ⟨rfl, rfl⟩
      go_wp2_with (with_reducible refine wpList_store_sz rfl 35 (.tmp 6) (.tmp 28) rfl w.heap.size 0 #[.bool false, .bool false, .bool false, .int .i64 0] rfl rfl 4 (ent_sz _ _ _ _) k0.out.there size_ent (ent_one _ _ _ _) [.bool false, .bool false, .bool false, .int .i64 0] (ent_ls _ _ _ _) ?_)
      (try simp only [Exit.inBlock, Exit.then])
      refine bodyPost_ret (ret_ent2 rfl _ _ w.heap.size false false false 0 rfl (k0.out.set false false false 0)) rfl ⟨_, rfl, World.ownsRow_nil _ _ _ _, ?_⟩
      exact Upd.setCells (.inr (Nat.le_refl _)) _ _ ((Upd.refl _ _).alloc _)
    · rw [hr] at cX
      have hq : pageB q = false := by unfold Mem.wB at hw; rw [hr, Bool.true_and] at hw; exact hw
      have hq' := of_decide_eq_false hq
      clear hq hw hr
      by_cases q0 : q < 0
      · clear hq'
        go_enter Tryd.func20, Tryd.ntmps20
        go_wp2_with fail
        refine (cX.out _ (h.allocd _)).mono ?_
        rintro e w1 ⟨rfl, rfl⟩
        go_wp2_with (with_reducible refine wpList_store_sz rfl 35 (.tmp 6) (.tmp 28) rfl w.heap.size 0 #[.bool false, .bool false, .bool false, .int .i64 0] rfl rfl 4 (ent_sz _ _ _ _) k0.out.there size_ent (ent_one _ _ _ _) [.bool false, .bool false, .bool false, .int .i64 0] (ent_ls _ _ _ _) ?_)
        (try simp only [Exit.inBlock, Exit.then])
        refine bodyPost_ret (ret_ent2 rfl _ _ w.heap.size false false false 0 rfl (k0.out.set false false false 0)) rfl ⟨_, rfl, World.ownsRow_nil _ _ _ _, ?_⟩
        exact Upd.setCells (.inr (Nat.le_refl _)) _ _ ((Upd.refl _ _).alloc _)
      · have q1 : 4095 < q := by omega
        clear hq'
        go_enter Tryd.func20, Tryd.ntmps20
        go_wp2_with fail
        refine (cX.out _ (h.allocd _)).mono ?_
        rintro e w1 ⟨rfl, rfl⟩
        go_wp2_with (with_reducible refine wpList_store_sz rfl 35 (.tmp 6) (.tmp 28) rfl w.heap.size 0 #[.bool false, .bool false, .bool false, .int .i64 0] rfl rfl 4 (ent_sz _ _ _ _) k0.out.there size_ent (ent_one _ _ _ _) [.bool false, .bool false, .bool false, .int .i64 0] (ent_ls _ _ _ _) ?_)
        (try simp only [Exit.inBlock, Exit.then])
        refine bodyPost_ret (ret_ent2 rfl _ _ w.heap.size false false false 0 rfl (k0.out.set false false false 0)) rfl ⟨_, rfl, World.ownsRow_nil _ _ _ _, ?_⟩
        exact Upd.setCells (.inr (Nat.le_refl _)) _ _ ((Upd.refl _ _).alloc _)
  · obtain ⟨hr, hq⟩ : m.ex root 1 = true ∧ pageB q = true := by simpa [Mem.wB] using hw
    rw [hr] at cX
    have hq' := of_decide_eq_true hq
    obtain ⟨q0, q1⟩ := hq'
    have hw' := Lib.hid hw
    clear hq hr hw
    go_enter Tryd.func20, Tryd.ntmps20
    go_wp2_with fail
    refine (cX.out _ (h.allocd _)).mono ?_
    rintro e w1 ⟨rfl, rfl⟩
    have U3 := (Upd.refl (fun _ => False) w).alloc (.cells #[.bool false, .bool false, .bool false, .int .i64 0] 35)
    obtain ⟨R, hR⟩ : ∃ R, R = w.heap.size := ⟨_, rfl⟩
    rw [← hR] at k0 ⊢
    have hRN := Lib.hid (Nat.le_of_eq hR.symm)
    clear hR cX
    go_wp2
    generalize w.alloc (.cells #[.bool false, .bool false, .bool false, .int .i64 0] 35) = W at k0 U3 ⊢
    go_loopw [9, 10, 11] (fun s t c wr => ∃ k : Nat, k ≤ 2 ∧ c = .int .i64 k ∧ (∃ z, t = .int .i64 z ∧ Hid (z = m.wF root q k)) ∧ Hid (wr.ownsRow w.heap.size 77 2 s k (m.wS root q k)) ∧ Upd (fun _ => False) w wr ∧ Hid (EntAt wr R false false false 0) ∧ Hid (∀ j, j < k → m.wC root q j = 0)) (fun _ _ c _ => 3 - (intOf c).toNat)
    case atStart => exact ⟨0, by omega, rfl, ⟨root, rfl, Lib.hid rfl⟩, Lib.hid (World.ownsRow_nil _ _ _ _), U3, k0, Lib.hid fun j hj => absurd hj (by omega)⟩
    case round =>
      obtain ⟨k, hk, rfl, ⟨z, rfl, hz'⟩, hrow, hU, KR, hC⟩ := hrel
      clear k0 U3
      have hlt : k < 3 := by omega
      have cIk := Lib.hid (fun W => cI.out k W)
      have hy' : Hid (idxI q k = idxI q k) := Lib.hid rfl
      have ck := Lib.hid (fun W hM => cG.out z (idxI q k) W hM)
      have hcd : Hid (m.wC root q k = codeI (m.getE z (idxI q k)) (m.getX z (idxI q k)) k) := Lib.hid (by rw [hz'.out]; rfl)
      have hFn : Hid (m.wF root q (k + 1) = (m.getE z (idxI q k)).f) := Lib.hid (by rw [hz'.out]; rfl)
      have hE2 : Hid (k = 2 → m.getE (m.wF root q 2) (idxI q 2) = m.getE z (idxI q k)) := Lib.hid (by rw [hz'.out]; rintro rfl; rfl)
      have hSn : Hid (m.wS root q (k + 1) = m.wS root q k ++ [.int .i64 z, .int .i64 (idxI q k)]) := Lib.hid (by rw [hz'.out]; rfl)
      generalize m.getE z (idxI q k) = G at ck hcd hFn hE2
      generalize m.getX z (idxI q k) = X at ck hcd
      generalize idxI q k = y at ck cIk hSn
      obtain ⟨v, r, t, f⟩ := G
      obtain ⟨o, cap, rfl⟩ := wk_slice hrow.out
      have hsz := hU.size
      clear cG hz' cI hy'
      generalize errB (idxB q k) = eb at cIk
      go_wp2_with fail
      refine (cIk.out _).mono ?_
      rintro e w2 ⟨rfl, rfl⟩
      clear cIk
      go_upto_region 10 with ((at_builtin; refine wpList_append_own _ rfl _ _ 49 rfl w.heap.size 77 i0 (.agg #[.int .i64 0, .int .i64 0]) 2 16 Tryd.underlying49 hi hz0 hz1 hz2 rfl (by decide) _ _ _ rfl (hrow.out.alloc _) ⟨wr.heap.size, 0, none⟩ 1 1 [.int .i64 z, .int .i64 y] rfl rfl (wk_two _ _ _ _) (by simp [Value.oneCell']) (by simp [maxLen]; omega) (by omega) (by simp; omega) ?_; intro v' w4 hown' hgrow _; obtain ⟨g', cap', rfl⟩ := ownsRow_succ hown'))
      obtain ⟨U4, hat⟩ := wk_grown hrow.out hgrow hU (Nat.le_refl _)
      have KR4 : Hid (EntAt w4 R false false false 0) := Lib.hid (hat R _ _ KR.out (by decide))
      rw [← hSn.out] at hown'
      have hrow4 := Lib.hid hown'
      have ck4 := Lib.hid (ck.out w4 (h.kept U4 id id))
      clear hown' hgrow hat hrow hU KR hSn hsz ck
      go_wp2_with fail
      refine ck4.out.mono ?_
      rintro e w5 ⟨rfl, u⟩
      clear ck4
      obtain ⟨a1, a2, a3, a4⟩ := ent_box w5 v r t f
      have u5 := u.trans a2
      have hU5 := U4.trans u5
      have KR5 := Lib.hid (KR4.out.kept u5 id)
      have hrow5 := Lib.hid (wk_kept hrow4.out u5 (fun _ _ => id))
      have A1 := Lib.hid a1
      have A3 := Lib.hid a3
      have b0 := a1.range 0 _ rfl
      have b2 := a1.range 2 _ rfl
      have b3 := a1.range 3 _ rfl
      clear a1 a2 a3 a4 u u5 U4 KR4 hrow4
      go_upto_region 11 with ((with_reducible refine wpList_store_sz rfl 35 (.tmp 14) (.tmp 51) rfl w5.heap.size 0 #[.bool v, .bool r, .bool t, .int .i64 f] rfl rfl 4 (ent_sz _ _ _ _) A3.out size_ent (ent_one _ _ _ _) [.bool v, .bool r, .bool t, .int .i64 f] (ent_ls _ _ _ _) ?_))
      generalize (w5.alloc (.cells #[.bool false, .bool false, .bool false, .int .i64 0] 35)).setCells w5.heap.size 0 [.bool v, .bool r, .bool t, .int .i64 f] = w6 at A1 b0 b2 b3 hU5 KR5 hrow5 ⊢
      generalize w5.heap.size = Eb at A1 b0 b2 b3 ⊢
      clear A3
      by_cases hX : X = 0
      · subst hX
        cases v
        · have hc : m.wC root q k = 10 := by rw [hcd.out]; simp [codeI]
          have hS0 := m.walk_stop root q hw'.out k hlt hC.out (by rw [hc]; decide)
          rw [hc] at hS0
          have hS := Lib.hid hS0
          clear hc hS0 hcd hFn hE2 hC A1 hw'
          go_wp2_with (with_reducible refine wpList_store_sz rfl 35 (.tmp 6) (.tmp 60) rfl R 0 #[.bool false, .bool false, .bool false, .int .i64 0] rfl rfl 4 (ent_sz _ _ _ _) KR5.out.there size_ent (ent_one _ _ _ _) [.bool false, .bool false, .bool false, .int .i64 0] (ent_ls _ _ _ _) ?_)
          (try simp only [Exit.inBlock, Exit.then])
          refine bodyPost_ret (ret_ent2 rfl _ _ R false false false 0 rfl (KR5.out.set false false false 0)) rfl ⟨_, by rw [hS.out.2.1, hS.out.2.2]; rfl, ?_, ?_⟩
          · rw [hS.out.1]
            exact wk_kept hrow5.out (Upd.setCells (S := (· = R)) (.inl rfl) _ _ (Upd.refl _ _)) (fun j hj e => wk_ne hrow5.out KR5.out (by decide) j hj e)
          · exact Upd.setCells (.inr hRN.out) _ _ hU5
        · by_cases ht : t = decide (k < 2)
          · have hc : m.wC root q k = 0 := by rw [hcd.out]; simp [codeI, ht]
            have hC' : Hid (∀ j, j < k + 1 → m.wC root q j = 0) := Lib.hid (fun j hj => by
              by_cases e : j = k
              · rw [e]; exact hc
              · exact hC.out j (by omega))
            clear hc hcd hC
            by_cases h2 : k < 2
            · obtain rfl : t = true := by rw [ht]; exact decide_eq_true h2
              have hdec : decide ((k : Int) < 2) = true := decide_eq_true (by omega)
              clear ht A1 hE2
              go_wp2
              exact ⟨⟨k + 1, by omega, by go_num, ⟨f, rfl, Lib.hid hFn.out.symm⟩, hrow5, hU5, KR5, hC'⟩, by simp [intOf]; omega⟩
            · obtain rfl : t = false := by rw [ht]; exact decide_eq_false h2
              obtain rfl : k = 2 := by omega
              have hE2' := hE2.out rfl
              have hS0 := m.walk_end root q hw'.out (fun j hj => hC'.out j hj)
              rw [hE2'] at hS0
              have hS := Lib.hid hS0
              clear ht hE2 hE2' hS0 hC' hw' hFn
              go_wp2_with (first
                | (with_reducible refine wpList_load_sz rfl 35 (.tmp 14) rfl Eb 0 rfl [.bool true, .bool r, .bool false, .int .i64 f] _ A1.out.range Tryd.underlying35 rfl 4 (ent_len _ _ _ _) size_ent ?_)
                | (with_reducible refine wpList_store_sz rfl 35 (.tmp 6) (.tmp 71) rfl R 0 #[.bool true, .bool r, .bool false, .int .i64 f] rfl rfl 4 (ent_sz _ _ _ _) KR5.out.there size_ent (ent_one _ _ _ _) [.bool true, .bool r, .bool false, .int .i64 f] (ent_ls _ _ _ _) ?_))
              (try simp only [Exit.inBlock, Exit.then])
              refine bodyPost_ret (ret_ent2 rfl _ _ R true r false f rfl (KR5.out.set true r false f)) rfl ⟨_, by rw [hS.out.2.1, hS.out.2.2]; rfl, ?_, ?_⟩
              · rw [hS.out.1]
                exact wk_kept hrow5.out (Upd.setCells (S := (· = R)) (.inl rfl) _ _ (Upd.refl _ _)) (fun j hj e => wk_ne hrow5.out KR5.out (by decide) j hj e)
              · exact Upd.setCells (.inr hRN.out) _ _ hU5
          · have hc : m.wC root q k = 11 := by rw [hcd.out]; simp [codeI, ht]
            have hS0 := m.walk_stop root q hw'.out k hlt hC.out (by rw [hc]; decide)
            rw [hc] at hS0
            have hS := Lib.hid hS0
            clear hc hS0 hcd hFn hE2 hC A1 hw'
            by_cases h2 : k < 2
            · obtain rfl : t = false := by simpa [h2] using ht
              have hdec : decide ((k : Int) < 2) = true := decide_eq_true (by omega)
              clear ht
              go_wp2_with (with_reducible refine wpList_store_sz rfl 35 (.tmp 6) (.tmp 67) rfl R 0 #[.bool false, .bool false, .bool false, .int .i64 0] rfl rfl 4 (ent_sz _ _ _ _) KR5.out.there size_ent (ent_one _ _ _ _) [.bool false, .bool false, .bool false, .int .i64 0] (ent_ls _ _ _ _) ?_)
              (try simp only [Exit.inBlock, Exit.then])
              refine bodyPost_ret (ret_ent2 rfl _ _ R false false false 0 rfl (KR5.out.set false false false 0)) rfl ⟨_, by rw [hS.out.2.1, hS.out.2.2]; rfl, ?_, ?_⟩
              · rw [hS.out.1]
                exact wk_kept hrow5.out (Upd.setCells (S := (· = R)) (.inl rfl) _ _ (Upd.refl _ _)) (fun j hj e => wk_ne hrow5.out KR5.out (by decide) j hj e)
              · exact Upd.setCells (.inr hRN.out) _ _ hU5
            · obtain rfl : t = true := by simpa [h2] using ht
              have hdec : decide ((k : Int) < 2) = false := decide_eq_false (by omega)
              clear ht
              go_wp2_with (with_reducible refine wpList_store_sz rfl 35 (.tmp 6) (.tmp 67) rfl R 0 #[.bool false, .bool false, .bool false, .int .i64 0] rfl rfl 4 (ent_sz _ _ _ _) KR5.out.there size_ent (ent_one _ _ _ _) [.bool false, .bool false, .bool false, .int .i64 0] (ent_ls _ _ _ _) ?_)
              (try simp only [Exit.inBlock, Exit.then])
              refine bodyPost_ret (ret_ent2 rfl _ _ R false false false 0 rfl (KR5.out.set false false false 0)) rfl ⟨_, by rw [hS.out.2.1, hS.out.2.2]; rfl, ?_, ?_⟩
              · rw [hS.out.1]
                exact wk_kept hrow5.out (Upd.setCells (S := (· = R)) (.inl rfl) _ _ (Upd.refl _ _)) (fun j hj e => wk_ne hrow5.out KR5.out (by decide) j hj e)
              · exact Upd.setCells (.inr hRN.out) _ _ hU5
      · have hc : m.wC root q k = 11 := by rw [hcd.out]; simp [codeI, hX]
        have hS0 := m.walk_stop root q hw'.out k hlt hC.out (by rw [hc]; decide)
        rw [hc] at hS0
        have hS := Lib.hid hS0
        clear hc hS0 hcd hFn hE2 hC A1 hw'
        go_wp2_with (with_reducible refine wpList_store_sz rfl 35 (.tmp 6) (.tmp 55) rfl R 0 #[.bool false, .bool false, .bool false, .int .i64 0] rfl rfl 4 (ent_sz _ _ _ _) KR5.out.there size_ent (ent_one _ _ _ _) [.bool false, .bool false, .bool false, .int .i64 0] (ent_ls _ _ _ _) ?_)
        (try simp only [Exit.inBlock, Exit.then])
        refine bodyPost_ret (ret_ent2 rfl _ _ R false false false 0 rfl (KR5.out.set false false false 0)) rfl ⟨_, by rw [hS.out.2.1, hS.out.2.2]; rfl, ?_, ?_⟩
        · rw [hS.out.1]
          exact wk_kept hrow5.out (Upd.setCells (S := (· = R)) (.inl rfl) _ _ (Upd.refl _ _)) (fun j hj e => wk_ne hrow5.out KR5.out (by decide) j hj e)
        · exact Upd.setCells (.inr hRN.out) _ _ hU5
set_option maxRecDepth 100000 in
set_option maxHeartbeats 1000000 in
theorem lsteps_any (so so2 : Option Addr) (g g2 cap cap2 n : Nat) (F P : Nat → Int) (w : World) (hn : n ≤ 3) (hso : 0 < n → so = some ⟨g, 0, none⟩) (hso2 : 0 < n → so2 = some ⟨g2, 0, none⟩)
    (h1 : ∀ j, j < n → w.cell? ⟨g, j * 2, none⟩ = some (.int .i64 (F j)) ∧ w.cell? ⟨g, j * 2 + 1, none⟩ = some (.int .i64 (P j)))
    (h2 : ∀ j, j < n → w.cell? ⟨g2, j * 2, none⟩ = some (.int .i64 (F j)) ∧ w.cell? ⟨g2, j * 2 + 1, none⟩ = some (.int .i64 (P j))) :
    Calls Tryd.prog 21 #[.slice so n cap, .slice so2 n cap2] w fun e w' => e = .returned (.bool true) ∧ Upd (fun _ => False) w w' := by
  have H1 := Lib.hid h1
  have H2 := Lib.hid h2
  clear h1 h2
  go_enter Tryd.func21, Tryd.ntmps21
  go_wp2
  go_loopw [5] (fun t wr => ∃ (j : Nat) (p : Nat), j ≤ n ∧ t = .int .i64 j ∧ wr = w.drewN p) (fun t _ => n - (intOf t).toNat)
  case atStart => exact ⟨0, 0, by omega, rfl, rfl⟩
  case round =>
    obtain ⟨j, p, hj, rfl, rfl⟩ := hrel
    by_cases hjl : j < n
    · obtain rfl := hso (by omega)
      obtain rfl := hso2 (by omega)
      have s0 : (w.drewN p).cell? ⟨g, j * 2, none⟩ = _ := (H1.out j hjl).1
      have s1 : (w.drewN p).cell? ⟨g, j * 2 + 1, none⟩ = _ := (H1.out j hjl).2
      have q0 : (w.drewN p).cell? ⟨g2, j * 2, none⟩ = _ := (H2.out j hjl).1
      have q1 : (w.drewN p).cell? ⟨g2, j * 2 + 1, none⟩ = _ := (H2.out j hjl).2
      generalize F j = fj at s0 q0
      generalize P j = pj at s1 q1
      have hjL : (j : Int) < (n : Int) := by omega
      generalize hW : w.drewN p = W at s0 s1 q0 q1 ⊢
      have HW := Lib.hid hW
      clear hW
      go_wp2_with fail
      go_quiet (fail)
      go_wp2
      exact ⟨⟨j + 1, p + nq, by omega, by go_num, by rw [← HW.out, World.drewN_drewN]⟩, by simp [intOf]; omega⟩
    · go_wp2
      go_ret
      exact ⟨rfl, (Upd.refl _ _).drewN _⟩
end Go.Proofs.YtbakhipabeaojaaDoor
