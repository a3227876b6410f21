/-
  Texts that the laws stand on, joined: WkT, WkU, TrD, TrE, TrF, TrG, TrH, TrI, TrJ, TrK, TrL, TrM, TrN, Cut, TrO, TrP, TrQ, TrR, TrS, TrT, TrU, TrV, TrW, TrY, TrZ.
-/
import Derived.Deep.RegionHeld3
import Derived.Deep.RegionLaw
import Derived.Test.YtfdnfllefednjaaDoorPart8

/-
  Contracts of the document's own answers for walk: Walk; the laws' steps.
-/
namespace Go.Proofs.YtfdnfllefednjaaDoor
open Go.ChangeShapes Go.WideShapes Go.ChangeAt Go.RowKit

theorem info_kstep : (Tryd.prog.info? 146).map (fun i => (i.zero, i.size, i.bytes)) = some (some (.agg #[.int .i64 0, .int .i64 0]), 2, 16) := by kernel_rfl
set_option maxRecDepth 100000 in
set_option maxHeartbeats 2000000 in
theorem kwalk_any (C : Nat) (m : Mem) (root q : Int) (w : World) (h : RefAt w C m) (hg : m.good) :
    Calls Tryd.prog 62 #[.pointer (some ⟨C, 0, none⟩), .int .i64 root, .int .i64 q] w fun e w' => ∃ v, e = .returned (.tuple #[(m.wE root q).val, v, .int .i64 (m.wX root q)]) ∧
      w'.ownsRow w.heap.size 146 2 v (m.wN root q) (m.wS root q (m.wN root q)) ∧ Upd (fun _ => False) w w' := by
  obtain ⟨i0, hi, hz0, hz1, hz2⟩ := info_parts info_kstep
  have cX := Lib.hid (fun W (h : RefAt W C m) => rHas_any C m root W h)
  have cI := Lib.hid (fun (l : Int) W => rindex_any q l W)
  have cG := Lib.hid (fun f p W (h : RefAt W C m) => kget_any C m f p W h hg)
  have k0 : Hid (EntAt (w.alloc (.cells #[.bool false, .bool false, .bool false, .int .i64 0] 34)) w.heap.size false false false 0) := Lib.hid (heap_alloc_last w _)
  clear hg
  cases hw : m.wB root q
  · obtain ⟨n1, n2, n3⟩ := m.walk_no root q hw
    rw [n1, n2, n3]
    clear n1 n2 n3 cG cI
    cases hr : m.ex root 1
    · rw [hr] at cX
      clear hr hw
      go_enter Tryd.func62, Tryd.ntmps62
      go_wp2_with fail
      refine (cX.out _ (h.allocd _)).mono ?_
      rintro e w1 ⟨rfl, rfl⟩
      go_wp2_with (with_reducible refine wpList_store_sz rfl 34 (.tmp 6) (.tmp 28) rfl w.heap.size 0 #[.bool false, .bool false, .bool false, .int .i64 0] rfl rfl 4 (ent_sz _ _ _ _) k0.out.there size_ent (ent_one _ _ _ _) [.bool false, .bool false, .bool false, .int .i64 0] (ent_ls _ _ _ _) ?_)
      (try simp only [Exit.inBlock, Exit.then])
      refine bodyPost_ret (ret_ent2 rfl _ _ w.heap.size false false false 0 rfl (k0.out.set false false false 0)) rfl ⟨_, rfl, World.ownsRow_nil _ _ _ _, ?_⟩
      exact Upd.setCells (.inr (Nat.le_refl _)) _ _ ((Upd.refl _ _).alloc _)
    · rw [hr] at cX
      have hq : pageB q = false := by unfold Mem.wB at hw; rw [hr, Bool.true_and] at hw; exact hw
      have hq' := of_decide_eq_false hq
      clear hq hw hr
      by_cases q0 : q < 0
      · clear hq'
        go_enter Tryd.func62, Tryd.ntmps62
        go_wp2_with fail
        refine (cX.out _ (h.allocd _)).mono ?_
        rintro e w1 ⟨rfl, rfl⟩
        go_wp2_with (with_reducible refine wpList_store_sz rfl 34 (.tmp 6) (.tmp 28) rfl w.heap.size 0 #[.bool false, .bool false, .bool false, .int .i64 0] rfl rfl 4 (ent_sz _ _ _ _) k0.out.there size_ent (ent_one _ _ _ _) [.bool false, .bool false, .bool false, .int .i64 0] (ent_ls _ _ _ _) ?_)
        (try simp only [Exit.inBlock, Exit.then])
        refine bodyPost_ret (ret_ent2 rfl _ _ w.heap.size false false false 0 rfl (k0.out.set false false false 0)) rfl ⟨_, rfl, World.ownsRow_nil _ _ _ _, ?_⟩
        exact Upd.setCells (.inr (Nat.le_refl _)) _ _ ((Upd.refl _ _).alloc _)
      · have q1 : 4095 < q := by omega
        clear hq'
        go_enter Tryd.func62, Tryd.ntmps62
        go_wp2_with fail
        refine (cX.out _ (h.allocd _)).mono ?_
        rintro e w1 ⟨rfl, rfl⟩
        go_wp2_with (with_reducible refine wpList_store_sz rfl 34 (.tmp 6) (.tmp 28) rfl w.heap.size 0 #[.bool false, .bool false, .bool false, .int .i64 0] rfl rfl 4 (ent_sz _ _ _ _) k0.out.there size_ent (ent_one _ _ _ _) [.bool false, .bool false, .bool false, .int .i64 0] (ent_ls _ _ _ _) ?_)
        (try simp only [Exit.inBlock, Exit.then])
        refine bodyPost_ret (ret_ent2 rfl _ _ w.heap.size false false false 0 rfl (k0.out.set false false false 0)) rfl ⟨_, rfl, World.ownsRow_nil _ _ _ _, ?_⟩
        exact Upd.setCells (.inr (Nat.le_refl _)) _ _ ((Upd.refl _ _).alloc _)
  · obtain ⟨hr, hq⟩ : m.ex root 1 = true ∧ pageB q = true := by simpa [Mem.wB] using hw
    rw [hr] at cX
    have hq' := of_decide_eq_true hq
    obtain ⟨q0, q1⟩ := hq'
    have hw' := Lib.hid hw
    clear hq hr hw
    go_enter Tryd.func62, Tryd.ntmps62
    go_wp2_with fail
    refine (cX.out _ (h.allocd _)).mono ?_
    rintro e w1 ⟨rfl, rfl⟩
    have U3 := (Upd.refl (fun _ => False) w).alloc (.cells #[.bool false, .bool false, .bool false, .int .i64 0] 34)
    obtain ⟨R, hR⟩ : ∃ R, R = w.heap.size := ⟨_, rfl⟩
    rw [← hR] at k0 ⊢
    have hRN := Lib.hid (Nat.le_of_eq hR.symm)
    clear hR cX
    go_wp2
    generalize w.alloc (.cells #[.bool false, .bool false, .bool false, .int .i64 0] 34) = W at k0 U3 ⊢
    go_loopw [9, 10, 11] (fun s t c wr => ∃ k : Nat, k ≤ 2 ∧ c = .int .i64 k ∧ (∃ z, t = .int .i64 z ∧ Hid (z = m.wF root q k)) ∧ Hid (wr.ownsRow w.heap.size 146 2 s k (m.wS root q k)) ∧ Upd (fun _ => False) w wr ∧ Hid (EntAt wr R false false false 0) ∧ Hid (∀ j, j < k → m.wC root q j = 0)) (fun _ _ c _ => 3 - (intOf c).toNat)
    case atStart => exact ⟨0, by omega, rfl, ⟨root, rfl, Lib.hid rfl⟩, Lib.hid (World.ownsRow_nil _ _ _ _), U3, k0, Lib.hid fun j hj => absurd hj (by omega)⟩
    case round =>
      obtain ⟨k, hk, rfl, ⟨z, rfl, hz'⟩, hrow, hU, KR, hC⟩ := hrel
      clear k0 U3
      have hlt : k < 3 := by omega
      have cIk := Lib.hid (fun W => cI.out k W)
      have hy' : Hid (idxI q k = idxI q k) := Lib.hid rfl
      have ck := Lib.hid (fun W hM => cG.out z (idxI q k) W hM)
      have hcd : Hid (m.wC root q k = codeI (m.getE z (idxI q k)) (m.getX z (idxI q k)) k) := Lib.hid (by rw [hz'.out]; rfl)
      have hFn : Hid (m.wF root q (k + 1) = (m.getE z (idxI q k)).f) := Lib.hid (by rw [hz'.out]; rfl)
      have hE2 : Hid (k = 2 → m.getE (m.wF root q 2) (idxI q 2) = m.getE z (idxI q k)) := Lib.hid (by rw [hz'.out]; rintro rfl; rfl)
      have hSn : Hid (m.wS root q (k + 1) = m.wS root q k ++ [.int .i64 z, .int .i64 (idxI q k)]) := Lib.hid (by rw [hz'.out]; rfl)
      generalize m.getE z (idxI q k) = G at ck hcd hFn hE2
      generalize m.getX z (idxI q k) = X at ck hcd
      generalize idxI q k = y at ck cIk hSn
      obtain ⟨v, r, t, f⟩ := G
      obtain ⟨o, cap, rfl⟩ := wk_slice hrow.out
      have hsz := hU.size
      clear cG hz' cI hy'
      generalize errB (idxB q k) = eb at cIk
      go_wp2_with fail
      refine (cIk.out _).mono ?_
      rintro e w2 ⟨rfl, rfl⟩
      clear cIk
      go_upto_region 10 with ((at_builtin; refine wpList_append_own _ rfl _ _ 112 rfl w.heap.size 146 i0 (.agg #[.int .i64 0, .int .i64 0]) 2 16 Tryd.underlying112 hi hz0 hz1 hz2 rfl (by decide) _ _ _ rfl (hrow.out.alloc _) ⟨wr.heap.size, 0, none⟩ 1 1 [.int .i64 z, .int .i64 y] rfl rfl (wk_two _ _ _ _) (by simp [Value.oneCell']) (by simp [maxLen]; omega) (by omega) (by simp; omega) ?_; intro v' w4 hown' hgrow _; obtain ⟨g', cap', rfl⟩ := ownsRow_succ hown'))
      obtain ⟨U4, hat⟩ := wk_grown hrow.out hgrow hU (Nat.le_refl _)
      have KR4 : Hid (EntAt w4 R false false false 0) := Lib.hid (hat R _ _ KR.out (by decide))
      rw [← hSn.out] at hown'
      have hrow4 := Lib.hid hown'
      have ck4 := Lib.hid (ck.out w4 (h.kept U4 id id))
      clear hown' hgrow hat hrow hU KR hSn hsz ck
      go_wp2_with fail
      refine ck4.out.mono ?_
      rintro e w5 ⟨rfl, u⟩
      clear ck4
      obtain ⟨a1, a2, a3, a4⟩ := ent_box w5 v r t f
      have u5 := u.trans a2
      have hU5 := U4.trans u5
      have KR5 := Lib.hid (KR4.out.kept u5 id)
      have hrow5 := Lib.hid (wk_kept hrow4.out u5 (fun _ _ => id))
      have A1 := Lib.hid a1
      have A3 := Lib.hid a3
      have b0 := a1.range 0 _ rfl
      have b2 := a1.range 2 _ rfl
      have b3 := a1.range 3 _ rfl
      clear a1 a2 a3 a4 u u5 U4 KR4 hrow4
      go_upto_region 11 with ((with_reducible refine wpList_store_sz rfl 34 (.tmp 14) (.tmp 51) rfl w5.heap.size 0 #[.bool v, .bool r, .bool t, .int .i64 f] rfl rfl 4 (ent_sz _ _ _ _) A3.out size_ent (ent_one _ _ _ _) [.bool v, .bool r, .bool t, .int .i64 f] (ent_ls _ _ _ _) ?_))
      generalize (w5.alloc (.cells #[.bool false, .bool false, .bool false, .int .i64 0] 34)).setCells w5.heap.size 0 [.bool v, .bool r, .bool t, .int .i64 f] = w6 at A1 b0 b2 b3 hU5 KR5 hrow5 ⊢
      generalize w5.heap.size = Eb at A1 b0 b2 b3 ⊢
      clear A3
      by_cases hX : X = 0
      · subst hX
        cases v
        · have hc : m.wC root q k = 10 := by rw [hcd.out]; simp [codeI]
          have hS0 := m.walk_stop root q hw'.out k hlt hC.out (by rw [hc]; decide)
          rw [hc] at hS0
          have hS := Lib.hid hS0
          clear hc hS0 hcd hFn hE2 hC A1 hw'
          go_wp2_with (with_reducible refine wpList_store_sz rfl 34 (.tmp 6) (.tmp 60) rfl R 0 #[.bool false, .bool false, .bool false, .int .i64 0] rfl rfl 4 (ent_sz _ _ _ _) KR5.out.there size_ent (ent_one _ _ _ _) [.bool false, .bool false, .bool false, .int .i64 0] (ent_ls _ _ _ _) ?_)
          (try simp only [Exit.inBlock, Exit.then])
          refine bodyPost_ret (ret_ent2 rfl _ _ R false false false 0 rfl (KR5.out.set false false false 0)) rfl ⟨_, by rw [hS.out.2.1, hS.out.2.2]; rfl, ?_, ?_⟩
          · rw [hS.out.1]
            exact wk_kept hrow5.out (Upd.setCells (S := (· = R)) (.inl rfl) _ _ (Upd.refl _ _)) (fun j hj e => wk_ne hrow5.out KR5.out (by decide) j hj e)
          · exact Upd.setCells (.inr hRN.out) _ _ hU5
        · by_cases ht : t = decide (k < 2)
          · have hc : m.wC root q k = 0 := by rw [hcd.out]; simp [codeI, ht]
            have hC' : Hid (∀ j, j < k + 1 → m.wC root q j = 0) := Lib.hid (fun j hj => by
              by_cases e : j = k
              · rw [e]; exact hc
              · exact hC.out j (by omega))
            clear hc hcd hC
            by_cases h2 : k < 2
            · obtain rfl : t = true := by rw [ht]; exact decide_eq_true h2
              have hdec : decide ((k : Int) < 2) = true := decide_eq_true (by omega)
              clear ht A1 hE2
              go_wp2
              exact ⟨⟨k + 1, by omega, by go_num, ⟨f, rfl, Lib.hid hFn.out.symm⟩, hrow5, hU5, KR5, hC'⟩, by simp [intOf]; omega⟩
            · obtain rfl : t = false := by rw [ht]; exact decide_eq_false h2
              obtain rfl : k = 2 := by omega
              have hE2' := hE2.out rfl
              have hS0 := m.walk_end root q hw'.out (fun j hj => hC'.out j hj)
              rw [hE2'] at hS0
              have hS := Lib.hid hS0
              clear ht hE2 hE2' hS0 hC' hw' hFn
              go_wp2_with (first
                | (with_reducible refine wpList_load_sz rfl 34 (.tmp 14) rfl Eb 0 rfl [.bool true, .bool r, .bool false, .int .i64 f] _ A1.out.range Tryd.underlying34 rfl 4 (ent_len _ _ _ _) size_ent ?_)
                | (with_reducible refine wpList_store_sz rfl 34 (.tmp 6) (.tmp 71) rfl R 0 #[.bool true, .bool r, .bool false, .int .i64 f] rfl rfl 4 (ent_sz _ _ _ _) KR5.out.there size_ent (ent_one _ _ _ _) [.bool true, .bool r, .bool false, .int .i64 f] (ent_ls _ _ _ _) ?_))
              (try simp only [Exit.inBlock, Exit.then])
              refine bodyPost_ret (ret_ent2 rfl _ _ R true r false f rfl (KR5.out.set true r false f)) rfl ⟨_, by rw [hS.out.2.1, hS.out.2.2]; rfl, ?_, ?_⟩
              · rw [hS.out.1]
                exact wk_kept hrow5.out (Upd.setCells (S := (· = R)) (.inl rfl) _ _ (Upd.refl _ _)) (fun j hj e => wk_ne hrow5.out KR5.out (by decide) j hj e)
              · exact Upd.setCells (.inr hRN.out) _ _ hU5
          · have hc : m.wC root q k = 11 := by rw [hcd.out]; simp [codeI, ht]
            have hS0 := m.walk_stop root q hw'.out k hlt hC.out (by rw [hc]; decide)
            rw [hc] at hS0
            have hS := Lib.hid hS0
            clear hc hS0 hcd hFn hE2 hC A1 hw'
            by_cases h2 : k < 2
            · obtain rfl : t = false := by simpa [h2] using ht
              have hdec : decide ((k : Int) < 2) = true := decide_eq_true (by omega)
              clear ht
              go_wp2_with (with_reducible refine wpList_store_sz rfl 34 (.tmp 6) (.tmp 67) rfl R 0 #[.bool false, .bool false, .bool false, .int .i64 0] rfl rfl 4 (ent_sz _ _ _ _) KR5.out.there size_ent (ent_one _ _ _ _) [.bool false, .bool false, .bool false, .int .i64 0] (ent_ls _ _ _ _) ?_)
              (try simp only [Exit.inBlock, Exit.then])
              refine bodyPost_ret (ret_ent2 rfl _ _ R false false false 0 rfl (KR5.out.set false false false 0)) rfl ⟨_, by rw [hS.out.2.1, hS.out.2.2]; rfl, ?_, ?_⟩
              · rw [hS.out.1]
                exact wk_kept hrow5.out (Upd.setCells (S := (· = R)) (.inl rfl) _ _ (Upd.refl _ _)) (fun j hj e => wk_ne hrow5.out KR5.out (by decide) j hj e)
              · exact Upd.setCells (.inr hRN.out) _ _ hU5
            · obtain rfl : t = true := by simpa [h2] using ht
              have hdec : decide ((k : Int) < 2) = false := decide_eq_false (by omega)
              clear ht
              go_wp2_with (with_reducible refine wpList_store_sz rfl 34 (.tmp 6) (.tmp 67) rfl R 0 #[.bool false, .bool false, .bool false, .int .i64 0] rfl rfl 4 (ent_sz _ _ _ _) KR5.out.there size_ent (ent_one _ _ _ _) [.bool false, .bool false, .bool false, .int .i64 0] (ent_ls _ _ _ _) ?_)
              (try simp only [Exit.inBlock, Exit.then])
              refine bodyPost_ret (ret_ent2 rfl _ _ R false false false 0 rfl (KR5.out.set false false false 0)) rfl ⟨_, by rw [hS.out.2.1, hS.out.2.2]; rfl, ?_, ?_⟩
              · rw [hS.out.1]
                exact wk_kept hrow5.out (Upd.setCells (S := (· = R)) (.inl rfl) _ _ (Upd.refl _ _)) (fun j hj e => wk_ne hrow5.out KR5.out (by decide) j hj e)
              · exact Upd.setCells (.inr hRN.out) _ _ hU5
      · have hc : m.wC root q k = 11 := by rw [hcd.out]; simp [codeI, hX]
        have hS0 := m.walk_stop root q hw'.out k hlt hC.out (by rw [hc]; decide)
        rw [hc] at hS0
        have hS := Lib.hid hS0
        clear hc hS0 hcd hFn hE2 hC A1 hw'
        go_wp2_with (with_reducible refine wpList_store_sz rfl 34 (.tmp 6) (.tmp 55) rfl R 0 #[.bool false, .bool false, .bool false, .int .i64 0] rfl rfl 4 (ent_sz _ _ _ _) KR5.out.there size_ent (ent_one _ _ _ _) [.bool false, .bool false, .bool false, .int .i64 0] (ent_ls _ _ _ _) ?_)
        (try simp only [Exit.inBlock, Exit.then])
        refine bodyPost_ret (ret_ent2 rfl _ _ R false false false 0 rfl (KR5.out.set false false false 0)) rfl ⟨_, by rw [hS.out.2.1, hS.out.2.2]; rfl, ?_, ?_⟩
        · rw [hS.out.1]
          exact wk_kept hrow5.out (Upd.setCells (S := (· = R)) (.inl rfl) _ _ (Upd.refl _ _)) (fun j hj e => wk_ne hrow5.out KR5.out (by decide) j hj e)
        · exact Upd.setCells (.inr hRN.out) _ _ hU5
end Go.Proofs.YtfdnfllefednjaaDoor

/-
  The memory and the document's own one side by side, with the same words.
-/
namespace Go.Proofs.YtfdnfllefednjaaDoor
open Go.ChangeShapes Go.WideShapes Go.ChangeAt Go.RowKit

/-- the same memory elsewhere -/
def Mem.re (m : Mem) (B : Nat) : Mem := { m with B := B }
theorem Mem.re_wr (m : Mem) (B : Nat) (a v : Int) : (m.re B).wr a v = (m.wr a v).re B := by
  unfold Mem.wr
  show (if m.has a then _ else _) = _
  split <;> rfl
theorem Mem.re_put (m : Mem) (B : Nat) (f p : Int) (e : En) : (m.re B).put f p e = (m.put f p e).re B := by
  unfold Mem.put
  show (if m.putB f p e = true then _ else _) = _
  split
  · exact m.re_wr B _ _
  · rfl
theorem Mem.re_wF (m : Mem) (B : Nat) (root q : Int) : ∀ k, (m.re B).wF root q k = m.wF root q k
  | 0 => rfl
  | k + 1 => by
    show ((m.re B).getE ((m.re B).wF root q k) (idxI q k)).f = (m.getE (m.wF root q k) (idxI q k)).f
    rw [m.re_wF B root q k]
    rfl
theorem Mem.re_wC (m : Mem) (B : Nat) (root q : Int) (k : Nat) : (m.re B).wC root q k = m.wC root q k := by
  unfold Mem.wC
  rw [m.re_wF B root q k]
  rfl
theorem Mem.re_wN (m : Mem) (B : Nat) (root q : Int) : (m.re B).wN root q = m.wN root q := by
  unfold Mem.wN
  rw [Mem.re_wC, Mem.re_wC]
  rfl
theorem Mem.re_wX (m : Mem) (B : Nat) (root q : Int) : (m.re B).wX root q = m.wX root q := by
  unfold Mem.wX
  rw [Mem.re_wC, Mem.re_wC, Mem.re_wC]
  rfl
theorem Mem.re_wE (m : Mem) (B : Nat) (root q : Int) : (m.re B).wE root q = m.wE root q := by
  unfold Mem.wE
  rw [Mem.re_wC, Mem.re_wC, Mem.re_wC, Mem.re_wF]
  rfl
theorem Mem.re_wS (m : Mem) (B : Nat) (root q : Int) : ∀ k, (m.re B).wS root q k = m.wS root q k
  | 0 => rfl
  | k + 1 => by rw [Mem.wS, Mem.wS, m.re_wS B root q k, m.re_wF]
theorem wk_and15 (n : Int) : bits .and .i64 n 15 = n % 16 := by
  have h : (BitVec.ofInt 64 15).toNat = 2 ^ 4 - 1 := by decide
  have key : (BitVec.ofInt 64 n &&& BitVec.ofInt 64 15).toNat = (n % ((2 ^ 64 : Nat) : Int)).toNat % 2 ^ 4 := by
    rw [BitVec.toNat_and, BitVec.toNat_ofInt, h, Nat.and_two_pow_sub_one_eq_mod]
  show IntKind.i64.wrap ((BitVec.ofInt 64 n &&& BitVec.ofInt 64 15).toNat : Nat) = n % 16
  rw [key, IntKind.wrap_i64]
  omega
theorem wk_and255 (n : Int) : bits .and .i64 n 255 = n % 256 := by
  have h : (BitVec.ofInt 64 255).toNat = 2 ^ 8 - 1 := by decide
  have key : (BitVec.ofInt 64 n &&& BitVec.ofInt 64 255).toNat = (n % ((2 ^ 64 : Nat) : Int)).toNat % 2 ^ 8 := by
    rw [BitVec.toNat_and, BitVec.toNat_ofInt, h, Nat.and_two_pow_sub_one_eq_mod]
  show IntKind.i64.wrap ((BitVec.ofInt 64 n &&& BitVec.ofInt 64 255).toNat : Nat) = n % 256
  rw [key, IntKind.wrap_i64]
  omega
/-- both memories, the same words in both -/
structure Both (w wr : World) (A C B1 B2 : Nat) (m : Mem) : Prop where
  M : MemAt wr A m
  R : RefAt wr C (m.re B2)
  T : Tab wr
  U : Upd (fun _ => False) w wr
  b : m.B = B1
  ok : m.ok
  good : m.good
  l0 : w.heap.size ≤ B1
  l1 : B1 < A
  l2 : A < B2
  l3 : B2 < C
theorem Both.kept {w wr w' : World} {A C B1 B2 : Nat} {m : Mem} (h : Both w wr A C B1 B2 m) (u : Upd (fun _ => False) wr w') : Both w w' A C B1 B2 m :=
  ⟨h.M.kept u id id, h.R.kept u id id, h.T.kept u, h.U.trans u, h.b, h.ok, h.good, h.l0, h.l1, h.l2, h.l3⟩
/-- a call on the one -/
theorem Both.one {w wr w' : World} {A C B1 B2 : Nat} {m m' : Mem} (h : Both w wr A C B1 B2 m) (hM : MemAt w' A m') (u : Upd (· = m.B) wr w') : RefAt w' C (m.re B2) ∧ Tab w' ∧ Upd (fun _ => False) w w' := by
  have hb := h.b
  have h1 := h.l1
  have h2 := h.l2
  have h3 := h.l3
  exact ⟨h.R.kept u (by rw [hb]; omega) (by show ¬ B2 = m.B; rw [hb]; omega), h.T.keptS u (h.T.apart h.M), h.U.fresh u (by rw [hb]; exact h.l0)⟩
/-- and on the other -/
theorem Both.two {w wr w1 w2 : World} {A C B1 B2 : Nat} {m m' : Mem} (h : Both w wr A C B1 B2 m) (hM : MemAt w1 A m') (u : Upd (· = m.B) wr w1) (hR : RefAt w2 C (m'.re B2)) (u' : Upd (· = B2) w1 w2) (hb : m'.B = m.B) (hk : m'.ok) (hg : m'.good) : Both w w2 A C B1 B2 m' := by
  obtain ⟨r1, t1, U1⟩ := h.one hM u
  have hb0 := h.b
  have h0 := h.l0
  have h1 := h.l1
  have h2 := h.l2
  have h3 := h.l3
  exact ⟨hM.kept u' (by omega) (by rw [hb, hb0]; omega), hR, t1.keptS u' (t1.apartR r1), U1.fresh u' (by omega), hb.trans hb0, hk, hg, h0, h1, h2, h3⟩
/-- the contracts over both -/
theorem Both.get {w wr : World} {A C B1 B2 : Nat} {m : Mem} (h : Both w wr A C B1 B2 m) (x y : Int) :
    Calls Tryd.prog 10 #[.pointer (some ⟨A, 0, none⟩), .int .i64 x, .int .i64 y] wr fun e w' => e = .returned (.tuple #[(m.getE x y).val, .int .i64 (m.getX x y)]) ∧ Upd (fun _ => False) wr w' := wget_any A m x y wr h.M h.T h.good
theorem Both.kget {w wr : World} {A C B1 B2 : Nat} {m : Mem} (h : Both w wr A C B1 B2 m) (x y : Int) :
    Calls Tryd.prog 83 #[.pointer (some ⟨C, 0, none⟩), .int .i64 x, .int .i64 y] wr fun e w' => e = .returned (.tuple #[(m.getE x y).val, .int .i64 (m.getX x y)]) ∧ Upd (fun _ => False) wr w' := kget_any C (m.re B2) x y wr h.R h.good
theorem Both.blank {w wr : World} {A C B1 B2 : Nat} {m : Mem} (h : Both w wr A C B1 B2 m) (x : Int) :
    Calls Tryd.prog 70 #[.pointer (some ⟨A, 0, none⟩), .int .i64 x] wr fun e w' => e = .returned (.bool (m.zero x)) ∧ Upd (fun _ => False) wr w' := wblank_any A m x wr h.M h.T h.good
theorem Both.walk {w wr : World} {A C B1 B2 : Nat} {m : Mem} (h : Both w wr A C B1 B2 m) (root q : Int) :
    Calls Tryd.prog 65 #[.pointer (some ⟨A, 0, none⟩), .int .i64 root, .int .i64 q] wr fun e w' => ∃ v, e = .returned (.tuple #[(m.wE root q).val, v, .int .i64 (m.wX root q)]) ∧
      w'.ownsRow wr.heap.size 128 2 v (m.wN root q) (m.wS root q (m.wN root q)) ∧ Upd (fun _ => False) wr w' := wwalk_any A m root q wr h.M h.T h.good
theorem Both.kwalk {w wr : World} {A C B1 B2 : Nat} {m : Mem} (h : Both w wr A C B1 B2 m) (root q : Int) :
    Calls Tryd.prog 62 #[.pointer (some ⟨C, 0, none⟩), .int .i64 root, .int .i64 q] wr fun e w' => ∃ v, e = .returned (.tuple #[(m.wE root q).val, v, .int .i64 (m.wX root q)]) ∧
      w'.ownsRow wr.heap.size 146 2 v (m.wN root q) (m.wS root q (m.wN root q)) ∧ Upd (fun _ => False) wr w' := by
  have := kwalk_any C (m.re B2) root q wr h.R h.good
  rwa [Mem.re_wE, Mem.re_wX, Mem.re_wN, Mem.re_wS] at this
/-- the steps of the document's walk -/
theorem ksteps_cells0 {w : World} {base : Nat} {v : Value} {m : Mem} {root q : Int} {n : Nat} (h : w.ownsRow base 146 2 v n (m.wS root q n)) : ∃ so g cap, v = .slice so n cap ∧ (0 < n → so = some ⟨g, 0, none⟩) ∧
    ∀ j, j < n → w.cell? ⟨g, j * 2, none⟩ = some (.int .i64 (m.wF root q j)) ∧ w.cell? ⟨g, j * 2 + 1, none⟩ = some (.int .i64 (idxI q j)) := by
  rcases h.2 with ⟨rfl, rfl⟩ | ⟨g, cap, cur, rfl, hb, _⟩
  · exact ⟨none, 0, 0, rfl, fun h => absurd h (by omega), fun j hj => absurd hj (by omega)⟩
  · refine ⟨_, g, cap, rfl, fun _ => rfl, fun j hj => ?_⟩
    obtain ⟨a, b⟩ := m.wS_at root q j n hj
    have c0 := h.cells (g := g) rfl (j * 2) _ a
    have c1 := h.cells (g := g) rfl (j * 2 + 1) _ b
    rw [add_mid0, Nat.zero_add] at c0 c1
    exact ⟨c0, c1⟩
/-- the first k of the three tables -/
def Mem.tabsN (m : Mem) : Nat → Mem
  | 0 => m
  | 1 => m.put 0 1 ⟨true, false, true, 1⟩
  | 2 => (m.put 0 1 ⟨true, false, true, 1⟩).put 1 2 ⟨true, false, true, 2⟩
  | _ => m.tabs
theorem Mem.wN_le (m : Mem) (root q : Int) : m.wN root q ≤ 3 := by
  cases hb : m.wB root q
  · rw [(m.walk_no root q hb).1]; omega
  · exact (m.wN_bd root q hb).2
end Go.Proofs.YtfdnfllefednjaaDoor

/-
  The document's own spaces: the space that they say; where its nodes lie; all tables laid anew.
-/
namespace Go.Proofs.YtfdnfllefednjaaDoor
open Go.ChangeShapes Go.WideShapes Go.ChangeAt Go.RowKit Go.Shelf Go.Sort

def pgOf (s : Sp) (q : Nat) : RPg := ⟨q, (s.E 3 q).f, (s.E 3 q).r⟩
def tbOf (s : Sp) (x : Nat × Nat) : RTb := ⟨x.1, (x.2 * 16 ^ (3 - x.1) : Nat), s.fr x.1 x.2⟩
def Sp.pgL (s : Sp) : List RPg := s.pgs.map (pgOf s)
theorem fstI_nd {q l : Nat} (hq : q < 4096) (hl : l ≤ 2) : fstI q l = nd q l * 16 ^ (3 - l) := by
  match l, hl with
  | 0, _ => rw [nd0 hq]; rfl
  | 1, _ => rw [nd1]; rfl
  | 2, _ => rw [nd2]; rfl
theorem tbIx_of {s : Sp} {Nd : List (Nat × Nat)} (hd : Nd.Nodup) {i l d : Nat} (hi : Nd[i]? = some (l, d)) : tbIx (Nd.map (tbOf s)) l ((d * 16 ^ (3 - l) : Nat) : Int) = i := by
  have hlt : i < Nd.length := (List.getElem?_eq_some_iff.1 hi).1
  refine first_of (by rw [List.length_map]; exact hlt) ?_ fun j hj => ?_
  · unfold tbHit
    rw [List.getElem?_map, hi]
    simp [tbOf]
  · cases hh : tbHit (Nd.map (tbOf s)) l ((d * 16 ^ (3 - l) : Nat) : Int) j
    · rfl
    · exfalso
      unfold tbHit at hh
      rw [List.getElem?_map, List.getElem?_eq_getElem (by omega)] at hh
      simp only [Option.map_some, Bool.and_eq_true, decide_eq_true_eq, tbOf] at hh
      obtain ⟨e1, e2⟩ := hh
      have e1 : (Nd[j]).1 = l := by omega
      rw [e1] at e2
      have e3 : (Nd[j]).2 * 16 ^ (3 - l) = d * 16 ^ (3 - l) := by exact_mod_cast e2
      have e4 : (Nd[j]).2 = d := Nat.eq_of_mul_eq_mul_right (Nat.pow_pos (by decide)) e3
      have h1 : Nd[j] = (l, d) := Prod.ext e1 e4
      have h2 : Nd[i] = (l, d) := (List.getElem?_eq_some_iff.1 hi).2
      have := (List.pairwise_iff_getElem.1 hd j i (by omega) hlt hj)
      exact this (h1.trans h2.symm)
theorem Nodes.len {s : Sp} {n : Nat} {Nd : List (Nat × Nat)} (hs : s.Ok n) (h : Nodes s Nd) : Nd.length ≤ n := by
  have hnd : (Nd.map fun x => (s.fr x.1 x.2).toNat).Nodup := by
    refine List.pairwise_map.2 (h.nd.imp_of_mem fun {a b} ha hb hne e => hne ?_)
    obtain ⟨a1, a2⟩ := (h.mem a).1 ha
    obtain ⟨b1, b2⟩ := (h.mem b).1 hb
    have fa := hs.frb a2
    have fb := hs.frb b2
    obtain ⟨e1, e2⟩ := hs.inj _ _ _ _ a1 b1 a2 b2 (by omega)
    exact Prod.ext e1 e2
  have := nodup_len n _ hnd fun x hx => by
    obtain ⟨y, hy, rfl⟩ := List.mem_map.1 hx
    have := hs.frb ((h.mem y).1 hy).2
    omega
  rwa [List.length_map] at this
theorem Nodes.ix {s : Sp} {Nd : List (Nat × Nat)} (h : Nodes s Nd) {l d : Nat} (hl : l ≤ 2) (ho : s.on l d = true) : ∃ i, Nd[i]? = some (l, d) ∧ i < Nd.length ∧ tbIx (Nd.map (tbOf s)) l ((d * 16 ^ (3 - l) : Nat) : Int) = i := by
  obtain ⟨i, hi⟩ := List.getElem?_of_mem ((h.mem (l, d)).2 ⟨hl, ho⟩)
  exact ⟨i, hi, (List.getElem?_eq_some_iff.1 hi).1, tbIx_of h.nd hi⟩
theorem Sp.pgs_le (s : Sp) : s.pgs.length ≤ 4096 := by
  have := List.length_filter_le (fun d => (s.E 3 d).v) (List.range 4096)
  rw [List.length_range] at this
  exact this
end Go.Proofs.YtfdnfllefednjaaDoor

/-
  The document's own spaces: all tables laid anew.
-/
namespace Go.Proofs.YtfdnfllefednjaaDoor
open Go.ChangeShapes Go.WideShapes Go.ChangeAt Go.RowKit Go.Shelf Go.Sort

theorem take_next {α : Type} {L : List α} {i : Nat} {x : α} (h : L[i]? = some x) : L.take (i + 1) = L.take i ++ [x] := by
  rw [List.take_add_one, h]; rfl
theorem box3 {w : World} {b t : Nat} {x y z : Value} (h : w.heap[b]? = some (.cells #[x, y, z] t (0, 0))) : w.cell? ⟨b, 0, none⟩ = some x ∧ w.cell? ⟨b, 1, none⟩ = some y ∧ w.cell? ⟨b, 2, none⟩ = some z := by
  refine ⟨?_, ?_, ?_⟩ <;> (rw [cell_of_row w b _ _ _ _ h]; rfl)
theorem Upd.none' {S : Nat → Prop} {a b : World} (h : Upd (fun _ => False) a b) : Upd S a b := h.mono fun _ _ h => h.elim
/-- a node and the table above it -/
theorem node_facts {s : Sp} {n : Nat} {Nd : List (Nat × Nat)} (hs : s.Ok n) (hN : Nodes s Nd) {i l d : Nat} (hi : Nd[i]? = some (l, d)) :
    l ≤ 2 ∧ d < 16 ^ l ∧ (1 ≤ l → (s.E l d = ⟨true, false, true, s.fr l d⟩) ∧ ∃ ip, ip < Nd.length ∧ Nd[ip]? = some (l - 1, d / 16) ∧ tbIx (Nd.map (tbOf s)) ((l - 1 : Nat) : Int) ((fstI (d * 16 ^ (3 - l)) (l - 1) : Nat) : Int) = ip) := by
  obtain ⟨h1, h2⟩ := (hN.mem _).1 (List.mem_of_getElem? hi)
  simp only at h1 h2
  have hd := hs.ond (by omega) h2
  refine ⟨h1, hd, fun hl => ?_⟩
  obtain ⟨l, rfl⟩ : ∃ k, l = k + 1 := ⟨l - 1, by omega⟩
  rw [s.onS] at h2
  have hp := (hs.lv _ _ h2).2.2.2
  have ht := hs.tb _ _ h2 h1
  obtain ⟨ip, i1, i2, i3⟩ := hN.ix (by omega) hp
  refine ⟨?_, ip, i2, i1, ?_⟩
  · have : s.E (l + 1) d = ⟨(s.E (l + 1) d).v, (s.E (l + 1) d).r, (s.E (l + 1) d).t, (s.E (l + 1) d).f⟩ := rfl
    rw [this, h2, ht.1, ht.2]; rfl
  · rw [← i3, Nat.add_sub_cancel]
    have : fstI (d * 16 ^ (3 - (l + 1))) l = d / 16 * 16 ^ (3 - l) := by
      match l, h1, hd with
      | 0, _, hd => unfold fstI; simp; omega
      | 1, _, hd => unfold fstI; simp; omega
    rw [this]
end Go.Proofs.YtfdnfllefednjaaDoor

/-
  The document's own spaces: Find.
-/
namespace Go.Proofs.YtfdnfllefednjaaDoor
open Go.ChangeShapes Go.WideShapes Go.ChangeAt Go.RowKit Go.Shelf Go.Sort

theorem pgIx_yes {s : Sp} {i q : Nat} (hi : s.pgs[i]? = some q) : pgIx s.pgL ((q : Nat) : Int) = i ∧ i < s.pgs.length := by
  have hlt : i < s.pgs.length := (List.getElem?_eq_some_iff.1 hi).1
  refine ⟨first_of (by unfold Sp.pgL; rw [List.length_map]; exact hlt) ?_ fun j hj => ?_, hlt⟩
  · unfold pgHit Sp.pgL
    rw [List.getElem?_map, hi]
    simp [pgOf]
  · cases hh : pgHit s.pgL ((q : Nat) : Int) j
    · rfl
    · exfalso
      unfold pgHit Sp.pgL at hh
      rw [List.getElem?_map, List.getElem?_eq_getElem (by omega)] at hh
      simp only [Option.map_some, decide_eq_true_eq, pgOf] at hh
      have h2 : s.pgs[i] = q := (List.getElem?_eq_some_iff.1 hi).2
      have := List.pairwise_iff_getElem.1 s.pgs_rises j i (by omega) hlt hj
      omega
theorem pgIx_no {s : Sp} {q : Int} (h : ∀ x, x ∈ s.pgs → ((x : Nat) : Int) ≠ q) : pgIx s.pgL q = s.pgL.length := by
  refine first_all fun j hj => ?_
  unfold pgHit Sp.pgL
  have hj : j < s.pgs.length := by unfold Sp.pgL at hj; rwa [List.length_map] at hj
  rw [List.getElem?_map, List.getElem?_eq_getElem hj]
  exact decide_eq_false (h _ (List.getElem_mem _))
theorem Sp.pgL_len (s : Sp) : s.pgL.length = s.pgs.length := by unfold Sp.pgL; rw [List.length_map]
/-- a page's place, or none -/
theorem page_at {s : Sp} {n : Nat} (hs : s.Ok n) (q : Int) :
    (∃ (i : Nat) (j : Nat), q = (j : Nat) ∧ j < 4096 ∧ (s.E 3 j).v = true ∧ s.pgs[i]? = some j ∧ i < s.pgs.length ∧ ixN (pgIx s.pgL q) s.pgL.length = i) ∨
    (ixN (pgIx s.pgL q) s.pgL.length = -1 ∧ ∀ j : Nat, q = (j : Nat) → (s.E 3 j).v = false) := by
  by_cases h : ∃ x, x ∈ s.pgs ∧ ((x : Nat) : Int) = q
  · obtain ⟨x, hx, rfl⟩ := h
    obtain ⟨i, hi⟩ := List.getElem?_of_mem hx
    obtain ⟨h1, h2⟩ := pgIx_yes hi
    have hv := (s.mem_pgs (q := x)).1 hx
    refine .inl ⟨i, x, rfl, hv.1, hv.2, hi, h2, ?_⟩
    rw [h1]; unfold ixN; rw [if_pos (by rw [s.pgL_len]; exact h2)]
  · have h' : ∀ x, x ∈ s.pgs → ((x : Nat) : Int) ≠ q := fun x hx e => h ⟨x, hx, e⟩
    refine .inr ⟨by rw [pgIx_no h']; unfold ixN; rw [if_neg (by omega)], fun j e => ?_⟩
    cases hv : (s.E 3 j).v
    · rfl
    · exact absurd ((s.mem_pgs (q := j)).2 ⟨(Sp.page_dep hs hv).2, hv⟩) (fun hm => h' j hm e.symm)
end Go.Proofs.YtfdnfllefednjaaDoor

/-
  The document's own spaces: Pages. Two spaces that are the same.
-/
namespace Go.Proofs.YtfdnfllefednjaaDoor
open Go.ChangeShapes Go.WideShapes Go.ChangeAt Go.RowKit Go.Shelf Go.Sort

/-- spaces that are right and agree are one -/
theorem Sp.ext_of {s t : Sp} {n n' : Nat} (hs : s.Ok n) (ht : t.Ok n') (hr : s.root = t.root) (h : ∀ l d, 1 ≤ l → l ≤ 3 → s.E l d = t.E l d) : s = t := by
  obtain ⟨r, E⟩ := s
  obtain ⟨r', E'⟩ := t
  obtain rfl : r = r' := hr
  have : E = E' := by
    funext l d
    by_cases hl : 1 ≤ l ∧ l ≤ 3
    · exact h l d hl.1 hl.2
    · have a : (E l d).v = false := by
        cases hv : (E l d).v
        · rfl
        · have := hs.lv l d hv; omega
      have b : (E' l d).v = false := by
        cases hv : (E' l d).v
        · rfl
        · have := ht.lv l d hv; omega
      exact (hs.none l d a).trans (ht.none l d b).symm
  rw [this]
theorem info_rint : (Tryd.prog.info? 3).map (fun i => (i.zero, i.size, i.bytes)) = some (some (.int .i64 0), 1, 8) := by kernel_rfl
end Go.Proofs.YtfdnfllefednjaaDoor

/-
  What Map does to words of frames that are no tables.
-/
namespace Go.Proofs.YtfdnfllefednjaaDoor

/-- behind a Map that was done, words of frames that are no tables are as they were -/
theorem SpInv.map_words {s : Sp} {m : Mem} {b : Bud} {Y : Nat × Nat → Prop} (h : SpInv s m b Y) {q f : Int} {wb : Bool} {x : Int} {m' : Mem} {b' : Bud} (hM : MapTo m b s.root q f wb x m' b') (s' : Sp) (hsr : s'.root = s.root)
    (hE : ∀ qn : Nat, q = qn → x = 0 → ∀ l d, l ≤ 2 → s'.E l d = if s.dep qn ≤ l ∧ d = nd qn l then tbE ((b.al (3 - s.dep qn)).1.getD (l - s.dep qn) 0 : Nat) else s.E l d) :
    ∀ g p : Nat, g < m.n → p < 16 → (x = 0 → ∀ l d, l ≤ 2 → s'.on l d = true → s'.fr l d ≠ (g : Nat)) → m'.word (g : Nat) (p : Nat) = m.word (g : Nat) (p : Nat) := by
  cases hM with
  | arg h1 => exact fun _ _ _ _ _ => rfl
  | twice h1 h2 => exact fun _ _ _ _ _ => rfl
  | walk h1 h2 h3 => exact fun _ _ _ _ _ => rfl
  | mem h1 h2 h3 => exact fun _ _ _ _ _ => rfl
  | yes hx h10 k hk hl n0 hN L hL =>
    have hB : m.wB s.root q = true := by
      cases hb : m.wB s.root q
      · have := (m.walk_no s.root q hb).2.1; omega
      · rfl
    have hpg : 0 ≤ q ∧ q ≤ 4095 := by
      unfold Mem.wB pageB at hB
      simp at hB
      omega
    obtain ⟨qn, rfl⟩ := Int.eq_ofNat_of_zero_le hpg.1
    have hq : qn < 4096 := by omega
    obtain ⟨w1, w2, w3, w4⟩ := Sp.walk h.i h.ok h.hn hq
    have hf : 0 ≤ f ∧ f < m.n := by unfold Mem.ex at hx; simp at hx; omega
    have hv : (s.E 3 qn).v = false := by
      cases hv : (s.E 3 qn).v
      · rfl
      · rw [w2, hv] at h10; simp at h10
    have hdb := s.dep_bd qn
    rw [w1] at hN hk
    have ha := al_ok h.bk k hl
    obtain ⟨c, hc⟩ : ∃ c, c = (b.al k).1 := ⟨_, rfl⟩
    rw [← hc] at ha hL
    have hcn : ∀ f, f ∈ c → f < m.n := fun f hf => by have := (ha.fr f hf).1; have := h.bn; omega
    have hfr : ∀ f, f ∈ c → ∀ l d, l ≤ 2 → s.on l d = true → s.fr l d ≠ (f : Nat) := fun f hf l d hl ho => h.free_fr (ha.fr f hf).2 hl ho
    have hcl : ∀ f p : Nat, f < m.n → p < 16 → (m.clears c).word (f : Nat) (p : Nat) = if f ∈ c then 0 else m.word (f : Nat) (p : Nat) := fun f p hf hp => m.clears_word h.mo c hcn f p hf hp
    have hIn : s.In (m.clears c) := by
      intro l d p hl ho hp
      have hb := h.ok.frb ho
      obtain ⟨g, hg⟩ := Int.eq_ofNat_of_zero_le hb.1
      rw [← h.i l d p hl ho hp, hg, hcl g p (by omega) hp, if_neg]
      intro hgc
      exact hfr g hgc l d hl ho hg
    have h0 : LK s (m.clears c) c qn n0 0 (m.clears c) (m.wF s.root qn n0) s := by
      refine ⟨by rw [Mem.clears_n]; exact h.ok, hIn, m.clears_ok h.mo c, m.clears_good h.mo h.hg c, rfl, rfl, rfl, s.dep_on hq _ (by omega), w4 n0 (by omega), ?_, fun _ => rfl, fun l d _ => by rw [if_neg (by omega)], ?_, ?_, fun _ _ _ _ => rfl, fun l h1 h2 => by omega, fun _ _ _ _ _ => rfl⟩
      · intro l h1 h2
        by_cases e : l = 3
        · subst e; rw [nd3]; exact hv
        · have := Sp.dep_off h.ok (q := qn) l (by omega) (by omega)
          obtain ⟨l', rfl⟩ : ∃ l', l = l' + 1 := ⟨l - 1, by omega⟩
          rwa [s.onS] at this
      · intro i _ hi p hp
        rw [hcl _ p (hcn _ (getD_mem hi)) hp, if_pos (getD_mem hi)]
      · intro l d hl
        exact ⟨.inl, fun x => x.elim id (fun y => by omega)⟩
    obtain ⟨t, ht⟩ := LK.all hq (by rw [Mem.clears_n]; exact h.hn) (by rw [Mem.clears_n]; exact hcn) ha.nd hfr h0 k (by omega) (by rw [ha.len]; exact Nat.le_refl _)
    have hLt : LK s (m.clears c) c qn n0 k L.1 L.2 t := by rw [hL]; exact ht
    clear ht h0
    have hk2 : n0 + k = 2 := by omega
    have ho2 : t.on 2 (nd qn 2) = true := by have := hLt.on; rwa [hk2] at this
    have hy2 : L.2 = t.fr 2 (nd qn 2) := by have := hLt.y; rwa [hk2] at this
    have hn' := hLt.n
    rw [Mem.clears_n] at hn'
    have hp : nd qn 3 % 16 < 16 := Nat.mod_lt _ (by decide)
    have hst := nd_step qn 2 (by omega)
    have hidx := idx_nat qn 2 hq (by omega)
    have h33 : nd qn (2 + 1) = qn := nd3 qn
    rw [h33] at hst hidx
    rw [nd3] at hp
    have heok : En.ok ⟨true, wb, false, f⟩ = true := by
      unfold En.ok rightB
      have := h.hn
      simp; omega
    have hs : L.1.slot L.2 (idxI qn 2) = true := by
      have := hLt.ok.frb ho2
      rw [show idxI (qn : Nat) 2 = ((qn % 16 : Nat) : Int) from hidx, hy2, Mem.slot_iff]
      omega
    have hpB : L.1.putB L.2 (idxI qn 2) ⟨true, wb, false, f⟩ = true := by unfold Mem.putB; rw [hs, heok]; rfl
    have hok3 := hLt.ok.page ho2 hp ⟨true, wb, false, f⟩ rfl rfl hf.1 (by rw [hn']; exact hf.2)
    have hin3 := hLt.i.set hLt.ok hLt.mo (l := 2) (by omega) ho2 hp ⟨true, wb, false, f⟩ heok (fun h2 => by omega)
    rw [hst] at hok3 hin3
    rw [← hy2, ← hidx] at hin3
    have hdk : 3 - s.dep qn = k := by omega
    intro g p hg hp' hno
    have hx0 : errB (L.1.putB L.2 (idxI (qn : Nat) 2) ⟨true, wb, false, f⟩) = 0 := by unfold errB; rw [hpB]; rfl
    have hE' := hE qn rfl hx0
    have hno' := hno hx0
    have htE : ∀ l d, l ≤ 2 → t.E l d = s'.E l d := by
      intro l d hl'
      rw [hLt.e12 l d hl', hE' l d hl', hdk, ← hc]
      by_cases hx' : s.dep qn ≤ l ∧ d = nd qn l
      · rw [if_pos hx', if_pos ⟨by omega, by omega, hx'.2⟩, show l - n0 - 1 = l - s.dep qn from by omega]
      · rw [if_neg hx', if_neg (fun y => hx' ⟨by omega, y.2.2⟩)]
    have htf : ∀ l d, l ≤ 2 → t.on l d = s'.on l d ∧ t.fr l d = s'.fr l d := by
      intro l d hl'
      cases l with
      | zero => exact ⟨rfl, by show t.root = s'.root; rw [hLt.rt, hsr]⟩
      | succ l => rw [Sp.onS, Sp.onS, Sp.frS, Sp.frS, htE _ _ hl']; exact ⟨rfl, rfl⟩
    have hne : ∀ l d, l ≤ 2 → t.on l d = true → t.fr l d ≠ (g : Nat) := by
      intro l d hl' ho
      obtain ⟨e1, e2⟩ := htf l d hl'
      rw [e2]
      exact hno' l d hl' (by rw [← e1]; exact ho)
    have hnc : g ∉ c := by
      intro hgc
      obtain ⟨i, hi, hgi⟩ := List.getElem_of_mem hgc
      have hik : i < k := by rw [← ha.len]; exact hi
      have h1 := hLt.new (n0 + 1 + i) (by omega) (by omega)
      have h2 : t.on (n0 + 1 + i) (nd qn (n0 + 1 + i)) = true := (hLt.tab _ _ (by omega)).2 (.inr ⟨by omega, by omega, rfl⟩)
      refine hne _ _ (by omega) h2 ?_
      rw [h1, show n0 + 1 + i - n0 - 1 = i from by omega, List.getD_eq_getElem?_getD, List.getElem?_eq_getElem hi, hgi]
      rfl
    rw [L.1.word_put hLt.mo _ _ _ _ _ hs (by rw [Mem.slot_iff, hn']; omega) heok, if_neg (fun e => hne 2 _ (by omega) ho2 (hy2 ▸ e.1.symm)), hLt.words g p (by rw [Mem.clears_n]; exact hg) hp' hne, hcl _ p hg hp', if_neg hnc]
end Go.Proofs.YtfdnfllefednjaaDoor

/-
  Frames that are no tables hold noughts: kept by Map, Unmap and Protect.
-/
namespace Go.Proofs.YtfdnfllefednjaaDoor
open Go.ChangeShapes Go.WideShapes Go.ChangeAt Go.RowKit Go.Shelf Go.Sort

/-- words of frames that are no tables are noughts -/
def Zs (s : Sp) (m : Mem) : Prop := ∀ g p : Nat, g < m.n → p < 16 → (∀ l d, l ≤ 2 → s.on l d = true → s.fr l d ≠ (g : Nat)) → m.word (g : Nat) (p : Nat) = 0
/-- what Unmap's steps do to words and to the given blocks -/
structure UnZ (m : Mem) (b : Bud) (t : Mem × Bud) : Prop where
  n : t.1.n = m.n
  ok : t.1.ok
  w : ∀ g p : Nat, g < m.n → p < 16 → t.1.word (g : Nat) (p : Nat) = m.word (g : Nat) (p : Nat) ∨ t.1.word (g : Nat) (p : Nat) = 0
  sub : ∀ x, x ∈ t.2.gave → x ∈ b.gave
  z : ∀ g : Nat, g < m.n → ((g, 0) : Nat × Nat) ∈ b.gave → ((g, 0) : Nat × Nat) ∉ t.2.gave → ∀ p : Nat, p < 16 → t.1.word (g : Nat) (p : Nat) = 0
theorem word_put0 (m : Mem) (hk : m.ok) (f p : Int) (g q : Nat) (hg : g < m.n) (hq : q < 16) : (m.put f p En.zero).word (g : Nat) (q : Nat) = m.word (g : Nat) (q : Nat) ∨ (m.put f p En.zero).word (g : Nat) (q : Nat) = 0 := by
  cases hs : m.slot f p
  · left
    unfold Mem.put Mem.putB
    rw [hs]
    simp
  · rw [m.word_put hk f p En.zero _ _ hs (by rw [Mem.slot_iff]; omega) rfl]
    split
    · exact .inr rfl
    · exact .inl rfl
theorem UnZ.put {m : Mem} {b : Bud} {t : Mem × Bud} (h : UnZ m b t) (f p : Int) : UnZ m b (t.1.put f p En.zero, t.2) := by
  have hw : ∀ g q : Nat, g < m.n → q < 16 → (t.1.put f p En.zero).word (g : Nat) (q : Nat) = t.1.word (g : Nat) (q : Nat) ∨ (t.1.put f p En.zero).word (g : Nat) (q : Nat) = 0 := fun g q hg hq => word_put0 t.1 h.ok f p g q (by rw [h.n]; exact hg) hq
  refine ⟨by show (t.1.put f p En.zero).n = _; rw [Mem.put_n, h.n], Mem.put_ok _ h.ok _ _ _, fun g q hg hq => ?_, h.sub, fun g hg h1 h2 q hq => ?_⟩
  · rcases hw g q hg hq with e | e
    · rcases h.w g q hg hq with e2 | e2
      · exact .inl (e.trans e2)
      · exact .inr (e.trans e2)
    · exact .inr e
  · rcases hw g q hg hq with e | e
    · exact e.trans (h.z g hg h1 h2 q hq)
    · exact e
theorem UnZ.free {m : Mem} {b : Bud} {t : Mem × Bud} (h : UnZ m b t) (f : Int) : UnZ m b (unFree f t) := by
  unfold unFree
  split
  · rename_i hc
    have hw : ∀ g q : Nat, g < m.n → q < 16 → (t.1.scrub f 1).word (g : Nat) (q : Nat) = t.1.word (g : Nat) (q : Nat) ∨ (t.1.scrub f 1).word (g : Nat) (q : Nat) = 0 := by
      intro g q hg hq
      cases he : t.1.ex f 1
      · left; unfold Mem.scrub; rw [he]; rfl
      · rw [Mem.word_scrub _ h.ok _ _ _ he (by rw [Mem.slot_iff, h.n]; omega)]
        split
        · exact .inr rfl
        · exact .inl rfl
    refine ⟨by show (t.1.scrub f 1).n = _; rw [Mem.scrub_n, h.n], Mem.ok_scrub _ h.ok _ _, fun g q hg hq => ?_, fun x hx => h.sub x (List.mem_of_mem_erase hx), fun g hg h1 h2 q hq => ?_⟩
    · rcases hw g q hg hq with e | e
      · rcases h.w g q hg hq with e2 | e2
        · exact .inl (e.trans e2)
        · exact .inr (e.trans e2)
      · exact .inr e
    · by_cases e : g = f.toNat
      · have he : t.1.ex f 1 = true := decide_eq_true (by have := h.n; omega)
        rw [Mem.word_scrub _ h.ok _ _ _ he (by rw [Mem.slot_iff, h.n]; omega), if_pos (by omega)]
      · have h3 : ((g, 0) : Nat × Nat) ∉ t.2.gave := fun hm => h2 ((List.mem_erase_of_ne (fun c => e (Prod.mk.inj c).1)).2 hm)
        rcases hw g q hg hq with e2 | e2
        · exact e2.trans (h.z g hg h1 h3 q hq)
        · exact e2
  · exact h
theorem unFold_z (root : Int) (F P : Nat → Int) {m : Mem} (b : Bud) (hk : m.ok) : ∀ l : List Nat, UnZ m b (unFold root F P (m, b) l).1 := by
  intro l
  induction l using snoc_induction with
  | h0 => exact ⟨rfl, hk, fun _ _ _ _ => .inl rfl, fun _ h => h, fun _ _ h1 h2 => absurd h1 h2⟩
  | h1 l k ih =>
    rw [unFold_snoc]
    show UnZ m b (unStep root F P (unFold root F P (m, b) l).1 k)
    unfold unStep
    split
    · exact ih.put _ _
    · exact (ih.put _ _).free _
theorem Zs.unmap {s s' : Sp} {m m' : Mem} {b b' : Bud} (h : SpInv s m b (fun _ => False)) (h' : SpInv s' m' b' (fun _ => False)) (z : Zs s m) (u : UnZ m b (m', b')) : Zs s' m' := by
  intro g p hg hp hno
  have hg' : g < m.n := by rw [← u.n]; exact hg
  by_cases ht : ∃ l d, l ≤ 2 ∧ s.on l d = true ∧ s.fr l d = (g : Nat)
  · obtain ⟨l, d, hl, ho, hf⟩ := ht
    have h1 := h.has hl ho
    rw [hf, Int.toNat_natCast] at h1
    refine u.z g hg' h1 (fun hm => ?_) p hp
    rcases (h'.gv _).1 hm with ⟨l2, d2, hl2, ho2, e⟩ | hy
    · have := h'.ok.frb ho2
      exact hno l2 d2 hl2 ho2 (by have := (Prod.mk.inj e).1; omega)
    · exact hy
  · have hz := z g p hg' hp (fun l d hl ho e => ht ⟨l, d, hl, ho, e⟩)
    rcases u.w g p hg' hp with e | e
    · exact e.trans hz
    · exact e
end Go.Proofs.YtfdnfllefednjaaDoor

/-
  Map and Unmap over whole spaces, with noughts in all frames that are no tables.
-/
namespace Go.Proofs.YtfdnfllefednjaaDoor
open Go.ChangeShapes Go.WideShapes Go.ChangeAt Go.RowKit Go.Shelf Go.Sort

/-- nobody else -/
abbrev Yn : Nat × Nat → Prop := fun _ => False
theorem spc_map_z {w : World} {S MA A GB MB : Nat} {s : Sp} {m : Mem} {b : Bud} (h : Spc w S MA A GB MB s m b Yn) (z : Zs s m) (q f : Int) (wb : Bool) (hf : (Lit.int .i64 f).wf = true) :
    Calls Tryd.prog 30 #[.pointer (some ⟨S, 0, none⟩), .int .i64 q, .int .i64 f, .bool wb] w fun e w' =>
      ∃ x s' m' b', e = .returned (.int .i64 x) ∧ Spc w' S MA A GB MB s' m' b' Yn ∧ Upd (fun k => k = GB ∨ k = MB) w w' ∧ MapR s m b Yn q f wb x s' m' b' ∧ Zs s' m' := by
  refine (smap_any S MA A GB s.root m b q f wb w h.S h.D h.T h.I.hg hf).mono ?_
  rintro e w' ⟨x, m', b', rfl, hM, d, u⟩
  rw [h.B] at u
  have hx := h.I.mapX hM
  rcases h.I.map hM with ⟨h0, rfl, rfl, _⟩ | ⟨h0, qn, hq, hq', hf', hv, hl, hb, hn, hB, hw, s', hI, hr, hE, hE12⟩
  · exact ⟨x, s, m', b', rfl, ⟨h.S.kept u h.own, d, h.T.keptS u h.tab, h.I, h.B⟩, u, ⟨hx, rfl, rfl, SameW.refl _ _, .inl ⟨h0, rfl, rfl, rfl⟩, fun e => absurd e h0⟩, z⟩
  · have hE2 : ∀ q2 : Nat, q = q2 → ∀ l d, l ≤ 2 → s'.E l d = if s.dep q2 ≤ l ∧ d = nd q2 l then tbE ((b.al (3 - s.dep q2)).1.getD (l - s.dep q2) 0 : Nat) else s.E l d := fun q2 e2 => by
      have e3 : qn = q2 := by omega
      rw [← e3]
      exact hE12
    refine ⟨x, s', m', b', rfl, ⟨by rw [hr]; exact h.S.kept u h.own, d, h.T.keptS u h.tab, hI, by rw [hB]; exact h.B⟩, u, ⟨hx, hn, by rw [hb]; exact (al_ok h.I.bk _ hl).res, hw, .inr ⟨h0, qn, hq, hq', hf', hv, hl, hb, hr, hE⟩, fun _ => hE2⟩, ?_⟩
    intro g p hg hp hno
    rw [hn] at hg
    rw [h.I.map_words hM s' hr (fun q2 e2 _ => hE2 q2 e2) g p hg hp (fun _ => hno)]
    refine z g p hg hp fun l dd hl2 ho => ?_
    cases l with
    | zero =>
      have := hno 0 dd (by omega) (by rw [← ho]; rfl)
      rw [s.fr0]
      rwa [s'.fr0, hr] at this
    | succ l =>
      have hoS := ho
      rw [s.onS] at hoS
      have hEq : s'.E (l + 1) dd = s.E (l + 1) dd := by
        rw [hE12 _ _ hl2, if_neg]
        rintro ⟨c1, rfl⟩
        have := Sp.dep_off h.I.ok (q := qn) (l + 1) c1 hl2
        rw [this] at ho
        cases ho
      have := hno (l + 1) dd hl2 (by rw [s'.onS, hEq]; exact hoS)
      rw [s.frS]
      rwa [s'.frS, hEq] at this
theorem spc_unmap_z {w : World} {S MA A GB MB : Nat} {s : Sp} {m : Mem} {b : Bud} (h : Spc w S MA A GB MB s m b Yn) (z : Zs s m) (q : Int) :
    Calls Tryd.prog 31 #[.pointer (some ⟨S, 0, none⟩), .int .i64 q] w fun e w' =>
      ∃ f x s' m' b', e = .returned (.tuple #[.int .i64 f, .int .i64 x]) ∧ Spc w' S MA A GB MB s' m' b' Yn ∧ Upd (fun k => k = GB ∨ k = MB) w w' ∧ UnR s m b Yn q f x s' m' b' ∧ Zs s' m' := by
  refine (sunmap_any S MA A GB s.root m b q w h.S h.D h.T h.I.hg (frame_wf h.I.hn ⟨h.I.ok.rlo, h.I.ok.rhi⟩)).mono ?_
  have hx := h.I.wX q
  rintro e w' (⟨h0, rfl, u⟩ | ⟨h0, pre, hp, hend, hgo, rfl, d, u⟩)
  · exact ⟨0, _, s, m, b, rfl, h.still u, u.none, ⟨hx, rfl, rfl, SameW.refl _ _, .inl ⟨h0, rfl, rfl, rfl, rfl⟩, fun _ _ _ => .inl rfl⟩, z⟩
  · rw [h.B] at u
    have hz := unFold_z s.root (m.wF s.root q) (fun k => idxI q k) b h.I.mo pre
    obtain ⟨qn, hq, hq', hv, hE, hn, hB, hbn, hres, hw, s', hI, hr, hE', hE12⟩ := h.I.unmap h0 hp hend hgo rfl
    exact ⟨_, 0, s', _, _, rfl, ⟨by rw [hr]; exact h.S.kept u h.own, d, h.T.keptS u h.tab, hI, by rw [hB]; exact h.B⟩, u, ⟨h0.symm.trans hx, hn, hres, hw, .inr ⟨rfl, qn, hq, hq', hv, by rw [hE], hr, hE'⟩, hE12⟩, Zs.unmap h.I hI z hz⟩
end Go.Proofs.YtfdnfllefednjaaDoor

/-
  Protect over whole spaces, with noughts in all frames that are no tables.
-/
namespace Go.Proofs.YtfdnfllefednjaaDoor
open Go.ChangeShapes Go.WideShapes Go.ChangeAt Go.RowKit Go.Shelf Go.Sort

theorem SpInv.protect_z {s : Sp} {m : Mem} {b : Bud} {Y : Nat × Nat → Prop} (h : SpInv s m b Y) {q : Int} (hx : m.wX s.root q = 0) (wb : Bool) :
    ∃ qn : Nat, q = qn ∧ qn < 4096 ∧ (s.E 3 qn).v = true ∧ m.putB (m.wF s.root q 2) (idxI q 2) { m.wE s.root q with r := wb } = true ∧ SameW Y m (m.put (m.wF s.root q 2) (idxI q 2) { m.wE s.root q with r := wb }) ∧
      ∃ s', SpInv s' (m.put (m.wF s.root q 2) (idxI q 2) { m.wE s.root q with r := wb }) b Y ∧ s'.root = s.root ∧ (∀ q', s'.E 3 q' = if q' = qn then { s.E 3 qn with r := wb } else s.E 3 q') ∧ (∀ l d, l ≤ 2 → s'.E l d = s.E l d) ∧
        (∀ g p : Nat, g < m.n → p < 16 → (∀ l d, l ≤ 2 → s.on l d = true → s.fr l d ≠ (g : Nat)) → (m.put (m.wF s.root q 2) (idxI q 2) { m.wE s.root q with r := wb }).word (g : Nat) (p : Nat) = m.word (g : Nat) (p : Nat)) := by
  obtain ⟨qn, rfl, hq, hv, hE, hF, hon⟩ := h.found hx
  rw [hE, hF 2 (by omega)]
  have ho2 := hon 2 (by omega)
  have hidx := idx_nat qn 2 hq (by omega)
  rw [show nd qn (2 + 1) = qn from nd3 qn] at hidx
  rw [show idxI (qn : Nat) 2 = ((qn % 16 : Nat) : Int) from hidx]
  have hst := nd_step qn 2 (by omega)
  rw [show nd qn (2 + 1) = qn from nd3 qn] at hst
  have hp : qn % 16 < 16 := Nat.mod_lt _ (by decide)
  have hf := h.ok.f _ _ hv
  have heok : En.ok { s.E 3 qn with r := wb } = true := by
    unfold En.ok rightB
    have h1 := h.hn
    have h2 := h.ok.pg _ hv
    simp [hv, h2]; omega
  have hs : m.slot (s.fr 2 (nd qn 2)) ((qn % 16 : Nat) : Int) = true := by rw [Mem.slot_iff]; have := h.ok.frb ho2; omega
  have hok := h.ok.page ho2 hp { s.E 3 qn with r := wb } hv (h.ok.pg _ hv) hf.1 hf.2
  have hin := h.i.set h.ok h.mo (l := 2) (by omega) ho2 hp { s.E 3 qn with r := wb } heok (fun h2 => by omega)
  rw [hst] at hok hin
  have hE3 : ∀ q', (s.set 3 qn { s.E 3 qn with r := wb }).E 3 q' = if q' = qn then { s.E 3 qn with r := wb } else s.E 3 q' := by
    intro q'
    by_cases e : q' = qn
    · rw [if_pos e, e, Sp.set_same]
    · rw [if_neg e, s.set_ne _ (by omega)]
  have honn : ∀ l d, l ≤ 2 → (s.set 3 qn { s.E 3 qn with r := wb }).on l d = s.on l d := fun l d hl => s.set_on _ (by omega)
  have hfrn : ∀ l d, l ≤ 2 → (s.set 3 qn { s.E 3 qn with r := wb }).fr l d = s.fr l d := fun l d hl => s.set_fr _ (by omega)
  refine ⟨qn, rfl, hq, hv, by unfold Mem.putB; rw [hs, heok]; rfl, SameW.put h.ok h.mo (fun x hx => h.ylt hx) (fun x hx l d => h.y_fr hx) (by omega) ho2 hp _ heok, s.set 3 qn { s.E 3 qn with r := wb }, ⟨by rw [Mem.put_n]; exact hok, hin, ?_, Mem.put_ok _ h.mo _ _ _, Mem.put_good _ h.mo h.hg _ _ _, h.bk, by rw [Mem.put_n]; exact h.bn, h.y0, ?_, ?_⟩, rfl, hE3, fun l d hl => s.set_ne _ (by omega), fun g p hg hp' hno => by rw [m.word_put h.mo _ _ _ _ _ hs (by rw [Mem.slot_iff]; omega) heok, if_neg (fun c => hno 2 _ (by omega) ho2 c.1.symm)]⟩
  · intro l d h1 h2 ho
    rw [honn l d h2] at ho
    obtain ⟨p, hp', hc⟩ := h.nee l d h1 h2 ho
    refine ⟨p, hp', ?_⟩
    by_cases e : l = 2
    · subst e
      rw [hE3]
      split
      · exact hv
      · exact hc
    · rw [s.set_ne _ (by omega)]; exact hc
  · intro x
    rw [h.gv]
    constructor
    · rintro (⟨l, d, hl, ho, rfl⟩ | hy)
      · exact .inl ⟨l, d, hl, by rw [honn l d hl]; exact ho, by rw [hfrn l d hl]⟩
      · exact .inr hy
    · rintro (⟨l, d, hl, ho, rfl⟩ | hy)
      · exact .inl ⟨l, d, hl, by rw [← honn l d hl]; exact ho, by rw [hfrn l d hl]⟩
      · exact .inr hy
  · intro l d hl ho
    rw [honn l d hl] at ho
    rw [hfrn l d hl]
    exact h.ap l d hl ho
theorem spc_protect_z {w : World} {S MA A GB MB : Nat} {s : Sp} {m : Mem} {b : Bud} (h : Spc w S MA A GB MB s m b Yn) (z : Zs s m) (q : Int) (wb : Bool) :
    Calls Tryd.prog 32 #[.pointer (some ⟨S, 0, none⟩), .int .i64 q, .bool wb] w fun e w' =>
      ∃ x s' m', e = .returned (.int .i64 x) ∧ Spc w' S MA A GB MB s' m' b Yn ∧ Upd (fun k => k = GB ∨ k = MB) w w' ∧ PrR s m Yn q wb x s' m' ∧ (∀ l d, l ≤ 2 → s'.E l d = s.E l d) ∧ Zs s' m' := by
  refine (sprotect_any S MA A s.root m q wb w h.S h.D.M h.T h.I.hg).mono ?_
  have hx := h.I.wX q
  rintro e w' (⟨h0, rfl, u⟩ | ⟨h0, rfl, hm, u⟩)
  · exact ⟨_, s, m, rfl, h.still u, u.none, ⟨hx, rfl, SameW.refl _ _, .inl ⟨h0, rfl, rfl⟩⟩, fun _ _ _ => rfl, z⟩
  · obtain ⟨qn, hq, hq', hv, hpB, hw, s', hI, hr, hE, hE12, hww⟩ := h.I.protect_z h0 wb
    have d := h.D.cleared hm u (Mem.put_n _ _ _ _)
    have u' : Upd (fun k => k = GB ∨ k = MB) w w' := u.mono (fun _ _ e => .inr (e.trans h.B))
    have hof : ∀ l d, l ≤ 2 → s'.on l d = s.on l d ∧ s'.fr l d = s.fr l d := by
      intro l d hl
      cases l with
      | zero => exact ⟨rfl, hr⟩
      | succ l => rw [Sp.onS, Sp.onS, Sp.frS, Sp.frS, hE12 _ _ hl]; exact ⟨rfl, rfl⟩
    refine ⟨0, s', _, by rw [hpB]; rfl, ⟨by rw [hr]; exact h.S.kept u' h.own, d, h.T.keptS u' h.tab, hI, by rw [Mem.put_B]; exact h.B⟩, u', ⟨h0.symm.trans hx, Mem.put_n _ _ _ _, hw, .inr ⟨rfl, qn, hq, hq', hv, hr, hE⟩⟩, hE12, ?_⟩
    intro g p hg hp hno
    rw [Mem.put_n] at hg
    have hno' : ∀ l d, l ≤ 2 → s.on l d = true → s.fr l d ≠ (g : Nat) := fun l d hl ho => by
      obtain ⟨e1, e2⟩ := hof l d hl
      rw [← e2]
      exact hno l d hl (by rw [e1]; exact ho)
    rw [hww g p hg hp hno']
    exact z g p hg hp hno'
/-- two memories of one space, with noughts elsewhere, have the same words -/
theorem same_words {s : Sp} {m m' : Mem} (hi : s.In m) (hi' : s.In m') (z : Zs s m) (z' : Zs s m') (hn : m'.n = m.n) (hk : m.ok) (hk' : m'.ok) : m'.ws = m.ws := by
  have hl : m'.ws.length = m.ws.length := by have h1 : m.ws.length = 16 * m.n := hk; have h2 : m'.ws.length = 16 * m'.n := hk'; omega
  apply List.ext_getElem hl
  intro i h1 h2
  have hm : m.ws.length = 16 * m.n := hk
  have hg : i / 16 < m.n := by omega
  have hp : i % 16 < 16 := Nat.mod_lt _ (by decide)
  have key : m'.word ((i / 16 : Nat) : Int) ((i % 16 : Nat) : Int) = m.word ((i / 16 : Nat) : Int) ((i % 16 : Nat) : Int) := by
    by_cases ht : ∃ l d, l ≤ 2 ∧ s.on l d = true ∧ s.fr l d = ((i / 16 : Nat) : Int)
    · obtain ⟨l, d, hl, ho, hf⟩ := ht
      rw [← hf, hi' l d _ hl ho hp, hi l d _ hl ho hp]
    · have hno : ∀ l d, l ≤ 2 → s.on l d = true → s.fr l d ≠ ((i / 16 : Nat) : Int) := fun l d hl ho e => ht ⟨l, d, hl, ho, e⟩
      rw [z' _ _ (by omega) hp hno, z _ _ hg hp hno]
  rw [Mem.word_nat, Mem.word_nat, show 16 * (i / 16) + i % 16 = i from by omega] at key
  unfold Mem.at at key
  rw [List.getD_eq_getElem?_getD, List.getD_eq_getElem?_getD, List.getElem?_eq_getElem h1, List.getElem?_eq_getElem h2] at key
  exact key
end Go.Proofs.YtfdnfllefednjaaDoor

/-
  The document's own spaces: New.
-/
namespace Go.Proofs.YtfdnfllefednjaaDoor
open Go.ChangeShapes Go.WideShapes Go.ChangeAt Go.RowKit Go.Shelf Go.Sort

end Go.Proofs.YtfdnfllefednjaaDoor

/-
  The document's own spaces: Protect.
-/
namespace Go.Proofs.YtfdnfllefednjaaDoor
open Go.ChangeShapes Go.WideShapes Go.ChangeAt Go.RowKit Go.Shelf Go.Sort

/-- one cell of a row of the call's own is stored -/
theorem rows_store {w : World} {base sz k cap g : Nat} {e : TypeId} {xs : List Value} (h : w.ownsRow base e sz (.slice (some ⟨g, 0, none⟩) k cap) k xs) (i : Nat) (v : Value) (_hi : i < xs.length) :
    (w.setCell ⟨g, i, none⟩ v).ownsRow base e sz (.slice (some ⟨g, 0, none⟩) k cap) k (xs.set i v) := by
  rcases h with ⟨hl, ⟨h1, _⟩ | ⟨g', cap', cur, h1, hb, hg, hc, hm, hs, ht⟩⟩
  · cases h1
  · simp only [Value.slice.injEq] at h1
    obtain ⟨e1, _, rfl⟩ := h1
    obtain rfl : g = g' := by simpa using e1
    refine ⟨by rw [List.length_set]; exact hl, .inr ⟨g, cap, (cur.toList.set i v).toArray, rfl, hb, ?_, hc, hm, by simp [hs], ?_⟩⟩
    · exact heap_setCell_same (C := cur.toList) (by simpa using hg) i v
    · show (cur.toList.set i v).take (k * sz) = xs.set i v
      rw [List.take_set, ht]
/-- a page's right to write, set -/
def Sp.prot (s : Sp) (j : Nat) (wb : Bool) : Sp := s.set 3 j { s.E 3 j with r := wb }
theorem Sp.prot_E3 (s : Sp) (j : Nat) (wb : Bool) (q : Nat) : (s.prot j wb).E 3 q = if q = j then { s.E 3 j with r := wb } else s.E 3 q := by
  unfold Sp.prot
  by_cases e : q = j
  · rw [if_pos e, e, Sp.set_same]
  · rw [if_neg e, s.set_ne _ (by omega)]
theorem Sp.prot_E (s : Sp) (j : Nat) (wb : Bool) (l d : Nat) (h : l ≤ 2) : (s.prot j wb).E l d = s.E l d := s.set_ne _ (by omega)
theorem Sp.prot_pgs (s : Sp) (j : Nat) (wb : Bool) : (s.prot j wb).pgs = s.pgs := by
  unfold Sp.pgs
  first
    | (refine List.filter_congr fun d _ => ?_
       rw [s.prot_E3]
       split
       · rename_i e; rw [e]
       · rfl)
    | (unfold Sp.lev
       refine List.filter_congr fun d _ => ?_
       rw [s.prot_E3]
       split
       · rename_i e; rw [e]
       · rfl)
theorem Sp.prot_on (s : Sp) (j : Nat) (wb : Bool) {l d : Nat} (h : l ≤ 2) : (s.prot j wb).on l d = s.on l d ∧ (s.prot j wb).fr l d = s.fr l d := by
  cases l with
  | zero => exact ⟨rfl, rfl⟩
  | succ l => rw [Sp.onS, Sp.onS, Sp.frS, Sp.frS, s.prot_E _ _ _ _ h]; exact ⟨rfl, rfl⟩
theorem Nodes.prot {s : Sp} {Nd : List (Nat × Nat)} (h : Nodes s Nd) (j : Nat) (wb : Bool) : Nodes (s.prot j wb) Nd :=
  ⟨h.nd, fun x => by
    rw [h.mem]
    constructor
    · rintro ⟨a, b⟩; exact ⟨a, by rw [(s.prot_on j wb a).1]; exact b⟩
    · rintro ⟨a, b⟩; exact ⟨a, by rw [← (s.prot_on j wb a).1]; exact b⟩⟩
theorem Nodes.prot_tb {s : Sp} {Nd : List (Nat × Nat)} (h : Nodes s Nd) (j : Nat) (wb : Bool) : Nd.map (tbOf (s.prot j wb)) = Nd.map (tbOf s) :=
  List.map_congr_left fun x hx => by
    unfold tbOf
    rw [(s.prot_on j wb ((h.mem x).1 hx).1).2]
theorem Sp.prot_pgL (s : Sp) {j i : Nat} (wb : Bool) (hi : s.pgs[i]? = some j) : (s.prot j wb).pgL = s.pgL.set i ⟨j, (s.E 3 j).f, wb⟩ := by
  unfold Sp.pgL
  rw [s.prot_pgs]
  apply List.ext_getElem?
  intro k
  rw [List.getElem?_set, List.getElem?_map, List.getElem?_map, List.length_map]
  by_cases e : i = k
  · subst e
    have hlt : i < s.pgs.length := (List.getElem?_eq_some_iff.1 hi).1
    rw [if_pos rfl, if_pos hlt, hi]
    simp [pgOf, s.prot_E3]
  · rw [if_neg e]
    cases hk : s.pgs[k]? with
    | none => rfl
    | some q =>
      have hne : q ≠ j := by
        rintro rfl
        have h1 := (List.getElem?_eq_some_iff.1 hi)
        have h2 := (List.getElem?_eq_some_iff.1 hk)
        obtain ⟨l1, e1⟩ := h1
        obtain ⟨l2, e2⟩ := h2
        rcases Nat.lt_or_gt_of_ne e with c | c
        · have := List.pairwise_iff_getElem.1 s.pgs_rises i k l1 l2 c; omega
        · have := List.pairwise_iff_getElem.1 s.pgs_rises k i l2 l1 c; omega
      simp [pgOf, s.prot_E3, hne]
theorem pgC_set (L : List RPg) (i : Nat) (x : RPg) (hi : L[i]? = some x) (wb : Bool) : (pgC L).set (i * 3 + 2) (.bool wb) = pgC (L.set i ⟨x.n, x.f, wb⟩) := by
  induction L generalizing i with
  | nil => simp at hi
  | cons y L ih =>
    cases i with
    | zero =>
      obtain rfl : y = x := by simpa using hi
      rfl
    | succ i =>
      have hi' : L[i]? = some x := by simpa using hi
      have := ih i hi'
      show (y.c ++ pgC L).set _ _ = y.c ++ pgC (L.set i _)
      rw [← this, List.set_append_right _ _ (by rw [RPg.c_len]; omega), RPg.c_len, show (i + 1) * 3 + 2 - 3 = i * 3 + 2 from by omega]
end Go.Proofs.YtfdnfllefednjaaDoor

/-
  The document's own spaces: Protect.
-/
namespace Go.Proofs.YtfdnfllefednjaaDoor
open Go.ChangeShapes Go.WideShapes Go.ChangeAt Go.RowKit Go.Shelf Go.Sort

theorem pgC_one (L : List RPg) : ∀ u ∈ pgC L, u.oneCell' = true := by
  intro u hu
  obtain ⟨x, _, hx⟩ := List.mem_flatMap.1 hu
  simp only [RPg.c, List.mem_cons, List.not_mem_nil, or_false] at hx
  rcases hx with rfl | rfl | rfl <;> rfl
theorem rows_frozen {w : World} {base sz k cap g : Nat} {e : TypeId} {xs : List Value} (h : w.ownsRow base e sz (.slice (some ⟨g, 0, none⟩) k cap) k xs) (i : Nat) : w.frozen? ⟨g, i, none⟩ = false := by
  rcases h.2 with ⟨h1, _⟩ | ⟨g', cap', cur, h1, hb, hg, _⟩
  · cases h1
  · simp only [Value.slice.injEq] at h1
    obtain ⟨e1, _, rfl⟩ := h1
    obtain rfl : g = g' := by simpa using e1
    exact frozen_block hg i
theorem pgC_len (L : List RPg) : (pgC L).length = L.length * 3 := flat3_len RPg.c RPg.c_len L
end Go.Proofs.YtfdnfllefednjaaDoor

/-
  Rows of structs as lists: their cells, parts of slices of them, appended onto a new slice.
-/
namespace Go.Proofs.YtfdnfllefednjaaDoor
open Go.RowKit

/-- the cells of a list of structs -/
def listC {α : Type} (c : α → List Value) (l : List α) : List Value := l.flatMap c
section
variable {α : Type} {c : α → List Value} {k : Nat}
theorem listC_nil : listC c [] = [] := rfl
theorem listC_app (l l' : List α) : listC c (l ++ l') = listC c l ++ listC c l' := List.flatMap_append
theorem listC_one (x : α) : listC c [x] = c x := by simp [listC]
theorem listC_len (hk : ∀ a, (c a).length = k) (l : List α) : (listC c l).length = l.length * k := by
  induction l with
  | nil => simp [listC]
  | cons x r ih => rw [show x :: r = [x] ++ r from rfl, listC_app, List.length_append, ih, listC_one, hk, List.length_append, Nat.add_mul]; simp
theorem listC_take (hk : ∀ a, (c a).length = k) (l : List α) (i : Nat) : (listC c l).take (i * k) = listC c (l.take i) := by
  induction l generalizing i with
  | nil => simp [listC]
  | cons x r ih =>
    cases i with
    | zero => simp [listC]
    | succ i =>
      rw [show x :: r = [x] ++ r from rfl, listC_app, listC_one, show (i + 1) * k = k + i * k from by rw [Nat.add_mul]; omega, List.take_append, hk, List.take_of_length_le (by rw [hk]; omega), show k + i * k - k = i * k from by omega, ih]
      show c x ++ listC c (r.take i) = listC c ([x] ++ r.take i)
      rw [listC_app, listC_one]
theorem listC_drop (hk : ∀ a, (c a).length = k) (l : List α) (i : Nat) : (listC c l).drop (i * k) = listC c (l.drop i) := by
  induction l generalizing i with
  | nil => simp [listC]
  | cons x r ih =>
    cases i with
    | zero => simp
    | succ i =>
      rw [show x :: r = [x] ++ r from rfl, listC_app, listC_one, show (i + 1) * k = k + i * k from by rw [Nat.add_mul]; omega, List.drop_append, hk, List.drop_eq_nil_of_le (by rw [hk]; omega), show k + i * k - k = i * k from by omega, ih]
      rfl
theorem listC_get (hk : ∀ a, (c a).length = k) (d : α) (l : List α) (i j : Nat) (hi : i < l.length) (hj : j < k) : (listC c l)[i * k + j]? = (c (l.getD i d))[j]? := by
  have h1 := listC_drop (c := c) hk l i
  have h2 : (listC c l)[i * k + j]? = ((listC c l).drop (i * k))[j]? := by rw [List.getElem?_drop]
  rw [h2, h1, List.drop_eq_getElem_cons hi, show l[i] :: l.drop (i + 1) = [l[i]] ++ l.drop (i + 1) from rfl, listC_app, listC_one, List.getElem?_append_left (by rw [hk]; exact hj)]
  simp [List.getD_eq_getElem?_getD, List.getElem?_eq_getElem hi]
theorem listC_all {p : Value → Prop} (h : ∀ a, ∀ u ∈ c a, p u) (l : List α) : ∀ u ∈ listC c l, p u := by
  intro u hu
  simp only [listC, List.mem_flatMap] at hu
  obtain ⟨a, _, ha⟩ := hu
  exact h a u ha
end
/-- s[:i] -/
theorem cut_to {P : Program} {α : Type} {c : α → List Value} {k : Nat} (hk : ∀ a, (c a).length = k) (T : TypeId) (hu : P.underlying T = some (.slice (P.elem T))) (hz : ∀ w : World, (sizeOf (P.elem T)).run P w = .ok k w) (o : Option Addr) (ln cap i : Nat) (h1 : i ≤ cap) :
    ∃ y, (∀ w : World, (Instr.sliceAt T (.slice o ln cap) none (some (.int .i64 (i : Int))) none).run P w = .ok y w) ∧
    ∀ (w : World) (l : List α), Src w (.slice o ln cap) ln k (listC c l) → i ≤ l.length → l.length = ln → Src w y i k (listC c (l.take i)) := by
  refine ⟨.slice (if cap = 0 then o else o.map (·.add (0 * k))) (i - 0) (cap - 0), fun w => ?_, fun w l hs hi hl => ?_⟩
  · rw [run_sliceAt_slice w _ _ _ _ _ hu, run_slice_h w _ _ _ _ hu _ _ (by omega) (by omega), hz]
    simp [sliced]
  · rcases hs with ⟨h, rfl, h3⟩ | ⟨b, off, q, h, h2, h3⟩
    · simp at h
      obtain ⟨rfl, rfl⟩ := h
      have : i = 0 := by omega
      subst this
      exact .inl ⟨by simp, rfl, by simp [listC]⟩
    · simp at h
      obtain ⟨rfl, rfl⟩ := h
      refine .inr ⟨b, off, cap, by simp [Option.map, add_mid0], by rw [listC_len hk, List.length_take, Nat.min_eq_left hi], fun j u hu => h3 j u ?_⟩
      rw [← listC_take hk, List.getElem?_take] at hu
      split at hu
      · exact hu
      · cases hu
/-- s[i:] -/
theorem cut_from {P : Program} {α : Type} {c : α → List Value} {k : Nat} (hk : ∀ a, (c a).length = k) (T : TypeId) (hu : P.underlying T = some (.slice (P.elem T))) (hz : ∀ w : World, (sizeOf (P.elem T)).run P w = .ok k w) (o : Option Addr) (ln cap i : Nat) (h1 : i ≤ ln) (h2 : ln ≤ cap) :
    ∃ y, (∀ w : World, (Instr.sliceAt T (.slice o ln cap) (some (.int .i64 (i : Int))) none none).run P w = .ok y w) ∧
    ∀ (w : World) (l : List α), Src w (.slice o ln cap) ln k (listC c l) → l.length = ln → Src w y (ln - i) k (listC c (l.drop i)) := by
  refine ⟨.slice (if cap = i then o else o.map (·.add (i * k))) (ln - i) (cap - i), fun w => ?_, fun w l hs hl => ?_⟩
  · rw [run_sliceAt_slice w _ _ _ _ _ hu, run_slice_l w _ _ _ _ hu _ _ (by omega) (by omega), hz]
    simp [sliced]
  · rcases hs with ⟨h, rfl, h3⟩ | ⟨b, off, q, h, h4, h3⟩
    · simp at h
      obtain ⟨rfl, rfl⟩ := h
      have : i = 0 := by omega
      subst this
      exact .inl ⟨by simp, rfl, by simp; exact h3⟩
    · simp at h
      obtain ⟨rfl, rfl⟩ := h
      by_cases hci : cap = i
      · have hz : ln - i = 0 := by omega
        have hd : l.drop i = [] := List.drop_eq_nil_of_le (by omega)
        refine .inr ⟨b, off, cap - i, by simp [hci], by rw [hd, hz]; simp [listC], fun j u hu => ?_⟩
        rw [hd] at hu
        simp [listC] at hu
      · refine .inr ⟨b, off + i * k, cap - i, by simp [hci, add_mid0], by rw [listC_len hk, List.length_drop, hl], fun j u hu => ?_⟩
        rw [Nat.add_assoc]
        refine h3 (i * k + j) u ?_
        rw [← listC_drop hk, List.getElem?_drop] at hu
        exact hu
theorem cut_cap {w : World} {base sz k n cap : Nat} {e : TypeId} {o : Option Addr} {xs : List Value} (h : w.ownsRow base e sz (.slice o n cap) k xs) : k ≤ cap := by
  rcases h.2 with ⟨h1, h2⟩ | ⟨g, cap', cur, h1, _, _, h3, _⟩
  · omega
  · simp at h1; omega
/-- onto a new empty slice: nothing that was there has turned -/
theorem cut_upd {wr w4 : World} {e : TypeId} (g4 : ((wr.alloc (.cells #[] e)).drew).grownBy w4 (Value.slice (some ⟨wr.heap.size, 0, none⟩) 0 0).ownBlock) : Upd (fun _ => False) wr w4 := by
  refine ⟨g4.os, g4.tape, g4.output, by have := g4.size; simp at this; omega, fun k hk _ => ?_⟩
  rw [g4.block k (by simp; omega) (fun e' => by simp [Value.ownBlock] at e'; omega)]
  exact Below.heap_alloc _ _ _ hk
theorem cut_upd2 {wr w4 w5 : World} {v : Value} (u : Upd (fun _ => False) wr w4) (g5 : w4.grownBy w5 v.ownBlock) (h4 : ∀ k, v.ownBlock = some k → wr.heap.size ≤ k) : Upd (fun _ => False) wr w5 :=
  ⟨g5.os.trans u.os, g5.tape.trans u.tape, g5.output.trans u.output, Nat.le_trans u.size g5.size, fun k hk _ => (g5.block k (Nat.lt_of_lt_of_le hk u.size) (fun e' => by have := h4 k e'.symm; omega)).trans (u.block k hk (fun h => h))⟩
/-- 'append([]T{}, ..)': the new empty slice -/
theorem cut_made (w : World) (e : TypeId) (sz : Nat) : (((w.alloc (.cells #[] e)).drew).ownsRow w.heap.size e sz (.slice (some ⟨w.heap.size, 0, none⟩) 0 0) 0 []) :=
  ⟨by simp, .inr ⟨w.heap.size, 0, #[], rfl, Nat.le_refl _, heap_alloc_last w _, Nat.le_refl _, Nat.zero_le _, by simp, by simp⟩⟩
theorem cut_row {w : World} {base sz k : Nat} {e : TypeId} {v : Value} {xs : List Value} (h : w.ownsRow base e sz v k xs) (o : Obj) : ((w.alloc o).drew).ownsRow base e sz v k xs := rows_kept (S := fun _ => False) h ((Upd.refl _ _).alloc _).drew fun _ _ h => h
theorem cut_base {w : World} {b b' sz k : Nat} {e : TypeId} {v : Value} {xs : List Value} (h : w.ownsRow b e sz v k xs) (hb : b' ≤ b) : w.ownsRow b' e sz v k xs := by
  refine ⟨h.1, ?_⟩
  rcases h.2 with hn | ⟨g, cap, cur, h1, h2, rest⟩
  · exact .inl hn
  · exact .inr ⟨g, cap, cur, h1, Nat.le_trans hb h2, rest⟩
end Go.Proofs.YtfdnfllefednjaaDoor

/-
  The document's own spaces: a space with its memory and its allocator; drop.
-/
namespace Go.Proofs.YtfdnfllefednjaaDoor
open Go.ChangeShapes Go.WideShapes Go.ChangeAt Go.RowKit Go.Shelf Go.Sort

theorem rows_ty {w : World} {b1 b2 sz1 sz2 k1 k2 : Nat} {e1 e2 : TypeId} {v1 v2 : Value} {xs1 xs2 : List Value} (h1 : w.ownsRow b1 e1 sz1 v1 k1 xs1) (h2 : w.ownsRow b2 e2 sz2 v2 k2 xs2) (he : e1 ≠ e2) : ∀ j, v1.ownBlock = some j → v2.ownBlock ≠ some j := by
  intro j hj hj2
  rcases h1.2 with ⟨rfl, _⟩ | ⟨g, cap, cur, rfl, _, hg, _⟩
  · cases hj
  · rcases h2.2 with ⟨rfl, _⟩ | ⟨g2, cap2, cur2, rfl, _, hg2, _⟩
    · cases hj2
    · simp only [Value.ownBlock, Option.some.injEq] at hj hj2
      subst hj
      subst hj2
      rw [hg] at hg2
      simp at hg2
      exact he hg2.2
/-- which blocks are which -/
structure DNe (C MC BC FB MB : Nat) (vL vT g : Value) : Prop where
  c : C ≠ MC ∧ C ≠ BC ∧ C ≠ FB ∧ C ≠ MB
  l : ∀ j, vL.ownBlock = some j → j ≠ C ∧ j ≠ MC ∧ j ≠ BC ∧ j ≠ FB ∧ j ≠ MB
  t : ∀ j, vT.ownBlock = some j → j ≠ C ∧ j ≠ MC ∧ j ≠ BC ∧ j ≠ FB ∧ j ≠ MB
  g : ∀ j, g.ownBlock = some j → j ≠ C ∧ j ≠ MC ∧ j ≠ BC ∧ j ≠ FB ∧ j ≠ MB
  m : MC ≠ BC ∧ MC ≠ FB ∧ MB ≠ BC ∧ MB ≠ FB
theorem heap_ne {w : World} {i j : Nat} {c c' : Array Value} {t t' : TypeId} (h : w.heap[i]? = some (.cells c t (0, 0))) (h' : w.heap[j]? = some (.cells c' t' (0, 0))) (hne : t ≠ t') : i ≠ j := by
  rintro rfl
  rw [h] at h'
  simp at h'
  exact hne h'.2
theorem RTb.c_one (x : RTb) : ∀ u ∈ x.c, u.oneCell' = true := by
  intro u hu
  simp only [RTb.c, List.mem_cons, List.not_mem_nil, or_false] at hu
  rcases hu with rfl | rfl | rfl <;> rfl
theorem RPg.c_one (x : RPg) : ∀ u ∈ x.c, u.oneCell' = true := by
  intro u hu
  simp only [RPg.c, List.mem_cons, List.not_mem_nil, or_false] at hu
  rcases hu with rfl | rfl | rfl <;> rfl
end Go.Proofs.YtfdnfllefednjaaDoor

/-
  The document's own spaces: drop.
-/
namespace Go.Proofs.YtfdnfllefednjaaDoor
open Go.ChangeShapes Go.WideShapes Go.ChangeAt Go.RowKit Go.Shelf Go.Sort

/-- a page of a table's, somewhere among the pages -/
def Sp.under (s : Sp) (q l : Nat) : Bool := s.pgs.any fun p => decide (fstI p l = fstI q l)
theorem Sp.pgL_at (s : Sp) {i : Nat} (hi : i < s.pgs.length) : ∃ p, s.pgs[i]? = some p ∧ p < 4096 ∧ s.pgL[i]? = some (pgOf s p) := by
  have h : s.pgs[i]? = some s.pgs[i] := List.getElem?_eq_getElem hi
  refine ⟨s.pgs[i], h, (Sp.mem_pgs.1 (List.getElem_mem hi)).1, ?_⟩
  unfold Sp.pgL
  rw [List.getElem?_map, h]; rfl
theorem fst_eq (q l p : Nat) (a b : Nat) (ha : fstI p l = a) (hb : fstI q l = b) : (((a : Nat) : Int) == ((b : Nat) : Int)) = decide (fstI p l = fstI q l) := by
  rw [ha, hb]
  by_cases h : a = b
  · subst h; simp
  · rw [decide_eq_false h]
    exact beq_false_of_ne (by omega)
end Go.Proofs.YtfdnfllefednjaaDoor

/-
  The document's own spaces, in plain numbers: what becomes of the nodes when a page goes.
-/
namespace Go.Proofs.YtfdnfllefednjaaDoor
open Go.ChangeShapes Go.WideShapes Go.ChangeAt Go.RowKit Go.Shelf Go.Sort

theorem erase_ix {α : Type} [BEq α] [LawfulBEq α] : ∀ {l : List α} {i : Nat} {x : α}, l.Nodup → l[i]? = some x → l.take i ++ l.drop (i + 1) = l.erase x
  | [], i, x, _, h => by simp at h
  | y :: l, 0, x, _, h => by
    obtain rfl : y = x := by simpa using h
    simp
  | y :: l, i + 1, x, hn, h => by
    obtain ⟨h1, h2⟩ := List.nodup_cons.1 hn
    have hx : l[i]? = some x := by simpa using h
    have hne : y ≠ x := fun e => h1 (e ▸ List.mem_of_getElem? hx)
    rw [List.erase_cons_tail (by simpa using hne), ← erase_ix h2 hx]
    simp
def dropN (c : Bool) (Nd : List (Nat × Nat)) (x : Nat × Nat) : List (Nat × Nat) := if c = true then Nd else Nd.erase x
theorem dropN_nd {c : Bool} {Nd : List (Nat × Nat)} {x : Nat × Nat} (h : Nd.Nodup) : (dropN c Nd x).Nodup := by
  unfold dropN
  split
  · exact h
  · exact h.erase _
theorem mem_dropN {c : Bool} {Nd : List (Nat × Nat)} {x y : Nat × Nat} (h : Nd.Nodup) : y ∈ dropN c Nd x ↔ y ∈ Nd ∧ (y = x → c = true) := by
  unfold dropN
  split
  · rename_i hc
    exact ⟨fun a => ⟨a, fun _ => hc⟩, fun a => a.1⟩
  · rename_i hc
    rw [h.mem_erase_iff]
    exact ⟨fun a => ⟨a.2, fun e => absurd e a.1⟩, fun a => ⟨fun e => hc (a.2 e), a.1⟩⟩
theorem map_take_drop {α β : Type} (f : α → β) (l : List α) (i : Nat) : (l.map f).take i ++ (l.map f).drop (i + 1) = (l.take i ++ l.drop (i + 1)).map f := by
  rw [List.map_append, List.map_take, List.map_drop]
theorem Sp.Ok.page_on {s : Sp} {n q : Nat} (h : s.Ok n) (hv : (s.E 3 q).v = true) : q < 4096 ∧ s.on 2 (nd q 2) = true ∧ s.on 1 (nd q 1) = true := by
  obtain ⟨h1, h2⟩ := Sp.page_dep h hv
  exact ⟨h2, Sp.dep_on h2 2 (by omega), Sp.dep_on h2 1 (by omega)⟩
/-- which tables are there: those that have a page -/
theorem on_page {s : Sp} {n : Nat} (h : s.Ok n) (hn : s.need) {l d : Nat} (h1 : 1 ≤ l) (h2 : l ≤ 2) : s.on l d = true ↔ ∃ p, (s.E 3 p).v = true ∧ nd p l = d := by
  constructor
  · intro ho
    have key : ∀ d, s.on 2 d = true → ∃ p, (s.E 3 p).v = true ∧ nd p 2 = d := fun d ho => by
      obtain ⟨p, hp, hv⟩ := hn 2 d (by omega) (by omega) ho
      exact ⟨16 * d + p, hv, by rw [nd2]; omega⟩
    by_cases e : l = 2
    · subst e; exact key d ho
    · obtain rfl : l = 1 := by omega
      obtain ⟨p, hp, hv⟩ := hn 1 d (by omega) (by omega) ho
      obtain ⟨p2, v2, e2⟩ := key (16 * d + p) (by rw [s.onS]; exact hv)
      refine ⟨p2, v2, ?_⟩
      rw [nd2] at e2
      rw [nd1]
      omega
  · rintro ⟨p, hv, rfl⟩
    obtain ⟨_, a, b⟩ := h.page_on hv
    have : l = 1 ∨ l = 2 := by omega
    rcases this with rfl | rfl
    · exact b
    · exact a
theorem under_iff {s : Sp} {n q l : Nat} (h : s.Ok n) (hq : q < 4096) (h1 : 1 ≤ l) (h2 : l ≤ 2) : s.under q l = true ↔ ∃ p, (s.E 3 p).v = true ∧ nd p l = nd q l := by
  unfold Sp.under
  rw [List.any_eq_true]
  have hp : 0 < 16 ^ (3 - l) := Nat.pow_pos (by decide)
  constructor
  · rintro ⟨p, hp', e⟩
    obtain ⟨a, b⟩ := Sp.mem_pgs.1 hp'
    have e := of_decide_eq_true e
    rw [fstI_nd a h2, fstI_nd hq h2] at e
    exact ⟨p, b, Nat.eq_of_mul_eq_mul_right hp e⟩
  · rintro ⟨p, hv, e⟩
    have hp4 := (h.page_on hv).1
    exact ⟨p, Sp.mem_pgs.2 ⟨hp4, hv⟩, decide_eq_true (by rw [fstI_nd hp4 h2, fstI_nd hq h2, e])⟩
/-- a page goes: what it needs goes with it -/
structure Gone (s s' : Sp) (n qn : Nat) : Prop where
  ok : s.Ok n
  ok' : s'.Ok n
  nee : s.need
  nee' : s'.need
  hv : (s.E 3 qn).v = true
  rt : s'.root = s.root
  e3 : ∀ q', s'.E 3 q' = if q' = qn then En.zero else s.E 3 q'
  e12 : ∀ l d, l ≤ 2 → s'.E l d = s.E l d ∨ s'.E l d = En.zero
theorem Gone.qn {s s' : Sp} {n qn : Nat} (h : Gone s s' n qn) : qn < 4096 := (h.ok.page_on h.hv).1
theorem Gone.page {s s' : Sp} {n qn : Nat} (h : Gone s s' n qn) (p : Nat) : (s'.E 3 p).v = true ↔ p ≠ qn ∧ (s.E 3 p).v = true := by
  rw [h.e3]
  by_cases e : p = qn
  · rw [if_pos e]; exact ⟨fun a => absurd a (by decide), fun a => absurd e a.1⟩
  · rw [if_neg e]; exact ⟨fun a => ⟨e, a⟩, fun a => a.2⟩
theorem Gone.on {s s' : Sp} {n qn : Nat} (h : Gone s s' n qn) {l d : Nat} (hl : l ≤ 2) : s'.on l d = true ↔ s.on l d = true ∧ (1 ≤ l → d = nd qn l → s'.under qn l = true) := by
  by_cases h0 : l = 0
  · subst h0
    show decide (d = 0) = true ↔ decide (d = 0) = true ∧ _
    exact ⟨fun a => ⟨a, fun c => by omega⟩, fun a => a.1⟩
  · have h1 : 1 ≤ l := by omega
    rw [on_page h.ok' h.nee' h1 hl, on_page h.ok h.nee h1 hl]
    constructor
    · rintro ⟨p, hv, rfl⟩
      exact ⟨⟨p, ((h.page p).1 hv).2, rfl⟩, fun _ e => (under_iff h.ok' h.qn h1 hl).2 ⟨p, hv, e⟩⟩
    · rintro ⟨⟨p, hv, rfl⟩, hu⟩
      by_cases e : nd p l = nd qn l
      · obtain ⟨p2, v2, e2⟩ := (under_iff h.ok' h.qn h1 hl).1 (hu h1 e)
        exact ⟨p2, v2, e2.trans e.symm⟩
      · exact ⟨p, (h.page p).2 ⟨fun c => e (by rw [c]), hv⟩, rfl⟩
theorem Gone.fr {s s' : Sp} {n qn : Nat} (h : Gone s s' n qn) {l d : Nat} (hl : l ≤ 2) (ho : s'.on l d = true) : s'.fr l d = s.fr l d := by
  cases l with
  | zero => exact h.rt
  | succ l =>
    rw [s'.frS, s.frS]
    rw [s'.onS] at ho
    rcases h.e12 (l + 1) d hl with e | e
    · rw [e]
    · rw [e] at ho; cases ho
/-- the nodes that are left -/
def goneN (s' : Sp) (qn : Nat) (Nd : List (Nat × Nat)) : List (Nat × Nat) := dropN (s'.under qn 1) (dropN (s'.under qn 2) Nd (2, nd qn 2)) (1, nd qn 1)
theorem Gone.nodes {s s' : Sp} {n qn : Nat} (h : Gone s s' n qn) {Nd : List (Nat × Nat)} (hN : Nodes s Nd) : Nodes s' (goneN s' qn Nd) := by
  refine ⟨dropN_nd (dropN_nd hN.nd), fun x => ?_⟩
  unfold goneN
  rw [mem_dropN (dropN_nd hN.nd), mem_dropN hN.nd, hN.mem]
  obtain ⟨l, d⟩ := x
  constructor
  · rintro ⟨⟨⟨a, b⟩, c⟩, e⟩
    refine ⟨a, (h.on a).2 ⟨b, fun h1 hd => ?_⟩⟩
    have a' : l ≤ 2 := a
    have : l = 1 ∨ l = 2 := by omega
    rcases this with rfl | rfl
    · exact e (by have hd : d = nd qn 1 := hd; rw [hd])
    · exact c (by have hd : d = nd qn 2 := hd; rw [hd])
  · rintro ⟨a, b⟩
    obtain ⟨b1, b2⟩ := (h.on a).1 b
    refine ⟨⟨⟨a, b1⟩, fun e => ?_⟩, fun e => ?_⟩
    · obtain ⟨rfl, rfl⟩ := Prod.mk.inj e
      exact b2 (by show 1 ≤ 2; omega) rfl
    · obtain ⟨rfl, rfl⟩ := Prod.mk.inj e
      exact b2 (by show 1 ≤ 1; omega) rfl
theorem Gone.tb {s s' : Sp} {n qn : Nat} (h : Gone s s' n qn) {Nd : List (Nat × Nat)} (hN : Nodes s Nd) : (goneN s' qn Nd).map (tbOf s) = (goneN s' qn Nd).map (tbOf s') :=
  List.map_congr_left fun x hx => by
    obtain ⟨a, b⟩ := ((h.nodes hN).mem x).1 hx
    unfold tbOf
    rw [h.fr a b]
theorem Gone.pgs {s s' : Sp} {n qn : Nat} (h : Gone s s' n qn) : s'.pgs = s.pgs.filter fun p => decide (p ≠ qn) := by
  unfold Sp.pgs
  rw [List.filter_filter]
  refine List.filter_congr fun p _ => ?_
  rw [Bool.eq_iff_iff, h.page p, Bool.and_eq_true, decide_eq_true_eq]
theorem Gone.pgL {s s' : Sp} {n qn i : Nat} (h : Gone s s' n qn) (hi : s.pgs[i]? = some qn) : s.pgL.take i ++ s.pgL.drop (i + 1) = s'.pgL := by
  unfold Sp.pgL
  have hnd : s.pgs.Nodup := s.pgs_rises.imp fun hab => Nat.ne_of_lt hab
  rw [map_take_drop, erase_ix hnd hi, hnd.erase_eq_filter, h.pgs]
  have e : (s.pgs.filter fun p => p != qn) = s.pgs.filter fun p => decide (p ≠ qn) := List.filter_congr fun p _ => by
    by_cases c : p = qn <;> simp [c]
  rw [e]
  refine List.map_congr_left fun p hp => ?_
  have := of_decide_eq_true (List.mem_filter.1 hp).2
  unfold pgOf
  rw [h.e3, if_neg this]
end Go.Proofs.YtfdnfllefednjaaDoor

/-
  The document's own spaces: Unmap.
-/
namespace Go.Proofs.YtfdnfllefednjaaDoor
open Go.ChangeShapes Go.WideShapes Go.ChangeAt Go.RowKit Go.Shelf Go.Sort

/-- the memory and the allocator behind a page's going -/
def goneM (s s' : Sp) (qn : Nat) (m : Mem) : Mem :=
  if s'.under qn 1 = true then (if s'.under qn 2 = true then m else m.scrub (s.fr 2 (nd qn 2)).toNat 1) else (if s'.under qn 2 = true then m else m.scrub (s.fr 2 (nd qn 2)).toNat 1).scrub (s.fr 1 (nd qn 1)).toNat 1
def goneB (s s' : Sp) (qn : Nat) (b : Bud) : Bud :=
  if s'.under qn 1 = true then (if s'.under qn 2 = true then b else b.take ((s.fr 2 (nd qn 2)).toNat, 0)) else (if s'.under qn 2 = true then b else b.take ((s.fr 2 (nd qn 2)).toNat, 0)).take ((s.fr 1 (nd qn 1)).toNat, 0)
/-- the document's space is right behind it -/
theorem Gone.inv {s s' : Sp} {m : Mem} {b : Bud} {qn : Nat} (h : Gone s s' m.n qn) (I : SpInv s m b Yn) (Z : Zs s m) {Nd : List (Nat × Nat)} (hN : Nodes s Nd) :
    SpInv s' (layM s' (goneN s' qn Nd) (goneM s s' qn m)) (goneB s s' qn b) Yn ∧ Zs s' (layM s' (goneN s' qn Nd) (goneM s s' qn m)) ∧ (goneM s s' qn m).n = m.n ∧ (goneM s s' qn m).B = m.B ∧ (goneM s s' qn m).ok ∧ (goneM s s' qn m).good := by
  obtain ⟨p1, p2, p3⟩ := h.ok.page_on h.hv
  have f2 := h.ok.frb p2
  have f1 := h.ok.frb p3
  obtain ⟨F2, hF2⟩ := Int.eq_ofNat_of_zero_le f2.1
  obtain ⟨F1, hF1⟩ := Int.eq_ofNat_of_zero_le f1.1
  have g2 := I.has (by omega) p2
  have g1 := I.has (by omega) p3
  have hne : F1 ≠ F2 := fun e => by
    have := h.ok.inj 1 (nd qn 1) 2 (nd qn 2) (by omega) (by omega) p3 p2 (by rw [hF1, hF2, e])
    omega
  have hm : (goneM s s' qn m).n = m.n ∧ (goneM s s' qn m).B = m.B ∧ (goneM s s' qn m).ok ∧ (goneM s s' qn m).good := by
    unfold goneM
    split <;> split
    · exact ⟨rfl, rfl, I.mo, I.hg⟩
    · exact ⟨Mem.scrub_n _ _ _, Mem.scrub_B _ _ _, Mem.ok_scrub _ I.mo _ _, Mem.scrub_good _ I.mo I.hg _⟩
    · exact ⟨Mem.scrub_n _ _ _, Mem.scrub_B _ _ _, Mem.ok_scrub _ I.mo _ _, Mem.scrub_good _ I.mo I.hg _⟩
    · have a := Mem.ok_scrub m I.mo (s.fr 2 (nd qn 2)).toNat 1
      have c := Mem.scrub_good m I.mo I.hg (s.fr 2 (nd qn 2)).toNat
      exact ⟨by rw [Mem.scrub_n, Mem.scrub_n], by rw [Mem.scrub_B, Mem.scrub_B], Mem.ok_scrub _ a _ _, Mem.scrub_good _ a c _⟩
  have e2 : (s.fr 2 (nd qn 2)).toNat = F2 := by omega
  have e1 : (s.fr 1 (nd qn 1)).toNat = F1 := by omega
  rw [e2] at g2
  rw [e1] at g1
  have hbn := I.bn
  have hw2 : ∀ g p : Nat, g < m.n → p < 16 → (if s'.under qn 2 = true then m else m.scrub F2 1).word (g : Nat) (p : Nat) = if s'.under qn 2 = false ∧ g = F2 then 0 else m.word (g : Nat) (p : Nat) := by
    intro g p hg hp
    cases hu : s'.under qn 2
    · rw [if_neg (by decide), Mem.word_scrub _ I.mo _ _ _ (decide_eq_true (by omega)) (by rw [Mem.slot_iff]; omega)]
      by_cases c : g = F2
      · rw [if_pos (by omega), if_pos ⟨rfl, c⟩]
      · rw [if_neg (by omega), if_neg (fun a => c a.2)]
    · rw [if_pos rfl, if_neg (by simp)]
  have hw : ∀ g p : Nat, g < m.n → p < 16 → (goneM s s' qn m).word (g : Nat) (p : Nat) = if (s'.under qn 2 = false ∧ g = F2) ∨ (s'.under qn 1 = false ∧ g = F1) then 0 else m.word (g : Nat) (p : Nat) := by
    intro g p hg hp
    unfold goneM
    rw [e2, e1]
    cases hu : s'.under qn 1
    · rw [if_neg (by decide), Mem.word_scrub _ (by split; exact I.mo; exact Mem.ok_scrub _ I.mo _ _) _ _ _ (decide_eq_true (by split <;> (try rw [Mem.scrub_n]) <;> omega)) (by rw [Mem.slot_iff]; split <;> (try rw [Mem.scrub_n]) <;> omega), hw2 g p hg hp]
      by_cases c : g = F1
      · rw [if_pos (by omega), if_pos (.inr ⟨rfl, c⟩)]
      · rw [if_neg (by omega)]
        by_cases c2 : s'.under qn 2 = false ∧ g = F2
        · rw [if_pos c2, if_pos (.inl c2)]
        · rw [if_neg c2, if_neg (by rintro (a | a); exact c2 a; exact c a.2)]
    · rw [if_pos rfl, hw2 g p hg hp]
      by_cases c2 : s'.under qn 2 = false ∧ g = F2
      · rw [if_pos c2, if_pos (.inl c2)]
      · rw [if_neg c2, if_neg (by rintro (a | a); exact c2 a; exact absurd a.1 (by simp))]
  -- the allocator
  have B2 : (if s'.under qn 2 = true then b else b.take (F2, 0)).Ok ∧ (∀ x, x ∈ (if s'.under qn 2 = true then b else b.take (F2, 0)).gave ↔ x ∈ b.gave ∧ (x = (F2, 0) → s'.under qn 2 = true)) ∧ (if s'.under qn 2 = true then b else b.take (F2, 0)).n = b.n := by
    cases hu : s'.under qn 2
    · rw [if_neg (by decide)]
      refine ⟨I.bk.take g2, fun x => ?_, rfl⟩
      show x ∈ b.gave.erase _ ↔ _
      rw [I.bk.nodup.mem_erase_iff]
      exact ⟨fun a => ⟨a.2, fun c => absurd c a.1⟩, fun a => ⟨fun c => absurd (a.2 c) (by decide), a.1⟩⟩
    · rw [if_pos rfl]
      exact ⟨I.bk, fun x => ⟨fun a => ⟨a, fun _ => rfl⟩, fun a => a.1⟩, rfl⟩
  have B1 : (goneB s s' qn b).Ok ∧ (∀ x, x ∈ (goneB s s' qn b).gave ↔ x ∈ b.gave ∧ (x = (F2, 0) → s'.under qn 2 = true) ∧ (x = (F1, 0) → s'.under qn 1 = true)) ∧ (goneB s s' qn b).n = b.n := by
    unfold goneB
    rw [e2, e1]
    obtain ⟨c1, c2, c3⟩ := B2
    generalize (if s'.under qn 2 = true then b else b.take (F2, 0)) = X at c1 c2 c3 ⊢
    cases hu : s'.under qn 1
    · rw [if_neg (by decide)]
      have g1' : ((F1, 0) : Nat × Nat) ∈ X.gave := (c2 _).2 ⟨g1, fun e => absurd (Prod.mk.inj e).1 hne⟩
      refine ⟨c1.take g1', fun x => ?_, c3⟩
      show x ∈ X.gave.erase _ ↔ _
      rw [c1.nodup.mem_erase_iff, c2]
      exact ⟨fun a => ⟨a.2.1, a.2.2, fun c => absurd c a.1⟩, fun a => ⟨fun c => absurd (a.2.2 c) (by decide), a.1, a.2.1⟩⟩
    · rw [if_pos rfl]
      exact ⟨c1, fun x => ⟨fun a => ⟨((c2 x).1 a).1, ((c2 x).1 a).2, fun _ => rfl⟩, fun a => (c2 x).2 ⟨a.1, a.2.1⟩⟩, c3⟩
  obtain ⟨b1, b2, b3⟩ := B1
  obtain ⟨m1, m2, m3, m4⟩ := hm
  have hs' : s'.Ok (goneM s s' qn m).n := by rw [m1]; exact h.ok'
  obtain ⟨L1, L2⟩ := lay_words hs' (by rw [m1]; exact I.hn) (h.nodes hN) (fun q => by rw [Sp.mem_pgs]; exact ⟨fun a => a.2, fun a => ⟨(h.ok'.page_on a).1, a⟩⟩) rfl m3 m4
  have K := layM_keep s' (goneN s' qn Nd) m3 m4
  have gone_of : ∀ l d, l ≤ 2 → s.on l d = true → s'.on l d = true ∨ (s.fr l d = (F2 : Int) ∧ s'.under qn 2 = false) ∨ (s.fr l d = (F1 : Int) ∧ s'.under qn 1 = false) := by
    intro l d hl ho
    by_cases c : s'.on l d = true
    · exact .inl c
    · right
      have c := fun a => c ((h.on hl).2 ⟨ho, a⟩)
      have : 1 ≤ l ∧ d = nd qn l ∧ s'.under qn l = false := by
        refine ⟨?_, ?_, ?_⟩
        · refine Decidable.byContradiction fun a => c fun b => absurd b a
        · refine Decidable.byContradiction fun a => c fun _ b => absurd b a
        · cases hu : s'.under qn l
          · rfl
          · exact absurd (fun _ _ => hu) c
      obtain ⟨a1, rfl, a3⟩ := this
      have : l = 1 ∨ l = 2 := by omega
      rcases this with rfl | rfl
      · exact .inr ⟨hF1, a3⟩
      · exact .inl ⟨hF2, a3⟩
  refine ⟨⟨by rw [K.n]; exact hs', L1, h.nee', K.ok, K.good, b1, by rw [K.n, m1, b3, hbn], fun x hx => hx.elim, fun x => ?_, fun _ _ _ _ hy => hy⟩, ?_, m1, m2, m3, m4⟩
  · rw [b2, I.gv]
    constructor
    · rintro ⟨(⟨l, d, hl, ho, rfl⟩ | hy), c2, c1⟩
      · rcases gone_of l d hl ho with c | ⟨c, u⟩ | ⟨c, u⟩
        · exact .inl ⟨l, d, hl, c, by rw [h.fr hl c]⟩
        · have := c2 (by rw [c]; rfl); rw [u] at this; cases this
        · have := c1 (by rw [c]; rfl); rw [u] at this; cases this
      · exact hy.elim
    · rintro (⟨l, d, hl, ho, rfl⟩ | hy)
      · obtain ⟨o1, o2⟩ := (h.on hl).1 ho
        rw [h.fr hl ho]
        have hb := h.ok.frb o1
        refine ⟨.inl ⟨l, d, hl, o1, rfl⟩, fun e => ?_, fun e => ?_⟩
        · have := (Prod.mk.inj e).1
          obtain ⟨rfl, rfl⟩ := h.ok.inj l d 2 (nd qn 2) hl (by omega) o1 p2 (by omega)
          exact o2 (by omega) rfl
        · have := (Prod.mk.inj e).1
          obtain ⟨rfl, rfl⟩ := h.ok.inj l d 1 (nd qn 1) hl (by omega) o1 p3 (by omega)
          exact o2 (by omega) rfl
      · exact hy.elim
  · intro g p hg hp hno
    rw [K.n, m1] at hg
    rw [L2 g p (by rw [m1]; exact hg) hp hno, hw g p hg hp]
    split
    · rfl
    · rename_i hn2
      refine Z g p hg hp fun l d hl ho e => ?_
      rcases gone_of l d hl ho with c | ⟨c, u⟩ | ⟨c, u⟩
      · exact hno l d hl c (by rw [h.fr hl c]; exact e)
      · exact hn2 (.inl ⟨u, by omega⟩)
      · exact hn2 (.inr ⟨u, by omega⟩)
end Go.Proofs.YtfdnfllefednjaaDoor

/-
  The document's own spaces: Unmap's walk; Protect where it refuses.
-/
namespace Go.Proofs.YtfdnfllefednjaaDoor
open Go.ChangeShapes Go.WideShapes Go.ChangeAt Go.RowKit Go.Shelf Go.Sort

theorem goneB_res (s s' : Sp) (qn : Nat) (b : Bud) : (goneB s s' qn b).res = b.res := by
  unfold goneB
  split <;> split <;> rfl
theorem SpInv.idx {s : Sp} {m : Mem} {b : Bud} {Y : Nat × Nat → Prop} (h : SpInv s m b Y) (q : Int) :
    (0 ≤ q ∧ q ≤ 4095 ∧ (s.E 3 q.toNat).v = false → ixN (pgIx s.pgL q) s.pgL.length = -1) := by
  rintro ⟨h1, h2, h3⟩
  rcases page_at h.ok q with ⟨i, j, hj, _, hv, _⟩ | ⟨h4, _⟩
  · have : q.toNat = j := by omega
    rw [this, hv] at h3
    cases h3
  · exact h4
end Go.Proofs.YtfdnfllefednjaaDoor

/-
  The document's own spaces: Close.
-/
namespace Go.Proofs.YtfdnfllefednjaaDoor
open Go.ChangeShapes Go.WideShapes Go.ChangeAt Go.RowKit Go.Shelf Go.Sort

def Sp.frs (s : Sp) : List Int := s.pgs.map fun q => (s.E 3 q).f
theorem Sp.frs_len (s : Sp) : s.frs.length = s.pgs.length := by simp [Sp.frs]
/-- a node's frame as a block -/
def blkOf (s : Sp) (x : Nat × Nat) : Nat × Nat := ((s.fr x.1 x.2).toNat, 0)
end Go.Proofs.YtfdnfllefednjaaDoor

/-
  The document's own spaces: Tables.
-/
namespace Go.Proofs.YtfdnfllefednjaaDoor
open Go.ChangeShapes Go.WideShapes Go.ChangeAt Go.RowKit Go.Shelf Go.Sort

def intC (f : Int) : List Value := [.int .i64 f]
theorem intC_len (f : Int) : (intC f).length = 1 := rfl
theorem intC_one (f : Int) : ∀ u ∈ intC f, u.oneCell' = true := by intro u hu; simp [intC] at hu; subst hu; rfl
theorem listC_int : ∀ l : List Int, listC intC l = i64s l
  | [] => rfl
  | x :: l => by rw [show x :: l = [x] ++ l from rfl, listC_app, listC_int l]; rfl
theorem run_size_ints (w : World) : (sizeOf (Tryd.prog.elem 124)).run Tryd.prog w = .ok 1 w := by kernel_rfl
def rising (L : List Int) : Prop := L.Pairwise (· ≤ ·)
/-- one put in at its place -/
theorem put_rising {L : List Int} {x : Int} {a : Nat} (h : rising L) (ha : a ≤ L.length) (h1 : ∀ j, j < a → L.getD j 0 < x) (h2 : a < L.length → ¬ L.getD a 0 < x) : rising (L.take a ++ ([x] ++ L.drop a)) := by
  unfold rising at *
  have ht : ∀ y, y ∈ L.take a → y < x := fun y hy => by
    obtain ⟨j, hj, rfl⟩ := List.getElem_of_mem hy
    rw [List.length_take] at hj
    have := h1 j (by omega)
    rw [List.getD_eq_getElem?_getD, List.getElem?_eq_getElem (by omega)] at this
    rw [List.getElem_take]
    exact this
  have hdr : ∀ y, y ∈ L.drop a → x ≤ y := fun y hy => by
    obtain ⟨j, hj, rfl⟩ := List.getElem_of_mem hy
    rw [List.length_drop] at hj
    have hx := h2 (by omega)
    rw [List.getD_eq_getElem?_getD, List.getElem?_eq_getElem (by omega)] at hx
    rw [List.getElem_drop]
    have hx : x ≤ L[a] := by simpa using hx
    by_cases e : j = 0
    · subst e; simpa using hx
    · have := List.pairwise_iff_getElem.1 h a (a + j) (by omega) (by omega) (by omega)
      omega
  rw [List.pairwise_append]
  refine ⟨h.sublist (List.take_sublist _ _), ?_, fun y hy z hz => ?_⟩
  · rw [List.singleton_append, List.pairwise_cons]
    exact ⟨hdr, h.sublist (List.drop_sublist _ _)⟩
  · have hy' := ht y hy
    rcases List.mem_append.1 hz with hz | hz
    · simp only [List.mem_singleton] at hz; omega
    · have := hdr z hz; omega
theorem put_perm (L : List Int) (x : Int) (a : Nat) : (L.take a ++ ([x] ++ L.drop a)).Perm (L ++ [x]) := by
  have h1 : (L.take a ++ ([x] ++ L.drop a)).Perm ([x] ++ (L.take a ++ L.drop a)) := by
    rw [← List.append_assoc, ← List.append_assoc]
    exact List.Perm.append_right _ List.perm_append_comm
  rw [List.take_append_drop] at h1
  exact h1.trans List.perm_append_comm
theorem src_int (w : World) (f : Int) (t : TypeId) : Src (w.alloc (.cells #[.int .i64 f] t)) (.slice (some ⟨w.heap.size, 0, none⟩) 1 1) 1 1 (listC intC [f]) :=
  .inr ⟨w.heap.size, 0, 1, rfl, rfl, fun j u hu => by have := rows_src w [.int .i64 f] t j u hu; rwa [add_mid0] at this⟩
theorem ints_at {w : World} {base k cap : Nat} {e : TypeId} {o : Option Addr} {L : List Int} (h : w.ownsRow base e 1 (.slice o k cap) k (listC intC L)) (hk : L.length = k) (a : Nat) (ha : a < k) : ∃ g, o = some ⟨g, 0, none⟩ ∧ w.cell? ⟨g, a, none⟩ = some (.int .i64 (L.getD a 0)) := by
  obtain ⟨g, rfl, hc⟩ := rows_at h (by omega)
  refine ⟨g, rfl, hc a _ ?_⟩
  have := listC_get intC_len 0 L a 0 (by omega) (by omega)
  rwa [Nat.add_zero, Nat.mul_one] at this
def frsT (s : Sp) (Nd : List (Nat × Nat)) : List Int := Nd.map fun x => s.fr x.1 x.2
theorem frsT_tabs {s : Sp} {n : Nat} {Nd : List (Nat × Nat)} (hs : s.Ok n) (hN : Nodes s Nd) : (frsT s Nd).Perm s.tabs := by
  refine (List.perm_ext_iff_of_nodup ?_ hs.tabs_nodup).2 fun f => ?_
  · refine List.pairwise_map.2 (hN.nd.imp_of_mem fun {a b} ha hb hne e => hne ?_)
    obtain ⟨a1, a2⟩ := (hN.mem a).1 ha
    obtain ⟨b1, b2⟩ := (hN.mem b).1 hb
    obtain ⟨e1, e2⟩ := hs.inj _ _ _ _ a1 b1 a2 b2 e
    exact Prod.ext e1 e2
  · rw [hs.mem_tabs]
    unfold frsT
    rw [List.mem_map]
    constructor
    · rintro ⟨x, hx, rfl⟩
      obtain ⟨a, b⟩ := (hN.mem x).1 hx
      exact ⟨x.1, x.2, a, b, rfl⟩
    · rintro ⟨l, d, hl, ho, rfl⟩
      exact ⟨(l, d), (hN.mem _).2 ⟨hl, ho⟩, rfl⟩
theorem rising_tbs {s : Sp} {n : Nat} {Nd : List (Nat × Nat)} (hs : s.Ok n) (hN : Nodes s Nd) {O : List Int} (hO : rising O) (hp : O.Perm (frsT s Nd)) : O = s.tbs := by
  have h1 : O.Perm s.tabs := hp.trans (frsT_tabs hs hN)
  rw [show s.tbs = s.tabs.mergeSort Go.leI from rfl, ← mergeSort_of_perm_i h1]
  exact (List.mergeSort_of_pairwise (hO.imp fun {x y} hxy => by simp only [Go.leI, decide_eq_true_eq]; exact hxy)).symm
end Go.Proofs.YtfdnfllefednjaaDoor

/-
  The document's own spaces, in plain numbers: what becomes of the nodes when a page comes; a space laid anew is right.
-/
namespace Go.Proofs.YtfdnfllefednjaaDoor
open Go.ChangeShapes Go.WideShapes Go.ChangeAt Go.RowKit Go.Shelf Go.Sort

/-- a space laid anew is right -/
theorem lay_inv {s : Sp} {m : Mem} {b : Bud} {Nd : List (Nat × Nat)} (ok : s.Ok m.n) (nee : s.need) (hN : Nodes s Nd) (hn : m.n ≤ 256) (mo : m.ok) (hg : m.good) (bk : b.Ok) (bn : m.n = b.n) (gv : ∀ x, x ∈ b.gave ↔ ∃ l d, l ≤ 2 ∧ s.on l d = true ∧ x = ((s.fr l d).toNat, 0)) (z : Zs s m) :
    SpInv s (layM s Nd m) b Yn ∧ Zs s (layM s Nd m) := by
  obtain ⟨L1, L2⟩ := lay_words ok hn hN (fun q => by rw [Sp.mem_pgs]; exact ⟨fun a => a.2, fun a => ⟨(ok.page_on a).1, a⟩⟩) rfl mo hg
  have K := layM_keep s Nd mo hg
  refine ⟨⟨by rw [K.n]; exact ok, L1, nee, K.ok, K.good, bk, by rw [K.n]; exact bn, fun x hx => hx.elim, fun x => ?_, fun _ _ _ _ hy => hy⟩, ?_⟩
  · rw [gv]
    exact ⟨.inl, fun a => a.resolve_right fun hy => hy⟩
  · intro g p hg' hp hno
    rw [K.n] at hg'
    rw [L2 g p hg' hp hno]
    exact z g p hg' hp hno
/-- a page comes, with the tables that it needs -/
structure Grown (s s' : Sp) (n qn : Nat) (b : Bud) (f : Int) (wb : Bool) : Prop where
  ok : s.Ok n
  ok' : s'.Ok n
  nee' : s'.need
  hq : qn < 4096
  hv : (s.E 3 qn).v = false
  rt : s'.root = s.root
  e3 : ∀ q', s'.E 3 q' = if q' = qn then ⟨true, wb, false, f⟩ else s.E 3 q'
  e12 : ∀ l d, l ≤ 2 → s'.E l d = if s.dep qn ≤ l ∧ d = nd qn l then tbE ((b.al (3 - s.dep qn)).1.getD (l - s.dep qn) 0 : Nat) else s.E l d
/-- the new nodes -/
def newN (s : Sp) (qn k : Nat) : List (Nat × Nat) := (List.range k).map fun i => (s.dep qn + i, nd qn (s.dep qn + i))
/-- their tables -/
def newT (s : Sp) (qn : Nat) (c : List Nat) (k : Nat) : List RTb := (List.range k).map fun i => ⟨((s.dep qn + i : Nat) : Int), ((fstI qn (s.dep qn + i) : Nat) : Int), ((c.getD i 0 : Nat) : Int)⟩
theorem newT_len (s : Sp) (qn : Nat) (c : List Nat) (k : Nat) : (newT s qn c k).length = k := by simp [newT]
theorem newT_succ (s : Sp) (qn : Nat) (c : List Nat) (k : Nat) : newT s qn c (k + 1) = newT s qn c k ++ [⟨((s.dep qn + k : Nat) : Int), ((fstI qn (s.dep qn + k) : Nat) : Int), ((c.getD k 0 : Nat) : Int)⟩] := by
  unfold newT
  rw [List.range_succ, List.map_append]
  rfl
theorem newT_congr (s : Sp) (qn : Nat) {c c' : List Nat} {k : Nat} (h : ∀ i, i < k → c.getD i 0 = c'.getD i 0) : newT s qn c k = newT s qn c' k := by
  unfold newT
  exact List.map_congr_left fun i hi => by rw [h i (List.mem_range.1 hi)]
theorem Grown.on {s s' : Sp} {n qn : Nat} {b : Bud} {f : Int} {wb : Bool} (h : Grown s s' n qn b f wb) {l d : Nat} (hl : l ≤ 2) : s'.on l d = true ↔ s.on l d = true ∨ (s.dep qn ≤ l ∧ d = nd qn l) := by
  have hd := s.dep_bd qn
  cases l with
  | zero => exact ⟨.inl, fun a => a.elim id fun c => by omega⟩
  | succ l =>
    rw [s'.onS, s.onS, h.e12 _ _ hl]
    by_cases c : s.dep qn ≤ l + 1 ∧ d = nd qn (l + 1)
    · rw [if_pos c]; exact ⟨fun _ => .inr c, fun _ => rfl⟩
    · rw [if_neg c]; exact ⟨.inl, fun a => a.elim id fun e => absurd e c⟩
theorem Grown.old {s s' : Sp} {n qn : Nat} {b : Bud} {f : Int} {wb : Bool} (h : Grown s s' n qn b f wb) {l d : Nat} (hl : l ≤ 2) (ho : s.on l d = true) : ¬ (s.dep qn ≤ l ∧ d = nd qn l) ∧ s'.fr l d = s.fr l d := by
  have hc : ¬ (s.dep qn ≤ l ∧ d = nd qn l) := by
    rintro ⟨c1, rfl⟩
    rw [Sp.dep_off h.ok l c1 hl] at ho
    cases ho
  refine ⟨hc, ?_⟩
  cases l with
  | zero => exact h.rt
  | succ l => rw [s'.frS, s.frS, h.e12 _ _ hl, if_neg hc]
theorem Grown.nodes {s s' : Sp} {n qn : Nat} {b : Bud} {f : Int} {wb : Bool} (h : Grown s s' n qn b f wb) {Nd : List (Nat × Nat)} (hN : Nodes s Nd) : Nodes s' (Nd ++ newN s qn (3 - s.dep qn)) := by
  have hd := s.dep_bd qn
  have hmem : ∀ x, x ∈ newN s qn (3 - s.dep qn) ↔ s.dep qn ≤ x.1 ∧ x.1 ≤ 2 ∧ x.2 = nd qn x.1 := fun x => by
    unfold newN
    rw [List.mem_map]
    constructor
    · rintro ⟨i, hi, rfl⟩
      have := List.mem_range.1 hi
      exact ⟨by show _ ≤ s.dep qn + i; omega, by show s.dep qn + i ≤ 2; omega, rfl⟩
    · rintro ⟨a, b, c⟩
      refine ⟨x.1 - s.dep qn, List.mem_range.2 (by omega), ?_⟩
      rw [show s.dep qn + (x.1 - s.dep qn) = x.1 from by omega, ← c]
  refine ⟨List.nodup_append.2 ⟨hN.nd, List.pairwise_map.2 (List.nodup_range.imp fun {i j} hij e => hij (by have := (Prod.mk.inj e).1; omega)), fun x hx y hy e => ?_⟩, fun x => ?_⟩
  · subst e
    obtain ⟨a1, a2⟩ := (hN.mem x).1 hx
    obtain ⟨b1, b2, b3⟩ := (hmem x).1 hy
    exact (h.old a1 a2).1 ⟨b1, b3⟩
  · rw [List.mem_append, hN.mem, hmem]
    constructor
    · rintro (⟨a, b⟩ | ⟨a, b, c⟩)
      · exact ⟨a, (h.on a).2 (.inl b)⟩
      · exact ⟨b, (h.on b).2 (.inr ⟨a, c⟩)⟩
    · rintro ⟨a, b⟩
      rcases (h.on a).1 b with c | c
      · exact .inl ⟨a, c⟩
      · exact .inr ⟨c.1, a, c.2⟩
theorem Grown.tb {s s' : Sp} {n qn : Nat} {b : Bud} {f : Int} {wb : Bool} (h : Grown s s' n qn b f wb) {Nd : List (Nat × Nat)} (hN : Nodes s Nd) :
    (Nd ++ newN s qn (3 - s.dep qn)).map (tbOf s') = Nd.map (tbOf s) ++ newT s qn (b.al (3 - s.dep qn)).1 (3 - s.dep qn) := by
  have hd := s.dep_bd qn
  rw [List.map_append]
  congr 1
  · exact List.map_congr_left fun x hx => by
      obtain ⟨a1, a2⟩ := (hN.mem x).1 hx
      unfold tbOf
      rw [(h.old a1 a2).2]
  · unfold newN newT
    rw [List.map_map]
    refine List.map_congr_left fun i hi => ?_
    have hi := List.mem_range.1 hi
    show tbOf s' (s.dep qn + i, nd qn (s.dep qn + i)) = _
    unfold tbOf
    have hl : s.dep qn + i ≤ 2 := by omega
    have hfr : s'.fr (s.dep qn + i) (nd qn (s.dep qn + i)) = (((b.al (3 - s.dep qn)).1.getD i 0 : Nat) : Int) := by
      obtain ⟨l, hl'⟩ : ∃ l, s.dep qn + i = l + 1 := ⟨s.dep qn + i - 1, by omega⟩
      rw [hl', s'.frS, h.e12 _ _ (by omega), if_pos ⟨by omega, rfl⟩, ← hl', show s.dep qn + i - s.dep qn = i from by omega]
      rfl
    simp only
    rw [hfr, fstI_nd h.hq hl]
theorem sorted_split : ∀ {l : List Nat} {x a : Nat}, l.Pairwise (· < ·) → a ≤ l.length → (∀ j, j < a → l.getD j 0 < x) → (a < l.length → ¬ l.getD a 0 < x) → l.take a = l.filter (fun p => decide (p < x)) ∧ l.drop a = l.filter (fun p => decide (¬ p < x)) := by
  intro l x a hl ha h1 h2
  have t1 : ∀ y, y ∈ l.take a → y < x := fun y hy => by
    obtain ⟨j, hj, rfl⟩ := List.getElem_of_mem hy
    rw [List.length_take] at hj
    have := h1 j (by omega)
    rw [List.getD_eq_getElem?_getD, List.getElem?_eq_getElem (by omega)] at this
    rw [List.getElem_take]; exact this
  have t2 : ∀ y, y ∈ l.drop a → ¬ y < x := fun y hy => by
    obtain ⟨j, hj, rfl⟩ := List.getElem_of_mem hy
    rw [List.length_drop] at hj
    have hx := h2 (by omega)
    rw [List.getD_eq_getElem?_getD, List.getElem?_eq_getElem (by omega)] at hx
    have hx : ¬ l[a] < x := by simpa using hx
    rw [List.getElem_drop]
    by_cases e : j = 0
    · subst e; simpa using hx
    · have := List.pairwise_iff_getElem.1 hl a (a + j) (by omega) (by omega) (by omega)
      omega
  have e := List.take_append_drop a l
  constructor
  · conv => rhs; rw [← e]
    rw [List.filter_append, List.filter_eq_self.2 (fun y hy => decide_eq_true (t1 y hy)), List.filter_eq_nil_iff.2 (fun y hy => by simpa using t2 y hy), List.append_nil]
  · conv => rhs; rw [← e]
    rw [List.filter_append, List.filter_eq_nil_iff.2 (fun y hy => by simpa using t1 y hy), List.nil_append, List.filter_eq_self.2 (fun y hy => decide_eq_true (t2 y hy))]
theorem Grown.pgs {s s' : Sp} {n qn : Nat} {b : Bud} {f : Int} {wb : Bool} (h : Grown s s' n qn b f wb) {a : Nat} (ha : a ≤ s.pgs.length) (h1 : ∀ j, j < a → s.pgs.getD j 0 < qn) (h2 : a < s.pgs.length → ¬ s.pgs.getD a 0 < qn) :
    s'.pgs = s.pgs.take a ++ ([qn] ++ s.pgs.drop a) := by
  obtain ⟨e1, e2⟩ := sorted_split s.pgs_rises ha h1 h2
  have hin : ∀ p, (s'.E 3 p).v = true ↔ p = qn ∨ (s.E 3 p).v = true := fun p => by
    rw [h.e3]
    by_cases e : p = qn
    · rw [if_pos e]; exact ⟨fun _ => .inl e, fun _ => rfl⟩
    · rw [if_neg e]; exact ⟨.inr, fun x => x.resolve_left e⟩
  have hr : (s.pgs.take a ++ ([qn] ++ s.pgs.drop a)).Pairwise (· < ·) := by
    rw [e1, e2, List.pairwise_append]
    refine ⟨s.pgs_rises.filter _, ?_, fun y hy z hz => ?_⟩
    · rw [List.singleton_append, List.pairwise_cons]
      refine ⟨fun y hy => ?_, s.pgs_rises.filter _⟩
      obtain ⟨y1, y2⟩ := List.mem_filter.1 hy
      have y2 := of_decide_eq_true y2
      have : y ≠ qn := fun e => by have := (Sp.mem_pgs.1 y1).2; rw [e, h.hv] at this; cases this
      omega
    · have hy := of_decide_eq_true (List.mem_filter.1 hy).2
      rcases List.mem_append.1 hz with hz | hz
      · simp only [List.mem_singleton] at hz; omega
      · have := of_decide_eq_true (List.mem_filter.1 hz).2; omega
  refine List.Perm.eq_of_pairwise (le := (· < ·)) (fun a b _ _ h1 h2 => by omega) s'.pgs_rises hr ?_
  refine (List.perm_ext_iff_of_nodup (s'.pgs_rises.imp fun hab => Nat.ne_of_lt hab) (hr.imp fun hab => Nat.ne_of_lt hab)).2 fun p => ?_
  rw [Sp.mem_pgs, hin, List.mem_append, List.mem_append, List.mem_singleton]
  constructor
  · rintro ⟨p1, rfl | p2⟩
    · exact .inr (.inl rfl)
    · have hp : p ∈ s.pgs := Sp.mem_pgs.2 ⟨p1, p2⟩
      rw [← List.take_append_drop a s.pgs] at hp
      rcases List.mem_append.1 hp with hp | hp
      · exact .inl hp
      · exact .inr (.inr hp)
  · rintro (hp | rfl | hp)
    · have := Sp.mem_pgs.1 (List.mem_of_mem_take hp); exact ⟨this.1, .inr this.2⟩
    · exact ⟨h.hq, .inl rfl⟩
    · have := Sp.mem_pgs.1 (List.mem_of_mem_drop hp); exact ⟨this.1, .inr this.2⟩
theorem Grown.pgL {s s' : Sp} {n qn : Nat} {b : Bud} {f : Int} {wb : Bool} (h : Grown s s' n qn b f wb) {a : Nat} (ha : a ≤ s.pgs.length) (h1 : ∀ j, j < a → s.pgs.getD j 0 < qn) (h2 : a < s.pgs.length → ¬ s.pgs.getD a 0 < qn) :
    s.pgL.take a ++ ([⟨qn, f, wb⟩] ++ s.pgL.drop a) = s'.pgL := by
  have hne : ∀ p, p ∈ s.pgs → pgOf s p = pgOf s' p := fun p hp => by
    have : p ≠ qn := fun e => by have := (Sp.mem_pgs.1 hp).2; rw [e, h.hv] at this; cases this
    unfold pgOf
    rw [h.e3, if_neg this]
  unfold Sp.pgL
  rw [h.pgs ha h1 h2, List.map_append, List.map_append, ← List.map_take, ← List.map_drop]
  rw [List.map_congr_left (fun p hp => hne p (List.mem_of_mem_take hp)), List.map_congr_left (fun p hp => hne p (List.mem_of_mem_drop hp))]
  have : [(⟨((qn : Nat) : Int), f, wb⟩ : RPg)] = [qn].map (pgOf s') := by
    simp only [List.map_cons, List.map_nil]
    unfold pgOf
    rw [h.e3, if_pos rfl]
  rw [this]
end Go.Proofs.YtfdnfllefednjaaDoor

/-
  The document's own spaces: Map.
-/
namespace Go.Proofs.YtfdnfllefednjaaDoor
open Go.ChangeShapes Go.WideShapes Go.ChangeAt Go.RowKit Go.Shelf Go.Sort

/-- what was given and taken back again -/
theorem undo_inv {s : Sp} {m : Mem} {b : Bud} (I : SpInv s m b Yn) (Z : Zs s m) (hl : 1 ≤ b.left) :
    ∃ f, (b.al 1).1 = [f] ∧ ((f, 0) : Nat × Nat) ∈ (b.al 1).2.gave ∧ SpInv s (m.scrub f 1) ((b.al 1).2.take (f, 0)) Yn ∧ Zs s (m.scrub f 1) := by
  have ha := al_ok I.bk 1 hl
  obtain ⟨f, hf⟩ : ∃ f, (b.al 1).1 = [f] := List.length_eq_one_iff.1 ha.len
  have hg := ha.gave
  have hfr := ha.fr f (by rw [hf]; simp)
  rw [hf] at hg
  have hin : ((f, 0) : Nat × Nat) ∈ (b.al 1).2.gave := by rw [hg]; simp
  have hno : ((f, 0) : Nat × Nat) ∉ b.gave := I.free hfr.2
  have hnt : ∀ l d, l ≤ 2 → s.on l d = true → s.fr l d ≠ (f : Nat) := fun l d h2 ho e => hno ((I.gv _).2 (.inl ⟨l, d, h2, ho, by rw [e]; rfl⟩))
  have hbn := I.bn
  have hw : ∀ g p : Nat, g < m.n → p < 16 → (m.scrub f 1).word (g : Nat) (p : Nat) = if g = f then 0 else m.word (g : Nat) (p : Nat) := fun g p hg hp => by
    rw [Mem.word_scrub _ I.mo _ _ _ (decide_eq_true (by omega)) (by rw [Mem.slot_iff]; omega)]
    by_cases c : g = f
    · rw [if_pos (by omega), if_pos c]
    · rw [if_neg (by omega), if_neg c]
  refine ⟨f, hf, hin, ⟨by rw [Mem.scrub_n]; exact I.ok, fun l d p h2 ho hp => ?_, I.nee, Mem.ok_scrub _ I.mo _ _, Mem.scrub_good _ I.mo I.hg _, ha.ok.take hin, by rw [Mem.scrub_n]; exact hbn.trans ha.n.symm, fun x hx => hx.elim, fun x => ?_, fun _ _ _ _ hy => hy⟩, fun g p hg' hp hn => ?_⟩
  · have hb := I.ok.frb ho
    obtain ⟨G, hG⟩ := Int.eq_ofNat_of_zero_le hb.1
    have := hnt l d h2 ho
    rw [← I.i l d p h2 ho hp, hG, hw G p (by omega) hp, if_neg (by omega)]
  · show x ∈ (b.al 1).2.gave.erase _ ↔ _
    rw [ha.ok.nodup.mem_erase_iff, hg, ← I.gv, List.mem_append]
    constructor
    · rintro ⟨a1, a2 | a2⟩
      · exact a2
      · exact absurd (by simpa using a2) a1
    · intro a
      exact ⟨fun e => hno (e ▸ a), .inl a⟩
  · rw [Mem.scrub_n] at hg'
    rw [hw g p hg' hp]
    split
    · rfl
    · exact Z g p hg' hp hn
theorem src_page (w : World) (x : RPg) (t : TypeId) : Src (w.alloc (.cells #[.int .i64 x.n, .int .i64 x.f, .bool x.w] t)) (.slice (some ⟨w.heap.size, 0, none⟩) 1 1) 1 3 (listC RPg.c [x]) :=
  .inr ⟨w.heap.size, 0, 1, rfl, rfl, fun j u hu => by have := rows_src w [.int .i64 x.n, .int .i64 x.f, .bool x.w] t j u hu; rwa [add_mid0] at this⟩
theorem nodes_out {s : Sp} {Nd : List (Nat × Nat)} (h : Nodes s Nd) {q l : Nat} (hq : q < 4096) (hl : l ≤ 2) (ho : s.on l (nd q l) = false) : ixN (tbIx (Nd.map (tbOf s)) l (fstI q l : Nat)) (Nd.map (tbOf s)).length = -1 := by
  have : tbIx (Nd.map (tbOf s)) l (fstI q l : Nat) = (Nd.map (tbOf s)).length := first_all fun j hj => by
    unfold tbHit
    rw [List.length_map] at hj
    rw [List.getElem?_map, List.getElem?_eq_getElem hj]
    obtain ⟨a1, a2⟩ := (h.mem Nd[j]).1 (List.getElem_mem hj)
    cases hb : (decide ((tbOf s Nd[j]).l = (l : Int)) && decide ((tbOf s Nd[j]).s = ((fstI q l : Nat) : Int)))
    · exact hb
    · exfalso
      rw [Bool.and_eq_true, decide_eq_true_eq, decide_eq_true_eq] at hb
      obtain ⟨e1, e2⟩ := hb
      have e1 : (Nd[j]).1 = l := by have : (((Nd[j]).1 : Nat) : Int) = (l : Int) := e1; omega
      have e2 : (((Nd[j]).2 * 16 ^ (3 - (Nd[j]).1) : Nat) : Int) = ((fstI q l : Nat) : Int) := e2
      rw [fstI_nd hq hl, e1] at e2
      have e3 : (Nd[j]).2 = nd q l := Nat.eq_of_mul_eq_mul_right (show 0 < 16 ^ (3 - l) from Nat.pow_pos (by decide)) (by exact_mod_cast e2)
      rw [e1, e3, ho] at a2
      cases a2
  rw [this]
  unfold ixN
  rw [if_neg (by omega)]
end Go.Proofs.YtfdnfllefednjaaDoor

/-
  Both spaces side by side: allocators that have the same blocks given.
-/
namespace Go.Proofs.YtfdnfllefednjaaDoor
open Go.ChangeShapes Go.WideShapes Go.ChangeAt Go.RowKit Go.Shelf Go.Sort

theorem same_F {b d : Bud} (hb : b.Ok) (hd : d.Ok) (n : d.n = b.n) (r : d.res = b.res) (g : ∀ x, x ∈ d.gave ↔ x ∈ b.gave) : d.F = b.F := by
  funext j
  rw [Bool.eq_iff_iff, hb.fr, hd.fr, n, r]
  constructor
  · rintro ⟨a, c, e⟩; exact ⟨a, c, fun x hx => e x ((g x).2 hx)⟩
  · rintro ⟨a, c, e⟩; exact ⟨a, c, fun x hx => e x ((g x).1 hx)⟩
theorem sel_same {b d : Bud} (n : d.n = b.n) (F : d.F = b.F) (o : Nat) : d.sel o = b.sel o := by unfold Bud.sel; rw [n, F]
theorem left_same {b d : Bud} (n : d.n = b.n) (F : d.F = b.F) : d.left = b.left := by unfold Bud.left; rw [n, F]
theorem al_same {b d : Bud} (n : d.n = b.n) (F : d.F = b.F) : ∀ k, (d.al k).1 = (b.al k).1 ∧ (d.al k).2.n = (b.al k).2.n ∧ (d.al k).2.F = (b.al k).2.F
  | 0 => ⟨rfl, n, F⟩
  | k + 1 => by
    obtain ⟨e1, e2, e3⟩ := al_same n F k
    have hs := sel_same e2 e3 0
    unfold Bud.al
    cases hb : (b.al k).2.sel 0 with
    | none => rw [hs, hb]; exact ⟨e1, e2, e3⟩
    | some x =>
      rw [hs, hb]
      refine ⟨by show (d.al k).1 ++ _ = (b.al k).1 ++ _; rw [e1], e2, ?_⟩
      show cutF (d.al k).2.F _ = cutF (b.al k).2.F _
      rw [e3]
end Go.Proofs.YtfdnfllefednjaaDoor

/-
  The document's own spaces: Protect, over a whole space.
-/
namespace Go.Proofs.YtfdnfllefednjaaDoor
open Go.ChangeShapes Go.WideShapes Go.ChangeAt Go.RowKit Go.Shelf Go.Sort

theorem Sp.Ok.prot {s : Sp} {n : Nat} (h : s.Ok n) {j : Nat} (wb : Bool) (hv : (s.E 3 j).v = true) : (s.prot j wb).Ok n := by
  obtain ⟨_, ho2, _⟩ := h.page_on hv
  have hst := nd_step j 2 (by omega)
  rw [show nd j (2 + 1) = j from nd3 j] at hst
  have hf := h.f _ _ hv
  have hok := h.page ho2 (Nat.mod_lt j (by decide)) { s.E 3 j with r := wb } hv (h.pg _ hv) hf.1 hf.2
  rw [hst] at hok
  exact hok
theorem Sp.need.prot {s : Sp} (h : s.need) {j : Nat} (wb : Bool) (hv : (s.E 3 j).v = true) : (s.prot j wb).need := by
  intro l d h1 h2 ho
  rw [(s.prot_on j wb h2).1] at ho
  obtain ⟨p, hp', hc⟩ := h l d h1 h2 ho
  refine ⟨p, hp', ?_⟩
  by_cases e : l = 2
  · subst e
    rw [s.prot_E3]
    split
    · exact hv
    · exact hc
  · rw [s.prot_E _ _ _ _ (by omega)]; exact hc
end Go.Proofs.YtfdnfllefednjaaDoor
