/-
  Texts that the laws stand on, joined: TbY.
-/
import Derived.Deep.QuietTactic
import Derived.Test.YtdapmcclplfpfaaGreatDoorPart10

/-
  Layer 8's laws: lists compared, what is left behind Close.
-/
namespace Go.Proofs.YtdapmcclplfpfaaGreatDoor
open Go.ChangeShapes Go.WideShapes Go.ChangeAt Go.RowKit Go.Shelf Go.Sort

theorem drewN_two (w : World) (a b : Nat) : (w.drewN a).drewN b = w.drewN (a + b) := World.drewN_drewN w a b
theorem same_ext {L1 L2 : List Int} (hl : L1.length = L2.length) (h : ∀ j, j < L1.length → L1.getD j 0 = L2.getD j 0) : L1 = L2 := by
  refine List.ext_getElem hl fun j h1 h2 => ?_
  have := h j h1
  rw [List.getD_eq_getElem?_getD, List.getD_eq_getElem?_getD, List.getElem?_eq_getElem h1, List.getElem?_eq_getElem h2] at this
  simpa using this
set_option maxRecDepth 100000 in
set_option maxHeartbeats 1000000 in
theorem tsame_any (L1 L2 : List Int) (o1 o2 : Option Addr) (cap1 cap2 N1 N2 : Nat) (w : World) (h1 : w.ownsRow N1 3 1 (.slice o1 L1.length cap1) L1.length (i64s L1)) (h2 : w.ownsRow N2 3 1 (.slice o2 L2.length cap2) L2.length (i64s L2)) (hl1 : L1.length ≤ 100000) (_hl2 : L2.length ≤ 100000) :
    Calls Tryz.prog 17 #[.slice o1 L1.length cap1, .slice o2 L2.length cap2] w fun e w' => e = .returned (.bool (decide (L1 = L2))) ∧ ∃ n, w' = w.drewN n := by
  obtain ⟨o1', c1', e1, hc1⟩ := slice1 h1
  cases e1
  obtain ⟨o2', c2', e2, hc2⟩ := slice1 h2
  cases e2
  have H1 := Lib.hid (fun j (hj : j < L1.length) => hc1 j _ (i64s_at _ _ hj))
  have H2 := Lib.hid (fun j (hj : j < L2.length) => hc2 j _ (i64s_at _ _ hj))
  clear h1 h2 hc1 hc2
  by_cases hl : L1.length = L2.length
  · have hext := Lib.hid (same_ext hl)
    obtain ⟨n, hn⟩ : ∃ n, L1.length = n := ⟨_, rfl⟩
    obtain ⟨D, hD⟩ : ∃ D, decide (L1 = L2) = D := ⟨_, rfl⟩
    have HD := Lib.hid hD
    have hl2' := hl.symm.trans hn
    rw [hD, hn, hl2']
    rw [hn] at H1 hext hl1
    rw [hl2'] at H2
    clear hD hn hl2' hl _hl2
    go_enter Tryz.func17, Tryz.ntmps17
    go_wp2_with fail
    go_loopw [5] (fun t wr => ∃ j : Nat, j ≤ n ∧ t = .int .i64 j ∧ Hid (∀ i, i < j → L1.getD i 0 = L2.getD i 0) ∧ ∃ q, wr = w.drewN q) (fun t _ => n - (intOf t).toNat)
    case atStart => exact ⟨0, by omega, rfl, Lib.hid (fun i hi => by omega), 0, rfl⟩
    case round =>
      obtain ⟨j, hj, rfl, hall, q, rfl⟩ := hrel
      by_cases hlt : j < n
      · obtain ⟨g1, rfl, a1⟩ := H1.out j hlt
        obtain ⟨g2, rfl, a2⟩ := H2.out j hlt
        have a1' : (w.drewN q).cell? ⟨g1, j, none⟩ = _ := a1
        have a2' : (w.drewN q).cell? ⟨g2, j, none⟩ = _ := a2
        have hW : Hid (∀ r, ∃ n, (w.drewN q).drewN r = w.drewN n) := Lib.hid (fun r => ⟨q + r, drewN_two w q r⟩)
        generalize w.drewN q = W at a1' a2' hW ⊢
        clear a1 a2
        obtain ⟨x, hx⟩ : ∃ x, L1.getD j 0 = x := ⟨_, rfl⟩
        obtain ⟨y, hy⟩ : ∃ y, L2.getD j 0 = y := ⟨_, rfl⟩
        rw [hx] at a1'
        rw [hy] at a2'
        have HX := Lib.hid hx
        have HY := Lib.hid hy
        clear hx hy
        by_cases hxy : x = y
        · subst hxy
          have hall' : Hid (∀ i, i < j + 1 → L1.getD i 0 = L2.getD i 0) := Lib.hid (fun i hi => by
            by_cases e : i = j
            · subst e; rw [HX.out, HY.out]
            · exact hall.out i (by omega))
          clear HX HY hall
          go_wp2
          go_quiet (fail)
          go_wp2
          go_roundw
          case rel => exact ⟨j + 1, by omega, by go_num, hall', hW.out _⟩
          case measure => simp [intOf]; omega
        · have hne : Hid (D = false) := Lib.hid (by
            rw [← HD.out, decide_eq_false_iff_not]
            intro e
            exact hxy (by rw [← HX.out, ← HY.out, e]))
          have hb : (x == y) = false := by simpa using hxy
          clear HX HY hall
          go_wp2
          go_quiet (fail)
          go_wp2
          go_ret
          exact ⟨by rw [hne.out]; rfl, hW.out _⟩
      · obtain rfl : j = n := by omega
        have he : Hid (D = true) := Lib.hid (by rw [← HD.out, decide_eq_true_eq]; exact hext.out hall.out)
        go_wp2
        go_ret
        exact ⟨by rw [he.out]; rfl, q, rfl⟩
  · have hne : Hid (decide (L1 = L2) = false) := Lib.hid (by rw [decide_eq_false_iff_not]; intro e; exact hl (by rw [e]))
    have hb : ((L1.length : Int) == (L2.length : Int)) = false := by simp; omega
    obtain ⟨D, hD⟩ : ∃ D, decide (L1 = L2) = D := ⟨_, rfl⟩
    rw [hD] at hne ⊢
    clear hD H1 H2 hl1 _hl2
    generalize L1.length = n1 at *
    generalize L2.length = n2 at *
    go_enter Tryz.func17, Tryz.ntmps17
    go_wp2
    go_ret
    exact ⟨by rw [hne.out]; rfl, 0, rfl⟩
theorem blocks_pos {b : Bud} (h : 1 ≤ b.left) : 1 ≤ (blocks b.F b.n).length := by
  unfold Bud.left cnt at h
  obtain ⟨j, hj⟩ := List.exists_mem_of_length_pos (l := (List.range b.n).filter b.F) (by omega)
  rw [List.mem_filter, List.mem_range] at hj
  obtain ⟨k, hk⟩ := exists_mx hj.2 hj.1
  exact List.length_pos_of_mem (mem_blocks.2 hk : (st j k, k) ∈ blocks b.F b.n)
theorem none_left {b : Bud} (h : b.Ok) (h0 : ∀ x, x ∈ b.gave ↔ False) : b.left + b.res = b.n := by
  have hg : b.gave = [] := List.eq_nil_iff_forall_not_mem.2 fun x hx => (h0 x).1 hx
  have := left_len _ (b := b) rfl h (fun x hx => ((h0 x).1 hx).elim)
  rw [hg] at this
  simpa using this
/-- other pages, another list -/
theorem Sp.pgi_ne {s s' : Sp} {q : Nat} (hq : q < 4096) (h : (s.E 3 q).v ≠ (s'.E 3 q).v) : s.pgi ≠ s'.pgi := by
  intro e
  have hm : ∀ t : Sp, ((q : Nat) : Int) ∈ t.pgi ↔ (t.E 3 q).v = true := by
    intro t
    unfold Sp.pgi
    rw [List.mem_map]
    constructor
    · rintro ⟨p, hp, e⟩
      obtain rfl : p = q := by omega
      exact (Sp.mem_pgs.1 hp).2
    · intro hv
      exact ⟨q, Sp.mem_pgs.2 ⟨hq, hv⟩, rfl⟩
  have h1 := hm s
  rw [e, hm s'] at h1
  cases ha : (s.E 3 q).v <;> cases hb : (s'.E 3 q).v <;> rw [ha, hb] at h <;> simp_all
end Go.Proofs.YtdapmcclplfpfaaGreatDoor
