/-
  Texts that the laws stand on, joined: TbY, TbZ.
-/
import Derived.Deep.QuietTactic
import Derived.Test.YtpfpcmadhbejiaaDoorPart6

/-
  Layer 8's laws: lists compared, what is left behind Close.
-/
namespace Go.Proofs.YtpfpcmadhbejiaaDoor
open Go.ChangeShapes Go.WideShapes Go.ChangeAt Go.RowKit Go.Shelf Go.Sort

theorem drewN_two (w : World) (a b : Nat) : (w.drewN a).drewN b = w.drewN (a + b) := World.drewN_drewN w a b
theorem same_ext {L1 L2 : List Int} (hl : L1.length = L2.length) (h : ∀ j, j < L1.length → L1.getD j 0 = L2.getD j 0) : L1 = L2 := by
  refine List.ext_getElem hl fun j h1 h2 => ?_
  have := h j h1
  rw [List.getD_eq_getElem?_getD, List.getD_eq_getElem?_getD, List.getElem?_eq_getElem h1, List.getElem?_eq_getElem h2] at this
  simpa using this
set_option maxRecDepth 100000 in
set_option maxHeartbeats 1000000 in
theorem tsame_any (L1 L2 : List Int) (o1 o2 : Option Addr) (cap1 cap2 N1 N2 : Nat) (w : World) (h1 : w.ownsRow N1 3 1 (.slice o1 L1.length cap1) L1.length (i64s L1)) (h2 : w.ownsRow N2 3 1 (.slice o2 L2.length cap2) L2.length (i64s L2)) (hl1 : L1.length ≤ 100000) (_hl2 : L2.length ≤ 100000) :
    Calls Tryd.prog 18 #[.slice o1 L1.length cap1, .slice o2 L2.length cap2] w fun e w' => e = .returned (.bool (decide (L1 = L2))) ∧ ∃ n, w' = w.drewN n := by
  obtain ⟨o1', c1', e1, hc1⟩ := slice1 h1
  cases e1
  obtain ⟨o2', c2', e2, hc2⟩ := slice1 h2
  cases e2
  have H1 := Lib.hid (fun j (hj : j < L1.length) => hc1 j _ (i64s_at _ _ hj))
  have H2 := Lib.hid (fun j (hj : j < L2.length) => hc2 j _ (i64s_at _ _ hj))
  clear h1 h2 hc1 hc2
  by_cases hl : L1.length = L2.length
  · have hext := Lib.hid (same_ext hl)
    obtain ⟨n, hn⟩ : ∃ n, L1.length = n := ⟨_, rfl⟩
    obtain ⟨D, hD⟩ : ∃ D, decide (L1 = L2) = D := ⟨_, rfl⟩
    have HD := Lib.hid hD
    have hl2' := hl.symm.trans hn
    rw [hD, hn, hl2']
    rw [hn] at H1 hext hl1
    rw [hl2'] at H2
    clear hD hn hl2' hl _hl2
    go_enter Tryd.func18, Tryd.ntmps18
    go_wp2_with fail
    go_loopw [5] (fun t wr => ∃ j : Nat, j ≤ n ∧ t = .int .i64 j ∧ Hid (∀ i, i < j → L1.getD i 0 = L2.getD i 0) ∧ ∃ q, wr = w.drewN q) (fun t _ => n - (intOf t).toNat)
    case atStart => exact ⟨0, by omega, rfl, Lib.hid (fun i hi => by omega), 0, rfl⟩
    case round =>
      obtain ⟨j, hj, rfl, hall, q, rfl⟩ := hrel
      by_cases hlt : j < n
      · obtain ⟨g1, rfl, a1⟩ := H1.out j hlt
        obtain ⟨g2, rfl, a2⟩ := H2.out j hlt
        have a1' : (w.drewN q).cell? ⟨g1, j, none⟩ = _ := a1
        have a2' : (w.drewN q).cell? ⟨g2, j, none⟩ = _ := a2
        have hW : Hid (∀ r, ∃ n, (w.drewN q).drewN r = w.drewN n) := Lib.hid (fun r => ⟨q + r, drewN_two w q r⟩)
        generalize w.drewN q = W at a1' a2' hW ⊢
        clear a1 a2
        obtain ⟨x, hx⟩ : ∃ x, L1.getD j 0 = x := ⟨_, rfl⟩
        obtain ⟨y, hy⟩ : ∃ y, L2.getD j 0 = y := ⟨_, rfl⟩
        rw [hx] at a1'
        rw [hy] at a2'
        have HX := Lib.hid hx
        have HY := Lib.hid hy
        clear hx hy
        by_cases hxy : x = y
        · subst hxy
          have hall' : Hid (∀ i, i < j + 1 → L1.getD i 0 = L2.getD i 0) := Lib.hid (fun i hi => by
            by_cases e : i = j
            · subst e; rw [HX.out, HY.out]
            · exact hall.out i (by omega))
          clear HX HY hall
          go_wp2
          go_quiet (fail)
          go_wp2
          go_roundw
          case rel => exact ⟨j + 1, by omega, by go_num, hall', hW.out _⟩
          case measure => simp [intOf]; omega
        · have hne : Hid (D = false) := Lib.hid (by
            rw [← HD.out, decide_eq_false_iff_not]
            intro e
            exact hxy (by rw [← HX.out, ← HY.out, e]))
          have hb : (x == y) = false := by simpa using hxy
          clear HX HY hall
          go_wp2
          go_quiet (fail)
          go_wp2
          go_ret
          exact ⟨by rw [hne.out]; rfl, hW.out _⟩
      · obtain rfl : j = n := by omega
        have he : Hid (D = true) := Lib.hid (by rw [← HD.out, decide_eq_true_eq]; exact hext.out hall.out)
        go_wp2
        go_ret
        exact ⟨by rw [he.out]; rfl, q, rfl⟩
  · have hne : Hid (decide (L1 = L2) = false) := Lib.hid (by rw [decide_eq_false_iff_not]; intro e; exact hl (by rw [e]))
    have hb : ((L1.length : Int) == (L2.length : Int)) = false := by simp; omega
    obtain ⟨D, hD⟩ : ∃ D, decide (L1 = L2) = D := ⟨_, rfl⟩
    rw [hD] at hne ⊢
    clear hD H1 H2 hl1 _hl2
    generalize L1.length = n1 at *
    generalize L2.length = n2 at *
    go_enter Tryd.func18, Tryd.ntmps18
    go_wp2
    go_ret
    exact ⟨by rw [hne.out]; rfl, 0, rfl⟩
theorem blocks_pos {b : Bud} (h : 1 ≤ b.left) : 1 ≤ (blocks b.F b.n).length := by
  unfold Bud.left cnt at h
  obtain ⟨j, hj⟩ := List.exists_mem_of_length_pos (l := (List.range b.n).filter b.F) (by omega)
  rw [List.mem_filter, List.mem_range] at hj
  obtain ⟨k, hk⟩ := exists_mx hj.2 hj.1
  exact List.length_pos_of_mem (mem_blocks.2 hk : (st j k, k) ∈ blocks b.F b.n)
theorem none_left {b : Bud} (h : b.Ok) (h0 : ∀ x, x ∈ b.gave ↔ False) : b.left + b.res = b.n := by
  have hg : b.gave = [] := List.eq_nil_iff_forall_not_mem.2 fun x hx => (h0 x).1 hx
  have := left_len _ (b := b) rfl h (fun x hx => ((h0 x).1 hx).elim)
  rw [hg] at this
  simpa using this
/-- other pages, another list -/
theorem Sp.pgi_ne {s s' : Sp} {q : Nat} (hq : q < 4096) (h : (s.E 3 q).v ≠ (s'.E 3 q).v) : s.pgi ≠ s'.pgi := by
  intro e
  have hm : ∀ t : Sp, ((q : Nat) : Int) ∈ t.pgi ↔ (t.E 3 q).v = true := by
    intro t
    unfold Sp.pgi
    rw [List.mem_map]
    constructor
    · rintro ⟨p, hp, e⟩
      obtain rfl : p = q := by omega
      exact (Sp.mem_pgs.1 hp).2
    · intro hv
      exact ⟨q, Sp.mem_pgs.2 ⟨hq, hv⟩, rfl⟩
  have h1 := hm s
  rw [e, hm s'] at h1
  cases ha : (s.E 3 q).v <;> cases hb : (s'.E 3 q).v <;> rw [ha, hb] at h <;> simp_all
end Go.Proofs.YtpfpcmadhbejiaaDoor

/-
  Layer 8's laws: how many tables are needed, counted off the pages.
-/
namespace Go.Proofs.YtpfpcmadhbejiaaDoor
open Go.ChangeShapes Go.WideShapes Go.ChangeAt Go.RowKit Go.Shelf Go.Sort

/-- how often a number of the first k pages is another than that of the one before -/
def chg (g : Nat → Nat) (P : List Nat) : Nat → Nat
  | 0 => 0
  | k + 1 => chg g P k + if k = 0 ∨ g (P.getD k 0) ≠ g (P.getD (k - 1) 0) then 1 else 0
theorem cnt_add (p : Nat → Bool) (v M : Nat) (hv : v < M) (hp : p v = false) : cnt (fun d => p d || decide (v = d)) M = cnt p M + 1 := by
  have h := cnt_cut (fun d => p d || decide (v = d)) v 0 (fun j h1 h2 => by
    have : v = j := by simp at h2; omega
    simp [this]) M
  have e : cutF (fun d => p d || decide (v = d)) (v, 0) = p := by
    funext d
    unfold cutF
    by_cases hd : d = v
    · subst hd
      have : inBlk (d, 0) d = true := inBlk_iff.2 ⟨Nat.le_refl _, by simp⟩
      rw [this, hp]; simp
    · have : inBlk (v, 0) d = false := inBlk_no.2 (by simp; omega)
      rw [this]
      have h2 : ¬ v = d := fun e => hd e.symm
      simp [h2]
  rw [e] at h
  simp at h
  omega
theorem chg_cnt (g : Nat → Nat) (P : List Nat) (M : Nat) (hM : ∀ q, q ∈ P → g q < M) (hmono : ∀ a b, a ≤ b → g a ≤ g b) (hs : ∀ i j, i < j → j < P.length → P.getD i 0 < P.getD j 0) :
    ∀ k, k ≤ P.length → chg g P k = cnt (fun d => (List.range k).any fun i => decide (g (P.getD i 0) = d)) M
  | 0, _ => by
    unfold chg cnt
    rw [List.filter_eq_nil_iff.2 (fun d _ => by simp)]
    rfl
  | k + 1, hk => by
    have ih := chg_cnt g P M hM hmono hs k (by omega)
    have hmem : P.getD k 0 ∈ P := getD_mem (by omega)
    have e : (fun d => (List.range (k + 1)).any fun i => decide (g (P.getD i 0) = d)) = fun d => (((List.range k).any fun i => decide (g (P.getD i 0) = d)) || decide (g (P.getD k 0) = d)) := by
      funext d
      rw [List.range_succ, List.any_append]
      simp
    rw [chg, ih, e]
    by_cases hc : k = 0 ∨ g (P.getD k 0) ≠ g (P.getD (k - 1) 0)
    · rw [if_pos hc]
      refine (cnt_add _ _ M (hM _ hmem) ?_).symm
      rw [List.any_eq_false]
      intro i hi
      rw [List.mem_range] at hi
      simp only [decide_eq_true_eq]
      intro e2
      rcases hc with hc | hc
      · omega
      · have h1 : g (P.getD i 0) ≤ g (P.getD (k - 1) 0) := by
          by_cases hik : i = k - 1
          · rw [hik]; exact Nat.le_refl _
          · exact hmono _ _ (Nat.le_of_lt (hs i (k - 1) (by omega) (by omega)))
        have h2 : g (P.getD (k - 1) 0) ≤ g (P.getD k 0) := hmono _ _ (Nat.le_of_lt (hs (k - 1) k (by omega) (by omega)))
        omega
    · rw [if_neg hc, Nat.add_zero]
      have hk0 : k ≠ 0 := fun e => hc (.inl e)
      have hg : g (P.getD k 0) = g (P.getD (k - 1) 0) := by
        by_cases x : g (P.getD k 0) = g (P.getD (k - 1) 0)
        · exact x
        · exact absurd (.inr x) hc
      congr 1
      funext d
      by_cases hd : g (P.getD k 0) = d
      · have : ((List.range k).any fun i => decide (g (P.getD i 0) = d)) = true := by
          rw [List.any_eq_true]
          exact ⟨k - 1, by rw [List.mem_range]; omega, by rw [← hg]; simpa using hd⟩
        rw [this]; rfl
      · simp only [hd, decide_false, Bool.or_false]
theorem any_mem (g : Nat → Nat) (P : List Nat) (d : Nat) : ((List.range P.length).any fun i => decide (g (P.getD i 0) = d)) = true ↔ ∃ q, q ∈ P ∧ g q = d := by
  rw [List.any_eq_true]
  constructor
  · rintro ⟨i, hi, h⟩
    rw [List.mem_range] at hi
    exact ⟨_, getD_mem hi, by simpa using h⟩
  · rintro ⟨q, hq, h⟩
    obtain ⟨i, hi, rfl⟩ := List.getElem_of_mem hq
    exact ⟨i, List.mem_range.2 hi, by rw [List.getD_eq_getElem?_getD, List.getElem?_eq_getElem hi]; simpa using h⟩
/-- no more tables than are needed -/
theorem SpInv.needs {s : Sp} {m : Mem} {b : Bud} {Y : Nat × Nat → Prop} (h : SpInv s m b Y) : s.tabs.length = 1 + chg (· / 256) s.pgs s.pgs.length + chg (· / 16) s.pgs s.pgs.length := by
  have hup : ∀ i j, i < j → j < s.pgs.length → s.pgs.getD i 0 < s.pgs.getD j 0 := fun i j => s.pgs_up
  have par : ∀ l d, (s.E (l + 2) d).v = true → (s.E (l + 1) (d / 16)).v = true := fun l d hv => by
    have := (h.ok.lv _ _ hv).2.2.2
    rwa [show l + 2 - 1 = l + 1 from rfl, s.onS] at this
  rw [h.ok.tabs_len]
  rw [chg_cnt (· / 256) s.pgs 16 (fun q hq => by have := (Sp.mem_pgs.1 hq).1; show q / 256 < 16; omega) (fun a b hab => Nat.div_le_div_right hab) hup _ (Nat.le_refl _)]
  rw [chg_cnt (· / 16) s.pgs 256 (fun q hq => by have := (Sp.mem_pgs.1 hq).1; show q / 16 < 256; omega) (fun a b hab => Nat.div_le_div_right hab) hup _ (Nat.le_refl _)]
  have e1 : (s.lev 1).length = cnt (fun d => (List.range s.pgs.length).any fun i => decide (s.pgs.getD i 0 / 256 = d)) 16 := by
    suffices hf : (fun d => (s.E 1 d).v) = fun d => (List.range s.pgs.length).any fun i => decide (s.pgs.getD i 0 / 256 = d) from by
      unfold Sp.lev cnt
      rw [show (16 : Nat) ^ 1 = 16 from rfl, hf]
    funext d
    rw [Bool.eq_iff_iff, any_mem (· / 256)]
    constructor
    · intro hv
      obtain ⟨p, hp, hv2⟩ := h.nee 1 d (by omega) (by omega) (by rw [s.onS]; exact hv)
      obtain ⟨p', hp', hv3⟩ := h.nee 2 (16 * d + p) (by omega) (by omega) (by rw [s.onS]; exact hv2)
      exact ⟨_, Sp.mem_pgs.2 ⟨(Sp.page_dep h.ok hv3).2, hv3⟩, by show (16 * (16 * d + p) + p') / 256 = d; omega⟩
    · rintro ⟨q, hq, hd⟩
      have := par 0 _ (par 1 _ (Sp.mem_pgs.1 hq).2)
      rw [show q / 16 / 16 = d from by have : q / 256 = d := hd; omega] at this
      exact this
  have e2 : (s.lev 2).length = cnt (fun d => (List.range s.pgs.length).any fun i => decide (s.pgs.getD i 0 / 16 = d)) 256 := by
    suffices hf : (fun d => (s.E 2 d).v) = fun d => (List.range s.pgs.length).any fun i => decide (s.pgs.getD i 0 / 16 = d) from by
      unfold Sp.lev cnt
      rw [show (16 : Nat) ^ 2 = 256 from rfl, hf]
    funext d
    rw [Bool.eq_iff_iff, any_mem (· / 16)]
    constructor
    · intro hv
      obtain ⟨p', hp', hv3⟩ := h.nee 2 d (by omega) (by omega) (by rw [s.onS]; exact hv)
      exact ⟨_, Sp.mem_pgs.2 ⟨(Sp.page_dep h.ok hv3).2, hv3⟩, by show (16 * d + p') / 16 = d; omega⟩
    · rintro ⟨q, hq, hd⟩
      have := par 1 _ (Sp.mem_pgs.1 hq).2
      rw [show q / 16 = d from hd] at this
      exact this
  rw [e1, e2]
theorem chg_le (g : Nat → Nat) (P : List Nat) : ∀ k, chg g P k ≤ k
  | 0 => Nat.le_refl _
  | k + 1 => by
    have := chg_le g P k
    rw [chg]
    split <;> omega
end Go.Proofs.YtpfpcmadhbejiaaDoor
