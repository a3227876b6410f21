/-
  Texts that the laws stand on, joined: TbY, TpA, TpB, FrameA.
-/
import Derived.Deep.QuietTactic
import Derived.Test.YtpfpcmadhbejiaaDoorPart6

/-
  Layer 8's laws: lists compared, what is left behind Close.
-/
namespace Go.Proofs.YtpfpcmadhbejiaaDoor
open Go.ChangeShapes Go.WideShapes Go.ChangeAt Go.RowKit Go.Shelf Go.Sort

theorem drewN_two (w : World) (a b : Nat) : (w.drewN a).drewN b = w.drewN (a + b) := World.drewN_drewN w a b
theorem same_ext {L1 L2 : List Int} (hl : L1.length = L2.length) (h : ∀ j, j < L1.length → L1.getD j 0 = L2.getD j 0) : L1 = L2 := by
  refine List.ext_getElem hl fun j h1 h2 => ?_
  have := h j h1
  rw [List.getD_eq_getElem?_getD, List.getD_eq_getElem?_getD, List.getElem?_eq_getElem h1, List.getElem?_eq_getElem h2] at this
  simpa using this
set_option maxRecDepth 100000 in
set_option maxHeartbeats 1000000 in
theorem tsame_any (L1 L2 : List Int) (o1 o2 : Option Addr) (cap1 cap2 N1 N2 : Nat) (w : World) (h1 : w.ownsRow N1 3 1 (.slice o1 L1.length cap1) L1.length (i64s L1)) (h2 : w.ownsRow N2 3 1 (.slice o2 L2.length cap2) L2.length (i64s L2)) (hl1 : L1.length ≤ 100000) (_hl2 : L2.length ≤ 100000) :
    Calls Tryd.prog 18 #[.slice o1 L1.length cap1, .slice o2 L2.length cap2] w fun e w' => e = .returned (.bool (decide (L1 = L2))) ∧ ∃ n, w' = w.drewN n := by
  obtain ⟨o1', c1', e1, hc1⟩ := slice1 h1
  cases e1
  obtain ⟨o2', c2', e2, hc2⟩ := slice1 h2
  cases e2
  have H1 := Lib.hid (fun j (hj : j < L1.length) => hc1 j _ (i64s_at _ _ hj))
  have H2 := Lib.hid (fun j (hj : j < L2.length) => hc2 j _ (i64s_at _ _ hj))
  clear h1 h2 hc1 hc2
  by_cases hl : L1.length = L2.length
  · have hext := Lib.hid (same_ext hl)
    obtain ⟨n, hn⟩ : ∃ n, L1.length = n := ⟨_, rfl⟩
    obtain ⟨D, hD⟩ : ∃ D, decide (L1 = L2) = D := ⟨_, rfl⟩
    have HD := Lib.hid hD
    have hl2' := hl.symm.trans hn
    rw [hD, hn, hl2']
    rw [hn] at H1 hext hl1
    rw [hl2'] at H2
    clear hD hn hl2' hl _hl2
    go_enter Tryd.func18, Tryd.ntmps18
    go_wp2_with fail
    go_loopw [5] (fun t wr => ∃ j : Nat, j ≤ n ∧ t = .int .i64 j ∧ Hid (∀ i, i < j → L1.getD i 0 = L2.getD i 0) ∧ ∃ q, wr = w.drewN q) (fun t _ => n - (intOf t).toNat)
    case atStart => exact ⟨0, by omega, rfl, Lib.hid (fun i hi => by omega), 0, rfl⟩
    case round =>
      obtain ⟨j, hj, rfl, hall, q, rfl⟩ := hrel
      by_cases hlt : j < n
      · obtain ⟨g1, rfl, a1⟩ := H1.out j hlt
        obtain ⟨g2, rfl, a2⟩ := H2.out j hlt
        have a1' : (w.drewN q).cell? ⟨g1, j, none⟩ = _ := a1
        have a2' : (w.drewN q).cell? ⟨g2, j, none⟩ = _ := a2
        have hW : Hid (∀ r, ∃ n, (w.drewN q).drewN r = w.drewN n) := Lib.hid (fun r => ⟨q + r, drewN_two w q r⟩)
        generalize w.drewN q = W at a1' a2' hW ⊢
        clear a1 a2
        obtain ⟨x, hx⟩ : ∃ x, L1.getD j 0 = x := ⟨_, rfl⟩
        obtain ⟨y, hy⟩ : ∃ y, L2.getD j 0 = y := ⟨_, rfl⟩
        rw [hx] at a1'
        rw [hy] at a2'
        have HX := Lib.hid hx
        have HY := Lib.hid hy
        clear hx hy
        by_cases hxy : x = y
        · subst hxy
          have hall' : Hid (∀ i, i < j + 1 → L1.getD i 0 = L2.getD i 0) := Lib.hid (fun i hi => by
            by_cases e : i = j
            · subst e; rw [HX.out, HY.out]
            · exact hall.out i (by omega))
          clear HX HY hall
          go_wp2
          go_quiet (fail)
          go_wp2
          go_roundw
          case rel => exact ⟨j + 1, by omega, by go_num, hall', hW.out _⟩
          case measure => simp [intOf]; omega
        · have hne : Hid (D = false) := Lib.hid (by
            rw [← HD.out, decide_eq_false_iff_not]
            intro e
            exact hxy (by rw [← HX.out, ← HY.out, e]))
          have hb : (x == y) = false := by simpa using hxy
          clear HX HY hall
          go_wp2
          go_quiet (fail)
          go_wp2
          go_ret
          exact ⟨by rw [hne.out]; rfl, hW.out _⟩
      · obtain rfl : j = n := by omega
        have he : Hid (D = true) := Lib.hid (by rw [← HD.out, decide_eq_true_eq]; exact hext.out hall.out)
        go_wp2
        go_ret
        exact ⟨by rw [he.out]; rfl, q, rfl⟩
  · have hne : Hid (decide (L1 = L2) = false) := Lib.hid (by rw [decide_eq_false_iff_not]; intro e; exact hl (by rw [e]))
    have hb : ((L1.length : Int) == (L2.length : Int)) = false := by simp; omega
    obtain ⟨D, hD⟩ : ∃ D, decide (L1 = L2) = D := ⟨_, rfl⟩
    rw [hD] at hne ⊢
    clear hD H1 H2 hl1 _hl2
    generalize L1.length = n1 at *
    generalize L2.length = n2 at *
    go_enter Tryd.func18, Tryd.ntmps18
    go_wp2
    go_ret
    exact ⟨by rw [hne.out]; rfl, 0, rfl⟩
theorem blocks_pos {b : Bud} (h : 1 ≤ b.left) : 1 ≤ (blocks b.F b.n).length := by
  unfold Bud.left cnt at h
  obtain ⟨j, hj⟩ := List.exists_mem_of_length_pos (l := (List.range b.n).filter b.F) (by omega)
  rw [List.mem_filter, List.mem_range] at hj
  obtain ⟨k, hk⟩ := exists_mx hj.2 hj.1
  exact List.length_pos_of_mem (mem_blocks.2 hk : (st j k, k) ∈ blocks b.F b.n)
theorem none_left {b : Bud} (h : b.Ok) (h0 : ∀ x, x ∈ b.gave ↔ False) : b.left + b.res = b.n := by
  have hg : b.gave = [] := List.eq_nil_iff_forall_not_mem.2 fun x hx => (h0 x).1 hx
  have := left_len _ (b := b) rfl h (fun x hx => ((h0 x).1 hx).elim)
  rw [hg] at this
  simpa using this
/-- other pages, another list -/
theorem Sp.pgi_ne {s s' : Sp} {q : Nat} (hq : q < 4096) (h : (s.E 3 q).v ≠ (s'.E 3 q).v) : s.pgi ≠ s'.pgi := by
  intro e
  have hm : ∀ t : Sp, ((q : Nat) : Int) ∈ t.pgi ↔ (t.E 3 q).v = true := by
    intro t
    unfold Sp.pgi
    rw [List.mem_map]
    constructor
    · rintro ⟨p, hp, e⟩
      obtain rfl : p = q := by omega
      exact (Sp.mem_pgs.1 hp).2
    · intro hv
      exact ⟨q, Sp.mem_pgs.2 ⟨hq, hv⟩, rfl⟩
  have h1 := hm s
  rw [e, hm s'] at h1
  cases ha : (s.E 3 q).v <;> cases hb : (s'.E 3 q).v <;> rw [ha, hb] at h <;> simp_all
end Go.Proofs.YtpfpcmadhbejiaaDoor

/-
  Two spaces of one memory; the law's mapped.
-/
namespace Go.Proofs.YtpfpcmadhbejiaaDoor
open Go.ChangeShapes Go.WideShapes Go.ChangeAt Go.RowKit Go.Shelf Go.Sort

/-- the blocks of a space's tables -/
def tabsOf (s : Sp) (x : Nat × Nat) : Prop := ∃ l d, l ≤ 2 ∧ s.on l d = true ∧ x = ((s.fr l d).toNat, 0)
theorem tabsOf_zero {s : Sp} {x : Nat × Nat} (h : tabsOf s x) : x.2 = 0 := by obtain ⟨l, d, _, _, rfl⟩ := h; rfl
/-- the space beside one that has changed -/
theorem SpInv.beside {t s' : Sp} {m m' : Mem} {b b' : Bud} {Y : Nat × Nat → Prop} (ht : SpInv t m b Y) (hs : SpInv s' m' b' (tabsOf t)) (hw : SameW (tabsOf t) m m') (hn : m'.n = m.n) : SpInv t m' b' (tabsOf s') := by
  refine ⟨by rw [hn]; exact ht.ok, ?_, ht.nee, hs.mo, hs.hg, hs.bk, hs.bn, fun x => tabsOf_zero, ?_, ?_⟩
  · intro l d p hl ho hp
    have hb := ht.ok.frb ho
    obtain ⟨g, hg⟩ := Int.eq_ofNat_of_zero_le hb.1
    have := hw ((t.fr l d).toNat, 0) ⟨l, d, hl, ho, rfl⟩ p hp
    rw [hg, Int.toNat_natCast] at this
    rw [← ht.i l d p hl ho hp, hg]
    exact this
  · intro x
    rw [hs.gv]
    exact ⟨fun h => h.elim .inr .inl, fun h => h.elim .inr .inl⟩
  · rintro l d hl ho ⟨l', d', hl', ho', e⟩
    exact hs.ap l' d' hl' ho' ⟨l, d, hl, ho, e.symm⟩
/-- .. that was closed -/
theorem SpInv.alone {t : Sp} {m m' : Mem} {b b' : Bud} {Y : Nat × Nat → Prop} (ht : SpInv t m b Y) (hf : Freed m b (tabsOf t) m' b') (hg : ∀ x, x ∈ b'.gave ↔ tabsOf t x) (hbn : b.n = m.n) : SpInv t m' b' (fun _ => False) := by
  refine ⟨by rw [hf.n]; exact ht.ok, ?_, ht.nee, hf.mo, hf.hg, hf.bk, by rw [hf.n, hf.bn]; exact hbn.symm, fun _ h => h.elim, fun x => by rw [hg]; exact ⟨.inl, fun h => h.elim id (fun e => e.elim)⟩, fun _ _ _ _ h => h⟩
  intro l d p hl ho hp
  have hb := ht.ok.frb ho
  obtain ⟨g, hgg⟩ := Int.eq_ofNat_of_zero_le hb.1
  have := hf.w ((t.fr l d).toNat, 0) ⟨l, d, hl, ho, rfl⟩ p hp
  rw [hgg, Int.toNat_natCast] at this
  rw [← ht.i l d p hl ho hp, hgg]
  exact this
structure Duet (w : World) (S1 S2 MA A GB MB : Nat) (s t : Sp) (m : Mem) (b : Bud) : Prop where
  P1 : Spc w S1 MA A GB MB s m b (tabsOf t)
  P2 : Spc w S2 MA A GB MB t m b (tabsOf s)
theorem Duet.symm {w : World} {S1 S2 MA A GB MB : Nat} {s t : Sp} {m : Mem} {b : Bud} (h : Duet w S1 S2 MA A GB MB s t m b) : Duet w S2 S1 MA A GB MB t s m b := ⟨h.P2, h.P1⟩
theorem Duet.still {w w' : World} {S1 S2 MA A GB MB : Nat} {s t : Sp} {m : Mem} {b : Bud} (h : Duet w S1 S2 MA A GB MB s t m b) (u : Upd (fun _ => False) w w') : Duet w' S1 S2 MA A GB MB s t m b := ⟨h.P1.still u, h.P2.still u⟩
theorem Duet.one {w w' : World} {S1 S2 MA A GB MB : Nat} {s t s' : Sp} {m m' : Mem} {b b' : Bud} (h : Duet w S1 S2 MA A GB MB s t m b) (P : Spc w' S1 MA A GB MB s' m' b' (tabsOf t)) (u : Upd (fun k => k = GB ∨ k = MB) w w') (hw : SameW (tabsOf t) m m') (hn : m'.n = m.n) : Duet w' S1 S2 MA A GB MB s' t m' b' :=
  ⟨P, ⟨h.P2.S.kept u h.P2.own, P.D, P.T, h.P2.I.beside P.I hw hn, P.B⟩⟩
/-- the frames of two spaces' tables -/
theorem Duet.apart {w : World} {S1 S2 MA A GB MB : Nat} {s t : Sp} {m : Mem} {b : Bud} (h : Duet w S1 S2 MA A GB MB s t m b) {i j : Nat} (hi : i < s.tbs.length) (hj : j < t.tbs.length) : s.tbs.getD i 0 ≠ t.tbs.getD j 0 := by
  have hm : ∀ (u : Sp) (k : Nat), k < u.tbs.length → u.tbs.getD k 0 ∈ u.tabs := fun u k hk => (List.mergeSort_perm u.tabs leI).mem_iff.1 (by
    show u.tbs.getD k 0 ∈ u.tbs
    rw [List.getD_eq_getElem?_getD, List.getElem?_eq_getElem hk]; simp)
  obtain ⟨l, d, hl, ho, e⟩ := h.P1.I.ok.mem_tabs.1 (hm s i hi)
  obtain ⟨l', d', hl', ho', e'⟩ := h.P2.I.ok.mem_tabs.1 (hm t j hj)
  intro he
  rw [e, e'] at he
  exact h.P1.I.ap l d hl ho ⟨l', d', hl', ho', by rw [he]⟩
set_option maxRecDepth 100000 in
set_option maxHeartbeats 1000000 in
/-- a memory, an allocator, a space -/
theorem top_begun (n r : Nat) (h1 : 1 ≤ n) (h2 : n ≤ 256) (hr : r < n) : (bud0 n r).Ok ∧ (bud0 n r).left + r = n := by
  have hk := bud0_ok h1 h2 (show r ≤ n by omega)
  have := left_len _ (b := bud0 n r) rfl hk (fun x hx => by simp [bud0] at hx)
  exact ⟨hk, by simpa [bud0] using this⟩
set_option maxRecDepth 100000 in
set_option maxHeartbeats 1000000 in
theorem mapped_any (w : World) (T : Tab w) : Calls Tryd.prog 22 #[] w fun e w' => e = .returned (.bool true) ∧ Upd (fun _ => False) w w' := by
  obtain ⟨hbk, hbl⟩ := top_begun 8 0 (by omega) (by omega) (by omega)
  have HL := Lib.hid hbl
  clear hbl hbk
  go_enter Tryd.func22, Tryd.ntmps22
  go_wp2_with fail
  refine (new_yes 8 _ (by omega) (by omega)).mono ?_
  rintro e w1 ⟨rfl, M1, U1, S1⟩
  have hs1 := Lib.hid S1
  clear S1
  go_wp2_with fail
  refine (bNew_yes _ _ 0 _ M1 (by omega)).mono ?_
  rintro e w2 ⟨rfl, B2, U2, S2⟩
  have T2 := T.kept (U1.trans U2)
  have D2 : Duo w2 (w1.heap.size + 1) (w.heap.size + 1) w1.heap.size (memNew w.heap.size 8) (bud0 8 0) := ⟨B2, M1.kept U2 id id, rfl⟩
  have U02 := U1.trans U2
  clear B2 M1 U1 U2 S2
  have hz := Lib.hid (show w.heap.size ≤ w1.heap.size from by have := hs1.out; omega)
  have hg := Lib.hid (Mem.new_good w.heap.size 8)
  have hmn : Hid ((memNew w.heap.size 8).n = 8 ∧ (memNew w.heap.size 8).B = w.heap.size) := Lib.hid ⟨rfl, rfl⟩
  generalize memNew w.heap.size 8 = m0 at D2 hg hmn
  obtain ⟨MB, hMB⟩ : ∃ MB, w.heap.size = MB := ⟨_, rfl⟩
  generalize w.heap.size + 1 = MA at D2 ⊢
  generalize w1.heap.size + 1 = A at D2 ⊢
  generalize w1.heap.size = GB at D2 hz ⊢
  clear hs1
  go_wp2_with fail
  refine (spc_new D2 T2 (hmn.out.2.trans hMB) hg.out (Y := fun _ => False) (fun x => by simp [bud0]) (fun x hx => hx.elim)).mono ?_
  rintro e w3 (⟨h0, _⟩ | ⟨h0, S, s, m', hS, rfl, P3, U3, hn3, hr, hE, _⟩)
  · have := HL.out; omega
  have hsince := Lib.hid (show ∀ j, j = GB ∨ j = MB → w.heap.size ≤ j from by rintro j (rfl | rfl); exact hz.out; exact Nat.le_of_eq hMB)
  have V3 := Upd.since U02 U3 hsince.out
  have HE := Lib.hid hE
  have Hm : Hid (m'.n = 8) := Lib.hid (hn3.trans hmn.out.1)
  have Hl : Hid (2 ≤ ((bud0 8 0).al 1).2.left) := Lib.hid (by
    have := (al_ok D2.B.ok 1 h0).left
    have := HL.out
    omega)
  clear U02 U3 hE hn3 hr D2 T2 hMB hg
  generalize ((bud0 8 0).al 1).2 = b at P3 Hl
  go_wp2_with fail
  refine (spc_map P3 5 7 true (by decide)).mono ?_
  rintro e w4 ⟨x, s4, m4, b4, rfl, P4, U4, hM⟩
  have hx : x = 0 := by
    rw [hM.xe]
    unfold Sp.mapX
    have h1 : m'.ex 7 1 = true := decide_eq_true (by rw [Hm.out]; omega)
    have h2 : (s.E 3 (5 : Int).toNat).v = false := by rw [HE.out]; rfl
    have h3 : s.dep (5 : Int).toNat = 1 := by unfold Sp.dep; rw [HE.out]; rfl
    rw [if_neg (by rw [h1]; simp), h2, h3, if_neg (by decide), if_neg (by have := Hl.out; omega)]
  subst hx
  have hF : s4.findE 5 = ⟨true, true, false, 7⟩ ∧ s4.findX 5 = 0 := by
    rcases hM.r with ⟨h0, _⟩ | ⟨_, qn, hq, _, _, _, _, _, _, hE⟩
    · exact absurd rfl h0
    · obtain rfl : qn = 5 := by omega
      have h1 : s4.E 3 (5 : Int).toNat = ⟨true, true, false, 7⟩ := by rw [hE]; rfl
      unfold Sp.findE Sp.findX
      rw [h1]
      exact ⟨rfl, rfl⟩
  have V4 := Upd.since V3 U4 hsince.out
  clear hM U4 V3 P3 HE Hm Hl
  go_wp2_with fail
  refine (spc_root P4).mono ?_
  rintro e w5 ⟨rfl, rfl⟩
  go_wp2_with fail
  refine (spc_walk P4 5).mono ?_
  rintro e w6 ⟨o6, n6, c6, rfl, u6⟩
  rw [hF.1, hF.2]
  have V6 := V4.trans u6
  clear hF V4 u6 P4
  have a6 := heap_alloc_last w6 (.cells #[.bool true, .bool true, .bool false, .int .i64 7] 37)
  have hb3 := (show EntAt _ w6.heap.size true true false 7 from a6).range 3 _ rfl
  rw [Nat.zero_add] at hb3
  have V7 := V6.alloc (.cells #[.bool true, .bool true, .bool false, .int .i64 7] 37)
  clear a6
  go_wp2
  go_ret
  exact ⟨rfl, V7⟩
end Go.Proofs.YtpfpcmadhbejiaaDoor

/-
  A row of entries in memory: made, one of them set, one read.
-/
namespace Go.Proofs.YtpfpcmadhbejiaaDoor
open Go.ChangeShapes Go.WideShapes Go.ChangeAt Go.RowKit Go.Shelf Go.Sort

def entC (e : En) : List Value := [.bool e.v, .bool e.r, .bool e.t, .int .i64 e.f]
def entsC (L : List En) : List Value := L.flatMap entC
theorem entsC_cons (e : En) (L : List En) : entsC (e :: L) = entC e ++ entsC L := by simp [entsC]
theorem entsC_len : ∀ L : List En, (entsC L).length = L.length * 4
  | [] => rfl
  | e :: L => by rw [entsC_cons, List.length_append, entsC_len L]; simp [entC]; omega
theorem entsC_at : ∀ (L : List En) (j : Nat), j < L.length → ((entsC L).drop (j * 4)).take 4 = entC (L.getD j En.zero)
  | [], j, h => by simp at h
  | e :: L, 0, _ => by rw [entsC_cons]; simp [entC]
  | e :: L, j + 1, h => by
    rw [entsC_cons, show (j + 1) * 4 = (entC e).length + j * 4 from by show (j + 1) * 4 = 4 + j * 4; omega, List.drop_append]
    have := entsC_at L j (by simpa using h)
    rw [List.drop_eq_nil_of_le (Nat.le_add_right _ _), List.nil_append, Nat.add_sub_cancel_left, this]
    rfl
theorem entsC_set : ∀ (L : List En) (j : Nat) (e : En), j < L.length → splice (entsC L) (j * 4) (entC e) = entsC (L.set j e)
  | [], j, e, h => by simp at h
  | a :: L, 0, e, _ => by rw [List.set_cons_zero, entsC_cons, entsC_cons]; simp [splice, entC]
  | a :: L, j + 1, e, h => by
    have := entsC_set L j e (by simpa using h)
    rw [List.set_cons_succ, entsC_cons, entsC_cons, ← this]
    unfold splice
    rw [show (j + 1) * 4 = (entC a).length + j * 4 from by show (j + 1) * 4 = 4 + j * 4; omega]
    simp only [List.take_append, List.drop_append, Nat.add_assoc, List.append_assoc]
    rw [List.take_of_length_le (Nat.le_add_right _ _), List.drop_eq_nil_of_le (Nat.le_add_right _ _), Nat.add_sub_cancel_left, Nat.add_sub_cancel_left, List.nil_append]
theorem made_ents (n : Nat) : madeCells (Value.agg #[.bool false, .bool false, .bool false, .int .i64 0]).cells (n * 4) = (entsC (List.replicate n En.zero)).toArray := by
  apply Array.ext
  · simp [madeCells, entsC_len]
  · intro i h1 h2
    have hi : i < n * 4 := by simpa [madeCells] using h1
    have e : (entsC (List.replicate n En.zero))[i]? = (entC En.zero)[i % 4]? := by
      have := entsC_at (List.replicate n En.zero) (i / 4) (by simp; omega)
      have h3 : (((entsC (List.replicate n En.zero)).drop (i / 4 * 4)).take 4)[i % 4]? = (entsC (List.replicate n En.zero))[i]? := by
        rw [List.getElem?_take, if_pos (Nat.mod_lt _ (by decide)), List.getElem?_drop]
        congr 1
        omega
      rw [← h3, this]
      congr 2
      rw [List.getD_eq_getElem?_getD, List.getElem?_replicate]
      split <;> rfl
    have e2 : (madeCells (Value.agg #[.bool false, .bool false, .bool false, .int .i64 0]).cells (n * 4))[i]? = (entC En.zero)[i % 4]? := by
      rw [Array.getElem?_eq_getElem h1]
      have h4 : i % 4 < 4 := Nat.mod_lt _ (by decide)
      simp only [madeCells, Value.cells]
      rw [List.getElem?_eq_getElem (show i % 4 < (entC En.zero).length from h4)]
      simp [entC, En.zero]
      obtain h5 | h5 | h5 | h5 : i % 4 = 0 ∨ i % 4 = 1 ∨ i % 4 = 2 ∨ i % 4 = 3 := by omega
      all_goals simp [h5]
    rw [← e, Array.getElem?_eq_getElem h1] at e2
    rw [List.getElem?_eq_getElem (by simpa using h2)] at e2
    simpa using Option.some.inj e2
/-- a row of entries -/
def EntsAt (w : World) (X : Nat) (L : List En) : Prop := w.heap[X]? = some (.cells (entsC L).toArray 37 (0, 0))
theorem EntsAt.range {w : World} {X : Nat} {L : List En} (h : EntsAt w X L) (j : Nat) (hj : j < L.length) : w.rangeAt X (j * 4) (entC (L.getD j En.zero)) := by
  have := World.rangeAt_of_block h (j * 4) 4
  rw [List.extract_toArray, List.extract_eq_take_drop] at this
  rw [← entsC_at L j hj]
  simpa using this
theorem EntsAt.there {w : World} {X : Nat} {L : List En} (h : EntsAt w X L) (j : Nat) (hj : j < L.length) : w.there X (j * 4) 4 := fun i hi => by
  refine ⟨?_, by unfold World.frozen?; rw [show w.heap[X]? = _ from h]; simp⟩
  rw [cell_of_row w X _ _ _ _ h]
  have hl := entsC_len L
  rw [show ((entsC L).toArray)[j * 4 + i]? = some ((entsC L)[j * 4 + i]'(by omega)) from by simp]
  rfl
theorem EntsAt.set {w : World} {X : Nat} {L : List En} (h : EntsAt w X L) (j : Nat) (hj : j < L.length) (e : En) : EntsAt (w.setCells X (j * 4) (entC e)) X (L.set j e) := by
  unfold EntsAt
  have hl := entsC_len L
  rw [heap_setCells_same X 37 (entC e) (j * 4) w _ h (by show j * 4 + 4 ≤ _; omega), entsC_set L j e hj]
theorem EntsAt.kept {T : Nat → Prop} {w w' : World} {X : Nat} {L : List En} (h : EntsAt w X L) (u : Upd T w w') (hx : ¬ T X) : EntsAt w' X L := u.at h hx
theorem info_ents : (Tryd.prog.info? 37).map (fun i => (i.zero, i.size, i.bytes)) = some (some (.agg #[.bool false, .bool false, .bool false, .int .i64 0]), 4, 16) := by kernel_rfl
end Go.Proofs.YtpfpcmadhbejiaaDoor

/-
  The row's frame for a parameter that is an array of two slices.
-/
namespace Go.Proofs.YtpfpcmadhbejiaaDoor.Fr
open Go.ChangeShapes Go.WideShapes Go.ChangeAt Go.RowKit
variable {H : Type} {enc : TypeId × Value → H} {P : Program} {w : World} {base : Nat} {spare : Nat → Bool} {held : Bool}

/-- a slice's one cell, opened -/
theorem open_rows_cells {fuel : Nat} {t e : TypeId} {cs : List Value} {x : DataW H × List MemPlace} (D : Nat) (ks : List (Option IntKind)) (ht : P.underlying t = some (.slice e)) (hf : flat P D e = some ks) (hc : P.cellsOf e = ks.length) (hpos : 0 < ks.length)
    (hfu : DataW.trod enc P w base spare held fuel t cs = some x) :
    ∃ (ao : Option Addr) (n cap b off : Nat) (E : Nat → Nat → Value), cs = [.slice ao n cap] ∧ RowArg w ao n b off ks E := by
  rcases Deep.open_slice ht hfu with ⟨h1, _⟩ | ⟨a, len, cap, m, n, DD, Pl, h1, _, hl, hm, hmm, _, hi⟩
  · exact ⟨none, 0, 0, 0, 0, fun _ _ => .bool false, h1, ⟨fun h => absurd h (by omega), fun h => absurd h (by omega), fun i hi => absurd hi (by omega), fun i hi => absurd hi (by omega), by omega⟩⟩
  · have hle : len ≤ m := by rw [hmm]; split <;> omega
    obtain ⟨E, hE⟩ := Deep.choose_lt (n := len) (p := fun i (f : Nat → Value) => ∀ j, j < ks.length → w.cell? (a.add (i * ks.length + j)) = some (f j) ∧ ∀ k, ks[j]? = some k → okLeaf k (f j)) (fun i hil => by
      obtain ⟨cs', hc', ht'⟩ := hi i (by omega)
      rw [hc] at hc'
      obtain ⟨_, hcl, hat⟩ := World.cells?_some hc'
      have ok := okLeaves_of D e ks n cs' _ hf ht'
      refine ⟨fun j => cs'.getD j (.bool false), fun j hj => ?_⟩
      have hjl : j < cs'.length := by rw [ok.1]; exact hj
      have hv : cs'[j]? = some (cs'.getD j (.bool false)) := by simp [List.getElem?_eq_getElem hjl]
      refine ⟨?_, fun k hk => ok.2 j k _ hk hv⟩
      rw [← Deep.add_add, hat j hj, hv])
    have hspot : 0 < len → a = ⟨a.block, a.off, none⟩ := fun h0 => by
      have := (hE 0 h0 0 hpos).1
      rw [Nat.zero_mul, Nat.add_zero] at this
      obtain ⟨ab, aoff, asp⟩ := a
      cases asp with
      | none => rfl
      | some s =>
        simp only [Addr.add, if_true, World.cell?] at this
        split at this <;> simp at this
    refine ⟨some a, len, cap, a.block, a.off, E, h1, ⟨fun h0 => by rw [← hspot h0], fun h0 => ?_, fun i hil j hj => ?_, fun i hil j k hk => ?_, by unfold maxLen at hm; omega⟩⟩
    · have := (hE 0 h0 0 hpos).1
      rw [Nat.zero_mul, Nat.add_zero] at this
      have hb := World.block_lt_of_cell? w _ this
      simpa [Addr.add] using hb
    · have := (hE i hil j hj).1
      rw [hspot (by omega), Addr.add_mid] at this
      exact this
    · have hj : j < ks.length := (List.getElem?_eq_some_iff.1 hk).1
      exact (hE i hil j hj).2 k hk
theorem list2 {α : Type} {l : List α} {a b : α} (hl : l.length = 2) (h0 : (l.drop 0).take 1 = [a]) (h1 : (l.drop 1).take 1 = [b]) : l = [a, b] := by
  match l, hl with
  | [x, y], _ => simp at h0 h1; rw [h0, h1]
/-- an array of two slices, opened -/
theorem open_rows2 {r : Reach} {b0 : Nat} {t u e : TypeId} {v : Value} {dt : DataW H} {p : List MemPlace} (D : Nat) (ks : List (Option IntKind)) (ht : P.underlying t = some (.array 2 u)) (hu : P.underlying u = some (.slice e)) (hcu : P.cellsOf u = 1) (hct : P.cellsOf t = 2) (hf : flat P D e = some ks) (hc : P.cellsOf e = ks.length) (hpos : 0 < ks.length)
    (hw : Value.okWide P w r b0 t v) (h : DataW.Trod enc P w base spare held t v dt p) :
    ∃ (ao : Option Addr) (n cap b off : Nat) (E : Nat → Nat → Value) (ao' : Option Addr) (n' cap' b' off' : Nat) (E' : Nat → Nat → Value), v = .agg #[.slice ao n cap, .slice ao' n' cap'] ∧ RowArg w ao n b off ks E ∧ RowArg w ao' n' b' off' ks E' := by
  obtain ⟨cs, rfl, hsz⟩ := okWide_arr ht hw
  obtain ⟨fuel, hfu⟩ := h
  obtain ⟨xs, m, _, _, _, hl, hrd⟩ := DataW.trod_array ht hfu
  have h0 := hrd 0 (by omega)
  have h1 := hrd 1 (by omega)
  rw [List.getElem?_eq_getElem (by omega)] at h0 h1
  simp only [Value.cells, hcu, Nat.mul_one] at h0 h1
  obtain ⟨ao, n, cap, b, off, E, e0, R0⟩ := open_rows_cells D ks hu hf hc hpos h0
  obtain ⟨ao', n', cap', b', off', E', e1, R1⟩ := open_rows_cells D ks hu hf hc hpos h1
  refine ⟨ao, n, cap, b, off, E, ao', n', cap', b', off', E', ?_, R0, R1⟩
  have hlen : cs.toList.length = 2 := by rw [Array.length_toList, hsz, hct]
  have := list2 hlen e0 e1
  congr 1
  apply Array.ext'
  exact this
end Go.Proofs.YtpfpcmadhbejiaaDoor.Fr
