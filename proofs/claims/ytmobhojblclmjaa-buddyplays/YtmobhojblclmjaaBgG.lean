/-
  Package buddy: Alloc.
-/
import Derived.Test.YtmobhojblclmjaaBgF
namespace Go.Proofs.Ytmobhojblclmjaa
open Go.ChangeShapes Go.WideShapes Go.ChangeAt Go.RowKit Go.Maps

theorem pick_stay {o : Nat} {x : Nat × Nat} : ∀ (R : List (Nat × Nat)), (∀ y, y ∈ R → o ≤ y.2 → x.2 ≤ y.2) → R.foldl (better o) (some x) = some x
  | [], _ => rfl
  | y :: R, h => by
    rw [List.foldl_cons]
    have : better o (some x) y = some x := by
      show (if o ≤ y.2 ∧ y.2 < x.2 then some y else some x) = some x
      rw [if_neg]
      rintro ⟨h1, h2⟩
      have := h y (by simp) h1
      omega
    rw [this]
    exact pick_stay R fun z hz => h z (by simp [hz])
theorem pick_at {o k i : Nat} {L : List (Nat × Nat)} (hi : i < L.length) (hk : o ≤ k) (h1 : ∀ y, y ∈ L → o ≤ y.2 → k ≤ y.2) (h2 : ∀ j, j < i → (L.getD j (0, 0)).2 ≠ k) (h3 : (L.getD i (0, 0)).2 = k) : pick o L = some (L.getD i (0, 0)) := by
  have e : L = L.take (i + 1) ++ L.drop (i + 1) := (List.take_append_drop _ _).symm
  have hx : L.getD i (0, 0) ∈ L := by rw [List.getD_eq_getElem?_getD, List.getElem?_eq_getElem hi]; exact List.getElem_mem _
  have hs : pick o (L.take (i + 1)) = some (L.getD i (0, 0)) := by
    rw [take_snoc L i hi, pick_snoc]
    cases hp : pick o (L.take i) with
    | none => show (if o ≤ (L.getD i (0, 0)).2 then some (L.getD i (0, 0)) else none) = _; rw [if_pos (by omega)]
    | some y =>
      obtain ⟨p1, p2, _⟩ := pick_some hp
      show (if o ≤ (L.getD i (0, 0)).2 ∧ (L.getD i (0, 0)).2 < y.2 then some (L.getD i (0, 0)) else some y) = _
      obtain ⟨j, hj, hje⟩ := List.getElem_of_mem p1
      rw [List.length_take] at hj
      have hy : y = L.getD j (0, 0) := by
        rw [← hje, List.getElem_take, List.getD_eq_getElem?_getD, List.getElem?_eq_getElem (by omega)]; rfl
      have hym : y ∈ L := List.mem_of_mem_take p1
      have a1 := h1 y hym p2
      have a2 := h2 j (by omega)
      rw [← hy] at a2
      rw [if_pos ⟨by omega, by omega⟩]
  have : pick o L = (L.drop (i + 1)).foldl (better o) (pick o (L.take (i + 1))) := by
    conv => lhs; rw [e]
    unfold pick
    rw [List.foldl_append]
  rw [this, hs]
  exact pick_stay _ fun y hy ho => by rw [h3]; exact h1 y (List.mem_of_mem_drop hy) ho
theorem pick_no {o : Nat} {L : List (Nat × Nat)} (h8 : ∀ y, y ∈ L → y.2 ≤ 8) (h1 : ∀ y, y ∈ L → o ≤ y.2 → 9 ≤ y.2) : pick o L = none := by
  cases hp : pick o L with
  | none => rfl
  | some x =>
    obtain ⟨p1, p2, _⟩ := pick_some hp
    have := h1 x p1 p2
    have := h8 x p1
    omega
theorem blocks_hi {F : Nat → Bool} {n : Nat} {y : Nat × Nat} (h : y ∈ blocks F n) : y.2 ≤ 8 := (mem_blocks.1 h).hi
theorem blocks_len (F : Nat → Bool) (n : Nat) : (blocks F n).length ≤ n := mxTo_len F n n

set_option maxHeartbeats 400000 in
theorem bAlloc_bad (A : Nat) (o : Int) (w : World) (hb : o < 0 ∨ 8 < o) :
    Calls Try.prog 15 #[.pointer (some ⟨A, 0, none⟩), .int .i64 o] w fun e w' => e = .returned (.tuple #[.int .i64 0, .int .i64 1]) ∧ w = w' := by
  by_cases h0 : o < 0
  all_goals
    go_enter Try.func15, Try.ntmps15
    go_wp2
    go_ret2
    exact ⟨rfl, rfl⟩

set_option maxRecDepth 100000 in
set_option maxHeartbeats 4000000 in
theorem bAlloc_any (A MA GB : Nat) (m : Mem) (b : Bud) (o : Nat) (w : World) (h : BudAt w A MA GB b) (hm : MemAt w MA m) (hn : m.n = b.n) (ho : o ≤ 8) :
    Calls Try.prog 15 #[.pointer (some ⟨A, 0, none⟩), .int .i64 o] w fun e w' =>
      (b.sel o = none ∧ e = .returned (.tuple #[.int .i64 0, .int .i64 6]) ∧ Upd (fun _ => False) w w') ∨
      (∃ x, b.sel o = some x ∧ e = .returned (.tuple #[.int .i64 (x.1 : Int), .int .i64 0]) ∧ BudAt w' A MA GB (b.give (x.1, o)) ∧ Upd (· = GB) w w') := by
  have hb2 := h.ok.hi
  have hl := h.lts
  have hAG := h.ne
  have hok := Lib.hid h.ok
  have hbl := Lib.hid (bBlocks_any A MA GB m b w h hm hn)
  go_enter Try.func15, Try.ntmps15
  go_wp2_with fail
  refine hbl.out.mono ?_
  rintro e w1 ⟨v, rfl, hrow, U1⟩
  have hrow' := brow_of hrow
  have hLn := blocks_len b.F b.n
  have h8 := Lib.hid (fun y (hy : y ∈ blocks b.F b.n) => blocks_hi hy)
  have hsel := Lib.hid (show b.sel o = pick o (blocks b.F b.n) from rfl)
  have hblk := Lib.hid (fun y (hy : y ∈ blocks b.F b.n) => (mem_blocks.1 hy).b)
  clear hrow hbl
  generalize blocks b.F b.n = L at hrow' hLn h8 hsel hblk
  obtain ⟨ao, cap, rfl, hc⟩ := hrow'
  obtain ⟨ln, hln⟩ : ∃ ln, L.length = ln := ⟨_, rfl⟩
  rw [hln] at hc hLn ⊢
  have Hln := Lib.hid hln
  clear hln
  go_wp2
  go_loopw [7] (fun t wr => ∃ k : Nat, o ≤ k ∧ k ≤ 9 ∧ t = .int .i64 k ∧ Upd (fun _ => False) w1 wr ∧ Hid (∀ y, y ∈ L → o ≤ y.2 → k ≤ y.2)) (fun t _ => 9 - (intOf t).toNat)
  case atStart => exact ⟨o, Nat.le_refl _, by omega, rfl, Upd.refl _ _, Lib.hid fun y _ hy => hy⟩
  case round =>
    obtain ⟨k, k1, k2, rfl, hU, hk⟩ := hrel
    by_cases hlt : k ≤ 8
    · have hk8 : decide ((k : Int) ≤ 8) = true := decide_eq_true (by omega)
      go_wp2
      try rw [hk8]
      go_loopw [25] (fun t wr => ∃ i : Nat, i ≤ ln ∧ t = .int .i64 i ∧ Upd (fun _ => False) w1 wr ∧ Hid (∀ j, j < i → (L.getD j (0, 0)).2 ≠ k)) (fun t _ => ln - (intOf t).toNat)
      case atStart => exact ⟨0, by omega, rfl, hU, Lib.hid fun j hj => by omega⟩
      case round =>
        clear hU
        obtain ⟨i, i1, rfl, hU, hne⟩ := hrel
        by_cases hil : i < ln
        · obtain ⟨g, rfl, hg0, hg1⟩ := hc i hil
          have hg0' := hU.cell hg0 (fun h => h)
          have hg1' := hU.cell hg1 (fun h => h)
          have hxm : L.getD i (0, 0) ∈ L := by rw [List.getD_eq_getElem?_getD, List.getElem?_eq_getElem (by rw [Hln.out]; exact hil)]; exact List.getElem_mem _
          obtain ⟨a1, a2, a3⟩ := alloc_two wr (L.getD i (0, 0)).1 (L.getD i (0, 0)).2 60
          have A3 := Lib.hid a3
          have hU' := hU.trans a2
          have hwM := Nat.le_trans U1.size hU.size
          have hpick := Lib.hid (show (L.getD i (0, 0)).2 = k → pick o L = some (L.getD i (0, 0)) from fun e => pick_at (by rw [Hln.out]; exact hil) k1 hk.out hne.out e)
          have hstep := Lib.hid (show (L.getD i (0, 0)).2 ≠ k → ∀ j, j < i + 1 → (L.getD j (0, 0)).2 ≠ k from fun e j hj => by
            rcases Nat.lt_or_ge j i with h1 | h1
            · exact hne.out j h1
            · rw [show j = i from by omega]; exact e)
          generalize L.getD i (0, 0) = x at hg0' hg1' hxm a1 a2 A3 hU' hpick hstep
          clear a3 hg0 hg1 hc hne hU
          go_upto_region 10 with ((with_reducible refine wpList_store_sz rfl 60 (.tmp 9) (.tmp 28) rfl wr.heap.size 0 #[.int .i64 x.1, .int .i64 x.2] rfl rfl 2 (two_sz _ _) A3.out size_block (two_one _ _) [.int .i64 x.1, .int .i64 x.2] (two_ls _ _) ?_))
          generalize (wr.alloc (.cells #[.int .i64 0, .int .i64 0] 60)).setCells wr.heap.size 0 [.int .i64 x.1, .int .i64 x.2] = W at a1 a2 hU' ⊢
          have hMw := lt_of_heap a1
          generalize wr.heap.size = M at a1 hMw hwM ⊢
          obtain ⟨b0, b1⟩ := box2 a1
          clear A3 a2
          by_cases hxk : x.2 = k
          · have hB := h.kept (U1.trans hU') (fun h => h) (fun h => h)
            obtain ⟨D, hD, hMp⟩ := hB.mp
            have hp := Lib.hid (hsel.out.trans (hpick.out hxk))
            have hfree := Lib.hid ((hblk.out x hxm).head (show o ≤ x.2 by omega))
            have hput := Lib.hid (hMp.put (hD.tidy keyLaw) x.1 o fun y hy e => by
              have hf := (hok.out.fr x.1).1 (hfree.out.fr x.1 (Nat.le_refl _) (by have := Nat.two_pow_pos o; omega))
              have := hf.2.2 y hy
              rw [inBlk_iff.2 ⟨by omega, by have := Nat.two_pow_pos y.2; omega⟩] at this
              cases this)
            have hgive := Lib.hid (hok.out.give ho hfree.out)
            have hfl := hfree.out.le
            have hwf := Lib.hid (wf_frame (n := x.1) (by have := Nat.two_pow_pos o; omega))
            have hwo := Lib.hid (wf_frame (n := o) (by omega))
            have hU2 := U1.trans hU'
            subst hxk
            clear hpick hstep hg0' hg1' hk h8 hsel hblk hMp hfl hU' U1
            go_upto_region 11 with fail
            refine wp_region_tail 7 (by kernel_rfl) (by kernel_rfl) ?_
            simp only [List.take_succ_cons, List.take_zero, List.drop_succ_cons, List.drop_zero]
            intro w2 hw2
            have hU3 := hU2.drew
            have hB2 := hB.kept (Upd.refl (fun _ => False) W).drew (fun h => h) (fun h => h)
            have hD2 := map_kept hD (Upd.refl (fun _ => False) W).drew (fun h => h)
            have a2 := (Upd.refl (fun _ => False) W).drew.at a1 (fun h => h)
            rw [← hw2] at hU3 hB2 hD2 a2
            clear hw2
            have hc2 := hB2.c2
            obtain ⟨b20, b21⟩ := box2 a2
            repeat still_step
            refine wpStill_nil ?_
            go_upto_region 12 with ((at_mapUpdate; refine wpList_mapUpdate_own _ rfl _ _ _ 73 rfl 3 3 keyLaw Try.underlying73 _ GB 256 D rfl hD2 (by decide) _ _ (kf x.1) rfl rfl (keyOf_int_mk Try.underlying3 hwf.out) _ [] (plainElem_int Try.underlying3 hwo.out) ?_; intro w3 hown3 hgrow3))
            have hU4 := hU3.mono (T := (· = GB)) (fun _ _ h => h.elim) |>.trans (upd_grown hgrow3)
            have hB4 : BudAt w3 A MA GB (b.give (x.1, o)) := ⟨(upd_grown hgrow3).at hB2.head hAG, ⟨_, map_tight hown3 256 (by rw [hput.out.sz]; exact hgive.out.gave_len), hput.out⟩, hgive.out⟩
            have a4 := (upd_grown hgrow3).at a2 (by show ¬ M = GB; omega)
            obtain ⟨b40, b41⟩ := box2 a4
            clear b20 b21 b0 b1 hgrow3 hown3 hB2 hD2 hU3 hc2
            go_wp2
            go_ret2
            exact .inr ⟨x, hp.out, rfl, hB4, hU4⟩
          · have hst := Lib.hid (hstep.out hxk)
            have hb1 : ((x.2 : Int) == (k : Int)) = false := by simp; omega
            clear hpick hstep hg0' hg1'
            go_wp2
            go_roundw
            case rel => exact ⟨i + 1, by omega, by go_num, hU', hst⟩
            case measure => simp [intOf]; omega
        · have e : i = ln := by omega
          subst e
          have hk' := Lib.hid (show ∀ y, y ∈ L → o ≤ y.2 → k + 1 ≤ y.2 from fun y hy hoy => by
            have a1 := hk.out y hy hoy
            obtain ⟨j, hj, hje⟩ := List.getElem_of_mem hy
            have a2 := hne.out j (by rw [← Hln.out]; exact hj)
            rw [List.getD_eq_getElem?_getD, List.getElem?_eq_getElem hj] at a2
            rw [← hje] at a1 ⊢
            simp at a2
            omega)
          clear hk hne hc
          go_wp2
          exact ⟨⟨k + 1, by omega, by omega, by go_num, hU, hk'⟩, by simp [intOf]; omega⟩
    · have e : k = 9 := by omega
      subst e
      have hv := Lib.hid (hsel.out.trans (pick_no h8.out hk.out))
      clear hc
      go_wp2
      go_ret2
      exact .inl ⟨hv.out, rfl, U1.trans hU⟩
end Go.Proofs.Ytmobhojblclmjaa
