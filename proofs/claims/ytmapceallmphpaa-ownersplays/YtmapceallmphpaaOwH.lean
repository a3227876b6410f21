/-
  Package owners: Quota, Take, Give, New; the bundle of contracts.
-/
import Derived.Test.YtmapceallmphpaaOwG
import Derived.Test.YtmapceallmphpaaOwL
namespace Go.Proofs.Ytmapceallmphpaa
open Go.ChangeShapes Go.WideShapes Go.ChangeAt Go.RowKit

set_option maxRecDepth 100000 in
set_option maxHeartbeats 1000000 in
theorem gQuota_any (A LB : Nat) (o : Ow) (v m : Int) (w : World) (h : OwAt w A LB o) :
    Calls Try.prog 14 #[.pointer (some ⟨A, 0, none⟩), .int .i64 v, .int .i64 m] w fun e w' => e = .returned (.int .i64 (o.quotaE v m)) ∧ OwAt w' A LB (o.quota v m) ∧ Upd (· = A) w w' := by
  have hcall := Lib.hid (gCount_any A LB o v w h)
  have hcl := o.count_le v
  have hhi := h.ok.hi
  by_cases hg : (0 ≤ v ∧ v ≤ 8) ∧ 0 ≤ m ∧ m ≤ 256
  · obtain ⟨hv, hm⟩ := hg
    obtain ⟨V, rfl⟩ := Int.eq_ofNat_of_zero_le hv.1
    have Hw := Lib.hid (who9_iff.2 hv)
    have hEv := Lib.hid (show o.quotaE V m = if (o.count V : Int) ≤ m then 0 else 12 from by
      unfold Ow.quotaE
      rw [who9_iff.2 hv, decide_eq_true hm]
      rfl)
    by_cases hc : (o.count V : Int) ≤ m
    · have hE := Lib.hid (show o.quotaE V m = 0 from by rw [hEv.out, if_pos hc])
      have hQ := Lib.hid (show o.quota V m = { o with most := updI o.most V m } from by
        unfold Ow.quota
        rw [if_pos hE.out]
        rfl)
      have hcm := h.cm V (by omega)
      have hfz := h.freeC (1 + V)
      have hset := Lib.hid (head_set h.head V m)
      generalize o.count V = cc at hcall hc hcl
      generalize o.most V = mv at hcm
      go_enter Try.func14, Try.ntmps14
      go_wp2_with fail
      refine (gwho_any V w).mono ?_
      rintro e w1 ⟨rfl, rfl⟩
      rw [Hw.out]
      go_wp2_with fail
      refine hcall.out.mono ?_
      rintro e w1 ⟨rfl, rfl⟩
      go_wp2
      go_ret
      refine ⟨by rw [hE.out]; rfl, ?_, (Upd.refl (· = A) w).setCell (p := ⟨A, 1 + V, none⟩) (.inl rfl) (.int .i64 m)⟩
      rw [hQ.out]
      have ok := h.ok.quota V m
      rw [hQ.out] at ok
      exact ⟨hset.out, (Below.heap_setCell _ _ _ _ (fun e => h.ne e.symm)).trans h.body, ok⟩
    · have hE := Lib.hid (show o.quotaE V m = 12 from by rw [hEv.out, if_neg hc])
      have hQ := Lib.hid (quota_no (o := o) (w := V) (m := m) (by rw [hE.out]; decide))
      generalize o.count V = cc at hcall hc hcl
      go_enter Try.func14, Try.ntmps14
      go_wp2_with fail
      refine (gwho_any V w).mono ?_
      rintro e w1 ⟨rfl, rfl⟩
      rw [Hw.out]
      go_wp2_with fail
      refine hcall.out.mono ?_
      rintro e w1 ⟨rfl, rfl⟩
      go_wp2
      go_ret
      exact ⟨by rw [hE.out]; rfl, by rw [hQ.out]; exact h, Upd.refl _ _⟩
  · have hE : o.quotaE v m = 1 := by
      unfold Ow.quotaE
      rw [if_neg]
      rw [Bool.and_eq_true, who9_iff, decide_eq_true_iff]
      exact hg
    have HE := Lib.hid hE
    have hQ := Lib.hid (quota_no (o := o) (w := v) (m := m) (by rw [hE]; decide))
    clear hE hcall hcl
    cases hw : who9 v
    · have Hw := Lib.hid hw
      clear hg hw
      go_enter Try.func14, Try.ntmps14
      go_wp2_with fail
      refine (gwho_any v w).mono ?_
      rintro e w1 ⟨rfl, rfl⟩
      rw [Hw.out]
      go_wp2
      go_ret
      exact ⟨by rw [HE.out]; rfl, by rw [hQ.out]; exact h, Upd.refl _ _⟩
    · have Hw := Lib.hid hw
      have hw9 := who9_iff.1 hw
      by_cases c3 : m < 0
      · clear hg hw hw9
        go_enter Try.func14, Try.ntmps14
        go_wp2_with fail
        refine (gwho_any v w).mono ?_
        rintro e w1 ⟨rfl, rfl⟩
        rw [Hw.out]
        go_wp2
        go_ret
        exact ⟨by rw [HE.out]; rfl, by rw [hQ.out]; exact h, Upd.refl _ _⟩
      · have c4 : 256 < m := by omega
        clear hg hw hw9
        go_enter Try.func14, Try.ntmps14
        go_wp2_with fail
        refine (gwho_any v w).mono ?_
        rintro e w1 ⟨rfl, rfl⟩
        rw [Hw.out]
        go_wp2
        go_ret
        exact ⟨by rw [HE.out]; rfl, by rw [hQ.out]; exact h, Upd.refl _ _⟩
set_option maxRecDepth 100000 in
set_option maxHeartbeats 1000000 in
theorem gTake_any (A LB : Nat) (o : Ow) (f k v : Int) (w : World) (h : OwAt w A LB o) (hk : -9223372036854775808 ≤ k ∧ k ≤ 9223372036854775807) :
    Calls Try.prog 12 #[.pointer (some ⟨A, 0, none⟩), .int .i64 f, .int .i64 k, .int .i64 v] w fun e w' => e = .returned (.int .i64 (o.takeE f k v)) ∧ OwAt w' A LB (o.take f k v) ∧ Upd (· = LB) w w' := by
  have hcall := Lib.hid (gare_any A LB o f k w h hk)
  have hhi := h.ok.hi
  clear hk
  cases ha : o.are f k
  · have hE : o.takeE f k v = 1 := by unfold Ow.takeE; rw [ha]; rfl
    have HE := Lib.hid hE
    have hT := Lib.hid (take_no (o := o) (f := f) (k := k) (w := v) (by rw [hE]; decide))
    have Ha := Lib.hid ha
    clear ha hE
    go_enter Try.func12, Try.ntmps12
    go_wp2_with fail
    refine hcall.out.mono ?_
    rintro e w1 ⟨rfl, rfl⟩
    rw [Ha.out]
    go_wp2
    go_ret
    exact ⟨by rw [HE.out]; rfl, by rw [hT.out]; exact h, Upd.refl _ _⟩
  · have Ha := Lib.hid ha
    cases hv : who9 v
    · have hE : o.takeE f k v = 1 := by
        unfold Ow.takeE
        rw [hv, Bool.and_false]
        rfl
      have HE := Lib.hid hE
      have hT := Lib.hid (take_no (o := o) (f := f) (k := k) (w := v) (by rw [hE]; decide))
      have Hw := Lib.hid hv
      clear ha hE hv
      go_enter Try.func12, Try.ntmps12
      go_wp2_with fail
      refine hcall.out.mono ?_
      rintro e w1 ⟨rfl, rfl⟩
      rw [Ha.out]
      go_wp2_with fail
      refine (gwho_any v w).mono ?_
      rintro e w1 ⟨rfl, rfl⟩
      rw [Hw.out]
      go_wp2
      go_ret
      exact ⟨by rw [HE.out]; rfl, by rw [hT.out]; exact h, Upd.refl _ _⟩
    · obtain ⟨a1, a2, a3, a4⟩ := are_iff.1 ha
      obtain ⟨F, rfl⟩ := Int.eq_ofNat_of_zero_le a3
      obtain ⟨K, rfl⟩ := Int.eq_ofNat_of_zero_le (show 0 ≤ k by omega)
      have hFK : F + K ≤ o.n := by omega
      have HEv := Lib.hid (show o.takeE F K v = if o.all F K v then 0 else 2 from by
        unfold Ow.takeE
        rw [ha, hv]
        rfl)
      have Hw := Lib.hid hv
      have hall := Lib.hid (gall_any A LB o F K v w h hFK)
      have hset := Lib.hid (gset_any A LB o.n o.f _ F K (-1) w h.head h.body h.ne hhi hFK)
      clear ha hv a1 a2 a3 a4
      go_enter Try.func12, Try.ntmps12
      go_wp2_with fail
      refine hcall.out.mono ?_
      rintro e w1 ⟨rfl, rfl⟩
      rw [Ha.out]
      go_wp2_with fail
      refine (gwho_any v w).mono ?_
      rintro e w1 ⟨rfl, rfl⟩
      rw [Hw.out]
      go_wp2_with fail
      refine hall.out.mono ?_
      rintro e w1 ⟨rfl, rfl⟩
      cases hal : o.all F K v
      · have hE := Lib.hid (show o.takeE F K v = 2 from by rw [HEv.out, hal]; rfl)
        have hT := Lib.hid (take_no (o := o) (f := F) (k := K) (w := v) (by rw [hE.out]; decide))
        clear hal
        go_wp2
        go_ret
        exact ⟨by rw [hE.out]; rfl, by rw [hT.out]; exact h, Upd.refl _ _⟩
      · have hE := Lib.hid (show o.takeE F K v = 0 from by rw [HEv.out, hal]; rfl)
        have hT := Lib.hid (show o.take F K v = { o with f := setR o.f F K (-1) } from by unfold Ow.take; rw [if_pos hE.out]; rfl)
        clear hal
        go_wp2_with fail
        refine hset.out.mono ?_
        rintro e w2 ⟨rfl, hB, hU⟩
        have hfin : OwAt w2 A LB (o.take F K v) := by
          rw [hT.out]
          have ok := h.ok.take F K v
          rw [hT.out] at ok
          exact ⟨hU.at h.head h.ne, hB, ok⟩
        clear hB
        go_wp2
        go_ret
        exact ⟨by rw [hE.out]; rfl, hfin, hU⟩
set_option maxRecDepth 100000 in
set_option maxHeartbeats 1000000 in
theorem gGive_any (A LB : Nat) (o : Ow) (f k v : Int) (w : World) (h : OwAt w A LB o) (hk : -9223372036854775808 ≤ k ∧ k ≤ 9223372036854775807) :
    Calls Try.prog 10 #[.pointer (some ⟨A, 0, none⟩), .int .i64 f, .int .i64 k, .int .i64 v] w fun e w' => e = .returned (.int .i64 (o.giveE f k v)) ∧ OwAt w' A LB (o.give f k v) ∧ Upd (· = LB) w w' := by
  have hcall := Lib.hid (gare_any A LB o f k w h hk)
  have hhi := h.ok.hi
  clear hk
  cases ha : o.are f k
  · have hE : o.giveE f k v = 1 := by unfold Ow.giveE; rw [ha]; rfl
    have HE := Lib.hid hE
    have hT := Lib.hid (give_no (o := o) (f := f) (k := k) (w := v) (by rw [hE]; decide))
    have Ha := Lib.hid ha
    clear ha hE
    go_enter Try.func10, Try.ntmps10
    go_wp2_with fail
    refine hcall.out.mono ?_
    rintro e w1 ⟨rfl, rfl⟩
    rw [Ha.out]
    go_wp2
    go_ret
    exact ⟨by rw [HE.out]; rfl, by rw [hT.out]; exact h, Upd.refl _ _⟩
  · have Ha := Lib.hid ha
    cases hv : who9 v
    · have hE : o.giveE f k v = 1 := by
        unfold Ow.giveE
        rw [hv, Bool.and_false]
        rfl
      have HE := Lib.hid hE
      have hT := Lib.hid (give_no (o := o) (f := f) (k := k) (w := v) (by rw [hE]; decide))
      have Hw := Lib.hid hv
      clear ha hE hv
      go_enter Try.func10, Try.ntmps10
      go_wp2_with fail
      refine hcall.out.mono ?_
      rintro e w1 ⟨rfl, rfl⟩
      rw [Ha.out]
      go_wp2_with fail
      refine (gwho_any v w).mono ?_
      rintro e w1 ⟨rfl, rfl⟩
      rw [Hw.out]
      go_wp2
      go_ret
      exact ⟨by rw [HE.out]; rfl, by rw [hT.out]; exact h, Upd.refl _ _⟩
    · obtain ⟨a1, a2, a3, a4⟩ := are_iff.1 ha
      have hv9 := who9_iff.1 hv
      obtain ⟨F, rfl⟩ := Int.eq_ofNat_of_zero_le a3
      obtain ⟨K, rfl⟩ := Int.eq_ofNat_of_zero_le (show 0 ≤ k by omega)
      obtain ⟨V, rfl⟩ := Int.eq_ofNat_of_zero_le hv9.1
      have hFK : F + K ≤ o.n := by omega
      have HEv := Lib.hid (show o.giveE F K V = if o.all F K (-1) then (if (o.count V : Int) + K ≤ o.most V then 0 else 12) else 4 from by
        unfold Ow.giveE
        rw [ha, hv]
        rfl)
      have Hw := Lib.hid hv
      have hall := Lib.hid (gall_any A LB o F K (-1) w h hFK)
      have hcl := o.count_le V
      have hms := h.ok.ms V
      have hcm := h.cm V (by omega)
      have hcc := Lib.hid (show ∀ q, Calls Try.prog 18 #[.pointer (some ⟨A, 0, none⟩), .int .i64 V] (w.drewN q) fun e w'' => e = .returned (.int .i64 (o.count V)) ∧ ∃ p, w'' = w.drewN p from fun q => still0 (gCount_any A LB o V _ (h.kept ((Upd.refl (fun _ => False) w).drewN q) (fun h => h) (fun h => h))))
      have hwr : IntKind.i64.wrap ((o.count V : Int) + (K : Int)) = (o.count V : Int) + (K : Int) := IntWalk.i64_in _ (by omega)
      have hV9 : (V : Int) < 9 := by omega
      clear ha hv a1 a2 a3 a4
      go_enter Try.func10, Try.ntmps10
      go_wp2_with fail
      refine hcall.out.mono ?_
      rintro e w1 ⟨rfl, rfl⟩
      rw [Ha.out]
      go_wp2_with fail
      refine (gwho_any V w).mono ?_
      rintro e w1 ⟨rfl, rfl⟩
      rw [Hw.out]
      go_wp2_with fail
      refine hall.out.mono ?_
      rintro e w1 ⟨rfl, rfl⟩
      cases hal : o.all F K (-1)
      · have hE := Lib.hid (show o.giveE F K V = 4 from by rw [HEv.out, hal]; rfl)
        have hT := Lib.hid (give_no (o := o) (f := F) (k := K) (w := V) (by rw [hE.out]; decide))
        clear hal
        go_wp2
        go_ret
        exact ⟨by rw [hE.out]; rfl, by rw [hT.out]; exact h, Upd.refl _ _⟩
      · rw [hal] at HEv
        clear hal
        by_cases hq : (o.count V : Int) + K ≤ o.most V
        · have hE := Lib.hid (show o.giveE F K V = 0 from by rw [HEv.out, if_pos rfl, if_pos hq])
          have hT := Lib.hid (show o.give F K V = { o with f := setR o.f F K V } from by unfold Ow.give; rw [if_pos hE.out]; rfl)
          generalize o.count V = cc at hcc hq hcl hwr
          have hqd : decide (o.most V < (cc : Int) + (K : Int)) = false := decide_eq_false (by omega)
          generalize o.most V = mv at hcm hq hms hqd
          go_wp2
          go_quiet ((go_at_call 18; exact hcc.out _))
          have hq2 := h.kept ((Upd.refl (fun _ => False) w).drewN nq) (fun h => h) (fun h => h)
          go_wp2_with fail
          refine (gset_any A LB o.n o.f _ F K V _ hq2.head hq2.body h.ne hhi hFK).mono ?_
          rintro e w2 ⟨rfl, hB, hU⟩
          have hfin : OwAt w2 A LB (o.give F K V) := by
            rw [hT.out]
            have ok := h.ok.give F K V
            rw [hT.out] at ok
            exact ⟨hU.at hq2.head h.ne, hB, ok⟩
          clear hB
          go_wp2
          go_ret
          exact ⟨by rw [hE.out]; rfl, hfin, ((Upd.refl _ w).drewN nq).trans hU⟩
        · have hE := Lib.hid (show o.giveE F K V = 12 from by rw [HEv.out, if_pos rfl, if_neg hq])
          have hT := Lib.hid (give_no (o := o) (f := F) (k := K) (w := V) (by rw [hE.out]; decide))
          generalize o.count V = cc at hcc hq hcl hwr
          have hqd : decide (o.most V < (cc : Int) + (K : Int)) = true := decide_eq_true (by omega)
          generalize o.most V = mv at hcm hq hms hqd
          go_wp2
          go_quiet ((go_at_call 18; exact hcc.out _))
          have hq2 := h.kept ((Upd.refl (fun _ => False) w).drewN nq) (fun h => h) (fun h => h)
          go_wp2
          go_ret
          exact ⟨by rw [hE.out]; rfl, by rw [hT.out]; exact hq2, (Upd.refl _ w).drewN nq⟩
set_option maxHeartbeats 400000 in
theorem gNew_no (n : Int) (w : World) (h : n < 1 ∨ 256 < n) :
    Calls Try.prog 8 #[.int .i64 n] w fun e w' => e = .returned (.tuple #[.pointer none, .int .i64 1]) ∧ w = w' := by
  by_cases h0 : n < 1
  all_goals
    go_enter Try.func8, Try.ntmps8
    go_wp2
    go_ret2
    exact ⟨rfl, rfl⟩
set_option maxRecDepth 100000 in
set_option maxHeartbeats 1000000 in
theorem gNew_yes (n : Nat) (w : World) (h1 : 1 ≤ n) (h2 : n ≤ 256) :
    Calls Try.prog 8 #[.int .i64 n] w fun e w' => e = .returned (.tuple #[.pointer (some ⟨w.heap.size + 1, 0, none⟩), .int .i64 0]) ∧ OwAt w' (w.heap.size + 1) w.heap.size (ow0 n) ∧ Upd (fun _ => False) w w' := by
  have hC := Lib.hid (show madeCells (Value.int .i64 0).cells (n * 1) = (ocells n fun _ => 0).toArray from by
    show madeCells #[.int .i64 0] (n * 1) = _
    rw [ocells_same, Nat.mul_one]
    exact madeCells_same (.int .i64 0) 1 n (by decide))
  obtain ⟨N, hN⟩ : ∃ N, w.heap.size = N := ⟨_, rfl⟩
  obtain ⟨W, hWe⟩ : ∃ W, (w.alloc (.cells (ocells n fun _ => 0).toArray 3)).alloc (.cells #[.slice (some ⟨N, 0, none⟩) n n, .int .i64 0, .int .i64 0, .int .i64 0, .int .i64 0, .int .i64 0, .int .i64 0, .int .i64 0, .int .i64 0, .int .i64 0] 43) = W := ⟨_, rfl⟩
  have hU0 : Upd (fun _ => False) w W := by rw [← hWe]; exact ((Upd.refl _ _).alloc _).alloc _
  have hb0 : W.heap[N]? = some (.cells (ocells n fun _ => 0).toArray 3 (0, 0)) := by
    rw [← hWe, ← hN, Below.heap_alloc _ _ _ (by simp)]
    exact heap_alloc_last w _
  have hh0 : W.heap[N + 1]? = some (.cells (.slice (some ⟨N, 0, none⟩) n n :: ocells 9 fun _ => 0).toArray 43 (0, 0)) := by
    have := heap_alloc_last (w.alloc (.cells (ocells n fun _ => 0).toArray 3)) (.cells #[.slice (some ⟨N, 0, none⟩) n n, .int .i64 0, .int .i64 0, .int .i64 0, .int .i64 0, .int .i64 0, .int .i64 0, .int .i64 0, .int .i64 0, .int .i64 0] 43)
    rw [World.size_alloc, hN, hWe] at this
    exact this
  have hset := Lib.hid (gset_any (N + 1) N n (fun _ => 0) _ 0 n (-1) W hh0 hb0 (by omega) h2 (by omega))
  have Hh0 := Lib.hid hh0
  clear hb0 hh0
  rw [hN]
  go_enter Try.func8, Try.ntmps8
  go_upto_region 4 with (with_reducible refine wpList_make_exact rfl (.tmp 12) (.tmp 12) 41 rfl 3 _ 1 8 Try.underlying41 info_int1 .i64 .i64 n rfl rfl (by omega) (by omega) _ hC.out ?_)
  clear hWe hC
  go_wp2_with fail
  refine hset.out.mono ?_
  rintro e w2 ⟨rfl, hB, hU⟩
  have HB := Lib.hid hB
  have hU2 : Upd (fun _ => False) w w2 := hU0.newer hU (by rintro j rfl; omega)
  have HH := Lib.hid (hU.at Hh0.out (by omega))
  clear hB hU hU0 Hh0 hset
  go_wp2
  go_loopw [19] (fun t wr => ∃ j : Nat, j ≤ 9 ∧ t = .int .i64 j ∧ Hid (wr.heap[N]? = some (.cells (ocells n (setR (fun _ => 0) 0 n (-1))).toArray 3 (0, 0))) ∧ Hid (wr.heap[N + 1]? = some (.cells (.slice (some ⟨N, 0, none⟩) n n :: ocells 9 (setR (fun _ => 0) 0 j 256)).toArray 43 (0, 0))) ∧ Upd (fun _ => False) w wr) (fun t _ => 9 - (intOf t).toNat)
  case atStart => exact ⟨0, by omega, rfl, HB, by rw [setR_zero]; exact HH, hU2⟩
  case round =>
    clear HB HH hU2
    obtain ⟨j, hj, rfl, hB, hH, hU⟩ := hrel
    by_cases hjl : j < 9
    · have hcj : wr.cell? ⟨N + 1, 1 + j, none⟩ = some (.int .i64 (setR (fun _ => 0) 0 j 256 j)) := by
        rw [cell_of_row wr (N + 1) (1 + j) _ _ _ hH.out, List.getElem?_toArray, Nat.add_comm, List.getElem?_cons_succ]
        simp [ocells, hjl]
      have hfz := frozen_block hH.out (1 + j)
      have hset := Lib.hid (show (wr.setCell ⟨N + 1, 1 + j, none⟩ (.int .i64 256)).heap[N + 1]? = some (.cells (.slice (some ⟨N, 0, none⟩) n n :: ocells 9 (setR (fun _ => 0) 0 (j + 1) 256)).toArray 43 (0, 0)) from by
        have := setR_step 9 (fun _ => 0) 0 j 256
        rw [Nat.zero_add] at this
        rw [head_set hH.out j 256, this])
      have hoth := Lib.hid (show (wr.setCell ⟨N + 1, 1 + j, none⟩ (.int .i64 256)).heap[N]? = _ from (Below.heap_setCell _ _ _ _ (by simp)).trans hB.out)
      have hU' := hU.setCell (p := ⟨N + 1, 1 + j, none⟩) (by right; show w.heap.size ≤ N + 1; omega) (.int .i64 256)
      generalize setR (fun _ => 0) 0 j 256 j = bj at hcj
      clear hB hH hU
      go_wp2
      exact ⟨⟨j + 1, by omega, by go_num, hoth, hset, hU'⟩, by simp [intOf]; omega⟩
    · obtain rfl : j = 9 := by omega
      have hfin : OwAt wr (N + 1) N (ow0 n) := by
        refine ⟨?_, ?_, ow0_ok h1 h2⟩
        · rw [hH.out, ocells_congr (n := 9) (f := setR (fun _ => 0) 0 9 256) (g := fun _ => 256) fun z hz => by unfold setR; rw [if_pos (by omega)]]
          rfl
        · rw [hB.out, ocells_congr (n := n) (f := setR (fun _ => 0) 0 n (-1)) (g := fun _ => -1) fun z hz => by unfold setR; rw [if_pos (by omega)]]
          rfl
      clear hB hH hjl
      go_wp2
      go_ret2
      exact ⟨rfl, hfin, hU⟩
/-- the owners o lie at A, in the blocks S -/
def OAt (w : World) (A : Nat) (S : Nat → Prop) (o : Ow) : Prop := ∃ LB, OwAt w A LB o ∧ S = fun k => k = A ∨ k = LB
theorem owc : OwC OAt where
  kept := by
    rintro T S w w' A o ⟨LB, h, rfl⟩ u hS
    exact ⟨LB, h.kept u (hS A (.inl rfl)) (hS LB (.inr rfl)), rfl⟩
  ok := by
    rintro S w A o ⟨LB, h, rfl⟩
    exact h.ok
  lt := by
    rintro S w A o ⟨LB, h, rfl⟩ k (rfl | rfl)
    · exact lt_of_heap h.head
    · exact lt_of_heap h.body
  new_no := fun n w h => (gNew_no n w h).mono fun _ _ ⟨he, hw⟩ => ⟨he, hw ▸ Upd.refl _ _⟩
  new_yes := fun n w h1 h2 => (gNew_yes n w h1 h2).mono fun _ _ ⟨he, ho, hu⟩ => ⟨_, _, he, ⟨_, ho, rfl⟩, by rintro k (rfl | rfl) <;> omega, hu⟩
  give := by
    rintro S w A o f k v ⟨LB, h, rfl⟩ _ hk _
    exact (gGive_any A LB o f k v w h hk).mono fun _ _ ⟨he, ho, hu⟩ => ⟨he, ⟨LB, ho, rfl⟩, hu.mono fun _ _ e => .inr e⟩
  take := by
    rintro S w A o f k v ⟨LB, h, rfl⟩ _ hk _
    exact (gTake_any A LB o f k v w h hk).mono fun _ _ ⟨he, ho, hu⟩ => ⟨he, ⟨LB, ho, rfl⟩, hu.mono fun _ _ e => .inr e⟩
  quota := by
    rintro S w A o v m ⟨LB, h, rfl⟩ _ _
    exact (gQuota_any A LB o v m w h).mono fun _ _ ⟨he, ho, hu⟩ => ⟨he, ⟨LB, ho, rfl⟩, hu.mono fun _ _ e => .inl e⟩
  of_ := by
    rintro S w A o f ⟨LB, h, rfl⟩
    exact gOf_any A LB o f w h
  count_ := by
    rintro S w A o v ⟨LB, h, rfl⟩
    exact gCount_any A LB o v w h
end Go.Proofs.Ytmapceallmphpaa
