/-
  The document's own owners: Quota, Give, New.
-/
import Derived.Test.YtmapceallmphpaaOwS
import Derived.Deep.DeepCutAuto
import Derived.Deep.CutBlock
namespace Go.Proofs.Ytmapceallmphpaa
open Go.ChangeShapes Go.WideShapes Go.ChangeAt Go.RowKit

theorem ROw.freeC {w : World} {C LB : Nat} {o : Ow} (h : ROw w C LB o) (i : Nat) : w.frozen? ⟨C, i, none⟩ = false := frozen_block h.head i
theorem head_set {w : World} {C : Nat} {x : Value} {g : Nat → Int} {t : TypeId} (h : w.heap[C]? = some (.cells (x :: ocells 9 g).toArray t (0, 0))) (i : Nat) (v : Int) :
    (w.setCell ⟨C, 1 + i, none⟩ (.int .i64 v)).heap[C]? = some (.cells (x :: ocells 9 (updI g i v)).toArray t (0, 0)) := by
  rw [heap_setCell_same h (1 + i), Nat.add_comm, List.set_cons_succ, ocells_set]
set_option maxRecDepth 100000 in
set_option maxHeartbeats 1000000 in
theorem oQuota_any (C LB : Nat) (o : Ow) (v m : Int) (w : World) (h : ROw w C LB o) :
    Calls Try.prog 15 #[.pointer (some ⟨C, 0, none⟩), .int .i64 v, .int .i64 m] w fun e w' => e = .returned (.int .i64 (o.quotaE v m)) ∧ ROw w' C LB (o.quota v m) ∧ Upd (· = C) w w' := by
  have hcall := Lib.hid (oCount_any C LB o v w h)
  have hcl := o.count_le v
  have hhi := h.ok.hi
  by_cases hg : (0 ≤ v ∧ v ≤ 8) ∧ 0 ≤ m ∧ m ≤ 256
  · obtain ⟨hv, hm⟩ := hg
    obtain ⟨V, rfl⟩ := Int.eq_ofNat_of_zero_le hv.1
    have hEv := Lib.hid (show o.quotaE V m = if (o.count V : Int) ≤ m then 0 else 12 from by
      unfold Ow.quotaE
      rw [who9_iff.2 hv, decide_eq_true hm]
      rfl)
    by_cases hc : (o.count V : Int) ≤ m
    · have hE := Lib.hid (show o.quotaE V m = 0 from by rw [hEv.out, if_pos hc])
      have hQ := Lib.hid (show o.quota V m = { o with most := updI o.most V m } from by
        unfold Ow.quota
        rw [if_pos hE.out]
        rfl)
      have hcm := h.cm V (by omega)
      have hfz := h.freeC (1 + V)
      have hset := Lib.hid (head_set h.head V m)
      generalize o.count V = cc at hcall hc hcl
      generalize o.most V = mv at hcm
      go_enter Try.func15, Try.ntmps15
      go_wp2_with fail
      refine hcall.out.mono ?_
      rintro e w1 ⟨rfl, rfl⟩
      go_wp2
      go_ret
      refine ⟨by rw [hE.out]; rfl, ?_, (Upd.refl (· = C) w).setCell (p := ⟨C, 1 + V, none⟩) (.inl rfl) (.int .i64 m)⟩
      rw [hQ.out]
      have ok := h.ok.quota V m
      rw [hQ.out] at ok
      exact ⟨hset.out, (Below.heap_setCell _ _ _ _ (fun e => h.ne e.symm)).trans h.body, ok⟩
    · have hE := Lib.hid (show o.quotaE V m = 12 from by rw [hEv.out, if_neg hc])
      have hQ := Lib.hid (quota_no (o := o) (w := V) (m := m) (by rw [hE.out]; decide))
      generalize o.count V = cc at hcall hc hcl
      go_enter Try.func15, Try.ntmps15
      go_wp2_with fail
      refine hcall.out.mono ?_
      rintro e w1 ⟨rfl, rfl⟩
      go_wp2
      go_ret
      exact ⟨by rw [hE.out]; rfl, by rw [hQ.out]; exact h, Upd.refl _ _⟩
  · have hE : o.quotaE v m = 1 := by
      unfold Ow.quotaE
      rw [if_neg]
      rw [Bool.and_eq_true, who9_iff, decide_eq_true_iff]
      exact hg
    have HE := Lib.hid hE
    have hQ := Lib.hid (quota_no (o := o) (w := v) (m := m) (by rw [hE]; decide))
    clear hE hcall hcl
    by_cases c1 : v < 0
    · clear hg
      go_enter Try.func15, Try.ntmps15
      go_wp2
      go_ret
      exact ⟨by rw [HE.out]; rfl, by rw [hQ.out]; exact h, Upd.refl _ _⟩
    · by_cases c2 : 8 < v
      · clear hg
        go_enter Try.func15, Try.ntmps15
        go_wp2
        go_ret
        exact ⟨by rw [HE.out]; rfl, by rw [hQ.out]; exact h, Upd.refl _ _⟩
      · by_cases c3 : m < 0
        · clear hg
          go_enter Try.func15, Try.ntmps15
          go_wp2
          go_ret
          exact ⟨by rw [HE.out]; rfl, by rw [hQ.out]; exact h, Upd.refl _ _⟩
        · have c4 : 256 < m := by omega
          clear hg
          go_enter Try.func15, Try.ntmps15
          go_wp2
          go_ret
          exact ⟨by rw [HE.out]; rfl, by rw [hQ.out]; exact h, Upd.refl _ _⟩
set_option maxRecDepth 100000 in
set_option maxHeartbeats 1000000 in
theorem oGive_any (C LB : Nat) (o : Ow) (f k v : Int) (w : World) (h : ROw w C LB o) (hk : -9223372036854775808 ≤ k ∧ k ≤ 9223372036854775807) :
    Calls Try.prog 11 #[.pointer (some ⟨C, 0, none⟩), .int .i64 f, .int .i64 k, .int .i64 v] w fun e w' => e = .returned (.int .i64 (o.giveE f k v)) ∧ ROw w' C LB (o.give f k v) ∧ Upd (· = LB) w w' := by
  have hcall := Lib.hid (oare_any C LB o f k w h hk)
  have hc := h.c0
  have hhi := h.ok.hi
  clear hk
  cases ha : o.are f k
  · have hE : o.giveE f k v = 1 := by unfold Ow.giveE; rw [ha]; rfl
    have HE := Lib.hid hE
    have hT := Lib.hid (give_no (o := o) (f := f) (k := k) (w := v) (by rw [hE]; decide))
    have Ha := Lib.hid ha
    clear ha hE
    go_enter Try.func11, Try.ntmps11
    go_wp2_with fail
    refine hcall.out.mono ?_
    rintro e w1 ⟨rfl, rfl⟩
    rw [Ha.out]
    go_wp2
    go_ret
    exact ⟨by rw [HE.out]; rfl, by rw [hT.out]; exact h, Upd.refl _ _⟩
  · have Ha := Lib.hid ha
    by_cases hv : 0 ≤ v ∧ v ≤ 8
    · obtain ⟨a1, a2, a3, a4⟩ := are_iff.1 ha
      obtain ⟨F, rfl⟩ := Int.eq_ofNat_of_zero_le a3
      obtain ⟨K, rfl⟩ := Int.eq_ofNat_of_zero_le (show 0 ≤ k by omega)
      obtain ⟨V, rfl⟩ := Int.eq_ofNat_of_zero_le hv.1
      have hFK : F + K ≤ o.n := by omega
      have HEv := Lib.hid (show o.giveE F K V = if o.all F K (-1) then (if (o.count V : Int) + K ≤ o.most V then 0 else 12) else 4 from by
        unfold Ow.giveE
        rw [ha, who9_iff.2 hv]
        rfl)
      have hcl := o.count_le V
      have hms := h.ok.ms V
      have hcm := h.cm V (by omega)
      have hcc := Lib.hid (show ∀ q, Calls Try.prog 19 #[.pointer (some ⟨C, 0, none⟩), .int .i64 V] (w.drewN q) fun e w'' => e = .returned (.int .i64 (o.count V)) ∧ ∃ p, w'' = w.drewN p from fun q => still0 (oCount_any C LB o V _ (h.kept ((Upd.refl (fun _ => False) w).drewN q) (fun h => h) (fun h => h))))
      clear ha a1 a2 a3 a4
      go_enter Try.func11, Try.ntmps11
      go_wp2_with fail
      refine hcall.out.mono ?_
      rintro e w1 ⟨rfl, rfl⟩
      rw [Ha.out]
      go_wp2
      go_loop [9] (fun t => ∃ j : Nat, F ≤ j ∧ j ≤ F + K ∧ t = .int .i64 j ∧ Hid (∀ i, F ≤ i → i < j → o.f i = -1)) (fun t => 1000 - (intOf t).toNat)
      case atStart => exact ⟨F, Nat.le_refl _, by omega, rfl, Lib.hid fun i h1 h2 => by omega⟩
      case round =>
        obtain ⟨j, j1, j2, rfl, hall⟩ := hrel
        by_cases hlt : j < F + K
        · have hcj := ocell h.body j (by omega)
          have hfj := h.ok.fr j
          by_cases hx : o.f j = -1
          · have hst := Lib.hid (show ∀ i, F ≤ i → i < j + 1 → o.f i = -1 from fun i h1 h2 => by
              rcases Nat.lt_or_ge i j with hi | hi
              · exact hall.out i h1 hi
              · rw [show i = j from by omega]; exact hx)
            rw [hx] at hcj
            clear hx hfj
            go_wp2
            exact ⟨⟨j + 1, by omega, by omega, by go_num, hst⟩, by simp [intOf]; omega⟩
          · have hE := Lib.hid (show o.giveE F K V = 4 from by rw [HEv.out, all_no j1 hlt hx]; rfl)
            have hT := Lib.hid (give_no (o := o) (f := F) (k := K) (w := V) (by rw [hE.out]; decide))
            have hx0 : 0 ≤ o.f j := by omega
            generalize o.f j = x at hcj hx hx0 hfj
            go_wp2
            go_ret
            exact ⟨by rw [hE.out]; rfl, by rw [hT.out]; exact h, Upd.refl _ _⟩
        · have hA : o.all F K (-1) = true := all_iff.2 fun i h1 h2 => hall.out i h1 (by omega)
          have hjI : ¬ (j : Int) < (F : Int) + (K : Int) := by omega
          have hwr : IntKind.i64.wrap ((o.count V : Int) + (K : Int)) = (o.count V : Int) + (K : Int) := IntWalk.i64_in _ (by omega)
          have hV9 : (V : Int) < 9 := by omega
          rw [hA] at HEv
          clear hall hA
          by_cases hq : (o.count V : Int) + K ≤ o.most V
          · have hE := Lib.hid (show o.giveE F K V = 0 from by rw [HEv.out, if_pos rfl, if_pos hq])
            have hT := Lib.hid (show o.give F K V = { o with f := setR o.f F K V } from by unfold Ow.give; rw [if_pos hE.out]; rfl)
            generalize o.count V = cc at hcc hq hcl hwr
            have hqd : decide (o.most V < (cc : Int) + (K : Int)) = false := decide_eq_false (by omega)
            generalize o.most V = mv at hcm hq hms hqd
            go_wp2
            go_quiet ((go_at_call 19; exact hcc.out _))
            have hq2 := h.kept ((Upd.refl (fun _ => False) w).drewN nq) (fun h => h) (fun h => h)
            go_wp2
            go_loopw [10] (fun t wr => ∃ i : Nat, i ≤ K ∧ t = .int .i64 ((F + i : Nat) : Int) ∧ Hid (wr.heap[LB]? = some (.cells (ocells o.n (setR o.f F i V)).toArray 3 (0, 0))) ∧ Upd (· = LB) (w.drewN nq) wr) (fun t _ => 1000 - (intOf t).toNat)
            case atStart => exact ⟨0, by omega, rfl, by rw [setR_zero]; exact Lib.hid h.body, Upd.refl _ _⟩
            case round =>
              obtain ⟨i, hi, rfl, hB, hU⟩ := hrel
              have hcw := hU.cell hq2.c0 h.ne
              by_cases hil : i < K
              · have hci := ocell hB.out (F + i) (by omega)
                have hfz := frozen_block hB.out (F + i)
                have hset := Lib.hid (show (wr.setCell ⟨LB, F + i, none⟩ (.int .i64 V)).heap[LB]? = some (.cells (ocells o.n (setR o.f F (i + 1) V)).toArray 3 (0, 0)) from by rw [heap_setCell_same hB.out (F + i), ocells_set, setR_step])
                have hU' := hU.setCell (p := ⟨LB, F + i, none⟩) (.inl rfl) (.int .i64 V)
                generalize setR o.f F i V (F + i) = bi at hci
                clear hB hU
                go_wp2
                exact ⟨⟨i + 1, by omega, by go_num, hset, hU'⟩, by simp [intOf]; omega⟩
              · obtain rfl : i = K := by omega
                have hfin : ROw wr C LB (o.give F i V) := by
                  rw [hT.out]
                  have ok := h.ok.give F i V
                  rw [hT.out] at ok
                  exact ⟨hU.at hq2.head h.ne, hB.out, ok⟩
                clear hB
                go_wp2
                go_ret
                exact ⟨by rw [hE.out]; rfl, hfin, ((Upd.refl _ w).drewN nq).trans hU⟩
          · have hE := Lib.hid (show o.giveE F K V = 12 from by rw [HEv.out, if_pos rfl, if_neg hq])
            have hT := Lib.hid (give_no (o := o) (f := F) (k := K) (w := V) (by rw [hE.out]; decide))
            generalize o.count V = cc at hcc hq hcl hwr
            have hqd : decide (o.most V < (cc : Int) + (K : Int)) = true := decide_eq_true (by omega)
            generalize o.most V = mv at hcm hq hms hqd
            go_wp2
            go_quiet ((go_at_call 19; exact hcc.out _))
            have hq2 := h.kept ((Upd.refl (fun _ => False) w).drewN nq) (fun h => h) (fun h => h)
            go_wp2
            go_ret
            exact ⟨by rw [hE.out]; rfl, by rw [hT.out]; exact hq2, (Upd.refl _ w).drewN nq⟩
    · have hE : o.giveE f k v = 1 := by
        unfold Ow.giveE
        rw [show who9 v = false from by unfold who9; exact decide_eq_false hv, Bool.and_false]
        rfl
      have HE := Lib.hid hE
      have hT := Lib.hid (give_no (o := o) (f := f) (k := k) (w := v) (by rw [hE]; decide))
      clear ha hE
      by_cases hv0 : v < 0
      · clear hv
        go_enter Try.func11, Try.ntmps11
        go_wp2_with fail
        refine hcall.out.mono ?_
        rintro e w1 ⟨rfl, rfl⟩
        rw [Ha.out]
        go_wp2
        go_ret
        exact ⟨by rw [HE.out]; rfl, by rw [hT.out]; exact h, Upd.refl _ _⟩
      · have hv1 : 8 < v := by omega
        clear hv
        go_enter Try.func11, Try.ntmps11
        go_wp2_with fail
        refine hcall.out.mono ?_
        rintro e w1 ⟨rfl, rfl⟩
        rw [Ha.out]
        go_wp2
        go_ret
        exact ⟨by rw [HE.out]; rfl, by rw [hT.out]; exact h, Upd.refl _ _⟩
theorem info_int1 : (Try.prog.info? 3).map (fun i => (i.zero, i.size, i.bytes)) = some (some (.int .i64 0), 1, 8) := by kernel_rfl
theorem ocells_same (n : Nat) (v : Int) : ocells n (fun _ => v) = List.replicate n (.int .i64 v) := by
  apply List.ext_getElem
  · simp [ocells]
  · intro i h1 h2
    simp [ocells]
set_option maxHeartbeats 400000 in
theorem oNew_no (n : Int) (w : World) (h : n < 1 ∨ 256 < n) :
    Calls Try.prog 9 #[.int .i64 n] w fun e w' => e = .returned (.tuple #[.pointer none, .int .i64 1]) ∧ w = w' := by
  by_cases h0 : n < 1
  all_goals
    go_enter Try.func9, Try.ntmps9
    go_wp2
    go_ret2
    exact ⟨rfl, rfl⟩
set_option maxRecDepth 100000 in
set_option maxHeartbeats 1000000 in
theorem oNew_yes (n : Nat) (w : World) (h1 : 1 ≤ n) (h2 : n ≤ 256) :
    Calls Try.prog 9 #[.int .i64 n] w fun e w' => e = .returned (.tuple #[.pointer (some ⟨w.heap.size + 1, 0, none⟩), .int .i64 0]) ∧ ROw w' (w.heap.size + 1) w.heap.size (ow0 n) ∧ Upd (fun _ => False) w w' := by
  have hC := Lib.hid (show madeCells (Value.int .i64 0).cells (n * 1) = (ocells n fun _ => 0).toArray from by
    show madeCells #[.int .i64 0] (n * 1) = _
    rw [ocells_same, Nat.mul_one]
    exact madeCells_same (.int .i64 0) 1 n (by decide))
  obtain ⟨N, hN⟩ : ∃ N, w.heap.size = N := ⟨_, rfl⟩
  obtain ⟨W, hWe⟩ : ∃ W, (w.alloc (.cells (ocells n fun _ => 0).toArray 3)).alloc (.cells #[.slice (some ⟨N, 0, none⟩) n n, .int .i64 0, .int .i64 0, .int .i64 0, .int .i64 0, .int .i64 0, .int .i64 0, .int .i64 0, .int .i64 0, .int .i64 0] 46) = W := ⟨_, rfl⟩
  have hU0 : Upd (fun _ => False) w W := by rw [← hWe]; exact ((Upd.refl _ _).alloc _).alloc _
  have hb0 : W.heap[N]? = some (.cells (ocells n fun _ => 0).toArray 3 (0, 0)) := by
    rw [← hWe, ← hN, Below.heap_alloc _ _ _ (by simp)]
    exact heap_alloc_last w _
  have hh0 : W.heap[N + 1]? = some (.cells (.slice (some ⟨N, 0, none⟩) n n :: ocells 9 fun _ => 0).toArray 46 (0, 0)) := by
    have := heap_alloc_last (w.alloc (.cells (ocells n fun _ => 0).toArray 3)) (.cells #[.slice (some ⟨N, 0, none⟩) n n, .int .i64 0, .int .i64 0, .int .i64 0, .int .i64 0, .int .i64 0, .int .i64 0, .int .i64 0, .int .i64 0, .int .i64 0] 46)
    rw [World.size_alloc, hN, hWe] at this
    exact this
  rw [hN]
  go_enter Try.func9, Try.ntmps9
  go_upto_region 4 with (with_reducible refine wpList_make_exact rfl (.tmp 13) (.tmp 13) 41 rfl 3 _ 1 8 Try.underlying41 info_int1 .i64 .i64 n rfl rfl (by omega) (by omega) _ hC.out ?_)
  clear hWe hC
  go_wp2
  go_loopw [5] (fun t wr => ∃ i : Nat, i ≤ n ∧ t = .int .i64 i ∧ Hid (wr.heap[N]? = some (.cells (ocells n (setR (fun _ => 0) 0 i (-1))).toArray 3 (0, 0))) ∧ Hid (wr.heap[N + 1]? = some (.cells (.slice (some ⟨N, 0, none⟩) n n :: ocells 9 fun _ => 0).toArray 46 (0, 0))) ∧ Upd (fun _ => False) w wr) (fun t _ => n - (intOf t).toNat)
  case atStart => exact ⟨0, by omega, rfl, by rw [setR_zero]; exact Lib.hid hb0, Lib.hid hh0, hU0⟩
  case round =>
    obtain ⟨i, hi, rfl, hB, hH, hU⟩ := hrel
    have hc0 : wr.cell? ⟨N + 1, 0, none⟩ = some (.slice (some ⟨N, 0, none⟩) n n) := by rw [cell_of_row wr (N + 1) 0 _ _ _ hH.out]; rfl
    by_cases hlt : i < n
    · have hci := ocell hB.out i hlt
      have hfz := frozen_block hB.out i
      have hset := Lib.hid (show (wr.setCell ⟨N, i, none⟩ (.int .i64 (-1))).heap[N]? = some (.cells (ocells n (setR (fun _ => 0) 0 (i + 1) (-1))).toArray 3 (0, 0)) from by
        have := setR_step n (fun _ => 0) 0 i (-1)
        rw [Nat.zero_add] at this
        rw [heap_setCell_same hB.out i, ocells_set, this])
      have hoth := Lib.hid (show (wr.setCell ⟨N, i, none⟩ (.int .i64 (-1))).heap[N + 1]? = _ from (Below.heap_setCell _ _ _ _ (by simp)).trans hH.out)
      have hU' := hU.setCell (p := ⟨N, i, none⟩) (by right; show w.heap.size ≤ N; omega) (.int .i64 (-1))
      generalize setR (fun _ => 0) 0 i (-1) i = bi at hci
      clear hB hH hU
      go_wp2
      exact ⟨⟨i + 1, by omega, by go_num, hset, hoth, hU'⟩, by simp [intOf]; omega⟩
    · obtain rfl : i = n := by omega
      clear hlt hc0
      go_wp2
      go_loopw [6] (fun t wr => ∃ j : Nat, j ≤ 9 ∧ t = .int .i64 j ∧ Hid (wr.heap[N]? = some (.cells (ocells i (setR (fun _ => 0) 0 i (-1))).toArray 3 (0, 0))) ∧ Hid (wr.heap[N + 1]? = some (.cells (.slice (some ⟨N, 0, none⟩) i i :: ocells 9 (setR (fun _ => 0) 0 j 256)).toArray 46 (0, 0))) ∧ Upd (fun _ => False) w wr) (fun t _ => 9 - (intOf t).toNat)
      case atStart => exact ⟨0, by omega, rfl, hB, by rw [setR_zero]; exact hH, hU⟩
      case round =>
        clear hB hH hU
        obtain ⟨j, hj, rfl, hB, hH, hU⟩ := hrel
        by_cases hjl : j < 9
        · have hcj : wr.cell? ⟨N + 1, 1 + j, none⟩ = some (.int .i64 (setR (fun _ => 0) 0 j 256 j)) := by
            rw [cell_of_row wr (N + 1) (1 + j) _ _ _ hH.out, List.getElem?_toArray, Nat.add_comm, List.getElem?_cons_succ]
            simp [ocells, hjl]
          have hfz := frozen_block hH.out (1 + j)
          have hset := Lib.hid (show (wr.setCell ⟨N + 1, 1 + j, none⟩ (.int .i64 256)).heap[N + 1]? = some (.cells (.slice (some ⟨N, 0, none⟩) i i :: ocells 9 (setR (fun _ => 0) 0 (j + 1) 256)).toArray 46 (0, 0)) from by
            have := setR_step 9 (fun _ => 0) 0 j 256
            rw [Nat.zero_add] at this
            rw [head_set hH.out j 256, this])
          have hoth := Lib.hid (show (wr.setCell ⟨N + 1, 1 + j, none⟩ (.int .i64 256)).heap[N]? = _ from (Below.heap_setCell _ _ _ _ (by simp)).trans hB.out)
          have hU' := hU.setCell (p := ⟨N + 1, 1 + j, none⟩) (by right; show w.heap.size ≤ N + 1; omega) (.int .i64 256)
          generalize setR (fun _ => 0) 0 j 256 j = bj at hcj
          clear hB hH hU
          go_wp2
          exact ⟨⟨j + 1, by omega, by go_num, hoth, hset, hU'⟩, by simp [intOf]; omega⟩
        · obtain rfl : j = 9 := by omega
          have hfin : ROw wr (N + 1) N (ow0 i) := by
            refine ⟨?_, ?_, ow0_ok h1 h2⟩
            · rw [hH.out, ocells_congr (n := 9) (f := setR (fun _ => 0) 0 9 256) (g := fun _ => 256) fun z hz => by unfold setR; rw [if_pos (by omega)]]
              rfl
            · rw [hB.out, ocells_congr (n := i) (f := setR (fun _ => 0) 0 i (-1)) (g := fun _ => -1) fun z hz => by unfold setR; rw [if_pos (by omega)]]
              rfl
          clear hB hH hjl
          go_wp2
          go_ret2
          exact ⟨rfl, hfin, hU⟩
end Go.Proofs.Ytmapceallmphpaa
