/-
  The document's own owners: Take.
-/
import Derived.Test.YtmapceallmphpaaOwR
namespace Go.Proofs.Ytmapceallmphpaa
open Go.ChangeShapes Go.WideShapes Go.ChangeAt Go.RowKit

theorem ROw.ne {w : World} {C LB : Nat} {o : Ow} (h : ROw w C LB o) : C ≠ LB := by
  intro e
  have h1 := h.head
  rw [e, h.body] at h1
  simp at h1
/-- frames set one by one -/
theorem setR_step (n : Nat) (g : Nat → Int) (f k : Nat) (v : Int) : ocells n (updI (setR g f k v) (f + k) v) = ocells n (setR g f (k + 1) v) := ocells_congr fun j _ => by
  unfold updI setR
  by_cases h : j = f + k
  · rw [if_pos h, if_pos (by omega)]
  · rw [if_neg h]
    by_cases h2 : f ≤ j ∧ j < f + k
    · rw [if_pos h2, if_pos (by omega)]
    · rw [if_neg h2, if_neg (by omega)]
theorem all_no {o : Ow} {f k j : Nat} {v : Int} (h1 : f ≤ j) (h2 : j < f + k) (h3 : o.f j ≠ v) : o.all f k v = false := by
  cases h : o.all f k v
  · rfl
  · exact absurd (all_iff.1 h j h1 h2) h3

set_option maxRecDepth 100000 in
set_option maxHeartbeats 1000000 in
theorem oTake_any (C LB : Nat) (o : Ow) (f k v : Int) (w : World) (h : ROw w C LB o) (hk : -9223372036854775808 ≤ k ∧ k ≤ 9223372036854775807) :
    Calls Try.prog 13 #[.pointer (some ⟨C, 0, none⟩), .int .i64 f, .int .i64 k, .int .i64 v] w fun e w' => e = .returned (.int .i64 (o.takeE f k v)) ∧ ROw w' C LB (o.take f k v) ∧ Upd (· = LB) w w' := by
  have hcall := Lib.hid (oare_any C LB o f k w h hk)
  have hc := h.c0
  have hhi := h.ok.hi
  clear hk
  cases ha : o.are f k
  · have hE : o.takeE f k v = 1 := by unfold Ow.takeE; rw [ha]; rfl
    have HE := Lib.hid hE
    have hT := Lib.hid (take_no (o := o) (f := f) (k := k) (w := v) (by rw [hE]; decide))
    have Ha := Lib.hid ha
    clear ha hE
    go_enter Try.func13, Try.ntmps13
    go_wp2_with fail
    refine hcall.out.mono ?_
    rintro e w1 ⟨rfl, rfl⟩
    rw [Ha.out]
    go_wp2
    go_ret
    exact ⟨by rw [HE.out]; rfl, by rw [hT.out]; exact h, Upd.refl _ _⟩
  · have Ha := Lib.hid ha
    by_cases hv : 0 ≤ v ∧ v ≤ 8
    · obtain ⟨a1, a2, a3, a4⟩ := are_iff.1 ha
      obtain ⟨F, rfl⟩ := Int.eq_ofNat_of_zero_le a3
      obtain ⟨K, rfl⟩ := Int.eq_ofNat_of_zero_le (show 0 ≤ k by omega)
      have hFK : F + K ≤ o.n := by omega
      have hEv : o.takeE F K v = if o.all F K v then 0 else 2 := by
        unfold Ow.takeE
        rw [ha, who9_iff.2 hv]
        rfl
      have HEv := Lib.hid hEv
      clear ha hEv a1 a2 a3 a4
      go_enter Try.func13, Try.ntmps13
      go_wp2_with fail
      refine hcall.out.mono ?_
      rintro e w1 ⟨rfl, rfl⟩
      rw [Ha.out]
      go_wp2
      go_loop [9] (fun t => ∃ j : Nat, F ≤ j ∧ j ≤ F + K ∧ t = .int .i64 j ∧ Hid (∀ i, F ≤ i → i < j → o.f i = v)) (fun t => 1000 - (intOf t).toNat)
      case atStart => exact ⟨F, Nat.le_refl _, by omega, rfl, Lib.hid fun i h1 h2 => by omega⟩
      case round =>
        obtain ⟨j, j1, j2, rfl, hall⟩ := hrel
        by_cases hlt : j < F + K
        · have hcj := ocell h.body j (by omega)
          by_cases hx : o.f j = v
          · have hst := Lib.hid (show ∀ i, F ≤ i → i < j + 1 → o.f i = v from fun i h1 h2 => by
              rcases Nat.lt_or_ge i j with hi | hi
              · exact hall.out i h1 hi
              · rw [show i = j from by omega]; exact hx)
            rw [hx] at hcj
            clear hx
            go_wp2
            exact ⟨⟨j + 1, by omega, by omega, by go_num, hst⟩, by simp [intOf]; omega⟩
          · have hE := Lib.hid (show o.takeE F K v = 2 from by rw [HEv.out, all_no j1 hlt hx]; rfl)
            have hT := Lib.hid (take_no (o := o) (f := F) (k := K) (w := v) (by rw [hE.out]; decide))
            have hxb : (o.f j != v) = true := by simp; exact hx
            generalize o.f j = x at hcj hx hxb
            go_wp2
            go_ret
            exact ⟨by rw [hE.out]; rfl, by rw [hT.out]; exact h, Upd.refl _ _⟩
        · have hE := Lib.hid (show o.takeE F K v = 0 from by rw [HEv.out, all_iff.2 fun i h1 h2 => hall.out i h1 (by omega)]; rfl)
          have hT := Lib.hid (show o.take F K v = { o with f := setR o.f F K (-1) } from by unfold Ow.take; rw [if_pos hE.out]; rfl)
          have hjI : ¬ (j : Int) < (F : Int) + (K : Int) := by omega
          clear hall
          go_wp2
          go_loopw [10] (fun t wr => ∃ i : Nat, i ≤ K ∧ t = .int .i64 ((F + i : Nat) : Int) ∧ Hid (wr.heap[LB]? = some (.cells (ocells o.n (setR o.f F i (-1))).toArray 3 (0, 0))) ∧ Upd (· = LB) w wr) (fun t _ => 1000 - (intOf t).toNat)
          case atStart => exact ⟨0, by omega, rfl, by rw [setR_zero]; exact Lib.hid h.body, Upd.refl _ _⟩
          case round =>
            obtain ⟨i, hi, rfl, hB, hU⟩ := hrel
            have hcw := hU.cell hc h.ne
            by_cases hil : i < K
            · have hci := ocell hB.out (F + i) (by omega)
              have hfz := frozen_block hB.out (F + i)
              have hset := Lib.hid (show (wr.setCell ⟨LB, F + i, none⟩ (.int .i64 (-1))).heap[LB]? = some (.cells (ocells o.n (setR o.f F (i + 1) (-1))).toArray 3 (0, 0)) from by rw [heap_setCell_same hB.out (F + i), ocells_set, setR_step])
              have hU' := hU.setCell (p := ⟨LB, F + i, none⟩) (.inl rfl) (.int .i64 (-1))
              generalize setR o.f F i (-1) (F + i) = bi at hci
              clear hB hU
              go_wp2
              exact ⟨⟨i + 1, by omega, by go_num, hset, hU'⟩, by simp [intOf]; omega⟩
            · obtain rfl : i = K := by omega
              have hfin : ROw wr C LB (o.take F i v) := by
                rw [hT.out]
                have ok := h.ok.take F i v
                rw [hT.out] at ok
                exact ⟨hU.at h.head h.ne, hB.out, ok⟩
              clear hB
              go_wp2
              go_ret
              exact ⟨by rw [hE.out]; rfl, hfin, hU⟩
    · have hE : o.takeE f k v = 1 := by
        unfold Ow.takeE
        rw [show who9 v = false from by unfold who9; exact decide_eq_false hv, Bool.and_false]
        rfl
      have HE := Lib.hid hE
      have hT := Lib.hid (take_no (o := o) (f := f) (k := k) (w := v) (by rw [hE]; decide))
      clear ha hE
      by_cases hv0 : v < 0
      · clear hv
        go_enter Try.func13, Try.ntmps13
        go_wp2_with fail
        refine hcall.out.mono ?_
        rintro e w1 ⟨rfl, rfl⟩
        rw [Ha.out]
        go_wp2
        go_ret
        exact ⟨by rw [HE.out]; rfl, by rw [hT.out]; exact h, Upd.refl _ _⟩
      · have hv1 : 8 < v := by omega
        clear hv
        go_enter Try.func13, Try.ntmps13
        go_wp2_with fail
        refine hcall.out.mono ?_
        rintro e w1 ⟨rfl, rfl⟩
        rw [Ha.out]
        go_wp2
        go_ret
        exact ⟨by rw [HE.out]; rfl, by rw [hT.out]; exact h, Upd.refl _ _⟩
end Go.Proofs.Ytmapceallmphpaa
