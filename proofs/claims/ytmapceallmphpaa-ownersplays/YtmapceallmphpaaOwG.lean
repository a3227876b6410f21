/-
  Package owners: where it lies, and the contracts of isOwner, exist, all, set, Count, Of.
-/
import Derived.Test.YtmapceallmphpaaOwT
import Derived.Deep.LoopGhost
import Derived.WalkMore
namespace Go.Proofs.Ytmapceallmphpaa
open Go.ChangeShapes Go.WideShapes Go.ChangeAt Go.RowKit

/-- package owners' own: the head lies at A, the frames at LB -/
structure OwAt (w : World) (A LB : Nat) (o : Ow) : Prop where
  head : w.heap[A]? = some (.cells (.slice (some ⟨LB, 0, none⟩) o.n o.n :: ocells 9 o.most).toArray 43 (0, 0))
  body : w.heap[LB]? = some (.cells (ocells o.n o.f).toArray 3 (0, 0))
  ok : o.Ok
theorem OwAt.c0 {w : World} {A LB : Nat} {o : Ow} (h : OwAt w A LB o) : w.cell? ⟨A, 0, none⟩ = some (.slice (some ⟨LB, 0, none⟩) o.n o.n) := by rw [cell_of_row w A 0 _ _ _ h.head]; rfl
theorem OwAt.cm {w : World} {A LB : Nat} {o : Ow} (h : OwAt w A LB o) (i : Nat) (hi : i < 9) : w.cell? ⟨A, 1 + i, none⟩ = some (.int .i64 (o.most i)) := by
  rw [cell_of_row w A (1 + i) _ _ _ h.head, List.getElem?_toArray, Nat.add_comm, List.getElem?_cons_succ]
  simp [ocells, hi]
theorem OwAt.kept {S : Nat → Prop} {w w' : World} {A LB : Nat} {o : Ow} (h : OwAt w A LB o) (u : Upd S w w') (h1 : ¬ S A) (h2 : ¬ S LB) : OwAt w' A LB o := ⟨u.at h.head h1, u.at h.body h2, h.ok⟩
theorem OwAt.ne {w : World} {A LB : Nat} {o : Ow} (h : OwAt w A LB o) : A ≠ LB := by
  intro e
  have h1 := h.head
  rw [e, h.body] at h1
  simp at h1
theorem OwAt.freeC {w : World} {A LB : Nat} {o : Ow} (h : OwAt w A LB o) (i : Nat) : w.frozen? ⟨A, i, none⟩ = false := frozen_block h.head i
/-- who isn't there has nothing -/
theorem cnto_over (f : Nat → Int) (hf : ∀ j, f j ≤ 8) (v : Int) (hv : 8 < v) : ∀ n, cnto f v n = 0
  | 0 => rfl
  | n + 1 => by rw [cnto, cnto_over f hf v hv n, if_neg (fun e => by have := hf n; omega)]
theorem Ow.Ok.count_no {o : Ow} (h : o.Ok) {v : Int} (hv : who9 v = false) : o.count v = 0 := by
  unfold Ow.count
  have hn : ¬ (0 ≤ v ∧ v ≤ 8) := of_decide_eq_false hv
  by_cases h0 : 0 ≤ v
  · rw [if_pos h0]
    exact cnto_over _ (fun j => (h.fr j).2) v (by omega) _
  · rw [if_neg h0]

set_option maxHeartbeats 400000 in
theorem gwho_any (v : Int) (w : World) : Calls Try.prog 22 #[.int .i64 v] w fun e w' => e = .returned (.bool (who9 v)) ∧ w = w' := by
  by_cases h1 : 0 ≤ v
  · have hv := Lib.hid (show who9 v = decide (v < 9) from by unfold who9; rw [decide_eq_decide]; omega)
    go_enter Try.func22, Try.ntmps22
    go_wp2
    go_ret
    exact ⟨by rw [hv.out]; rfl, rfl⟩
  · have hv := Lib.hid (show who9 v = false from by unfold who9; exact decide_eq_false (by omega))
    go_enter Try.func22, Try.ntmps22
    go_wp2
    go_ret
    exact ⟨by rw [hv.out]; rfl, rfl⟩
set_option maxHeartbeats 400000 in
theorem gare_any (A LB : Nat) (o : Ow) (f k : Int) (w : World) (h : OwAt w A LB o) (hk : -9223372036854775808 ≤ k ∧ k ≤ 9223372036854775807) :
    Calls Try.prog 21 #[.pointer (some ⟨A, 0, none⟩), .int .i64 f, .int .i64 k] w fun e w' => e = .returned (.bool (o.are f k)) ∧ w = w' := by
  have hc := h.c0
  have hlo := h.ok.lo
  have hhi := h.ok.hi
  clear h
  by_cases h1 : 1 ≤ k
  · by_cases h3 : 0 ≤ f
    · have hw := IntWalk.i64_in ((o.n : Int) - k) (by omega)
      have hv := Lib.hid (show o.are f k = decide (f ≤ o.n - k) from by unfold Ow.are; rw [decide_eq_decide]; omega)
      clear hk
      go_enter Try.func21, Try.ntmps21
      go_wp2
      go_ret
      exact ⟨by rw [hv.out]; rfl, rfl⟩
    · have hv := Lib.hid (show o.are f k = false from by unfold Ow.are; simp; omega)
      clear hk
      go_enter Try.func21, Try.ntmps21
      go_wp2
      go_ret
      exact ⟨by rw [hv.out]; rfl, rfl⟩
  · have hv := Lib.hid (show o.are f k = false from by unfold Ow.are; simp; omega)
    clear hk
    go_enter Try.func21, Try.ntmps21
    go_wp2
    go_ret
    exact ⟨by rw [hv.out]; rfl, rfl⟩
theorem are_one {o : Ow} (h : o.Ok) (f : Int) : o.are f 1 = decide (0 ≤ f ∧ f < o.n) := by
  unfold Ow.are
  rw [decide_eq_decide]
  have := h.lo
  omega
set_option maxHeartbeats 400000 in
theorem gOf_any (A LB : Nat) (o : Ow) (f : Int) (w : World) (h : OwAt w A LB o) :
    Calls Try.prog 16 #[.pointer (some ⟨A, 0, none⟩), .int .i64 f] w fun e w' => e = .returned (.int .i64 (o.of f)) ∧ w = w' := by
  have hcall := Lib.hid (gare_any A LB o f 1 w h (by omega))
  have hc := h.c0
  have hhi := h.ok.hi
  by_cases h1 : 0 ≤ f ∧ f < (o.n : Int)
  · have ha := Lib.hid (show o.are f 1 = true from by rw [are_one h.ok]; exact decide_eq_true h1)
    obtain ⟨j, rfl⟩ := Int.eq_ofNat_of_zero_le h1.1
    have hj := ocell h.body j (by omega)
    have hv := Lib.hid (show o.of j = o.f j from by unfold Ow.of; rw [if_pos h1]; rfl)
    go_enter Try.func16, Try.ntmps16
    go_wp2_with fail
    refine hcall.out.mono ?_
    rintro e w1 ⟨rfl, rfl⟩
    rw [ha.out]
    go_wp2
    go_ret
    exact ⟨by rw [hv.out]; rfl, rfl⟩
  · have ha := Lib.hid (show o.are f 1 = false from by rw [are_one h.ok]; exact decide_eq_false h1)
    have hv := Lib.hid (show o.of f = -1 from by unfold Ow.of; rw [if_neg h1])
    go_enter Try.func16, Try.ntmps16
    go_wp2_with fail
    refine hcall.out.mono ?_
    rintro e w1 ⟨rfl, rfl⟩
    rw [ha.out]
    go_wp2
    go_ret
    exact ⟨by rw [hv.out]; rfl, rfl⟩
set_option maxHeartbeats 400000 in
theorem gCount_any (A LB : Nat) (o : Ow) (v : Int) (w : World) (h : OwAt w A LB o) :
    Calls Try.prog 18 #[.pointer (some ⟨A, 0, none⟩), .int .i64 v] w fun e w' => e = .returned (.int .i64 (o.count v)) ∧ w = w' := by
  have hc := h.c0
  have hhi := h.ok.hi
  cases hw : who9 v
  · have hv := Lib.hid (h.ok.count_no hw)
    have Hw := Lib.hid hw
    clear hw
    go_enter Try.func18, Try.ntmps18
    go_wp2_with fail
    refine (gwho_any v w).mono ?_
    rintro e w1 ⟨rfl, rfl⟩
    rw [Hw.out]
    go_wp2
    go_ret
    exact ⟨by rw [hv.out]; rfl, rfl⟩
  · have h0 := (who9_iff.1 hw).1
    have hv := Lib.hid (show o.count v = cnto o.f v o.n from by unfold Ow.count; rw [if_pos h0])
    have Hw := Lib.hid hw
    have hcell := fun j hj => ocell h.body j hj
    clear hw h0 h
    go_enter Try.func18, Try.ntmps18
    go_wp2_with fail
    refine (gwho_any v w).mono ?_
    rintro e w1 ⟨rfl, rfl⟩
    rw [Hw.out]
    go_wp2
    go_loop [5, 16] (fun s t => ∃ j : Nat, j ≤ o.n ∧ t = .int .i64 j ∧ s = .int .i64 (cnto o.f v j : Nat)) (fun _ t => o.n - (intOf t).toNat)
    case atStart => exact ⟨0, by omega, rfl, rfl⟩
    case round =>
      obtain ⟨j, hj, rfl, rfl⟩ := hrel
      by_cases hlt : j < o.n
      · have hcj := hcell j hlt
        have hs := Lib.hid (show cnto o.f v (j + 1) = cnto o.f v j + (if o.f j = v then 1 else 0) from rfl)
        have hcl := cnto_le o.f v j
        generalize cnto o.f v j = c at hs hcl ⊢
        generalize o.f j = x at hcj hs
        clear hcell hv
        by_cases hx : x = v
        · subst hx
          go_wp2
          exact ⟨⟨j + 1, by omega, by go_num, by rw [hs.out, if_pos rfl]; rfl⟩, by simp [intOf]; omega⟩
        · have hxb : (x == v) = false := by simpa using hx
          go_wp2
          exact ⟨⟨j + 1, by omega, by go_num, by rw [hs.out, if_neg hx]; rfl⟩, by simp [intOf]; omega⟩
      · have e : j = o.n := by omega
        subst e
        clear hcell
        generalize cnto o.f v o.n = c at hv ⊢
        go_wp2
        go_ret
        exact ⟨by rw [hv.out]; rfl, rfl⟩
/-- are the frames of the range, which is there, all one's? -/
theorem gall_any (A LB : Nat) (o : Ow) (F K : Nat) (v : Int) (w : World) (h : OwAt w A LB o) (hFK : F + K ≤ o.n) :
    Calls Try.prog 23 #[.pointer (some ⟨A, 0, none⟩), .int .i64 F, .int .i64 K, .int .i64 v] w fun e w' => e = .returned (.bool (o.all F K v)) ∧ w = w' := by
  have hc := h.c0
  have hhi := h.ok.hi
  have hcell := fun j hj => ocell h.body j hj
  clear h
  go_enter Try.func23, Try.ntmps23
  go_wp2
  go_step3
  go_wp2
  go_step3
  go_wp2
  go_loop [9] (fun t => ∃ j : Nat, j ≤ K ∧ t = .int .i64 j ∧ Hid (∀ i, F ≤ i → i < F + j → o.f i = v)) (fun t => K - (intOf t).toNat)
  case atStart => exact ⟨0, by omega, rfl, Lib.hid fun i h1 h2 => by omega⟩
  case round =>
    obtain ⟨j, hj, rfl, hall⟩ := hrel
    by_cases hlt : j < K
    · have hcj := hcell (F + j) (by omega)
      by_cases hx : o.f (F + j) = v
      · have hst := Lib.hid (show ∀ i, F ≤ i → i < F + (j + 1) → o.f i = v from fun i h1 h2 => by
          rcases Nat.lt_or_ge i (F + j) with hi | hi
          · exact hall.out i h1 hi
          · rw [show i = F + j from by omega]; exact hx)
        rw [hx] at hcj
        clear hx hcell hall
        go_wp2
        exact ⟨⟨j + 1, by omega, by go_num, hst⟩, by simp [intOf]; omega⟩
      · have hv := Lib.hid (show o.all F K v = false from all_no (j := F + j) (by omega) (by omega) hx)
        have hxb : (o.f (F + j) == v) = false := by simpa using hx
        have hne : ((j : Int) == (K : Int)) = false := by simp; omega
        generalize o.f (F + j) = x at hcj hx hxb
        clear hcell hall
        go_wp2
        go_ret
        exact ⟨by rw [hv.out]; rfl, rfl⟩
    · obtain rfl : j = K := by omega
      have hv := Lib.hid (show o.all F j v = true from all_iff.2 fun i h1 h2 => hall.out i h1 h2)
      clear hcell hall
      go_wp2
      go_ret
      exact ⟨by rw [hv.out]; simp, rfl⟩
/-- the range set -/
theorem gset_any (A LB n : Nat) (g : Nat → Int) (cells : List Value) (F K : Nat) (v : Int) (w : World)
    (hh : w.heap[A]? = some (.cells (.slice (some ⟨LB, 0, none⟩) n n :: cells).toArray 43 (0, 0))) (hb : w.heap[LB]? = some (.cells (ocells n g).toArray 3 (0, 0))) (hne : A ≠ LB) (hn : n ≤ 256) (hFK : F + K ≤ n) :
    Calls Try.prog 20 #[.pointer (some ⟨A, 0, none⟩), .int .i64 F, .int .i64 K, .int .i64 v] w fun e w' => e = .returned (.tuple #[]) ∧ w'.heap[LB]? = some (.cells (ocells n (setR g F K v)).toArray 3 (0, 0)) ∧ Upd (· = LB) w w' := by
  have hc : w.cell? ⟨A, 0, none⟩ = some (.slice (some ⟨LB, 0, none⟩) n n) := by rw [cell_of_row w A 0 _ _ _ hh]; rfl
  clear hh
  go_enter Try.func20, Try.ntmps20
  go_wp2
  go_loopw [10] (fun t wr => ∃ i : Nat, i ≤ K ∧ t = .int .i64 (i : Int) ∧ Hid (wr.heap[LB]? = some (.cells (ocells n (setR g F i v)).toArray 3 (0, 0))) ∧ Upd (· = LB) w wr) (fun t _ => 1000 - (intOf t).toNat)
  case atStart => exact ⟨0, by omega, rfl, by rw [setR_zero]; exact Lib.hid hb, Upd.refl _ _⟩
  case round =>
    obtain ⟨i, hi, rfl, hB, hU⟩ := hrel
    have hcw := hU.cell hc hne
    by_cases hil : i < K
    · have hci := ocell hB.out (F + i) (by omega)
      have hfz := frozen_block hB.out (F + i)
      have hset := Lib.hid (show (wr.setCell ⟨LB, F + i, none⟩ (.int .i64 v)).heap[LB]? = some (.cells (ocells n (setR g F (i + 1) v)).toArray 3 (0, 0)) from by rw [heap_setCell_same hB.out (F + i), ocells_set, setR_step])
      have hU' := hU.setCell (p := ⟨LB, F + i, none⟩) (.inl rfl) (.int .i64 v)
      generalize setR g F i v (F + i) = bi at hci
      clear hB hU hb
      go_wp2
      exact ⟨⟨i + 1, by omega, by go_num, hset, hU'⟩, by simp [intOf]; omega⟩
    · obtain rfl : i = K := by omega
      have hfin := hB.out
      clear hB hb
      have Hf := Lib.hid hfin
      clear hfin
      go_wp2
      go_end0
      exact ⟨rfl, Hf.out, hU⟩
end Go.Proofs.Ytmapceallmphpaa
