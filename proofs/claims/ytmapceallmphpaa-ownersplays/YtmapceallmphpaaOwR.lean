/-
  The document's own owners: where they lie, and the contracts of are, Count, Of, Take, Quota, Give, New.
-/
import Derived.Test.YtmapceallmphpaaOwM
import Derived.IntWalk
namespace Go.Proofs.Ytmapceallmphpaa
open Go.ChangeShapes Go.WideShapes Go.ChangeAt Go.RowKit

/-- a row of numbers -/
def ocells (n : Nat) (f : Nat → Int) : List Value := (List.range n).map fun i => .int .i64 (f i)
def updI (f : Nat → Int) (i : Nat) (v : Int) : Nat → Int := fun j => if j = i then v else f j
theorem ocells_len (n : Nat) (f : Nat → Int) : (ocells n f).length = n := by simp [ocells]
theorem ocells_set (n : Nat) (f : Nat → Int) (i : Nat) (v : Int) : (ocells n f).set i (.int .i64 v) = ocells n (updI f i v) := by
  apply List.ext_getElem
  · simp [ocells]
  · intro j h1 h2
    simp only [ocells, List.getElem_set, List.getElem_map, List.getElem_range, updI]
    by_cases h : i = j
    · simp [h]
    · rw [if_neg h, if_neg (fun e => h e.symm)]
theorem ocells_congr {n : Nat} {f g : Nat → Int} (h : ∀ j, j < n → f j = g j) : ocells n f = ocells n g := by
  unfold ocells
  exact List.map_congr_left fun j hj => by rw [h j (by simpa using hj)]
theorem ocell {w : World} {B n : Nat} {f : Nat → Int} {t : TypeId} (h : w.heap[B]? = some (.cells (ocells n f).toArray t (0, 0))) (i : Nat) (hi : i < n) : w.cell? ⟨B, i, none⟩ = some (.int .i64 (f i)) := by
  rw [cell_of_row w B i _ _ _ h, List.getElem?_toArray]
  simp [ocells, hi]
/-- the document's owners lie at C, whose frames are at LB -/
structure ROw (w : World) (C LB : Nat) (o : Ow) : Prop where
  head : w.heap[C]? = some (.cells (.slice (some ⟨LB, 0, none⟩) o.n o.n :: ocells 9 o.most).toArray 46 (0, 0))
  body : w.heap[LB]? = some (.cells (ocells o.n o.f).toArray 3 (0, 0))
  ok : o.Ok
theorem ROw.c0 {w : World} {C LB : Nat} {o : Ow} (h : ROw w C LB o) : w.cell? ⟨C, 0, none⟩ = some (.slice (some ⟨LB, 0, none⟩) o.n o.n) := by rw [cell_of_row w C 0 _ _ _ h.head]; rfl
theorem ROw.cm {w : World} {C LB : Nat} {o : Ow} (h : ROw w C LB o) (i : Nat) (hi : i < 9) : w.cell? ⟨C, 1 + i, none⟩ = some (.int .i64 (o.most i)) := by
  rw [cell_of_row w C (1 + i) _ _ _ h.head, List.getElem?_toArray, Nat.add_comm, List.getElem?_cons_succ]
  simp [ocells, hi]
theorem ROw.kept {S : Nat → Prop} {w w' : World} {C LB : Nat} {o : Ow} (h : ROw w C LB o) (u : Upd S w w') (h1 : ¬ S C) (h2 : ¬ S LB) : ROw w' C LB o := ⟨u.at h.head h1, u.at h.body h2, h.ok⟩

set_option maxHeartbeats 400000 in
theorem oare_any (C LB : Nat) (o : Ow) (f k : Int) (w : World) (h : ROw w C LB o) (hk : -9223372036854775808 ≤ k ∧ k ≤ 9223372036854775807) :
    Calls Try.prog 24 #[.pointer (some ⟨C, 0, none⟩), .int .i64 f, .int .i64 k] w fun e w' => e = .returned (.bool (o.are f k)) ∧ w = w' := by
  have hc := h.c0
  have hlo := h.ok.lo
  have hhi := h.ok.hi
  clear h
  by_cases h1 : 1 ≤ k
  · by_cases h2 : k ≤ (o.n : Int)
    · have hw := IntWalk.i64_in ((o.n : Int) - k) (by omega)
      clear hk
      by_cases h3 : 0 ≤ f
      · have hv := Lib.hid (show o.are f k = decide (f ≤ o.n - k) from by unfold Ow.are; simp [h1, h2, h3])
        go_enter Try.func24, Try.ntmps24
        go_wp2
        go_ret
        exact ⟨by rw [hv.out]; rfl, rfl⟩
      · have hv := Lib.hid (show o.are f k = false from by unfold Ow.are; simp; omega)
        go_enter Try.func24, Try.ntmps24
        go_wp2
        go_ret
        exact ⟨by rw [hv.out]; rfl, rfl⟩
    · have hv := Lib.hid (show o.are f k = false from by unfold Ow.are; simp; omega)
      clear hk
      go_enter Try.func24, Try.ntmps24
      go_wp2
      go_ret
      exact ⟨by rw [hv.out]; rfl, rfl⟩
  · have hv := Lib.hid (show o.are f k = false from by unfold Ow.are; simp; omega)
    clear hk
    go_enter Try.func24, Try.ntmps24
    go_wp2
    go_ret
    exact ⟨by rw [hv.out]; rfl, rfl⟩
set_option maxHeartbeats 400000 in
theorem oOf_any (C LB : Nat) (o : Ow) (f : Int) (w : World) (h : ROw w C LB o) :
    Calls Try.prog 17 #[.pointer (some ⟨C, 0, none⟩), .int .i64 f] w fun e w' => e = .returned (.int .i64 (o.of f)) ∧ w = w' := by
  have hc := h.c0
  have hhi := h.ok.hi
  by_cases h1 : 0 ≤ f ∧ f < (o.n : Int)
  · obtain ⟨j, rfl⟩ := Int.eq_ofNat_of_zero_le h1.1
    have hj := ocell h.body j (by omega)
    have hv := Lib.hid (show o.of j = o.f j from by unfold Ow.of; rw [if_pos h1]; rfl)
    go_enter Try.func17, Try.ntmps17
    go_wp2
    go_ret
    exact ⟨by rw [hv.out]; rfl, rfl⟩
  · have hv := Lib.hid (show o.of f = -1 from by unfold Ow.of; rw [if_neg h1])
    by_cases h0 : f < 0
    · clear h1
      go_enter Try.func17, Try.ntmps17
      go_wp2
      go_ret
      exact ⟨by rw [hv.out]; rfl, rfl⟩
    · have h2 : (o.n : Int) ≤ f := by omega
      clear h1
      go_enter Try.func17, Try.ntmps17
      go_wp2
      go_ret
      exact ⟨by rw [hv.out]; rfl, rfl⟩
set_option maxHeartbeats 400000 in
theorem oCount_any (C LB : Nat) (o : Ow) (v : Int) (w : World) (h : ROw w C LB o) :
    Calls Try.prog 19 #[.pointer (some ⟨C, 0, none⟩), .int .i64 v] w fun e w' => e = .returned (.int .i64 (o.count v)) ∧ w = w' := by
  have hc := h.c0
  have hhi := h.ok.hi
  have hcell := fun j hj => ocell h.body j hj
  clear h
  go_enter Try.func19, Try.ntmps19
  go_wp2
  go_loop [5, 6] (fun s t => ∃ j : Nat, j ≤ o.n ∧ t = .int .i64 j ∧ s = .int .i64 ((if 0 ≤ v then cnto o.f v j else 0 : Nat) : Int)) (fun _ t => o.n - (intOf t).toNat)
  case atStart => exact ⟨0, by omega, rfl, by simp [cnto]⟩
  case round =>
    obtain ⟨j, hj, rfl, rfl⟩ := hrel
    by_cases hlt : j < o.n
    · have hcj := hcell j hlt
      have hs := Lib.hid (show cnto o.f v (j + 1) = cnto o.f v j + (if o.f j = v then 1 else 0) from rfl)
      have hcl := cnto_le o.f v j
      generalize cnto o.f v j = c at hs hcl ⊢
      generalize o.f j = x at hcj hs
      clear hcell
      by_cases h0 : 0 ≤ v
      · rw [if_pos h0]
        by_cases hx : x = v
        · subst hx
          go_wp2
          exact ⟨⟨j + 1, by omega, by go_num, by rw [if_pos h0, hs.out, if_pos rfl]; rfl⟩, by simp [intOf]; omega⟩
        · have hxb : (x == v) = false := by simpa using hx
          go_wp2
          exact ⟨⟨j + 1, by omega, by go_num, by rw [if_pos h0, hs.out, if_neg hx]; rfl⟩, by simp [intOf]; omega⟩
      · rw [if_neg h0]
        by_cases hx : x = v
        · subst hx
          go_wp2
          exact ⟨⟨j + 1, by omega, by go_num, by rw [if_neg h0]⟩, by simp [intOf]; omega⟩
        · have hxb : (x == v) = false := by simpa using hx
          go_wp2
          exact ⟨⟨j + 1, by omega, by go_num, by rw [if_neg h0]⟩, by simp [intOf]; omega⟩
    · have e : j = o.n := by omega
      subst e
      clear hcell
      have hv := Lib.hid (show o.count v = (if 0 ≤ v then cnto o.f v o.n else 0) from rfl)
      generalize (if 0 ≤ v then cnto o.f v o.n else 0) = c at hv ⊢
      go_wp2
      go_ret
      exact ⟨by rw [hv.out]; rfl, rfl⟩
end Go.Proofs.Ytmapceallmphpaa
