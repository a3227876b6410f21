/-
  The document's own set: where it lies, and the contracts of its Put, Has, All, Gap; and Same.
-/
import Derived.Test.YthlehgohpagfnaaBmD
import Derived.Test.YthlehgohpagfnaaBmG
import Derived.OwnWalk
import Derived.IntWalk
import Derived.Maps.AppendAt
namespace Go.Proofs.Ythlehgohpagfnaa
open Go.ChangeShapes Go.WideShapes Go.ChangeAt Go.RowKit

def bools (m : Nat → Bool) : List Value := (List.range 256).map fun i => .bool (m i)
/-- the set m lies at block A, as the document's own -/
def RefAt (w : World) (A : Nat) (m : Nat → Bool) : Prop := w.heap[A]? = some (.cells (bools m).toArray 32 (0, 0))
theorem RefAt.kept {S : Nat → Prop} {w w' : World} {A : Nat} {m : Nat → Bool} (h : RefAt w A m) (u : Upd S w w') (h1 : ¬ S A) : RefAt w' A m := Upd.at u h h1
theorem RefAt.lt {w : World} {A : Nat} {m : Nat → Bool} (h : RefAt w A m) : A < w.heap.size := lt_of_heap h
theorem RefAt.cell {w : World} {A : Nat} {m : Nat → Bool} (h : RefAt w A m) (i : Nat) (hi : i < 256) : w.cell? ⟨A, i, none⟩ = some (.bool (m i)) := by
  rw [cell_of_row w A _ _ _ _ h, List.getElem?_toArray]
  simp [bools, hi]
theorem bools_set (m : Nat → Bool) (n : Nat) (b : Bool) : (bools m).set n (.bool b) = bools (upd m n b) := by
  apply List.ext_getElem
  · simp [bools]
  · intro i h1 h2
    simp only [bools, List.getElem_set, List.getElem_map, List.getElem_range, upd]
    by_cases e : n = i
    · subst e; simp
    · rw [if_neg e, if_neg (fun e' => e e'.symm)]
theorem RefAt.set {w : World} {A : Nat} {m : Nat → Bool} (h : RefAt w A m) (n : Nat) (b : Bool) : RefAt (w.setCell ⟨A, n, none⟩ (.bool b)) A (upd m n b) := by
  have := heap_setCell_same h n (.bool b)
  unfold RefAt
  rw [this, bools_set]

set_option maxRecDepth 100000 in
set_option maxHeartbeats 400000 in
theorem refPut_any (A : Nat) (m : Nat → Bool) (n : Int) (b : Bool) (w : World) (h : RefAt w A m) :
    Calls Try.prog 9 #[.pointer (some ⟨A, 0, none⟩), .int .i64 n, .bool b] w fun e w' => e = .returned (.bool (inB n)) ∧ RefAt w' A (updI m n b) ∧ Upd (· = A) w w' := by
  cases hb : inB n
  · have hr := Lib.hid (show updI m n b = m from by unfold updI; rw [hb]; rfl)
    have hb' : n < 0 ∨ 255 < n := by have := of_decide_eq_false hb; omega
    clear hb
    by_cases h0 : n < 0
    all_goals
      go_enter Try.func9, Try.ntmps9
      go_wp2
      go_ret
      exact ⟨rfl, by rw [hr.out]; exact h, Upd.refl _ _⟩
  · obtain ⟨b1, b2⟩ := of_decide_eq_true hb
    obtain ⟨j, rfl⟩ := Int.eq_ofNat_of_zero_le b1
    have hr := Lib.hid (show updI m j b = upd m j b from by unfold updI; rw [hb, if_pos rfl, Int.toNat_natCast])
    have hcell := h.cell j (by omega)
    have hfr := frozen_block h j
    have hset := Lib.hid (h.set j b)
    clear hb
    go_enter Try.func9, Try.ntmps9
    go_wp2
    go_ret
    exact ⟨rfl, by rw [hr.out]; exact hset.out, (Upd.refl (· = A) w).setCell (.inl rfl) _⟩

set_option maxHeartbeats 400000 in
theorem refHas_any (A : Nat) (m : Nat → Bool) (n : Int) (w : World) (h : RefAt w A m) :
    Calls Try.prog 11 #[.pointer (some ⟨A, 0, none⟩), .int .i64 n] w fun e w' => e = .returned (.bool (hasB m n)) ∧ w = w' := by
  by_cases h0 : 0 ≤ n
  · by_cases h1 : n < 256
    · obtain ⟨j, rfl⟩ := Int.eq_ofNat_of_zero_le h0
      have hr := Lib.hid (hasB_nat m j (by omega))
      have hcell := h.cell j (by omega)
      go_enter Try.func11, Try.ntmps11
      go_wp2
      go_ret
      exact ⟨by rw [hr.out]; rfl, rfl⟩
    · have hr := Lib.hid (show hasB m n = false from by unfold hasB inB; simp; omega)
      go_enter Try.func11, Try.ntmps11
      go_wp2
      go_ret
      exact ⟨by rw [hr.out]; rfl, rfl⟩
  · have hr := Lib.hid (show hasB m n = false from by unfold hasB inB; simp; omega)
    go_enter Try.func11, Try.ntmps11
    go_wp2
    go_ret
    exact ⟨by rw [hr.out]; rfl, rfl⟩

/-! a slice of numbers that can be read -/
def Row (w : World) (v : Value) (l : List Nat) : Prop := ∃ o cap, v = .slice o l.length cap ∧ ∀ i, i < l.length → ∃ g, o = some ⟨g, 0, none⟩ ∧ w.cell? ⟨g, i, none⟩ = some (.int .i64 (l.getD i 0 : Nat))
theorem row_of {w : World} {base : Nat} {v : Value} {l : List Nat} (h : w.ownsRow base 3 1 v l.length (nums l)) : Row w v l := by
  rcases h.2 with ⟨rfl, h0⟩ | ⟨g, cap, cur, rfl, hb, hg, _⟩
  · exact ⟨none, 0, by rw [h0], fun i hi => by omega⟩
  · refine ⟨_, cap, rfl, fun i hi => ⟨g, rfl, ?_⟩⟩
    have := h.cells (g := g) rfl i (.int .i64 (l.getD i 0 : Nat)) (by simp [nums, List.getElem?_eq_getElem hi])
    rwa [show (⟨g, 0, none⟩ : Addr).add i = ⟨g, i, none⟩ from by unfold Addr.add; split <;> simp_all] at this
theorem Row.kept {w w' : World} {v : Value} {l : List Nat} {B : Nat} (h : Row w v l) (hb : Below B w w') (hB : w.heap.size ≤ B) : Row w' v l := by
  obtain ⟨o, cap, rfl, hc⟩ := h
  refine ⟨o, cap, rfl, fun i hi => ?_⟩
  obtain ⟨g, rfl, hg⟩ := hc i hi
  exact ⟨g, rfl, (hb.cell (p := ⟨g, i, none⟩) (by have := World.block_lt_of_cell? w _ hg; simp at this ⊢; omega)).trans hg⟩
theorem Row.drewN {w : World} {v : Value} {l : List Nat} (h : Row w v l) (n : Nat) : Row (w.drewN n) v l := h

set_option maxHeartbeats 1000000 in
theorem same_any (l l' : List Nat) (v v' : Value) (w : World) (h : Row w v l) (h' : Row w v' l') (hl : l.length ≤ 256) (hl' : l'.length ≤ 256) :
    Calls Try.prog 14 #[v, v'] w fun e w' => e = .returned (.bool (decide (l = l'))) ∧ ∃ n, w' = w.drewN n := by
  obtain ⟨o, cap, rfl, hc⟩ := h
  obtain ⟨o', cap', rfl, hc'⟩ := h'
  obtain ⟨L, hL⟩ : ∃ L, l.length = L := ⟨_, rfl⟩
  obtain ⟨L', hL'⟩ : ∃ L', l'.length = L' := ⟨_, rfl⟩
  rw [hL] at hc hl ⊢
  rw [hL'] at hc' hl' ⊢
  have HL := Lib.hid hL
  have HL' := Lib.hid hL'
  clear hL hL'
  by_cases hq : L = L'
  · subst hq
    go_enter Try.func14, Try.ntmps14
    go_wp2
    go_loopw [5] (fun t wr => ∃ k n : Nat, k ≤ L ∧ t = .int .i64 k ∧ wr = w.drewN n ∧ Hid (l.take k = l'.take k)) (fun t _ => L - (intOf t).toNat)
    case atStart => exact ⟨0, 0, by omega, rfl, rfl, Lib.hid rfl⟩
    case round =>
      obtain ⟨k, n, hk, rfl, rfl, htk⟩ := hrel
      by_cases hlt : k < L
      · obtain ⟨g, rfl, hg⟩ := hc k hlt
        obtain ⟨g', rfl, hg'⟩ := hc' k hlt
        have e1 : l.take (k + 1) = l.take k ++ [l.getD k 0] := by rw [List.take_add_one, List.getElem?_eq_getElem (by rw [HL.out]; exact hlt)]; simp [List.getElem?_eq_getElem (show k < l.length from by rw [HL.out]; exact hlt)]
        have e2 : l'.take (k + 1) = l'.take k ++ [l'.getD k 0] := by rw [List.take_add_one, List.getElem?_eq_getElem (by rw [HL'.out]; exact hlt)]; simp [List.getElem?_eq_getElem (show k < l'.length from by rw [HL'.out]; exact hlt)]
        have E1 := Lib.hid e1
        have E2 := Lib.hid e2
        clear e1 e2 hc hc'
        generalize l.getD k 0 = x at hg E1
        generalize l'.getD k 0 = x' at hg' E2
        by_cases hx : x = x'
        · subst hx
          go_wp2
          go_quiet (fail)
          go_wp2
          go_roundw
          case rel => exact ⟨k + 1, _, by omega, by go_num, rfl, Lib.hid (by rw [E1.out, E2.out, htk.out])⟩
          case measure => simp [intOf]; omega
        · have hne : decide (l = l') = false := by
            apply decide_eq_false
            intro e
            have := E1.out
            rw [e, E2.out] at this
            simp at this
            exact hx this.symm
          have Hne := Lib.hid hne
          clear hne
          go_wp2
          go_quiet (fail)
          go_wp2
          go_ret
          exact ⟨by rw [Hne.out]; rfl, _, by rw [World.drewN_drewN]⟩
      · have e : k = L := by omega
        subst e
        have heq : l = l' := by
          have := htk.out
          rwa [List.take_of_length_le (by rw [HL.out]; exact Nat.le_refl _), List.take_of_length_le (by rw [HL'.out]; exact Nat.le_refl _)] at this
        have Heq := Lib.hid (show decide (l = l') = true from decide_eq_true heq)
        clear heq
        go_wp2
        go_ret
        exact ⟨by rw [Heq.out]; rfl, _, rfl⟩
  · have hne : decide (l = l') = false := decide_eq_false fun e => hq (by rw [← HL.out, ← HL'.out, e])
    have Hne := Lib.hid hne
    clear hne
    go_enter Try.func14, Try.ntmps14
    go_wp2
    go_ret
    exact ⟨by rw [Hne.out]; rfl, 0, rfl⟩

theorem nums_app (l l' : List Nat) : nums (l ++ l') = nums l ++ nums l' := List.map_append
set_option maxRecDepth 100000 in
set_option maxHeartbeats 1000000 in
theorem refAll_any (A : Nat) (m : Nat → Bool) (w : World) (h : RefAt w A m) :
    Calls Try.prog 16 #[.pointer (some ⟨A, 0, none⟩)] w fun e W' => ∃ v, e = .returned v ∧ W'.ownsRow w.heap.size 3 1 v (els m).length (nums (els m)) ∧ Below w.heap.size w W' := by
  obtain ⟨i0, hi, hz0, hz1, hz2⟩ := info_parts info_int
  have hAlt := h.lt
  obtain ⟨N, hN⟩ : ∃ N, w.heap.size = N := ⟨_, rfl⟩
  rw [hN] at hAlt ⊢
  go_enter Try.func16, Try.ntmps16
  go_wp2
  go_loopw [3, 4] (fun v t wr => ∃ k : Nat, k ≤ 256 ∧ t = .int .i64 k ∧ wr.ownsRow N 3 1 v (upto m k).length (nums (upto m k)) ∧ Below N w wr) (fun _ t _ => 256 - (intOf t).toNat)
  case atStart => exact ⟨0, by omega, rfl, World.ownsRow_nil _ _ _ _, hN ▸ Below.refl _ _⟩
  case round =>
    rename_i v _ _
    obtain ⟨k, hk, rfl, hrow, hB⟩ := hrel
    have hsize := hB.size
    by_cases hlt : k < 256
    · have hcell : wr.cell? ⟨A, k, none⟩ = some (.bool (m k)) := (hB.cell (p := ⟨A, k, none⟩) hAlt).trans (h.cell k hlt)
      have hul := upto_len m k
      obtain ⟨o, cap, rfl⟩ := row_slice hrow
      cases hb : m k
      · rw [hb] at hcell
        have hs := Lib.hid (show upto m (k + 1) = upto m k from by rw [upto_succ, hb]; simp)
        go_wp2
        go_roundw
        case rel => exact ⟨k + 1, by omega, by go_num, by rw [hs.out]; exact hrow, hB⟩
        case measure => simp [intOf]; omega
      · rw [hb] at hcell
        have hs := Lib.hid (show upto m (k + 1) = upto m k ++ [k] from by rw [upto_succ, hb]; simp)
        go_wp2_with (at_builtin; refine wpList_append_own _ rfl _ _ 39 rfl N 3 i0 (.int .i64 0) 1 8 Try.underlying39 hi hz0 hz1 hz2 rfl (by decide) _ _ _ rfl (hrow.alloc _) ⟨wr.heap.size, 0, none⟩ 1 1 [.int .i64 k] rfl rfl (cell_one_new _ _ _) (by simp [Value.oneCell']) (by simp [maxLen]; omega) (by omega) (by simp; omega) ?_; intro v' w1 hown' hgrow _; obtain ⟨g', cap', rfl⟩ := ownsRow_succ hown')
        refine ⟨⟨k + 1, by omega, by go_num, by rw [hs.out, nums_app, List.length_append]; exact hown', ?_⟩, by simp [intOf]; omega⟩
        exact hB.trans (((Below.refl N wr).alloc (by omega) _).grown hgrow (by simp; omega) fun j ej => (hrow.lt j ej).1)
    · rw [show k = 256 from by omega, show upto m 256 = els m from rfl] at hrow
      obtain ⟨o, cap, rfl⟩ := row_slice hrow
      have Hrow := Lib.hid hrow
      clear hrow
      go_wp2
      go_ret
      exact ⟨_, rfl, Hrow.out, hB⟩

set_option maxRecDepth 100000 in
set_option maxHeartbeats 2000000 in
theorem refGap_any (A : Nat) (m : Nat → Bool) (many e : Int) (w : World) (h : RefAt w A m) :
    Calls Try.prog 13 #[.pointer (some ⟨A, 0, none⟩), .int .i64 many, .int .i64 e] w fun x w' => x = .returned (.int .i64 (gapI m many e)) ∧ w = w' := by
  by_cases h1 : many < 1
  · have hv := Lib.hid (gapI_bad (m := m) (many := many) (e := e) (.inl h1))
    go_enter Try.func13, Try.ntmps13
    go_wp2
    go_ret
    exact ⟨by rw [hv.out]; rfl, rfl⟩
  by_cases h2 : e < 0
  · have hv := Lib.hid (gapI_bad (m := m) (many := many) (e := e) (.inr (.inl h2)))
    go_enter Try.func13, Try.ntmps13
    go_wp2
    go_ret
    exact ⟨by rw [hv.out]; rfl, rfl⟩
  by_cases h3 : 256 < e
  · have hv := Lib.hid (gapI_bad (m := m) (many := many) (e := e) (.inr (.inr h3)))
    go_enter Try.func13, Try.ntmps13
    go_wp2
    go_ret
    exact ⟨by rw [hv.out]; rfl, rfl⟩
  go_enter Try.func13, Try.ntmps13
  go_wp2
  go_loop [7] (fun t => ∃ n : Nat, (n : Int) ≤ e ∧ t = .int .i64 n ∧ Hid (∀ k : Nat, k < n → ¬ FreeN m many e k)) (fun t => 256 - (intOf t).toNat)
  case atStart => exact ⟨0, by omega, rfl, Lib.hid (fun k hk => by omega)⟩
  case round =>
    obtain ⟨n, hn, rfl, hno⟩ := hrel
    by_cases hlt : (n : Int) < e
    · go_wp2
      go_loop [8, 9] (fun f t => ∃ (i : Nat) (b : Bool), f = .bool b ∧ t = .int .i64 i ∧ n ≤ i ∧ Hid (b = true → (n : Int) + many ≤ e ∧ (i : Int) ≤ n + many ∧ ∀ j : Nat, n ≤ j → j < i → m j = false) ∧ Hid (b = false → ¬ FreeN m many e n)) (fun _ t => 256 - (intOf t).toNat)
      case atStart =>
        refine ⟨n, decide (many ≤ e - n), rfl, rfl, Nat.le_refl _, Lib.hid fun hb => ?_, Lib.hid fun hb => ?_⟩
        · have := of_decide_eq_true hb
          exact ⟨by omega, by omega, fun j _ _ => by omega⟩
        · have := of_decide_eq_false hb
          intro hf
          have := hf.1
          omega
      case round =>
        obtain ⟨i, b, rfl, rfl, hni, hyes, hnot⟩ := hrel
        cases b
        · have hnf := Lib.hid (hnot.out rfl)
          go_wp2
          refine ⟨⟨n + 1, by omega, by go_num, Lib.hid fun k hk => ?_⟩, by simp [intOf]; omega⟩
          rcases Nat.lt_or_ge k n with hk' | hk'
          · exact hno.out k hk'
          · rw [show k = n from by omega]; exact hnf.out
        · obtain ⟨y1, y2, y3⟩ := hyes.out rfl
          have Y3 := Lib.hid y3
          clear y3 hyes hnot
          by_cases hi : (i : Int) < n + many
          · have hcell := h.cell i (by omega)
            have hw1 : IntKind.i64.wrap ((n : Int) + many) = n + many := IntWalk.i64_in _ (by omega)
            have hst : Hid ((!m i) = true → (n : Int) + many ≤ e ∧ ((i + 1 : Nat) : Int) ≤ n + many ∧ ∀ j : Nat, n ≤ j → j < i + 1 → m j = false) := Lib.hid fun hb => by
              refine ⟨y1, by omega, fun j j1 j2 => ?_⟩
              rcases Nat.lt_or_ge j i with hj | hj
              · exact Y3.out j j1 hj
              · rw [show j = i from by omega]; simpa using hb
            have hst' : Hid ((!m i) = false → ¬ FreeN m many e n) := Lib.hid fun hb hf => by
              have := hf.2 i hni hi
              rw [this] at hb; cases hb
            generalize m i = bi at hcell hst hst'
            go_wp2
            exact ⟨⟨i + 1, !bi, rfl, by go_num, by omega, hst, hst'⟩, by simp [intOf]; omega⟩
          · have hv := Lib.hid (gapI_is (m := m) (by omega) (by omega) (by omega) ⟨y1, fun j j1 j2 => Y3.out j j1 (by omega)⟩ hno.out)
            go_wp2
            go_ret
            exact ⟨by rw [hv.out]; rfl, rfl⟩
    · have e1 : (n : Int) = e := by omega
      have hv := Lib.hid (gapI_none (m := m) (by omega) (by omega) (by omega) (fun k hk => hno.out k (by omega)))
      go_wp2
      go_ret
      exact ⟨by rw [hv.out]; rfl, rfl⟩
end Go.Proofs.Ythlehgohpagfnaa
