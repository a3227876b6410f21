/-
  The laws' same: two slices of blocks.
-/
import Derived.Test.YtmobhojblclmjaaBuW
namespace Go.Proofs.Ytmobhojblclmjaa
open Go.ChangeShapes Go.WideShapes Go.ChangeAt Go.RowKit

set_option maxHeartbeats 1000000 in
theorem bsame_any (l l' : List (Nat × Nat)) (v v' : Value) (w : World) (h : BRow w v l) (h' : BRow w v' l') (hl : l.length ≤ 256) (hl' : l'.length ≤ 256) :
    Calls Try.prog 21 #[v, v'] w fun e w' => e = .returned (.bool (decide (l = l'))) ∧ ∃ n, w' = w.drewN n := by
  obtain ⟨o, cap, rfl, hc⟩ := h
  obtain ⟨o', cap', rfl, hc'⟩ := h'
  obtain ⟨L, hL⟩ : ∃ L, l.length = L := ⟨_, rfl⟩
  obtain ⟨L', hL'⟩ : ∃ L', l'.length = L' := ⟨_, rfl⟩
  rw [hL] at hc hl ⊢
  rw [hL'] at hc' hl' ⊢
  have HL := Lib.hid hL
  have HL' := Lib.hid hL'
  clear hL hL'
  by_cases hq : L = L'
  · subst hq
    go_enter Try.func21, Try.ntmps21
    go_wp2
    go_loopw [5] (fun t wr => ∃ k n : Nat, k ≤ L ∧ t = .int .i64 k ∧ wr = w.drewN n ∧ Hid (l.take k = l'.take k)) (fun t _ => L - (intOf t).toNat)
    case atStart => exact ⟨0, 0, by omega, rfl, rfl, Lib.hid rfl⟩
    case round =>
      obtain ⟨k, n, hk, rfl, rfl, htk⟩ := hrel
      by_cases hlt : k < L
      · obtain ⟨g, rfl, hg, hg2⟩ := hc k hlt
        obtain ⟨g', rfl, hg', hg2'⟩ := hc' k hlt
        have E1 := Lib.hid (take_snoc l k (by rw [HL.out]; exact hlt))
        have E2 := Lib.hid (take_snoc l' k (by rw [HL'.out]; exact hlt))
        have hkI : (k : Int) < (L : Int) := by omega
        clear hc hc'
        generalize l.getD k (0, 0) = x at hg hg2 E1
        generalize l'.getD k (0, 0) = x' at hg' hg2' E2
        by_cases hx1 : x.1 = x'.1
        · by_cases hx2 : x.2 = x'.2
          · have hx : x = x' := Prod.ext hx1 hx2
            subst hx
            clear hx1 hx2
            go_wp2
            go_quiet (fail)
            go_wp2
            go_roundw
            case rel => exact ⟨k + 1, _, by omega, by go_num, rfl, Lib.hid (by rw [E1.out, E2.out, htk.out])⟩
            case measure => simp [intOf]; omega
          · have Hne := Lib.hid (show decide (l = l') = false from decide_eq_false fun e => by
              have := E1.out
              rw [e, E2.out] at this
              simp at this
              exact hx2 (by rw [this]))
            have hb1 : ((x.1 : Int) == (x'.1 : Int)) = true := by simp [hx1]
            have hb2 : ((x.2 : Int) == (x'.2 : Int)) = false := by simp; omega
            generalize x.1 = a1 at hg hx1 hb1
            generalize x'.1 = a1' at hg' hx1 hb1
            subst hx1
            generalize x.2 = a2 at hg2 hx2 hb2
            generalize x'.2 = a2' at hg2' hx2 hb2
            go_wp2
            go_quiet (fail)
            go_wp2
            go_ret
            exact ⟨by rw [Hne.out]; rfl, _, by rw [World.drewN_drewN]⟩
        · have Hne := Lib.hid (show decide (l = l') = false from decide_eq_false fun e => by
            have := E1.out
            rw [e, E2.out] at this
            simp at this
            exact hx1 (by rw [this]))
          have hb1 : ((x.1 : Int) == (x'.1 : Int)) = false := by simp; omega
          generalize x.1 = a1 at hg hx1 hb1
          generalize x'.1 = a1' at hg' hx1 hb1
          have hb2 : decide (a1 = a1') = false := decide_eq_false hx1
          have hb3 : (a1 == a1') = false := by simpa using hx1
          have hb4 : ¬ (a1 : Int) = (a1' : Int) := by omega
          go_wp2
          go_quiet (fail)
          go_wp2
          go_ret
          exact ⟨by rw [Hne.out]; rfl, _, by rw [World.drewN_drewN]⟩
      · have e : k = L := by omega
        subst e
        have heq : l = l' := by
          have := htk.out
          rwa [List.take_of_length_le (by rw [HL.out]; exact Nat.le_refl _), List.take_of_length_le (by rw [HL'.out]; exact Nat.le_refl _)] at this
        have Heq := Lib.hid (show decide (l = l') = true from decide_eq_true heq)
        clear heq
        go_wp2
        go_ret
        exact ⟨by rw [Heq.out]; rfl, _, rfl⟩
  · have hne : decide (l = l') = false := decide_eq_false fun e => hq (by rw [← HL.out, ← HL'.out, e])
    have Hne := Lib.hid hne
    clear hne
    go_enter Try.func21, Try.ntmps21
    go_wp2
    go_ret
    exact ⟨by rw [Hne.out]; rfl, 0, rfl⟩
end Go.Proofs.Ytmobhojblclmjaa
