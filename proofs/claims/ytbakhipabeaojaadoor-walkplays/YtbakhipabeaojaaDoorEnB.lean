/-
  Contracts of package entry: Index, Split, Word, Of, Page.
-/
import Derived.Test.YtbakhipabeaojaaDoorEnM
import Derived.IntWalk
namespace Go.Proofs.YtbakhipabeaojaaDoor
open Go.ChangeShapes Go.WideShapes Go.ChangeAt Go.RowKit

theorem i64_u64 (x : Int) (h1 : 0 ≤ x) (h2 : x ≤ 9223372036854775807) : IntKind.i64.wrap x = x := IntWalk.i64_in _ (by omega)
set_option maxHeartbeats 400000 in
theorem eindex_yes (q l : Int) (p : Nat) (v : Int) (w : World) (T : Tab w) (hl : l = (p : Int) - 4) (hp : p = 4 ∨ p = 5 ∨ p = 6) (h1 : 0 ≤ q) (h2 : q ≤ 4095) (hv : getP q p = v) (hv0 : 0 ≤ v) (hv1 : v ≤ 15) :
    Calls Tryd.prog 22 #[.int .i64 q, .int .i64 l] w fun e w' => e = .returned (.tuple #[.int .i64 v, .int .i64 0]) ∧ ∃ n, w' = w.drewN n := by
  have hc := Lib.hid (eget_any q p w T (by omega) h1 (by omega))
  rw [hv] at hc
  clear hv T
  rcases hp with rfl | rfl | rfl
  all_goals
    subst hl
    go_enter Tryd.func22, Tryd.ntmps22
    go_wp2_with fail
    refine hc.out.mono ?_
    rintro e w1 ⟨rfl, n1, rfl⟩
    go_wp2
    go_ret2
    exact ⟨rfl, _, rfl⟩
set_option maxHeartbeats 400000 in
theorem eindex_no (q l : Int) (w : World) (h : idxB q l = false) :
    Calls Tryd.prog 22 #[.int .i64 q, .int .i64 l] w fun e w' => e = .returned (.tuple #[.int .i64 0, .int .i64 1]) ∧ ∃ n, w' = w.drewN n := by
  have h := of_decide_eq_false h
  by_cases h1 : q < 0
  · clear h
    go_enter Tryd.func22, Tryd.ntmps22
    go_wp2
    go_ret2
    exact ⟨rfl, 0, rfl⟩
  · by_cases h2 : 4096 ≤ q
    · clear h
      go_enter Tryd.func22, Tryd.ntmps22
      go_wp2
      go_ret2
      exact ⟨rfl, 0, rfl⟩
    · by_cases h3 : l < 0
      · clear h
        go_enter Tryd.func22, Tryd.ntmps22
        go_wp2
        go_ret2
        exact ⟨rfl, 0, rfl⟩
      · have h4 : 3 ≤ l := by omega
        clear h
        go_enter Tryd.func22, Tryd.ntmps22
        go_wp2
        go_ret2
        exact ⟨rfl, 0, rfl⟩
theorem eindex_any (q l : Int) (w : World) (T : Tab w) :
    Calls Tryd.prog 22 #[.int .i64 q, .int .i64 l] w fun e w' => e = .returned (.tuple #[.int .i64 (idxI q l), .int .i64 (errB (idxB q l))]) ∧ ∃ n, w' = w.drewN n := by
  cases h : idxB q l
  · have e : idxI q l = 0 := by unfold idxI; rw [if_neg (by rw [h]; decide)]
    rw [e]
    exact eindex_no q l w h
  · obtain ⟨h1, h2, h3, h4⟩ := of_decide_eq_true h
    have e : idxI q l = (if l = 0 then q / 256 else if l = 1 then q / 16 % 16 else q % 16) := by unfold idxI; rw [if_pos h]
    rw [e]
    by_cases l0 : l = 0
    · rw [if_pos l0]
      exact eindex_yes q l 4 _ w T (by omega) (.inl rfl) h1 h2 (by rw [getP4 q h1]; omega) (by omega) (by omega)
    · rw [if_neg l0]
      by_cases l1 : l = 1
      · rw [if_pos l1]
        exact eindex_yes q l 5 _ w T (by omega) (.inr (.inl rfl)) h1 h2 (by rw [getP5 q h1]) (by omega) (by omega)
      · rw [if_neg l1]
        exact eindex_yes q l 6 _ w T (by omega) (.inr (.inr rfl)) h1 h2 (by rw [getP6 q h1]) (by omega) (by omega)
end Go.Proofs.YtbakhipabeaojaaDoor
