/-
  Contracts of package entry: Page.
-/
import Derived.Test.YtbakhipabeaojaaDoorEnC
namespace Go.Proofs.YtbakhipabeaojaaDoor
open Go.ChangeShapes Go.WideShapes Go.ChangeAt Go.RowKit

/-- the page's number behind k places -/
def ppI (a b c : Int) : Nat → Int
  | 0 => 0
  | 1 => 256 * a
  | 2 => 256 * a + 16 * b
  | _ => 256 * a + 16 * b + c
abbrev arr3 (a b c : Int) : Value := .agg #[.int .i64 a, .int .i64 b, .int .i64 c]
theorem pgB_iff (a b c : Int) : pgB a b c = true ↔ ((0 ≤ a ∧ a ≤ 15) ∧ (0 ≤ b ∧ b ≤ 15) ∧ (0 ≤ c ∧ c ≤ 15)) := by simp [pgB]; omega
theorem pg_no {a b c : Int} (h : ¬ ((0 ≤ a ∧ a ≤ 15) ∧ (0 ≤ b ∧ b ≤ 15) ∧ (0 ≤ c ∧ c ≤ 15))) : pgI a b c = 0 ∧ errB (pgB a b c) = 1 := by
  have hb : pgB a b c = false := by rw [← pgB_iff] at h; simpa using h
  exact ⟨by unfold pgI; rw [if_neg (by rw [hb]; decide)], by rw [hb]; rfl⟩
theorem pg_yes {a b c : Int} (h : (0 ≤ a ∧ a ≤ 15) ∧ (0 ≤ b ∧ b ≤ 15) ∧ (0 ≤ c ∧ c ≤ 15)) : pgI a b c = 256 * a + 16 * b + c ∧ errB (pgB a b c) = 0 := by
  have hb : pgB a b c = true := (pgB_iff a b c).2 h
  exact ⟨by unfold pgI; rw [if_pos hb], by rw [hb]; rfl⟩
theorem put_no15 (x z : Int) (p : Nat) (W : World) (T : Tab W) (hp : p = 4 ∨ p = 5 ∨ p = 6) (hx0 : 0 ≤ x) (hx : x ≤ 65535) (hw : (Lit.int .i64 z).wf = true) (hz : ¬ (0 ≤ z ∧ z ≤ 15)) :
    Calls Tryd.prog 38 #[.int .u64 x, .int .u64 (IntKind.u64.wrap z), .int .i64 p] W fun e w' => e = .returned (.tuple #[.int .u64 0, .bool false]) ∧ ∃ n, w' = W.drewN n := by
  have hb := bounds_i64 hw
  have h := eput_any x (IntKind.u64.wrap z) p W T (by omega) hx0 (by omega)
  have hf : fitP (IntKind.u64.wrap z) p = false := by rw [fit456 _ p hp, decide_eq_false_iff_not, wrap_fits z 15 (by omega) (by omega) hb.1 hb.2]; exact hz
  rw [hf] at h
  exact h
theorem put_yes15 (x z y : Int) (p : Nat) (W : World) (T : Tab W) (hp : p = 4 ∨ p = 5 ∨ p = 6) (hx0 : 0 ≤ x) (hx : x ≤ 65535) (hz : 0 ≤ z ∧ z ≤ 15) (hy : putP x z p = y) :
    Calls Tryd.prog 38 #[.int .u64 x, .int .u64 (IntKind.u64.wrap z), .int .i64 p] W fun e w' => e = .returned (.tuple #[.int .u64 y, .bool true]) ∧ ∃ n, w' = W.drewN n := by
  have h := eput_any x (IntKind.u64.wrap z) p W T (by omega) hx0 (by omega)
  rw [wrap_same z hz.1 (by omega)] at h ⊢
  have hf : fitP z p = true := by rw [fit456 _ p hp, decide_eq_true hz]
  rw [hf, if_pos rfl, hy] at h
  exact h
theorem pp_bd (a b c : Int) (k : Nat) (hk : k < 3) (h : (0 < k → 0 ≤ a ∧ a ≤ 15) ∧ (1 < k → 0 ≤ b ∧ b ≤ 15)) : 0 ≤ ppI a b c k ∧ ppI a b c k ≤ 65535 := by
  match k, hk, h with
  | 0, _, _ => simp [ppI]
  | 1, _, h => have := h.1 (by omega); simp only [ppI]; omega
  | 2, _, h => have := h.1 (by omega); have := h.2 (by omega); simp only [ppI]; omega
/-- the places behind k rounds -/
def Fits (a b c : Int) (k : Nat) : Prop := (0 < k → 0 ≤ a ∧ a ≤ 15) ∧ (1 < k → 0 ≤ b ∧ b ≤ 15) ∧ (2 < k → 0 ≤ c ∧ c ≤ 15)
theorem pg_no_at {a b c z : Int} {k : Nat} (hk : k < 3) (hz : z = [a, b, c].getD k 0) (hf : ¬ (0 ≤ z ∧ z ≤ 15)) : pgI a b c = 0 ∧ errB (pgB a b c) = 1 := by
  apply pg_no
  rintro ⟨h1, h2, h3⟩
  subst hz
  match k, hk, hf with
  | 0, _, hf => exact hf h1
  | 1, _, hf => exact hf h2
  | 2, _, hf => exact hf h3
theorem pp_next {a b c z : Int} {k : Nat} (hk : k < 3) (hz : z = [a, b, c].getD k 0) (hf : 0 ≤ z ∧ z ≤ 15) (hd : Fits a b c k) : putP (ppI a b c k) z (k + 4) = ppI a b c (k + 1) ∧ Fits a b c (k + 1) := by
  have bd := pp_bd a b c k hk ⟨hd.1, hd.2.1⟩
  subst hz
  match k, hk, hf, hd, bd with
  | 0, _, hf, hd, bd => exact ⟨by rw [putP_val _ _ 4 8 4 rfl rfl bd.1 hf.1]; simp [ppI], fun _ => hf, fun h => absurd h (by omega), fun h => absurd h (by omega)⟩
  | 1, _, hf, hd, bd =>
    have h0 := hd.1 (by omega)
    exact ⟨by rw [putP_val _ _ 5 4 4 rfl rfl bd.1 hf.1]; simp [ppI]; omega, fun _ => h0, fun _ => hf, fun h => absurd h (by omega)⟩
  | 2, _, hf, hd, bd =>
    have h0 := hd.1 (by omega)
    have h1 := hd.2.1 (by omega)
    exact ⟨by rw [putP_val _ _ 6 0 4 rfl rfl bd.1 hf.1]; simp [ppI]; omega, fun _ => h0, fun _ => h1, fun _ => hf⟩
theorem wf_at {a b c z : Int} {k : Nat} (hk : k < 3) (hz : z = [a, b, c].getD k 0) (h : (Lit.int .i64 a).wf = true ∧ (Lit.int .i64 b).wf = true ∧ (Lit.int .i64 c).wf = true) : (Lit.int .i64 z).wf = true := by
  subst hz
  match k, hk with
  | 0, _ => exact h.1
  | 1, _ => exact h.2.1
  | 2, _ => exact h.2.2
end Go.Proofs.YtbakhipabeaojaaDoor
