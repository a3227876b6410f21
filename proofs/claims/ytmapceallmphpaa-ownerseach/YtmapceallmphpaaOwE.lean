/-
  OwnersEach: the plain lemmas (16 frames, one owner's quota set, one Give).
-/
import Derived.Test.YtmapceallmphpaaOwB
import Derived.Deep.DeepCutAuto
import Derived.Deep.CutBlock
import Derived.Deep.RegionHeld3
namespace Go.Proofs.Ytmapceallmphpaa.ownersEach
open Go.ChangeShapes Go.WideShapes Go.ChangeAt Go.RowKit Go.Proofs.Ytmapceallmphpaa.ownersBack

/-- 16 frames, one owner's quota set -/
def o1 (V : Nat) (M : Int) : Ow := ⟨16, fun _ => -1, fun j => if j = V then M else 256⟩
theorem quota1E (V : Nat) (M : Int) (hV : V ≤ 8) (h1 : 0 ≤ M) (h2 : M ≤ 256) : (ow0 16).quotaE V M = 0 := by
  unfold Ow.quotaE
  rw [who9_iff.2 ⟨by omega, by omega⟩, decide_eq_true ⟨h1, h2⟩, Bool.and_true, if_pos rfl, count0, if_pos (by omega)]
theorem quota1 (V : Nat) (M : Int) (hV : V ≤ 8) (h1 : 0 ≤ M) (h2 : M ≤ 256) : (ow0 16).quota V M = o1 V M := by
  unfold Ow.quota
  rw [if_pos (quota1E V M hV h1 h2)]
  rfl
theorem o1_count (V : Nat) (M : Int) : (o1 V M).count V = 0 := by
  rw [count_nat]
  exact cnto_none _ (by omega) 16
theorem o1_giveE (V : Nat) (M f k : Int) (hV : V ≤ 8) : (o1 V M).giveE f k V = if (o1 V M).are f k = true then (if k ≤ M then 0 else 12) else 1 := by
  unfold Ow.giveE
  rw [who9_iff.2 (show 0 ≤ (V : Int) ∧ (V : Int) ≤ 8 by omega), Bool.and_true]
  have ha : (o1 V M).all f.toNat k.toNat (-1) = true := all_iff.2 fun _ _ _ => rfl
  rw [ha, if_pos rfl, o1_count]
  have hm : (o1 V M).most (V : Int).toNat = M := by
    show (if (V : Int).toNat = V then M else 256) = M
    rw [Int.toNat_natCast, if_pos rfl]
  rw [hm]
  simp
theorem o1_of (V : Nat) (M : Int) (j : Int) : (o1 V M).of j = -1 := by unfold Ow.of; split <;> rfl
theorem o1_gave (V F K : Nat) (M : Int) (he : (o1 V M).giveE F K V = 0) (j : Nat) (hj : j < 16) : ((o1 V M).give F K V).of j = if F ≤ j ∧ j < F + K then (V : Int) else -1 := by
  unfold Ow.give
  rw [if_pos he]
  show (if 0 ≤ (j : Int) ∧ (j : Int) < ((16 : Nat) : Int) then setR (fun _ => -1) F K (V : Int) j else -1) = _
  rw [if_pos (by omega)]
  rfl

end Go.Proofs.Ytmapceallmphpaa.ownersEach
