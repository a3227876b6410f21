/-
  Texts that the laws stand on, joined: EnD, EnP, EnR, EnS, EnL, MemA, MemB, MemC, MemD, MemE, MemF, MemR, App, WkM, WkA, WkB.
-/
import Derived.Deep.CutBlock
import Derived.Deep.DeepCutAuto
import Derived.Deep.WholeRow
import Derived.IntWalk
import Derived.Laws.CopyOwn
import Derived.Laws.OwnMore
import Derived.Laws.ResultCell
import Derived.Maps.AppendAt
import Derived.RangeFuncBox
import Derived.RegionTactic
import Derived.StillTailTactics
import Derived.Test.YtfdnfllefednjaaDoorPart1

/-
  Contracts of package entry: Of.
-/
namespace Go.Proofs.YtfdnfllefednjaaDoor
open Go.ChangeShapes Go.WideShapes Go.ChangeAt Go.RowKit

set_option maxHeartbeats 1000000 in
theorem eof_any (x : Int) (w : World) (T : Tab w) (h0 : 0 ≤ x) (h1 : x < 18446744073709551616) :
    Calls Tryd.prog 46 #[.int .u64 x] w fun e w' => e = .returned (.tuple #[entV (ofV x) (ofR x) (ofT x) (ofF x), .int .i64 (errB (ofB x))]) ∧ Upd (fun _ => False) w w' := by
  have c0 := Lib.hid (fun W (T : Tab W) => eget_any x 0 W T (by omega) h0 h1)
  have c1 := Lib.hid (fun W (T : Tab W) => eget_any x 1 W T (by omega) h0 h1)
  have c2 := Lib.hid (fun W (T : Tab W) => eget_any x 2 W T (by omega) h0 h1)
  have c3 := Lib.hid (fun W (T : Tab W) => eget_any x 3 W T (by omega) h0 h1)
  obtain ⟨a0, e0⟩ : ∃ a, a = getP x 0 := ⟨_, rfl⟩
  obtain ⟨a1, e1⟩ : ∃ a, a = getP x 1 := ⟨_, rfl⟩
  obtain ⟨a2, e2⟩ : ∃ a, a = getP x 2 := ⟨_, rfl⟩
  obtain ⟨a3, e3⟩ : ∃ a, a = getP x 3 := ⟨_, rfl⟩
  rw [← e0] at c0
  rw [← e1] at c1
  rw [← e2] at c2
  rw [← e3] at c3
  have q0 := Lib.hid (show (a0 == 1) = pV x by rw [e0, getP0 x h0, Bool.eq_iff_iff]; simp [pV])
  have q1 := Lib.hid (show (a1 == 1) = pR x by rw [e1, getP1 x h0, Bool.eq_iff_iff]; simp [pR])
  have q2 := Lib.hid (show (a2 == 1) = pT x by rw [e2, getP2 x h0, Bool.eq_iff_iff]; simp [pT])
  rw [getP3 x h0] at e3
  have q3 := Lib.hid (show a3 = pF x from e3)
  have b3 : 0 ≤ a3 := by omega
  have b4 : a3 ≤ 255 := by omega
  have hwf : (Lit.int .i64 a3).wf = true := mk_i64 (by omega) (by omega)
  have hW := Lib.hid (fun W (T : Tab W) => eword_any (pV x) (pR x) (pT x) a3 W T hwf)
  have hR := Lib.hid (show ofB x = (rightB (pV x) (pR x) (pT x) a3 && decide (wordI (pV x) (pR x) (pT x) a3 = x)) from by rw [q3.out]; rfl)
  have hF := Lib.hid (show ofF x = if ofB x = true then a3 else 0 from by rw [q3.out]; rfl)
  obtain ⟨v, ev⟩ : ∃ v, v = pV x := ⟨_, rfl⟩
  obtain ⟨r, er⟩ : ∃ r, r = pR x := ⟨_, rfl⟩
  obtain ⟨t, et⟩ : ∃ t, t = pT x := ⟨_, rfl⟩
  have hV := Lib.hid (show ofV x = (ofB x && v) from by rw [ev]; rfl)
  have hRr := Lib.hid (show ofR x = (ofB x && r) from by rw [er]; rfl)
  have hT := Lib.hid (show ofT x = (ofB x && t) from by rw [et]; rfl)
  rw [← ev] at q0 hW hR
  rw [← er] at q1 hW hR
  rw [← et] at q2 hW hR
  clear e0 e1 e2 e3 h1 q3 hwf ev er et h0
  cases hr : rightB v r t a3
  · rw [hr, Bool.false_and] at hR
    have hr' : wordE v r t a3 = 1 := by unfold wordE; rw [hr]; rfl
    rw [hr'] at hW
    clear hr hr'
    go_enter Tryd.func46, Tryd.ntmps46
    go_wp2_with fail
    refine (c0.out _ (T.kept ((Upd.refl _ _).alloc _))).mono ?_
    rintro e w1 ⟨rfl, n1, rfl⟩
    go_wp2_with fail
    refine (c1.out _ (T.kept (((Upd.refl _ _).alloc _).drewN _))).mono ?_
    rintro e w1 ⟨rfl, n2, rfl⟩
    go_wp2_with fail
    refine (c2.out _ (T.kept (((Upd.refl _ _).alloc _).drewN _))).mono ?_
    rintro e w1 ⟨rfl, n3, rfl⟩
    go_wp2_with fail
    refine (c3.out _ (T.kept (((Upd.refl _ _).alloc _).drewN _))).mono ?_
    rintro e w1 ⟨rfl, n4, rfl⟩
    go_wp2_with fail
    rw [q0.out, q1.out, q2.out]
    refine (hW.out _ (T.kept ((((Upd.refl _ _).alloc _).drewN _).alloc _))).mono ?_
    rintro e w1 ⟨rfl, u⟩
    have k0 : Hid (EntAt w1 w.heap.size false false false 0) := Lib.hid (u.at (two_blocks ..).1 id)
    have k1 : Hid (EntAt w1 (w.heap.size + 1) v r t a3) := Lib.hid (u.at (two_blocks ..).2 id)
    have U := Lib.hid (((((Upd.refl (fun _ => False) w).alloc _).drewN _).alloc _).trans u)
    clear u
    obtain ⟨B, hB⟩ : ∃ B, B = w.heap.size := ⟨_, rfl⟩
    rw [← hB] at k0 k1 ⊢
    have hB' := Lib.hid hB
    clear hB
    go_wp2_with (with_reducible refine wpList_store_sz rfl 34 (.tmp 2) (.tmp 32) rfl B 0 #[.bool false, .bool false, .bool false, .int .i64 0] rfl rfl 4 (ent_sz _ _ _ _) k0.out.there size_ent (ent_one _ _ _ _) [.bool false, .bool false, .bool false, .int .i64 0] (ent_ls _ _ _ _) ?_)
    (try simp only [Exit.inBlock, Exit.then])
    refine bodyPost_ret (ret_ent rfl _ _ B false false false 0 rfl (k0.out.set false false false 0)) rfl ⟨?_, ?_⟩
    · rw [hV.out, hRr.out, hT.out, hF.out, hR.out]; rfl
    · exact Upd.setCells (.inr (Nat.le_of_eq hB'.out.symm)) _ _ U.out
  · rw [hr, Bool.true_and] at hR
    have hr' : wordE v r t a3 = 0 := by unfold wordE; rw [hr]; rfl
    rw [hr'] at hW
    clear hr hr'
    obtain ⟨y, ey⟩ : ∃ y, y = wordI v r t a3 := ⟨_, rfl⟩
    rw [← ey] at hW hR
    clear ey
    by_cases hxy : y = x
    · rw [decide_eq_true hxy] at hR
      subst hxy
      go_enter Tryd.func46, Tryd.ntmps46
      go_wp2_with fail
      refine (c0.out _ (T.kept ((Upd.refl _ _).alloc _))).mono ?_
      rintro e w1 ⟨rfl, n1, rfl⟩
      go_wp2_with fail
      refine (c1.out _ (T.kept (((Upd.refl _ _).alloc _).drewN _))).mono ?_
      rintro e w1 ⟨rfl, n2, rfl⟩
      go_wp2_with fail
      refine (c2.out _ (T.kept (((Upd.refl _ _).alloc _).drewN _))).mono ?_
      rintro e w1 ⟨rfl, n3, rfl⟩
      go_wp2_with fail
      refine (c3.out _ (T.kept (((Upd.refl _ _).alloc _).drewN _))).mono ?_
      rintro e w1 ⟨rfl, n4, rfl⟩
      go_wp2_with fail
      rw [q0.out, q1.out, q2.out]
      refine (hW.out _ (T.kept ((((Upd.refl _ _).alloc _).drewN _).alloc _))).mono ?_
      rintro e w1 ⟨rfl, u⟩
      have k0 : Hid (EntAt w1 w.heap.size false false false 0) := Lib.hid (u.at (two_blocks ..).1 id)
      have k1 : Hid (EntAt w1 (w.heap.size + 1) v r t a3) := Lib.hid (u.at (two_blocks ..).2 id)
      have U := Lib.hid (((((Upd.refl (fun _ => False) w).alloc _).drewN _).alloc _).trans u)
      clear u
      obtain ⟨B, hB⟩ : ∃ B, B = w.heap.size := ⟨_, rfl⟩
      rw [← hB] at k0 k1 ⊢
      have hB' := Lib.hid hB
      clear hB
      go_wp2_with (first
        | (with_reducible refine wpList_load_sz rfl 34 (.tmp 4) rfl (B + 1) 0 rfl [.bool v, .bool r, .bool t, .int .i64 a3] _ k1.out.range Tryd.underlying34 rfl 4 (ent_len _ _ _ _) size_ent ?_)
        | (with_reducible refine wpList_store_sz rfl 34 (.tmp 2) (.tmp 33) rfl B 0 #[.bool v, .bool r, .bool t, .int .i64 a3] rfl rfl 4 (ent_sz _ _ _ _) k0.out.there size_ent (ent_one _ _ _ _) [.bool v, .bool r, .bool t, .int .i64 a3] (ent_ls _ _ _ _) ?_))
      (try simp only [Exit.inBlock, Exit.then])
      refine bodyPost_ret (ret_ent rfl _ _ B v r t a3 rfl (k0.out.set v r t a3)) rfl ⟨?_, ?_⟩
      · rw [hV.out, hRr.out, hT.out, hF.out, hR.out]; rfl
      · exact Upd.setCells (.inr (Nat.le_of_eq hB'.out.symm)) _ _ U.out
    · rw [decide_eq_false hxy] at hR
      go_enter Tryd.func46, Tryd.ntmps46
      go_wp2_with fail
      refine (c0.out _ (T.kept ((Upd.refl _ _).alloc _))).mono ?_
      rintro e w1 ⟨rfl, n1, rfl⟩
      go_wp2_with fail
      refine (c1.out _ (T.kept (((Upd.refl _ _).alloc _).drewN _))).mono ?_
      rintro e w1 ⟨rfl, n2, rfl⟩
      go_wp2_with fail
      refine (c2.out _ (T.kept (((Upd.refl _ _).alloc _).drewN _))).mono ?_
      rintro e w1 ⟨rfl, n3, rfl⟩
      go_wp2_with fail
      refine (c3.out _ (T.kept (((Upd.refl _ _).alloc _).drewN _))).mono ?_
      rintro e w1 ⟨rfl, n4, rfl⟩
      go_wp2_with fail
      rw [q0.out, q1.out, q2.out]
      refine (hW.out _ (T.kept ((((Upd.refl _ _).alloc _).drewN _).alloc _))).mono ?_
      rintro e w1 ⟨rfl, u⟩
      have k0 : Hid (EntAt w1 w.heap.size false false false 0) := Lib.hid (u.at (two_blocks ..).1 id)
      have k1 : Hid (EntAt w1 (w.heap.size + 1) v r t a3) := Lib.hid (u.at (two_blocks ..).2 id)
      have U := Lib.hid (((((Upd.refl (fun _ => False) w).alloc _).drewN _).alloc _).trans u)
      clear u
      obtain ⟨B, hB⟩ : ∃ B, B = w.heap.size := ⟨_, rfl⟩
      rw [← hB] at k0 k1 ⊢
      have hB' := Lib.hid hB
      clear hB
      go_wp2_with (with_reducible refine wpList_store_sz rfl 34 (.tmp 2) (.tmp 32) rfl B 0 #[.bool false, .bool false, .bool false, .int .i64 0] rfl rfl 4 (ent_sz _ _ _ _) k0.out.there size_ent (ent_one _ _ _ _) [.bool false, .bool false, .bool false, .int .i64 0] (ent_ls _ _ _ _) ?_)
      (try simp only [Exit.inBlock, Exit.then])
      refine bodyPost_ret (ret_ent rfl _ _ B false false false 0 rfl (k0.out.set false false false 0)) rfl ⟨?_, ?_⟩
      · rw [hV.out, hRr.out, hT.out, hF.out, hR.out]; rfl
      · exact Upd.setCells (.inr (Nat.le_of_eq hB'.out.symm)) _ _ U.out
end Go.Proofs.YtfdnfllefednjaaDoor

/-
  Contracts of package entry: Page.
-/
namespace Go.Proofs.YtfdnfllefednjaaDoor
open Go.ChangeShapes Go.WideShapes Go.ChangeAt Go.RowKit

/-- the page's number behind k places -/
def ppI (a b c : Int) : Nat → Int
  | 0 => 0
  | 1 => 256 * a
  | 2 => 256 * a + 16 * b
  | _ => 256 * a + 16 * b + c
abbrev arr3 (a b c : Int) : Value := .agg #[.int .i64 a, .int .i64 b, .int .i64 c]
theorem pgB_iff (a b c : Int) : pgB a b c = true ↔ ((0 ≤ a ∧ a ≤ 15) ∧ (0 ≤ b ∧ b ≤ 15) ∧ (0 ≤ c ∧ c ≤ 15)) := by simp [pgB]; omega
theorem pg_no {a b c : Int} (h : ¬ ((0 ≤ a ∧ a ≤ 15) ∧ (0 ≤ b ∧ b ≤ 15) ∧ (0 ≤ c ∧ c ≤ 15))) : pgI a b c = 0 ∧ errB (pgB a b c) = 1 := by
  have hb : pgB a b c = false := by rw [← pgB_iff] at h; simpa using h
  exact ⟨by unfold pgI; rw [if_neg (by rw [hb]; decide)], by rw [hb]; rfl⟩
theorem pg_yes {a b c : Int} (h : (0 ≤ a ∧ a ≤ 15) ∧ (0 ≤ b ∧ b ≤ 15) ∧ (0 ≤ c ∧ c ≤ 15)) : pgI a b c = 256 * a + 16 * b + c ∧ errB (pgB a b c) = 0 := by
  have hb : pgB a b c = true := (pgB_iff a b c).2 h
  exact ⟨by unfold pgI; rw [if_pos hb], by rw [hb]; rfl⟩
theorem put_no15 (x z : Int) (p : Nat) (W : World) (T : Tab W) (hp : p = 4 ∨ p = 5 ∨ p = 6) (hx0 : 0 ≤ x) (hx : x ≤ 65535) (hw : (Lit.int .i64 z).wf = true) (hz : ¬ (0 ≤ z ∧ z ≤ 15)) :
    Calls Tryd.prog 78 #[.int .u64 x, .int .u64 (IntKind.u64.wrap z), .int .i64 p] W fun e w' => e = .returned (.tuple #[.int .u64 0, .bool false]) ∧ ∃ n, w' = W.drewN n := by
  have hb := bounds_i64 hw
  have h := eput_any x (IntKind.u64.wrap z) p W T (by omega) hx0 (by omega)
  have hf : fitP (IntKind.u64.wrap z) p = false := by rw [fit456 _ p hp, decide_eq_false_iff_not, wrap_fits z 15 (by omega) (by omega) hb.1 hb.2]; exact hz
  rw [hf] at h
  exact h
theorem put_yes15 (x z y : Int) (p : Nat) (W : World) (T : Tab W) (hp : p = 4 ∨ p = 5 ∨ p = 6) (hx0 : 0 ≤ x) (hx : x ≤ 65535) (hz : 0 ≤ z ∧ z ≤ 15) (hy : putP x z p = y) :
    Calls Tryd.prog 78 #[.int .u64 x, .int .u64 (IntKind.u64.wrap z), .int .i64 p] W fun e w' => e = .returned (.tuple #[.int .u64 y, .bool true]) ∧ ∃ n, w' = W.drewN n := by
  have h := eput_any x (IntKind.u64.wrap z) p W T (by omega) hx0 (by omega)
  rw [wrap_same z hz.1 (by omega)] at h ⊢
  have hf : fitP z p = true := by rw [fit456 _ p hp, decide_eq_true hz]
  rw [hf, if_pos rfl, hy] at h
  exact h
theorem pp_bd (a b c : Int) (k : Nat) (hk : k < 3) (h : (0 < k → 0 ≤ a ∧ a ≤ 15) ∧ (1 < k → 0 ≤ b ∧ b ≤ 15)) : 0 ≤ ppI a b c k ∧ ppI a b c k ≤ 65535 := by
  match k, hk, h with
  | 0, _, _ => simp [ppI]
  | 1, _, h => have := h.1 (by omega); simp only [ppI]; omega
  | 2, _, h => have := h.1 (by omega); have := h.2 (by omega); simp only [ppI]; omega
/-- the places behind k rounds -/
def Fits (a b c : Int) (k : Nat) : Prop := (0 < k → 0 ≤ a ∧ a ≤ 15) ∧ (1 < k → 0 ≤ b ∧ b ≤ 15) ∧ (2 < k → 0 ≤ c ∧ c ≤ 15)
theorem pg_no_at {a b c z : Int} {k : Nat} (hk : k < 3) (hz : z = [a, b, c].getD k 0) (hf : ¬ (0 ≤ z ∧ z ≤ 15)) : pgI a b c = 0 ∧ errB (pgB a b c) = 1 := by
  apply pg_no
  rintro ⟨h1, h2, h3⟩
  subst hz
  match k, hk, hf with
  | 0, _, hf => exact hf h1
  | 1, _, hf => exact hf h2
  | 2, _, hf => exact hf h3
theorem pp_next {a b c z : Int} {k : Nat} (hk : k < 3) (hz : z = [a, b, c].getD k 0) (hf : 0 ≤ z ∧ z ≤ 15) (hd : Fits a b c k) : putP (ppI a b c k) z (k + 4) = ppI a b c (k + 1) ∧ Fits a b c (k + 1) := by
  have bd := pp_bd a b c k hk ⟨hd.1, hd.2.1⟩
  subst hz
  match k, hk, hf, hd, bd with
  | 0, _, hf, hd, bd => exact ⟨by rw [putP_val _ _ 4 8 4 rfl rfl bd.1 hf.1]; simp [ppI], fun _ => hf, fun h => absurd h (by omega), fun h => absurd h (by omega)⟩
  | 1, _, hf, hd, bd =>
    have h0 := hd.1 (by omega)
    exact ⟨by rw [putP_val _ _ 5 4 4 rfl rfl bd.1 hf.1]; simp [ppI]; omega, fun _ => h0, fun _ => hf, fun h => absurd h (by omega)⟩
  | 2, _, hf, hd, bd =>
    have h0 := hd.1 (by omega)
    have h1 := hd.2.1 (by omega)
    exact ⟨by rw [putP_val _ _ 6 0 4 rfl rfl bd.1 hf.1]; simp [ppI]; omega, fun _ => h0, fun _ => h1, fun _ => hf⟩
theorem wf_at {a b c z : Int} {k : Nat} (hk : k < 3) (hz : z = [a, b, c].getD k 0) (h : (Lit.int .i64 a).wf = true ∧ (Lit.int .i64 b).wf = true ∧ (Lit.int .i64 c).wf = true) : (Lit.int .i64 z).wf = true := by
  subst hz
  match k, hk with
  | 0, _ => exact h.1
  | 1, _ => exact h.2.1
  | 2, _ => exact h.2.2
end Go.Proofs.YtfdnfllefednjaaDoor

/-
  Contracts of the document's own answers for entry: Right, Word, Index.
-/
namespace Go.Proofs.YtfdnfllefednjaaDoor
open Go.ChangeShapes Go.WideShapes Go.ChangeAt Go.RowKit

set_option maxHeartbeats 400000 in
theorem rright_any (v r t : Bool) (f : Int) (w : World) :
    Calls Tryd.prog 77 #[entV v r t f] w fun e w' => e = .returned (.bool (rightB v r t f)) ∧ Upd (fun _ => False) w w' := by
  cases v
  · have he := run_eqE false r t f false false false 0 (rightB false r t f) (by rw [Bool.eq_iff_iff]; simp [rightB, and_assoc])
    generalize rightB false r t f = q at he ⊢
    go_enter Tryd.func77, Tryd.ntmps77
    go_wp2
    go_ret
    exact ⟨rfl, (Upd.refl _ _).alloc _⟩
  · by_cases h0 : 0 ≤ f
    · by_cases h1 : f ≤ 255
      · cases r
        · have hv := Lib.hid (show rightB true false t f = true from by simp [rightB, h0, h1])
          go_enter Tryd.func77, Tryd.ntmps77
          go_wp2
          go_ret
          exact ⟨by rw [hv.out]; rfl, (Upd.refl _ _).alloc _⟩
        · have hv := Lib.hid (show rightB true true t f = !t from by simp [rightB, h0, h1])
          go_enter Tryd.func77, Tryd.ntmps77
          go_wp2
          go_ret
          exact ⟨by rw [hv.out]; rfl, (Upd.refl _ _).alloc _⟩
      · have hv := Lib.hid (show rightB true r t f = false from by simp [rightB]; omega)
        go_enter Tryd.func77, Tryd.ntmps77
        go_wp2
        go_ret
        exact ⟨by rw [hv.out]; rfl, (Upd.refl _ _).alloc _⟩
    · have hv := Lib.hid (show rightB true r t f = false from by simp [rightB]; omega)
      go_enter Tryd.func77, Tryd.ntmps77
      go_wp2
      go_ret
      exact ⟨by rw [hv.out]; rfl, (Upd.refl _ _).alloc _⟩
set_option maxHeartbeats 1000000 in
theorem rword_any (v r t : Bool) (f : Int) (w : World) :
    Calls Tryd.prog 47 #[entV v r t f] w fun e w' => e = .returned (.tuple #[.int .u64 (wordI v r t f), .int .i64 (wordE v r t f)]) ∧ Upd (fun _ => False) w w' := by
  cases h : rightB v r t f
  · rw [wordI_no h, show wordE v r t f = 1 from by unfold wordE; rw [h]; rfl]
    have hc := Lib.hid (fun W => rright_any v r t f W)
    rw [h] at hc
    clear h
    go_enter Tryd.func47, Tryd.ntmps47
    go_wp2_with fail
    refine (hc.out _).mono ?_
    rintro e w1 ⟨rfl, u⟩
    go_wp2
    go_ret2
    exact ⟨rfl, ((Upd.refl _ _).alloc _).trans u⟩
  · rw [show wordE v r t f = 0 from by unfold wordE; rw [h]; rfl]
    have hc := Lib.hid (fun W => rright_any v r t f W)
    rw [h] at hc
    cases v
    · obtain ⟨⟨rfl, rfl⟩, rfl⟩ : (r = false ∧ t = false) ∧ f = 0 := by simpa [rightB] using h
      clear h
      go_enter Tryd.func47, Tryd.ntmps47
      go_wp2_with fail
      refine (hc.out _).mono ?_
      rintro e w1 ⟨rfl, u⟩
      have k0 : EntAt w1 w.heap.size false false false 0 := u.at (heap_alloc_last w _) id
      have k1 := k0.range 0 _ rfl
      have U := Lib.hid (((Upd.refl _ _).alloc _).trans u)
      clear u k0
      go_wp2
      go_ret2
      exact ⟨rfl, U.out⟩
    · have h' : (0 ≤ f ∧ f ≤ 255) ∧ (r && t) = false := by revert h; cases r <;> cases t <;> simp [rightB]
      rw [wordI_yes h]
      obtain ⟨⟨h0, h1⟩, hrt⟩ := h'
      clear h
      cases r
      · cases t
        · have hv := Lib.hid (show 256 * f + 1 + bI false 2 + bI false 4 = 1 + 256 * f from by simp [bI]; omega)
          go_enter Tryd.func47, Tryd.ntmps47
          go_wp2_with fail
          refine (hc.out _).mono ?_
          rintro e w1 ⟨rfl, u⟩
          have k0 : EntAt w1 w.heap.size true false false f := u.at (heap_alloc_last w _) id
          have k1 := k0.range 0 _ rfl
          have k2 := k0.range 1 _ rfl
          have k3 := k0.range 2 _ rfl
          have k4 := k0.range 3 _ rfl
          have U := Lib.hid (((Upd.refl _ _).alloc _).trans u)
          clear u k0
          go_wp2
          go_ret2
          exact ⟨by rw [hv.out]; rfl, U.out⟩
        · have hv := Lib.hid (show 256 * f + 1 + bI false 2 + bI true 4 = 1 + 256 * f + 4 from by simp [bI]; omega)
          go_enter Tryd.func47, Tryd.ntmps47
          go_wp2_with fail
          refine (hc.out _).mono ?_
          rintro e w1 ⟨rfl, u⟩
          have k0 : EntAt w1 w.heap.size true false true f := u.at (heap_alloc_last w _) id
          have k1 := k0.range 0 _ rfl
          have k2 := k0.range 1 _ rfl
          have k3 := k0.range 2 _ rfl
          have k4 := k0.range 3 _ rfl
          have U := Lib.hid (((Upd.refl _ _).alloc _).trans u)
          clear u k0
          go_wp2
          go_ret2
          exact ⟨by rw [hv.out]; rfl, U.out⟩
      · obtain rfl : t = false := by simpa using hrt
        have hv := Lib.hid (show 256 * f + 1 + bI true 2 + bI false 4 = 1 + 256 * f + 2 from by simp [bI]; omega)
        go_enter Tryd.func47, Tryd.ntmps47
        go_wp2_with fail
        refine (hc.out _).mono ?_
        rintro e w1 ⟨rfl, u⟩
        have k0 : EntAt w1 w.heap.size true true false f := u.at (heap_alloc_last w _) id
        have k1 := k0.range 0 _ rfl
        have k2 := k0.range 1 _ rfl
        have k3 := k0.range 2 _ rfl
        have k4 := k0.range 3 _ rfl
        have U := Lib.hid (((Upd.refl _ _).alloc _).trans u)
        clear u k0
        go_wp2
        go_ret2
        exact ⟨by rw [hv.out]; rfl, U.out⟩

set_option maxHeartbeats 400000 in
theorem rindex_any (q l : Int) (w : World) :
    Calls Tryd.prog 82 #[.int .i64 q, .int .i64 l] w fun e w' => e = .returned (.tuple #[.int .i64 (idxI q l), .int .i64 (errB (idxB q l))]) ∧ w = w' := by
  cases h : idxB q l
  · have e : idxI q l = 0 := by unfold idxI; rw [if_neg (by rw [h]; decide)]
    rw [e, show errB false = 1 from rfl]
    have h := of_decide_eq_false h
    clear e
    by_cases h1 : q < 0
    · clear h
      go_enter Tryd.func82, Tryd.ntmps82
      go_wp2
      go_ret2
      exact ⟨rfl, rfl⟩
    · by_cases h2 : 4095 < q
      · clear h
        go_enter Tryd.func82, Tryd.ntmps82
        go_wp2
        go_ret2
        exact ⟨rfl, rfl⟩
      · by_cases h3 : l < 0
        · clear h
          go_enter Tryd.func82, Tryd.ntmps82
          go_wp2
          go_ret2
          exact ⟨rfl, rfl⟩
        · have h4 : 2 < l := by omega
          clear h
          go_enter Tryd.func82, Tryd.ntmps82
          go_wp2
          go_ret2
          exact ⟨rfl, rfl⟩
  · obtain ⟨h1, h2, h3, h4⟩ := of_decide_eq_true h
    have e : idxI q l = (if l = 0 then q / 256 else if l = 1 then q / 16 % 16 else q % 16) := by unfold idxI; rw [if_pos h]
    rw [e, show errB true = 0 from rfl]
    clear h e
    by_cases l0 : l = 0
    · rw [if_pos l0]
      subst l0
      go_enter Tryd.func82, Tryd.ntmps82
      go_wp2
      go_ret2
      exact ⟨rfl, rfl⟩
    · rw [if_neg l0]
      by_cases l1 : l = 1
      · rw [if_pos l1]
        subst l1
        go_enter Tryd.func82, Tryd.ntmps82
        go_wp2
        go_ret2
        exact ⟨rfl, rfl⟩
      · rw [if_neg l1]
        obtain rfl : l = 2 := by omega
        go_enter Tryd.func82, Tryd.ntmps82
        go_wp2
        go_ret2
        exact ⟨rfl, rfl⟩
end Go.Proofs.YtfdnfllefednjaaDoor

/-
  Contracts of the document's own answers for entry: Of, Page.
-/
namespace Go.Proofs.YtfdnfllefednjaaDoor
open Go.ChangeShapes Go.WideShapes Go.ChangeAt Go.RowKit

theorem quo_rem (x d m : Int) (h0 : 0 ≤ x) (h1 : x < 18446744073709551616) (hd : 0 < d) : (IntKind.u64.wrap (x.tdiv d)).tmod m = x / d % m := by
  have e1 : x.tdiv d = x / d := Int.tdiv_eq_ediv_of_nonneg h0
  have b1 : 0 ≤ x / d := Int.ediv_nonneg h0 (by omega)
  have b2 : x / d ≤ x := Int.ediv_le_self d h0
  have e2 : IntKind.u64.wrap (x / d) = x / d := by rw [IntKind.wrap_u64]; omega
  rw [e1, e2]
  exact Int.tmod_eq_emod_of_nonneg b1
set_option maxHeartbeats 1000000 in
theorem rof_any (x : Int) (w : World) (h0 : 0 ≤ x) (h1 : x < 18446744073709551616) :
    Calls Tryd.prog 96 #[.int .u64 x] w fun e w' => e = .returned (.tuple #[entV (ofV x) (ofR x) (ofT x) (ofF x), .int .i64 (errB (ofB x))]) ∧ Upd (fun _ => False) w w' := by
  have q0 := Lib.hid (show (x % 2 == 1) = pV x by rw [Bool.eq_iff_iff]; simp [pV])
  have q1 := Lib.hid (show ((IntKind.u64.wrap (x.tdiv 2)).tmod 2 == 1) = pR x by rw [quo_rem x 2 2 h0 h1 (by omega), Bool.eq_iff_iff]; simp [pR])
  have q2 := Lib.hid (show ((IntKind.u64.wrap (x.tdiv 4)).tmod 2 == 1) = pT x by rw [quo_rem x 4 2 h0 h1 (by omega), Bool.eq_iff_iff]; simp [pT])
  have q3 := Lib.hid (show wrap64 ((IntKind.u64.wrap (x.tdiv 256)).tmod 256) = pF x by rw [quo_rem x 256 256 h0 h1 (by omega)]; unfold pF; exact IntWalk.wrap64_in _ (by omega))
  have hW := Lib.hid (fun W => rword_any (pV x) (pR x) (pT x) (pF x) W)
  have hR := Lib.hid (show ofB x = (rightB (pV x) (pR x) (pT x) (pF x) && decide (wordI (pV x) (pR x) (pT x) (pF x) = x)) from rfl)
  have hF := Lib.hid (show ofF x = if ofB x = true then pF x else 0 from rfl)
  obtain ⟨v, ev⟩ : ∃ v, v = pV x := ⟨_, rfl⟩
  obtain ⟨r, er⟩ : ∃ r, r = pR x := ⟨_, rfl⟩
  obtain ⟨t, et⟩ : ∃ t, t = pT x := ⟨_, rfl⟩
  obtain ⟨a3, ea⟩ : ∃ a, a = pF x := ⟨_, rfl⟩
  have hV := Lib.hid (show ofV x = (ofB x && v) from by rw [ev]; rfl)
  have hRr := Lib.hid (show ofR x = (ofB x && r) from by rw [er]; rfl)
  have hT := Lib.hid (show ofT x = (ofB x && t) from by rw [et]; rfl)
  rw [← ev] at q0 hW hR
  rw [← er] at q1 hW hR
  rw [← et] at q2 hW hR
  rw [← ea] at q3 hW hR hF
  clear h1 ev er et ea
  cases hr : rightB v r t a3
  · rw [hr, Bool.false_and] at hR
    have hr' : wordE v r t a3 = 1 := by unfold wordE; rw [hr]; rfl
    rw [hr'] at hW
    clear hr hr'
    go_enter Tryd.func96, Tryd.ntmps96
    go_wp2_with fail
    rw [q0.out, q1.out, q2.out, q3.out]
    refine (hW.out _).mono ?_
    rintro e w1 ⟨rfl, u⟩
    have k0 : Hid (EntAt w1 w.heap.size false false false 0) := Lib.hid (u.at (two_blocks w 0 _ _).1 id)
    have k1 : Hid (EntAt w1 (w.heap.size + 1) v r t a3) := Lib.hid (u.at (two_blocks w 0 _ _).2 id)
    have U := Lib.hid ((((Upd.refl (fun _ => False) w).alloc _).alloc _).trans u)
    clear u
    obtain ⟨B, hB⟩ : ∃ B, B = w.heap.size := ⟨_, rfl⟩
    rw [← hB] at k0 k1 ⊢
    have hB' := Lib.hid hB
    clear hB
    go_wp2_with (with_reducible refine wpList_store_sz rfl 34 (.tmp 2) (.tmp 35) rfl B 0 #[.bool false, .bool false, .bool false, .int .i64 0] rfl rfl 4 (ent_sz _ _ _ _) k0.out.there size_ent (ent_one _ _ _ _) [.bool false, .bool false, .bool false, .int .i64 0] (ent_ls _ _ _ _) ?_)
    (try simp only [Exit.inBlock, Exit.then])
    refine bodyPost_ret (ret_ent rfl _ _ B false false false 0 rfl (k0.out.set false false false 0)) rfl ⟨?_, ?_⟩
    · rw [hV.out, hRr.out, hT.out, hF.out, hR.out]; rfl
    · exact Upd.setCells (.inr (Nat.le_of_eq hB'.out.symm)) _ _ U.out
  · rw [hr, Bool.true_and] at hR
    have hr' : wordE v r t a3 = 0 := by unfold wordE; rw [hr]; rfl
    rw [hr'] at hW
    clear hr hr'
    obtain ⟨y, ey⟩ : ∃ y, y = wordI v r t a3 := ⟨_, rfl⟩
    rw [← ey] at hW hR
    clear ey
    by_cases hxy : y = x
    · rw [decide_eq_true hxy] at hR
      subst hxy
      go_enter Tryd.func96, Tryd.ntmps96
      go_wp2_with fail
      rw [q0.out, q1.out, q2.out, q3.out]
      refine (hW.out _).mono ?_
      rintro e w1 ⟨rfl, u⟩
      have k0 : Hid (EntAt w1 w.heap.size false false false 0) := Lib.hid (u.at (two_blocks w 0 _ _).1 id)
      have k1 : Hid (EntAt w1 (w.heap.size + 1) v r t a3) := Lib.hid (u.at (two_blocks w 0 _ _).2 id)
      have U := Lib.hid ((((Upd.refl (fun _ => False) w).alloc _).alloc _).trans u)
      clear u
      obtain ⟨B, hB⟩ : ∃ B, B = w.heap.size := ⟨_, rfl⟩
      rw [← hB] at k0 k1 ⊢
      have hB' := Lib.hid hB
      clear hB
      go_wp2_with (first
        | (with_reducible refine wpList_load_sz rfl 34 (.tmp 4) rfl (B + 1) 0 rfl [.bool v, .bool r, .bool t, .int .i64 a3] _ k1.out.range Tryd.underlying34 rfl 4 (ent_len _ _ _ _) size_ent ?_)
        | (with_reducible refine wpList_store_sz rfl 34 (.tmp 2) (.tmp 36) rfl B 0 #[.bool v, .bool r, .bool t, .int .i64 a3] rfl rfl 4 (ent_sz _ _ _ _) k0.out.there size_ent (ent_one _ _ _ _) [.bool v, .bool r, .bool t, .int .i64 a3] (ent_ls _ _ _ _) ?_))
      (try simp only [Exit.inBlock, Exit.then])
      refine bodyPost_ret (ret_ent rfl _ _ B v r t a3 rfl (k0.out.set v r t a3)) rfl ⟨?_, ?_⟩
      · rw [hV.out, hRr.out, hT.out, hF.out, hR.out]; rfl
      · exact Upd.setCells (.inr (Nat.le_of_eq hB'.out.symm)) _ _ U.out
    · rw [decide_eq_false hxy] at hR
      go_enter Tryd.func96, Tryd.ntmps96
      go_wp2_with fail
      rw [q0.out, q1.out, q2.out, q3.out]
      refine (hW.out _).mono ?_
      rintro e w1 ⟨rfl, u⟩
      have k0 : Hid (EntAt w1 w.heap.size false false false 0) := Lib.hid (u.at (two_blocks w 0 _ _).1 id)
      have k1 : Hid (EntAt w1 (w.heap.size + 1) v r t a3) := Lib.hid (u.at (two_blocks w 0 _ _).2 id)
      have U := Lib.hid ((((Upd.refl (fun _ => False) w).alloc _).alloc _).trans u)
      clear u
      obtain ⟨B, hB⟩ : ∃ B, B = w.heap.size := ⟨_, rfl⟩
      rw [← hB] at k0 k1 ⊢
      have hB' := Lib.hid hB
      clear hB
      go_wp2_with (with_reducible refine wpList_store_sz rfl 34 (.tmp 2) (.tmp 35) rfl B 0 #[.bool false, .bool false, .bool false, .int .i64 0] rfl rfl 4 (ent_sz _ _ _ _) k0.out.there size_ent (ent_one _ _ _ _) [.bool false, .bool false, .bool false, .int .i64 0] (ent_ls _ _ _ _) ?_)
      (try simp only [Exit.inBlock, Exit.then])
      refine bodyPost_ret (ret_ent rfl _ _ B false false false 0 rfl (k0.out.set false false false 0)) rfl ⟨?_, ?_⟩
      · rw [hV.out, hRr.out, hT.out, hF.out, hR.out]; rfl
      · exact Upd.setCells (.inr (Nat.le_of_eq hB'.out.symm)) _ _ U.out

end Go.Proofs.YtfdnfllefednjaaDoor

/-
  The laws' awake over package entry.
-/
namespace Go.Proofs.YtfdnfllefednjaaDoor
open Go.ChangeShapes Go.WideShapes Go.ChangeAt Go.RowKit

theorem split_no {a : Int} (h : spB a = false) : spP a = 0 ∧ spO a = 0 ∧ errB (spB a) = 1 :=
  ⟨by unfold spP; rw [if_neg (by rw [h]; decide)], by unfold spO; rw [if_neg (by rw [h]; decide)], by rw [h]; rfl⟩
theorem split_yes {a : Int} (h : spB a = true) : spP a = a / 16 ∧ spO a = a % 16 ∧ errB (spB a) = 0 :=
  ⟨by unfold spP; rw [if_pos h], by unfold spO; rw [if_pos h], by rw [h]; rfl⟩
theorem idx_yes {q l : Int} (h : idxB q l = true) : idxI q l = (if l = 0 then q / 256 else if l = 1 then q / 16 % 16 else q % 16) ∧ errB (idxB q l) = 0 :=
  ⟨by unfold idxI; rw [if_pos h], by rw [h]; rfl⟩
theorem arr_len (a b c : Int) : ([.int .i64 a, .int .i64 b, .int .i64 c] : List Value).length = 3 := rfl
theorem size_arr3 : (Tryd.prog.info? 77).map (·.size) = some 3 := by kernel_rfl
def ArrAt (w : World) (B : Nat) (a b c : Int) : Prop := w.heap[B]? = some (.cells #[.int .i64 a, .int .i64 b, .int .i64 c] 77 (0, 0))
theorem ArrAt.range {w : World} {B : Nat} {a b c : Int} (h : ArrAt w B a b c) : w.rangeAt B 0 [.int .i64 a, .int .i64 b, .int .i64 c] := World.rangeAt_of_block h 0 3
theorem ArrAt.kept {S : Nat → Prop} {w w' : World} {B : Nat} {a b c : Int} (h : ArrAt w B a b c) (u : Upd S w w') (hs : ¬ S B) : ArrAt w' B a b c := u.at h hs
theorem ArrAt.cellk {w : World} {B : Nat} {a b c : Int} (h : ArrAt w B a b c) (k : Nat) (hk : k < 3) : w.cell? ⟨B, k, none⟩ = some (.int .i64 ([a, b, c].getD k 0)) := by
  match k, hk with
  | 0, _ => exact h.range 0 _ rfl
  | 1, _ => exact h.range 1 _ rfl
  | 2, _ => exact h.range 2 _ rfl
theorem ArrAt.frozen {w : World} {B : Nat} {a b c : Int} (h : ArrAt w B a b c) (k : Nat) : w.frozen? ⟨B, k, none⟩ = false := frozen_block h k
theorem ArrAt.other {w : World} {B C : Nat} {a b c : Int} (h : ArrAt w B a b c) (hn : B ≠ C) (k : Nat) (v : Value) : ArrAt (w.setCell ⟨C, k, none⟩ v) B a b c := by
  unfold ArrAt
  rw [Below.heap_setCell _ _ _ _ hn]
  exact h
end Go.Proofs.YtfdnfllefednjaaDoor

/-
  Package memory: its data and the contracts of its small functions.
-/
namespace Go.Proofs.YtfdnfllefednjaaDoor
open Go.ChangeShapes Go.WideShapes Go.ChangeAt Go.RowKit

/-- a memory: where its words lie, how many frames, the words -/
structure Mem where
  B : Nat
  n : Nat
  ws : List Int

structure MemAt (w : World) (A : Nat) (m : Mem) : Prop where
  head : w.heap[A]? = some (.cells #[.slice (some ⟨m.B, 0, none⟩) m.n m.n] 118 (0, 0))
  body : w.heap[m.B]? = some (.cells (ints .u64 m.ws).toArray 115 (0, 0))
  len : m.ws.length = 16 * m.n
  lo : 1 ≤ m.n
  hi : m.n ≤ 256

theorem MemAt.ne {w : World} {A : Nat} {m : Mem} (h : MemAt w A m) : A ≠ m.B := by
  intro e
  have h1 := h.head
  rw [e, h.body] at h1
  simp at h1
theorem MemAt.kept {S : Nat → Prop} {w w' : World} {A : Nat} {m : Mem} (h : MemAt w A m) (u : Upd S w w') (h1 : ¬ S A) (h2 : ¬ S m.B) : MemAt w' A m :=
  ⟨u.at h.head h1, u.at h.body h2, h.len, h.lo, h.hi⟩

/-- the error's number -/
def errI (b : Bool) : Int := if b then 0 else 1
theorem errI_t : errI true = 0 := rfl
theorem errI_f : errI false = 1 := rfl
def Mem.has (m : Mem) (a : Int) : Bool := decide (0 ≤ a ∧ a < m.n * 16)
def Mem.ex (m : Mem) (f k : Int) : Bool := decide (1 ≤ k ∧ 0 ≤ f ∧ f ≤ m.n - k)
/-- the word at a place -/
def Mem.at (m : Mem) (i : Nat) : Int := m.ws.getD i 0
def Mem.rd (m : Mem) (a : Int) : Int := if m.has a then m.at a.toNat else 0

theorem MemAt.cellA {w : World} {A : Nat} {m : Mem} (h : MemAt w A m) : w.cell? ⟨A, 0, none⟩ = some (.slice (some ⟨m.B, 0, none⟩) m.n m.n) := by
  rw [cell_of_row w A 0 _ _ _ h.head]; rfl
theorem MemAt.cellB {w : World} {A : Nat} {m : Mem} (h : MemAt w A m) (i : Nat) (hi : i < 16 * m.n) : w.cell? ⟨m.B, i, none⟩ = some (.int .u64 (m.at i)) := by
  unfold Mem.at
  rw [cell_of_row w m.B i _ _ _ h.body, List.getElem?_toArray, ints_getElem? _ _ _ (by rw [h.len]; exact hi)]
theorem MemAt.freeB {w : World} {A : Nat} {m : Mem} (h : MemAt w A m) (i : Nat) : w.frozen? ⟨m.B, i, none⟩ = false := by
  unfold World.frozen?
  rw [h.body]
  simp
theorem MemAt.freeA {w : World} {A : Nat} {m : Mem} (h : MemAt w A m) (i : Nat) : w.frozen? ⟨A, i, none⟩ = false := by
  unfold World.frozen?
  rw [h.head]
  simp

set_option maxHeartbeats 400000 in
theorem contains_any (A : Nat) (m : Mem) (a : Int) (w : World) (h : MemAt w A m) :
    Calls Tryd.prog 64 #[.pointer (some ⟨A, 0, none⟩), .int .i64 a] w fun e w' => e = .returned (.bool (m.has a)) ∧ w = w' := by
  have hc := h.cellA
  have h1 := h.lo
  have h2 := h.hi
  clear h
  by_cases h0 : 0 ≤ a
  · have hv := Lib.hid (show m.has a = decide (a < m.n * 16) from by unfold Mem.has; simp [h0])
    go_enter Tryd.func64, Tryd.ntmps64
    go_wp2
    go_ret
    exact ⟨by rw [hv.out]; rfl, rfl⟩
  · have hv := Lib.hid (show m.has a = false from by unfold Mem.has; simp; omega)
    go_enter Tryd.func64, Tryd.ntmps64
    go_wp2
    go_ret
    exact ⟨by rw [hv.out]; rfl, rfl⟩

set_option maxHeartbeats 400000 in
theorem exist_any (A : Nat) (m : Mem) (f k : Int) (w : World) (h : MemAt w A m) (hk : k ≤ 9223372036854775807) :
    Calls Tryd.prog 73 #[.pointer (some ⟨A, 0, none⟩), .int .i64 f, .int .i64 k] w fun e w' => e = .returned (.bool (m.ex f k)) ∧ w = w' := by
  have hc := h.cellA
  have h1 := h.lo
  have h2 := h.hi
  clear h
  by_cases h0 : 1 ≤ k
  · have hw := IntWalk.i64_in ((m.n : Int) - k) (by omega)
    clear hk
    by_cases hf : 0 ≤ f
    · have hv := Lib.hid (show m.ex f k = decide (f ≤ m.n - k) from by unfold Mem.ex; simp [h0, hf])
      go_enter Tryd.func73, Tryd.ntmps73
      go_wp2
      go_ret
      exact ⟨by rw [hv.out]; rfl, rfl⟩
    · have hv := Lib.hid (show m.ex f k = false from by unfold Mem.ex; simp; omega)
      go_enter Tryd.func73, Tryd.ntmps73
      go_wp2
      go_ret
      exact ⟨by rw [hv.out]; rfl, rfl⟩
  · have hv := Lib.hid (show m.ex f k = false from by unfold Mem.ex; simp; omega)
    clear hk
    go_enter Tryd.func73, Tryd.ntmps73
    go_wp2
    go_ret
    exact ⟨by rw [hv.out]; rfl, rfl⟩

set_option maxHeartbeats 400000 in
theorem frames_any (A : Nat) (m : Mem) (w : World) (h : MemAt w A m) :
    Calls Tryd.prog 74 #[.pointer (some ⟨A, 0, none⟩)] w fun e w' => e = .returned (.int .i64 m.n) ∧ w = w' := by
  have hc := h.cellA
  have h1 := h.lo
  have h2 := h.hi
  clear h
  go_enter Tryd.func74, Tryd.ntmps74
  go_wp2
  go_ret
  exact ⟨rfl, rfl⟩

set_option maxHeartbeats 400000 in
theorem read_any (A : Nat) (m : Mem) (a : Int) (w : World) (h : MemAt w A m) :
    Calls Tryd.prog 28 #[.pointer (some ⟨A, 0, none⟩), .int .i64 a] w fun e w' => e = .returned (.tuple #[.int .u64 (m.rd a), .int .i64 (errI (m.has a))]) ∧ w = w' := by
  have hc := h.cellA
  have h1 := h.lo
  have h2 := h.hi
  cases hb : m.has a
  · have hr := Lib.hid (show m.rd a = 0 from by unfold Mem.rd; rw [hb]; rfl)
    have hb' := Lib.hid hb
    clear hb
    go_enter Tryd.func28, Tryd.ntmps28
    go_wp2_with fail
    refine (contains_any A m a _ h).mono ?_
    rintro e w' ⟨rfl, rfl⟩
    rw [hb'.out]
    go_wp2
    go_ret2
    exact ⟨by rw [hr.out]; rfl, rfl⟩
  · obtain ⟨b1, b2⟩ := of_decide_eq_true hb
    obtain ⟨j, rfl⟩ := Int.eq_ofNat_of_zero_le b1
    have hr := Lib.hid (show m.rd j = m.at (j / 16 * 16 + j % 16) from by unfold Mem.rd; rw [hb, if_pos rfl, Int.toNat_natCast, show j / 16 * 16 + j % 16 = j from by omega])
    have hcell := h.cellB (j / 16 * 16 + j % 16) (by omega)
    have hb' := Lib.hid hb
    clear hb
    go_enter Tryd.func28, Tryd.ntmps28
    go_wp2_with fail
    refine (contains_any A m _ _ h).mono ?_
    rintro e w' ⟨rfl, rfl⟩
    rw [hb'.out]
    go_wp2
    go_ret2
    exact ⟨by rw [hr.out]; rfl, rfl⟩
end Go.Proofs.YtfdnfllefednjaaDoor

/-
  Package memory: New, Write.
-/
namespace Go.Proofs.YtfdnfllefednjaaDoor
open Go.ChangeShapes Go.WideShapes Go.ChangeAt Go.RowKit

/-- the memory with words laid over it -/
def Mem.lay (m : Mem) (o : Nat) (vs : List Int) : Mem := { m with ws := splice m.ws o vs }
/-- a word written -/
def Mem.wr (m : Mem) (a : Int) (v : Int) : Mem := if m.has a then m.lay a.toNat [v] else m
theorem MemAt.lay {w : World} {A : Nat} {m : Mem} (h : MemAt w A m) (o : Nat) (vs : List Int) (hf : o + vs.length ≤ 16 * m.n) : MemAt (w.setCells m.B o (ints .u64 vs)) A (m.lay o vs) :=
  ⟨by rw [heap_setCells_other _ _ _ _ _ h.ne]; exact h.head,
   by show (w.setCells m.B o (ints .u64 vs)).heap[m.B]? = _
      rw [heap_setCells_same m.B _ (ints .u64 vs) o w (ints .u64 m.ws) h.body (by rw [ints_length, ints_length, h.len]; exact hf), splice_ints]; rfl,
   by show (splice m.ws o vs).length = 16 * m.n
      rw [length_splice _ _ _ (by rw [h.len]; exact hf)]; exact h.len, h.lo, h.hi⟩
theorem Mem.wr_B (m : Mem) (a v : Int) : (m.wr a v).B = m.B := by unfold Mem.wr; split <;> rfl
theorem Mem.wr_n (m : Mem) (a v : Int) : (m.wr a v).n = m.n := by unfold Mem.wr; split <;> rfl
theorem Mem.lay_B (m : Mem) (a : Nat) (v : List Int) : (m.lay a v).B = m.B := rfl
theorem Mem.lay_n (m : Mem) (a : Nat) (v : List Int) : (m.lay a v).n = m.n := rfl

set_option maxHeartbeats 400000 in
theorem write_any (A : Nat) (m : Mem) (a v : Int) (w : World) (h : MemAt w A m) :
    Calls Tryd.prog 50 #[.pointer (some ⟨A, 0, none⟩), .int .i64 a, .int .u64 v] w fun e w' => e = .returned (.int .i64 (errI (m.has a))) ∧ MemAt w' A (m.wr a v) ∧ Upd (· = m.B) w w' := by
  have hc := h.cellA
  have h1 := h.lo
  have h2 := h.hi
  cases hb : m.has a
  · have hr := Lib.hid (show m.wr a v = m from by unfold Mem.wr; rw [hb]; rfl)
    have hb' := Lib.hid hb
    clear hb
    go_enter Tryd.func50, Tryd.ntmps50
    go_wp2_with fail
    refine (contains_any A m a _ h).mono ?_
    rintro e w' ⟨rfl, rfl⟩
    rw [hb'.out]
    go_wp2
    go_ret
    exact ⟨rfl, by rw [hr.out]; exact h, Upd.refl _ _⟩
  · obtain ⟨b1, b2⟩ := of_decide_eq_true hb
    obtain ⟨j, rfl⟩ := Int.eq_ofNat_of_zero_le b1
    have hr := Lib.hid (show m.wr j v = m.lay (j / 16 * 16 + j % 16) [v] from by unfold Mem.wr; rw [hb, if_pos rfl, Int.toNat_natCast, show j / 16 * 16 + j % 16 = j from by omega])
    have hcell := h.cellB (j / 16 * 16 + j % 16) (by omega)
    have hfr := h.freeB (j / 16 * 16 + j % 16)
    have hb' := Lib.hid hb
    clear hb
    go_enter Tryd.func50, Tryd.ntmps50
    go_wp2_with fail
    refine (contains_any A m _ _ h).mono ?_
    rintro e w' ⟨rfl, rfl⟩
    rw [hb'.out]
    go_wp2
    go_ret
    exact ⟨rfl, by rw [hr.out]; exact h.lay _ [v] (by simp; omega), (Upd.refl _ _).setCell (by left; rfl) _⟩

/-- a new memory -/
def memNew (B n : Nat) : Mem := ⟨B, n, List.replicate (16 * n) 0⟩
theorem info_words : (Tryd.prog.info? 115).map (fun i => (i.zero, i.size, i.bytes)) = some (some (.agg (List.replicate 16 (.int .u64 0)).toArray), 16, 128) := by kernel_rfl
set_option maxHeartbeats 400000 in
theorem new_no (n : Int) (w : World) (h : n < 1 ∨ 256 < n) :
    Calls Tryd.prog 36 #[.int .i64 n] w fun e w' => e = .returned (.tuple #[.pointer none, .int .i64 1]) ∧ w = w' := by
  rcases h with h | h
  · go_enter Tryd.func36, Tryd.ntmps36
    go_wp2
    go_ret2
    exact ⟨rfl, rfl⟩
  · have h' : ¬ n < 1 := by omega
    go_enter Tryd.func36, Tryd.ntmps36
    go_wp2
    go_ret2
    exact ⟨rfl, rfl⟩
set_option maxHeartbeats 400000 in
theorem new_yes (n : Nat) (w : World) (h1 : 1 ≤ n) (h2 : n ≤ 256) :
    Calls Tryd.prog 36 #[.int .i64 n] w fun e w' => e = .returned (.tuple #[.pointer (some ⟨w.heap.size + 1, 0, none⟩), .int .i64 0]) ∧ MemAt w' (w.heap.size + 1) (memNew w.heap.size n) ∧ Upd (fun _ => False) w w' ∧ w'.heap.size = w.heap.size + 2 := by
  have hC := Lib.hid (show madeCells (Value.agg (List.replicate 16 (.int .u64 0)).toArray).cells (n * 16) = (ints .u64 (List.replicate (16 * n) 0)).toArray from by
    show madeCells (List.replicate 16 (.int .u64 0)).toArray (n * 16) = _
    rw [madeCells_same _ _ _ (by omega), ints, List.map_replicate, Nat.mul_comm])
  go_enter Tryd.func36, Tryd.ntmps36
  go_wp2_with (with_reducible refine wpList_make_exact rfl (.tmp 10) (.tmp 10) 116 rfl 115 _ 16 128 Tryd.underlying116 info_words .i64 .i64 n rfl rfl (by omega) (by omega) _ hC.out ?_)
  go_ret2
  refine ⟨rfl, ⟨?_, ?_, ?_, h1, h2⟩, ((Upd.refl _ _).alloc _).alloc _, by simp⟩
  · have := heap_alloc_last (w.alloc (Obj.cells (ints .u64 (List.replicate (16 * n) 0)).toArray 115)) (Obj.cells #[Value.slice (some { block := w.heap.size, off := 0 }) n n] 118)
    simpa [memNew] using this
  · rw [Below.heap_alloc _ _ _ (by simp [memNew]), show (memNew w.heap.size n).B = w.heap.size from rfl, heap_alloc_last]; rfl
  · simp [memNew]
end Go.Proofs.YtfdnfllefednjaaDoor

/-
  Package memory: Scrub, Zero, Frame, Fill.
-/
namespace Go.Proofs.YtfdnfllefednjaaDoor
open Go.ChangeShapes Go.WideShapes Go.ChangeAt Go.RowKit

theorem size_words : (Tryd.prog.info? 115).map (·.size) = some 16 := by kernel_rfl
theorem size_arr : (Tryd.prog.info? 91).map (·.size) = some 16 := by kernel_rfl
def noughts : List Int := List.replicate 16 0
theorem MemAt.there {w : World} {A : Nat} {m : Mem} (h : MemAt w A m) (o k : Nat) (hf : o + k ≤ 16 * m.n) : w.there m.B o k := fun j hj =>
  ⟨by rw [h.cellB (o + j) (by omega)]; rfl, h.freeB _⟩
theorem one16 : (#[.int .u64 0, .int .u64 0, .int .u64 0, .int .u64 0, .int .u64 0, .int .u64 0, .int .u64 0, .int .u64 0, .int .u64 0, .int .u64 0, .int .u64 0, .int .u64 0, .int .u64 0, .int .u64 0, .int .u64 0, .int .u64 0] : Array Value).all (·.oneCell') = true := by
  rw [show (#[.int .u64 0, .int .u64 0, .int .u64 0, .int .u64 0, .int .u64 0, .int .u64 0, .int .u64 0, .int .u64 0, .int .u64 0, .int .u64 0, .int .u64 0, .int .u64 0, .int .u64 0, .int .u64 0, .int .u64 0, .int .u64 0] : Array Value) = (ints .u64 noughts).toArray from rfl]; exact ints_one _ _
theorem sz16 : (#[.int .u64 0, .int .u64 0, .int .u64 0, .int .u64 0, .int .u64 0, .int .u64 0, .int .u64 0, .int .u64 0, .int .u64 0, .int .u64 0, .int .u64 0, .int .u64 0, .int .u64 0, .int .u64 0, .int .u64 0, .int .u64 0] : Array Value).size = 16 := rfl
theorem ls16 : (#[.int .u64 0, .int .u64 0, .int .u64 0, .int .u64 0, .int .u64 0, .int .u64 0, .int .u64 0, .int .u64 0, .int .u64 0, .int .u64 0, .int .u64 0, .int .u64 0, .int .u64 0, .int .u64 0, .int .u64 0, .int .u64 0] : Array Value).toList = ints .u64 noughts := rfl
/-- frames scrubbed -/
def Mem.scrubN (m : Mem) (f k : Nat) : Mem := m.lay (f * 16) (List.replicate (k * 16) 0)
def Mem.scrub (m : Mem) (f k : Int) : Mem := if m.ex f k then m.scrubN f.toNat k.toNat else m
theorem Mem.scrubN_zero (m : Mem) (f : Nat) : m.scrubN f 0 = m := by simp [Mem.scrubN, Mem.lay, splice]
theorem Mem.scrubN_succ (m : Mem) (f k : Nat) (h : (f + k + 1) * 16 ≤ m.ws.length) : (m.scrubN f k).lay ((f + k) * 16) noughts = m.scrubN f (k + 1) := by
  unfold Mem.scrubN Mem.lay noughts
  simp only [Mem.mk.injEq, true_and]
  have := splice_splice m.ws (f * 16) (List.replicate (k * 16) 0) (List.replicate 16 0) (by simp; omega)
  rw [List.length_replicate, List.replicate_append_replicate] at this
  rw [show (f + k) * 16 = f * 16 + k * 16 from by omega, this, show (k + 1) * 16 = k * 16 + 16 from by omega]
set_option maxHeartbeats 400000 in
theorem scrub_any (A : Nat) (m : Mem) (f k : Int) (w : World) (h : MemAt w A m) (hk : k ≤ 9223372036854775807) :
    Calls Tryd.prog 99 #[.pointer (some ⟨A, 0, none⟩), .int .i64 f, .int .i64 k] w fun e w' => e = .returned (.int .i64 (errI (m.ex f k))) ∧ MemAt w' A (m.scrub f k) ∧ Upd (· = m.B) w w' := by
  cases hb : m.ex f k
  · have hr := Lib.hid (show m.scrub f k = m from by unfold Mem.scrub; rw [hb]; rfl)
    have hb' := Lib.hid hb
    have hk' := Lib.hid hk
    clear hb hk
    go_enter Tryd.func99, Tryd.ntmps99
    go_wp2_with fail
    refine (exist_any A m f k _ h hk'.out).mono ?_
    rintro e w' ⟨rfl, rfl⟩
    rw [hb'.out]
    go_wp2
    go_ret
    exact ⟨rfl, by rw [hr.out]; exact h, Upd.refl _ _⟩
  · obtain ⟨b1, b2, b3⟩ := of_decide_eq_true hb
    have h2 := h.hi
    obtain ⟨F, rfl⟩ := Int.eq_ofNat_of_zero_le b2
    obtain ⟨K, rfl⟩ := Int.eq_ofNat_of_zero_le (by omega : 0 ≤ k)
    have hr := Lib.hid (show m.scrub F K = m.scrubN F K from by unfold Mem.scrub; rw [hb, if_pos rfl]; simp)
    have hb' := Lib.hid hb
    have hk' := Lib.hid hk
    clear hb hk
    go_enter Tryd.func99, Tryd.ntmps99
    go_wp2_with fail
    refine (exist_any A m _ _ _ h hk'.out).mono ?_
    rintro e w' ⟨rfl, rfl⟩
    rw [hb'.out]
    go_wp2
    go_loopw [14] (fun t wr => ∃ j : Nat, j ≤ K ∧ t = .int .i64 j ∧ MemAt wr A (m.scrubN F j) ∧ Upd (· = m.B) w wr) (fun t _ => K - (intOf t).toNat)
    case atStart => exact ⟨0, by omega, rfl, by rw [Mem.scrubN_zero]; exact h, Upd.refl _ _⟩
    case round =>
      obtain ⟨j, hj, rfl, hM, hU⟩ := hrel
      by_cases hlt : j < K
      · have hc := hM.cellA
        have ht := Lib.hid (hM.there ((F + j) * 16) 16 (by show _ ≤ 16 * m.n; omega))
        have hl := hM.lay ((F + j) * 16) noughts (by show _ ≤ 16 * m.n; simp [noughts]; omega)
        rw [m.scrubN_succ F j (by have := h.len; omega)] at hl
        rw [show (m.scrubN F j).B = m.B from rfl] at *
        rw [show (m.scrubN F j).n = m.n from rfl] at *
        have HL := Lib.hid hl
        clear hl
        go_wp2_with (with_reducible refine wpList_store_sz rfl 115 (.tmp 25) (.tmp 24) rfl m.B ((F + j) * 16) #[.int .u64 0, .int .u64 0, .int .u64 0, .int .u64 0, .int .u64 0, .int .u64 0, .int .u64 0, .int .u64 0, .int .u64 0, .int .u64 0, .int .u64 0, .int .u64 0, .int .u64 0, .int .u64 0, .int .u64 0, .int .u64 0] rfl rfl 16 sz16 ht.out size_words one16 _ ls16 ?_)
        go_roundw
        case rel => exact ⟨j + 1, by omega, by go_num, HL.out, hU.trans (Upd.setCells (by left; rfl) _ _ (Upd.refl _ _))⟩
        case measure => simp [intOf]; omega
      · have e : j = K := by omega
        subst e
        go_wp2
        go_ret
        exact ⟨rfl, by rw [hr.out]; exact hM, hU⟩

/-- a frame's words -/
def Mem.fr (m : Mem) (f : Nat) : List Int := (m.ws.drop (f * 16)).take 16
def Mem.zero (m : Mem) (f : Int) : Bool := m.ex f 1 && decide (m.fr f.toNat = noughts)
theorem MemAt.fr_len {w : World} {A : Nat} {m : Mem} (h : MemAt w A m) (f : Nat) (hf : f < m.n) : (m.fr f).length = 16 := by
  have := h.len
  simp [Mem.fr]; omega
theorem MemAt.range {w : World} {A : Nat} {m : Mem} (h : MemAt w A m) (f : Nat) : w.rangeAt m.B (f * 16) (ints .u64 (m.fr f)) := by
  have := World.rangeAt_of_block h.body (f * 16) 16
  have e : ((ints .u64 m.ws).toArray.extract (f * 16) (f * 16 + 16)).toList = ints .u64 (m.fr f) := by
    simp [Mem.fr, ints, List.extract, List.map_take, List.map_drop]
  rwa [e] at this
theorem guard_words : Tryd.prog.eqGuardType Tryd.prog.depth 115 = false := by kernel_rfl
theorem guard_arr : Tryd.prog.eqGuardType Tryd.prog.depth 91 = false := by kernel_rfl
theorem size_u64 : (Tryd.prog.info? 49).map (·.size) = some 1 := by kernel_rfl
theorem zeros16 : (#[.int .u64 0, .int .u64 0, .int .u64 0, .int .u64 0, .int .u64 0, .int .u64 0, .int .u64 0, .int .u64 0, .int .u64 0, .int .u64 0, .int .u64 0, .int .u64 0, .int .u64 0, .int .u64 0, .int .u64 0, .int .u64 0] : Array Value) = (ints .u64 noughts).toArray := rfl
theorem noughts_len : noughts.length = 16 := rfl
set_option maxHeartbeats 400000 in
theorem zero_any (A : Nat) (m : Mem) (f : Int) (w : World) (h : MemAt w A m) :
    Calls Tryd.prog 35 #[.pointer (some ⟨A, 0, none⟩), .int .i64 f] w fun e w' => e = .returned (.bool (m.zero f)) ∧ w = w' := by
  cases hb : m.ex f 1
  · have hr := Lib.hid (show m.zero f = false from by unfold Mem.zero; rw [hb]; rfl)
    have hb' := Lib.hid hb
    clear hb
    go_enter Tryd.func35, Tryd.ntmps35
    go_wp2_with fail
    refine (exist_any A m f 1 _ h (by omega)).mono ?_
    rintro e w' ⟨rfl, rfl⟩
    rw [hb'.out]
    go_wp2
    go_ret
    exact ⟨by rw [hr.out]; rfl, rfl⟩
  · obtain ⟨b1, b2, b3⟩ := of_decide_eq_true hb
    have h2 := h.hi
    obtain ⟨F, rfl⟩ := Int.eq_ofNat_of_zero_le b2
    have hr := Lib.hid (show m.zero F = decide (m.fr F = noughts) from by unfold Mem.zero; rw [hb, Bool.true_and, Int.toNat_natCast])
    have hb' := Lib.hid hb
    have hc := h.cellA
    have hrg := Lib.hid (h.range F)
    have hln := Lib.hid (h.fr_len F (by omega))
    clear hb
    go_enter Tryd.func35, Tryd.ntmps35
    go_wp2_with fail
    refine (exist_any A m _ 1 _ h (by omega)).mono ?_
    rintro e w' ⟨rfl, rfl⟩
    rw [hb'.out]
    generalize m.fr F = L at *
    go_wp2_with (first
      | (with_reducible refine wpList_load_sz rfl 115 (.tmp 14) rfl m.B (F * 16) rfl (ints .u64 L) _ hrg.out Tryd.underlying115 rfl 16 (by rw [ints_length]; exact hln.out) size_words ?_)
      | (with_reducible refine wpList_eql_ints rfl 115 115 (.tmp 15) (.tmp 16) rfl .u64 L noughts _ _ rfl rfl rfl zeros16 16 49 Tryd.underlying115 Tryd.underlying49 size_u64 guard_words hln.out noughts_len _ rfl ?_))
    go_ret
    exact ⟨by rw [hr.out]; rfl, rfl⟩
end Go.Proofs.YtfdnfllefednjaaDoor

/-
  Package memory: Fill, Frame.
-/
namespace Go.Proofs.YtfdnfllefednjaaDoor
open Go.ChangeShapes Go.WideShapes Go.ChangeAt Go.RowKit

/-- a frame filled -/
def Mem.fill (m : Mem) (f : Int) (vs : List Int) : Mem := if m.ex f 1 then m.lay (f.toNat * 16) vs else m
theorem range_alloc (w : World) (k : IntKind) (vs : List Int) (t : TypeId) : (w.alloc (.cells (ints k vs).toArray t)).rangeAt w.heap.size 0 (ints k vs) := by
  have := World.rangeAt_of_block (heap_alloc_last w (.cells (ints k vs).toArray t)) 0 vs.length
  have e : ((ints k vs).toArray.extract 0 (0 + vs.length)).toList = ints k vs := by
    simp [List.extract, List.take_of_length_le, ints_length]
  rwa [e] at this
theorem MemAt.alloc {w : World} {A : Nat} {m : Mem} (h : MemAt w A m) (o : Obj) : MemAt (w.alloc o) A m := h.kept ((Upd.refl (fun _ => False) w).alloc o) (fun x => x) (fun x => x)
theorem MemAt.drew {w : World} {A : Nat} {m : Mem} (h : MemAt w A m) : MemAt w.drew A m := h.kept (Upd.refl (fun _ => False) w).drew (fun x => x) (fun x => x)
/-- what Frame tells -/
def Mem.frI (m : Mem) (f : Int) : List Int := if m.ex f 1 then m.fr f.toNat else noughts
def zs16 : Array Value := (ints .u64 noughts).toArray
theorem alloc2_facts (w : World) (t1 t2 : TypeId) (c1 c2 : Array Value) : ((w.alloc (.cells c1 t1)).alloc (.cells c2 t2)).heap[w.heap.size]? = some (.cells c1 t1 (0, 0)) ∧
    ((w.alloc (.cells c1 t1)).alloc (.cells c2 t2)).heap[w.heap.size + 1]? = some (.cells c2 t2 (0, 0)) := by
  constructor
  · rw [Below.heap_alloc _ _ _ (by simp), heap_alloc_last]
  · have := heap_alloc_last (w.alloc (.cells c1 t1)) (.cells c2 t2)
    simpa using this
end Go.Proofs.YtfdnfllefednjaaDoor

/-
  The laws' own small functions over package memory: awake, second.
-/
namespace Go.Proofs.YtfdnfllefednjaaDoor
open Go.ChangeShapes Go.WideShapes Go.ChangeAt Go.RowKit

theorem Upd.new {S : Nat → Prop} {a b c : World} (h : Upd S a b) (k : Upd (a.heap.size ≤ ·) b c) : Upd S a c :=
  ⟨k.os.trans h.os, k.tape.trans h.tape, k.output.trans h.output, Nat.le_trans h.size k.size, fun i hi hs => (k.block i (Nat.lt_of_lt_of_le hi h.size) (by omega)).trans (h.block i hi hs)⟩
theorem Upd.one {a b : World} {B n : Nat} (h : Upd (· = B) a b) (hB : n ≤ B) : Upd (n ≤ ·) a b := h.mono (fun k _ e => by omega)
theorem Upd.none {a b : World} {T : Nat → Prop} (h : Upd (fun _ => False) a b) : Upd T a b := h.mono (fun _ _ e => e.elim)

theorem aw_has (B : Nat) : (memNew B 2).has 17 = true := rfl
theorem aw_has1 (B : Nat) : ((memNew B 2).wr 17 5).has 17 = true := rfl
theorem aw_rd (B : Nat) : ((memNew B 2).wr 17 5).rd 17 = 5 := rfl
theorem aw_z (B : Nat) : ((memNew B 2).wr 17 5).zero 1 = false := rfl
theorem aw_ex (B : Nat) : ((memNew B 2).wr 17 5).ex 1 1 = true := rfl
theorem aw_z2 (B : Nat) : (((memNew B 2).wr 17 5).scrub 1 1).zero 1 = true := rfl
theorem aw_n (B : Nat) : (((memNew B 2).wr 17 5).scrub 1 1).n = 2 := rfl
/-- words of which each second one is v -/
def second (v : Int) : List Int := [v, 0, v, 0, v, 0, v, 0, v, 0, v, 0, v, 0, v, 0]
/-- the first k pairs of them -/
def secondN (v : Int) (k : Nat) : List Int := (second v).take (2 * k) ++ noughts.drop (2 * k)
theorem secondN_step (v : Int) (k : Nat) (h : k < 8) : (secondN v k).set (2 * k) v = secondN v (k + 1) := by
  match k, h with
  | 0, _ | 1, _ | 2, _ | 3, _ | 4, _ | 5, _ | 6, _ | 7, _ => rfl
theorem secondN_len (v : Int) (k : Nat) (h : k ≤ 8) : (secondN v k).length = 16 := by
  match k, h with
  | 0, _ | 1, _ | 2, _ | 3, _ | 4, _ | 5, _ | 6, _ | 7, _ | 8, _ => rfl
theorem second_len (v : Int) : (second v).length = 16 := rfl
theorem ints_set (k : IntKind) (l : List Int) (i : Nat) (v : Int) : (ints k l).set i (.int k v) = ints k (l.set i v) := by simp [ints, List.map_set]
end Go.Proofs.YtfdnfllefednjaaDoor

/-
  Plain facts on memories: what is read behind a write, a scrub, a fill.
-/
namespace Go.Proofs.YtfdnfllefednjaaDoor
open Go.RowKit

theorem getD_splice {α : Type} (L : List α) (o : Nat) (vs : List α) (h : o + vs.length ≤ L.length) (i : Nat) (d : α) : (splice L o vs).getD i d = if o ≤ i ∧ i < o + vs.length then vs.getD (i - o) d else L.getD i d := by
  unfold splice
  simp only [List.getD_eq_getElem?_getD, List.getElem?_append, List.length_take, List.getElem?_take, List.getElem?_drop]
  rw [show min o L.length = o from by omega]
  by_cases h1 : i < o
  · simp [h1]; intro h2; omega
  · by_cases h2 : i < o + vs.length
    · have h3 : i - o < vs.length := by omega
      have h4 : o ≤ i ∧ i < o + vs.length := ⟨by omega, h2⟩
      simp [h1, h3, h4]
    · have h3 : ¬ i - o < vs.length := by omega
      have h4 : ¬ (o ≤ i ∧ i < o + vs.length) := by omega
      simp only [h1, h3, h4, if_false]
      rw [show o + vs.length + (i - o - vs.length) = i from by omega]
def Mem.ok (m : Mem) : Prop := m.ws.length = 16 * m.n
theorem MemAt.okm {w : World} {A : Nat} {m : Mem} (h : MemAt w A m) : m.ok := h.len
theorem Mem.wr_has (m : Mem) (a v b : Int) : (m.wr a v).has b = m.has b := by unfold Mem.has; rw [Mem.wr_n]
theorem Mem.wr_ex (m : Mem) (a v f k : Int) : (m.wr a v).ex f k = m.ex f k := by unfold Mem.ex; rw [Mem.wr_n]
theorem Mem.wr_rd (m : Mem) (h : m.ok) (a v b : Int) (ha : m.has a = true) : (m.wr a v).rd b = if b = a then v else m.rd b := by
  unfold Mem.rd
  rw [Mem.wr_has]
  cases hb : m.has b
  · simp only [Bool.false_eq_true, if_false]
    rw [if_neg (by intro e; rw [e, ha] at hb; cases hb)]
  · simp only [if_true]
    unfold Mem.wr
    rw [ha, if_pos rfl]
    obtain ⟨a1, a2⟩ := of_decide_eq_true ha
    obtain ⟨b1, b2⟩ := of_decide_eq_true hb
    unfold Mem.lay Mem.at
    unfold Mem.ok at h
    rw [getD_splice _ _ _ (by simp; omega)]
    by_cases e : b = a
    · subst e; simp
    · rw [if_neg e, if_neg (by simp; omega)]
theorem Mem.scrub_has (m : Mem) (f k b : Int) : (m.scrub f k).has b = m.has b := by unfold Mem.has Mem.scrub; split <;> rfl
theorem Mem.scrub_ex (m : Mem) (f k b c : Int) : (m.scrub f k).ex b c = m.ex b c := by unfold Mem.ex Mem.scrub; split <;> rfl
theorem Mem.fill_has (m : Mem) (f b : Int) (vs : List Int) : (m.fill f vs).has b = m.has b := by unfold Mem.has Mem.fill; split <;> rfl
theorem Mem.fill_ex (m : Mem) (f b c : Int) (vs : List Int) : (m.fill f vs).ex b c = m.ex b c := by unfold Mem.ex Mem.fill; split <;> rfl
theorem Mem.fill_B (m : Mem) (f : Int) (vs : List Int) : (m.fill f vs).B = m.B := by unfold Mem.fill; split <;> rfl
theorem Mem.scrub_B (m : Mem) (f k : Int) : (m.scrub f k).B = m.B := by unfold Mem.scrub; split <;> rfl
theorem Mem.fill_n (m : Mem) (f : Int) (vs : List Int) : (m.fill f vs).n = m.n := by unfold Mem.fill; split <;> rfl
theorem Mem.scrub_n (m : Mem) (f k : Int) : (m.scrub f k).n = m.n := by unfold Mem.scrub; split <;> rfl
theorem getD_replicate0 (k i : Nat) : (List.replicate k (0 : Int)).getD i 0 = 0 := by
  simp only [List.getD_eq_getElem?_getD, List.getElem?_replicate]
  split <;> rfl
theorem Mem.scrub_rd (m : Mem) (h : m.ok) (f k b : Int) (hf : m.ex f k = true) (hb : m.has b = true) : (m.scrub f k).rd b = if f ≤ b / 16 ∧ b / 16 < f + k then 0 else m.rd b := by
  unfold Mem.rd
  rw [Mem.scrub_has, hb]
  simp only [if_true]
  unfold Mem.scrub
  rw [hf, if_pos rfl]
  obtain ⟨a1, a2, a3⟩ := of_decide_eq_true hf
  obtain ⟨b1, b2⟩ := of_decide_eq_true hb
  unfold Mem.scrubN Mem.lay Mem.at
  unfold Mem.ok at h
  rw [getD_splice _ _ _ (by simp; omega), getD_replicate0]
  simp only [List.length_replicate]
  by_cases e : f ≤ b / 16 ∧ b / 16 < f + k
  · rw [if_pos e, if_pos (by omega)]
  · rw [if_neg e, if_neg (by omega)]
theorem Mem.fr_getD (m : Mem) (f i : Nat) (hi : i < 16) : (m.fr f).getD i 0 = m.at (f * 16 + i) := by
  unfold Mem.fr Mem.at
  simp [hi]
theorem list16 {l l' : List Int} (h : l.length = 16) (h' : l'.length = 16) (e : ∀ i, i < 16 → l.getD i 0 = l'.getD i 0) : l = l' := by
  apply List.ext_getElem (by omega)
  intro i h1 h2
  have := e i (by omega)
  simpa [List.getD_eq_getElem?_getD, List.getElem?_eq_getElem h1, List.getElem?_eq_getElem h2] using this
theorem Mem.fr_len (m : Mem) (h : m.ok) (f : Nat) (hf : f < m.n) : (m.fr f).length = 16 := by
  unfold Mem.ok at h
  simp [Mem.fr]; omega
theorem Mem.zero_of (m : Mem) (h : m.ok) (f : Int) (hf : m.ex f 1 = true) (hz : ∀ i : Nat, i < 16 → m.at (f.toNat * 16 + i) = 0) : m.zero f = true := by
  unfold Mem.zero
  rw [hf, Bool.true_and, decide_eq_true_eq]
  obtain ⟨a1, a2, a3⟩ := of_decide_eq_true hf
  refine list16 (m.fr_len h _ (by omega)) rfl fun i hi => ?_
  rw [Mem.fr_getD _ _ _ hi, hz i hi]
  exact (getD_replicate0 16 i).symm
theorem Mem.scrub_zero (m : Mem) (h : m.ok) (f k g : Int) (hf : m.ex f k = true) (h1 : f ≤ g) (h2 : g < f + k) : (m.scrub f k).zero g = true := by
  obtain ⟨a1, a2, a3⟩ := of_decide_eq_true hf
  have hl := h
  unfold Mem.ok at hl
  have hx : m.ex g 1 = true := decide_eq_true (by omega)
  have ok2 : (m.scrub f k).ok := by
    unfold Mem.scrub Mem.scrubN Mem.lay Mem.ok
    rw [hf, if_pos rfl]
    show (splice _ _ _).length = _
    rw [length_splice _ _ _ (by simp; omega)]; exact hl
  refine (m.scrub f k).zero_of ok2 g (by rw [Mem.scrub_ex]; exact hx) fun i hi => ?_
  unfold Mem.scrub Mem.scrubN Mem.lay Mem.at
  rw [hf, if_pos rfl]
  show (splice _ _ _).getD _ 0 = 0
  rw [getD_splice _ _ _ (by simp; omega), getD_replicate0, if_pos (by simp; omega)]
theorem Mem.new_ok (B n : Nat) : (memNew B n).ok := by simp [memNew, Mem.ok]
theorem Mem.wr_ok (m : Mem) (h : m.ok) (a v : Int) : (m.wr a v).ok := by
  unfold Mem.wr
  split
  · rename_i ha
    obtain ⟨a1, a2⟩ := of_decide_eq_true ha
    unfold Mem.ok at h
    unfold Mem.lay Mem.ok
    show (splice _ _ _).length = _
    rw [length_splice _ _ _ (by simp; omega)]; exact h
  · exact h
theorem Mem.wr_no (m : Mem) (a v : Int) (h : m.has a = false) : m.wr a v = m := by unfold Mem.wr; rw [h]; rfl
theorem one_a (m : Mem) (hok : m.ok) (a b x y : Int) (h : m.has a = true) (hne : a ≠ b) : ((m.wr a x).wr b y).rd a = x := by
  cases hb : m.has b
  · rw [Mem.wr_no (m.wr a x) b y (by rw [Mem.wr_has]; exact hb), Mem.wr_rd _ hok _ _ _ h, if_pos rfl]
  · rw [Mem.wr_rd _ (Mem.wr_ok _ hok _ _) _ _ _ (by rw [Mem.wr_has]; exact hb), if_neg hne, Mem.wr_rd _ hok _ _ _ h, if_pos rfl]
theorem one_b (m : Mem) (hok : m.ok) (a b x y : Int) (h : m.has b = true) : ((m.wr a x).wr b y).rd b = y := by
  rw [Mem.wr_rd _ (Mem.wr_ok _ hok _ _) _ _ _ (by rw [Mem.wr_has]; exact h), if_pos rfl]
theorem has_ex (m : Mem) (a : Int) (h : m.has a = true) : m.ex (a / 16) 1 = true ∧ 0 ≤ a ∧ a < 4096 ∨ 256 < m.n := by
  obtain ⟨a1, a2⟩ := of_decide_eq_true h
  by_cases hn : 256 < m.n
  · exact Or.inr hn
  · exact Or.inl ⟨decide_eq_true (by omega), a1, by omega⟩
theorem Mem.ok_lay (m : Mem) (h : m.ok) (o : Nat) (vs : List Int) (hf : o + vs.length ≤ 16 * m.n) : (m.lay o vs).ok := by
  unfold Mem.ok at *
  show (splice _ _ _).length = _
  rw [length_splice _ _ _ (by omega)]; exact h
theorem Mem.fr_lay_apart (m : Mem) (h : m.ok) (o : Nat) (vs : List Int) (hf : o + vs.length ≤ 16 * m.n) (i : Nat) (hi : i < m.n) (ha : i * 16 + 16 ≤ o ∨ o + vs.length ≤ i * 16) : (m.lay o vs).fr i = m.fr i := by
  refine list16 ((m.lay o vs).fr_len (m.ok_lay h o vs hf) i hi) (m.fr_len h i hi) fun j hj => ?_
  rw [Mem.fr_getD _ _ _ hj, Mem.fr_getD _ _ _ hj]
  unfold Mem.ok at h
  show (splice _ _ _).getD _ 0 = m.ws.getD _ 0
  rw [getD_splice _ _ _ (by omega), if_neg (by omega)]
theorem Mem.fr_lay_same (m : Mem) (h : m.ok) (vs : List Int) (hv : vs.length = 16) (i : Nat) (hi : i < m.n) : (m.lay (i * 16) vs).fr i = vs := by
  refine list16 ((m.lay _ vs).fr_len (m.ok_lay h _ vs (by omega)) i hi) hv fun j hj => ?_
  rw [Mem.fr_getD _ _ _ hj]
  unfold Mem.ok at h
  show (splice _ _ _).getD _ 0 = _
  rw [getD_splice _ _ _ (by omega), if_pos (by omega), show i * 16 + j - i * 16 = j from by omega]
theorem Mem.scrub_fr (m : Mem) (h : m.ok) (f k : Int) (i : Nat) (hi : i < m.n) (ha : (i : Int) < f ∨ f + k ≤ i) : (m.scrub f k).fr i = m.fr i := by
  unfold Mem.scrub
  split
  · rename_i hf
    obtain ⟨a1, a2, a3⟩ := of_decide_eq_true hf
    exact m.fr_lay_apart h _ _ (by simp; omega) i hi (by simp; omega)
  · rfl
theorem Mem.ok_scrub (m : Mem) (h : m.ok) (f k : Int) : (m.scrub f k).ok := by
  unfold Mem.scrub
  split
  · rename_i hf
    obtain ⟨a1, a2, a3⟩ := of_decide_eq_true hf
    exact m.ok_lay h _ _ (by simp; omega)
  · exact h
theorem Mem.ok_fill (m : Mem) (h : m.ok) (f : Int) (vs : List Int) (hv : vs.length = 16) : (m.fill f vs).ok := by
  unfold Mem.fill
  split
  · rename_i hf
    obtain ⟨a1, a2, a3⟩ := of_decide_eq_true hf
    exact m.ok_lay h _ _ (by omega)
  · exact h
/-- a variable that is laid anew for 16 words -/
theorem alloc16 (w : World) (L : List Int) (t : TypeId) (h : L.length = 16) :
    ((w.alloc (.cells #[.int .u64 0, .int .u64 0, .int .u64 0, .int .u64 0, .int .u64 0, .int .u64 0, .int .u64 0, .int .u64 0, .int .u64 0, .int .u64 0, .int .u64 0, .int .u64 0, .int .u64 0, .int .u64 0, .int .u64 0, .int .u64 0] t)).setCells w.heap.size 0 (ints .u64 L)).heap[w.heap.size]? = some (.cells (ints .u64 L).toArray t (0, 0)) ∧
    Upd (fun _ => False) w ((w.alloc (.cells #[.int .u64 0, .int .u64 0, .int .u64 0, .int .u64 0, .int .u64 0, .int .u64 0, .int .u64 0, .int .u64 0, .int .u64 0, .int .u64 0, .int .u64 0, .int .u64 0, .int .u64 0, .int .u64 0, .int .u64 0, .int .u64 0] t)).setCells w.heap.size 0 (ints .u64 L)) ∧ (w.alloc (.cells #[.int .u64 0, .int .u64 0, .int .u64 0, .int .u64 0, .int .u64 0, .int .u64 0, .int .u64 0, .int .u64 0, .int .u64 0, .int .u64 0, .int .u64 0, .int .u64 0, .int .u64 0, .int .u64 0, .int .u64 0, .int .u64 0] t)).there w.heap.size 0 16 := by
  obtain ⟨g1, g2, g3⟩ := alloc_store w .u64 noughts L t h
  rw [h] at g3
  exact ⟨g1, g2, g3⟩
/-! a box of two cells -/
theorem box2 {w : World} {b t : Nat} {x y : Value} (h : w.heap[b]? = some (.cells #[x, y] t (0, 0))) : w.cell? ⟨b, 0, none⟩ = some x ∧ w.cell? ⟨b, 1, none⟩ = some y := by
  constructor <;> (rw [cell_of_row w b _ _ _ _ h]; rfl)
end Go.Proofs.YtfdnfllefednjaaDoor

/-
  The document's own memory (trunnionref02): contracts of its functions, over the same data as package memory's.
-/
namespace Go.Proofs.YtfdnfllefednjaaDoor
open Go.ChangeShapes Go.WideShapes Go.ChangeAt Go.RowKit

structure RefAt (w : World) (A : Nat) (m : Mem) : Prop where
  head : w.heap[A]? = some (.cells #[.slice (some ⟨m.B, 0, none⟩) (16 * m.n) (16 * m.n)] 66 (0, 0))
  body : w.heap[m.B]? = some (.cells (ints .u64 m.ws).toArray 49 (0, 0))
  len : m.ws.length = 16 * m.n
  lo : 1 ≤ m.n
  hi : m.n ≤ 256
theorem RefAt.ne {w : World} {A : Nat} {m : Mem} (h : RefAt w A m) : A ≠ m.B := by
  intro e
  have h1 := h.head
  rw [e, h.body] at h1
  simp at h1
theorem RefAt.kept {S : Nat → Prop} {w w' : World} {A : Nat} {m : Mem} (h : RefAt w A m) (u : Upd S w w') (h1 : ¬ S A) (h2 : ¬ S m.B) : RefAt w' A m :=
  ⟨u.at h.head h1, u.at h.body h2, h.len, h.lo, h.hi⟩
theorem RefAt.cellA {w : World} {A : Nat} {m : Mem} (h : RefAt w A m) : w.cell? ⟨A, 0, none⟩ = some (.slice (some ⟨m.B, 0, none⟩) (16 * m.n) (16 * m.n)) := by
  rw [cell_of_row w A 0 _ _ _ h.head]; rfl
theorem RefAt.cellB {w : World} {A : Nat} {m : Mem} (h : RefAt w A m) (i : Nat) (hi : i < 16 * m.n) : w.cell? ⟨m.B, i, none⟩ = some (.int .u64 (m.at i)) :=
  cell_block h.body i (by rw [h.len]; exact hi)
theorem RefAt.freeB {w : World} {A : Nat} {m : Mem} (h : RefAt w A m) (i : Nat) : w.frozen? ⟨m.B, i, none⟩ = false := frozen_block h.body i
theorem RefAt.okm {w : World} {A : Nat} {m : Mem} (h : RefAt w A m) : m.ok := h.len
theorem RefAt.lay1 {w : World} {A : Nat} {m : Mem} (h : RefAt w A m) (o : Nat) (v : Int) (hf : o < 16 * m.n) : RefAt (w.setCell ⟨m.B, o, none⟩ (.int .u64 v)) A (m.lay o [v]) := by
  have e : w.setCell ⟨m.B, o, none⟩ (.int .u64 v) = w.setCells m.B o (ints .u64 [v]) := rfl
  rw [e]
  exact ⟨by rw [heap_setCells_other _ _ _ _ _ h.ne]; exact h.head,
   by show (w.setCells m.B o (ints .u64 [v])).heap[m.B]? = _
      rw [heap_setCells_same m.B _ (ints .u64 [v]) o w (ints .u64 m.ws) h.body (by rw [ints_length, ints_length, h.len]; simp; omega), splice_ints]; rfl,
   by show (splice m.ws o [v]).length = 16 * m.n
      rw [length_splice _ _ _ (by rw [h.len]; simp; omega)]; exact h.len, h.lo, h.hi⟩

set_option maxHeartbeats 400000 in
theorem rHas_any (A : Nat) (m : Mem) (f : Int) (w : World) (h : RefAt w A m) :
    Calls Tryd.prog 48 #[.pointer (some ⟨A, 0, none⟩), .int .i64 f] w fun e w' => e = .returned (.bool (m.ex f 1)) ∧ w = w' := by
  have hc := h.cellA
  have h1 := h.lo
  have h2 := h.hi
  clear h
  by_cases h0 : 0 ≤ f
  · have hv := Lib.hid (show m.ex f 1 = decide (f < (m.n : Int)) from by unfold Mem.ex; rw [Bool.eq_iff_iff, decide_eq_true_eq, decide_eq_true_eq]; omega)
    go_enter Tryd.func48, Tryd.ntmps48
    go_wp2
    go_ret
    exact ⟨by rw [hv.out]; rfl, rfl⟩
  · have hv := Lib.hid (show m.ex f 1 = false from by unfold Mem.ex; simp; omega)
    go_enter Tryd.func48, Tryd.ntmps48
    go_wp2
    go_ret
    exact ⟨by rw [hv.out]; rfl, rfl⟩

theorem info_u64 : (Tryd.prog.info? 49).map (fun i => (i.zero, i.size, i.bytes)) = some (some (.int .u64 0), 1, 8) := by kernel_rfl
set_option maxHeartbeats 400000 in
theorem rNew_no (n : Int) (w : World) (h : n < 1 ∨ 256 < n) :
    Calls Tryd.prog 9 #[.int .i64 n] w fun e w' => e = .returned (.tuple #[.pointer none, .int .i64 1]) ∧ w = w' := by
  rcases h with h | h
  · go_enter Tryd.func9, Tryd.ntmps9
    go_wp2
    go_ret2
    exact ⟨rfl, rfl⟩
  · have h' : ¬ n < 1 := by omega
    go_enter Tryd.func9, Tryd.ntmps9
    go_wp2
    go_ret2
    exact ⟨rfl, rfl⟩
set_option maxHeartbeats 400000 in
theorem rNew_yes (n : Nat) (w : World) (h1 : 1 ≤ n) (h2 : n ≤ 256) :
    Calls Tryd.prog 9 #[.int .i64 n] w fun e w' => e = .returned (.tuple #[.pointer (some ⟨w.heap.size + 1, 0, none⟩), .int .i64 0]) ∧ RefAt w' (w.heap.size + 1) (memNew w.heap.size n) ∧ Upd (fun _ => False) w w' ∧ w'.heap.size = w.heap.size + 2 := by
  have hC := Lib.hid (show madeCells (Value.int .u64 0).cells (16 * n * 1) = (ints .u64 (List.replicate (16 * n) 0)).toArray from by
    show madeCells (List.replicate 1 (.int .u64 0)).toArray (16 * n * 1) = _
    rw [madeCells_same _ _ _ (by omega), ints, List.map_replicate, Nat.mul_one])
  go_enter Tryd.func9, Tryd.ntmps9
  go_wp2_with (with_reducible refine wpList_make_exact rfl (.tmp 11) (.tmp 11) 64 rfl 49 _ 1 8 Tryd.underlying64 info_u64 .i64 .i64 (16 * n) rfl rfl (by omega) (by omega) _ hC.out ?_)
  go_ret2
  refine ⟨rfl, ⟨?_, ?_, ?_, h1, h2⟩, ((Upd.refl _ _).alloc _).alloc _, by simp⟩
  · have := heap_alloc_last (w.alloc (Obj.cells (ints .u64 (List.replicate (16 * n) 0)).toArray 49)) (Obj.cells #[Value.slice (some { block := w.heap.size, off := 0 }) (16 * n) (16 * n)] 66)
    simpa [memNew] using this
  · rw [Below.heap_alloc _ _ _ (by simp [memNew]), show (memNew w.heap.size n).B = w.heap.size from rfl, heap_alloc_last]; rfl
  · simp [memNew]

theorem ex_part (m : Mem) (f k : Int) (h : 1 ≤ k) (h1 : m.ex f 1 = true) : m.ex f k = m.ex (f + k - 1) 1 := by
  obtain ⟨a1, a2, a3⟩ := of_decide_eq_true h1
  unfold Mem.ex
  rw [Bool.eq_iff_iff, decide_eq_true_eq, decide_eq_true_eq]
  omega
/-- j words of 0 from a frame on -/
def Mem.nil (m : Mem) (f j : Nat) : Mem := m.lay (16 * f) (List.replicate j 0)
theorem Mem.nil_zero (m : Mem) (f : Nat) : m.nil f 0 = m := by simp [Mem.nil, Mem.lay, splice]
theorem Mem.nil_succ (m : Mem) (f j : Nat) (h : 16 * f + j + 1 ≤ m.ws.length) : (m.nil f j).lay (16 * f + j) [0] = m.nil f (j + 1) := by
  unfold Mem.nil Mem.lay
  simp only [Mem.mk.injEq, true_and]
  have := splice_splice m.ws (16 * f) (List.replicate j 0) [0] (by simp; omega)
  rw [List.length_replicate] at this
  rw [this, List.replicate_succ']
theorem Mem.nil_all (m : Mem) (f k : Nat) : m.nil f (k * 16) = m.scrubN f k := by unfold Mem.nil Mem.scrubN; rw [Nat.mul_comm]
theorem Mem.lay_step (m : Mem) (o : Nat) (L : List Int) (j : Nat) (hj : j < L.length) (h : o + L.length ≤ m.ws.length) : (m.lay o (L.take j)).lay (o + j) [L.getD j 0] = m.lay o (L.take (j + 1)) := by
  unfold Mem.lay
  simp only [Mem.mk.injEq, true_and]
  have hl : (L.take j).length = j := by simp; omega
  have := splice_splice m.ws o (L.take j) [L.getD j 0] (by rw [hl]; simp; omega)
  rw [hl] at this
  rw [this, List.take_add_one, List.getElem?_eq_getElem hj]
  simp [List.getElem?_eq_getElem hj]
theorem Upd.eqB {a b c : World} {B : Nat} (h : Upd (fun _ => False) a b) (k : Upd (· = B) b c) : Upd (· = B) a c :=
  ⟨k.os.trans h.os, k.tape.trans h.tape, k.output.trans h.output, Nat.le_trans h.size k.size, fun i hi hs => (k.block i (Nat.lt_of_lt_of_le hi h.size) hs).trans (h.block i hi (fun x => x))⟩
end Go.Proofs.YtfdnfllefednjaaDoor

/-
  append onto one's own slice of whatever slice, nil and empty ones too: in plain regions and in ones that draw.
-/
namespace Go.Proofs.YtfdnfllefednjaaDoor
open Go.RowKit

/-- a slice of m elements whose cells are news -/
def Src (w : World) (x : Value) (m size : Nat) (news : List Value) : Prop :=
  (x = .slice none 0 0 ∧ m = 0 ∧ news = []) ∨ ∃ b off c, x = .slice (some ⟨b, off, none⟩) m c ∧ news.length = m * size ∧ (∀ j u, news[j]? = some u → w.cell? ⟨b, off + j, none⟩ = some u)
theorem add_mid0 (b off j : Nat) : (⟨b, off, none⟩ : Addr).add j = ⟨b, off + j, none⟩ := by unfold Addr.add; split <;> simp_all
theorem Src.of_row {w : World} {base m size : Nat} {e : TypeId} {v : Value} {xs : List Value} (h : w.ownsRow base e size v m xs) : Src w v m size xs := by
  rcases h.2 with ⟨rfl, rfl⟩ | ⟨g, cap, cur, rfl, _⟩
  · exact .inl ⟨rfl, rfl, List.length_eq_zero_iff.1 (by have := h.1; omega)⟩
  · exact .inr ⟨g, 0, cap, rfl, h.1, fun j u hu => by have := h.cells (g := g) rfl j u hu; rwa [add_mid0] at this⟩
theorem Src.kept {w w' : World} {x : Value} {m size : Nat} {news : List Value} (h : Src w x m size news) (hg : ∀ b : Nat, x.ownBlock = some b → w'.heap[b]? = w.heap[b]?) : Src w' x m size news := by
  rcases h with h | ⟨b, off, c, rfl, h1, h2⟩
  · exact .inl h
  · refine .inr ⟨b, off, c, rfl, h1, fun j u hu => ?_⟩
    rw [World.cell?_of_block (w := w) (hg b rfl)]
    exact h2 j u hu
theorem run_append_src {P : Program} (w : World) (base : Nat) (t ty e : TypeId) (i : TypeInfo) (z : Value) (size bytes : Nat) (ht : P.underlying t = some (.slice e)) (hi : P.info? e = some i) (hz : i.zero = some z)
    (hsize : i.size = size) (hby : i.bytes = bytes) (hzs : z.cells.size = size) (hsz : 0 < size)
    (v : Value) (n : Nat) (xs : List Value) (hown : w.ownsRow base e size v n xs) (x : Value) (m : Nat) (news : List Value) (hx : Src w x m size news) (h1 : ∀ u ∈ news, u.oneCell' = true)
    (h63 : n + m ≤ maxLen) (hbytes : (n + m) * bytes ≤ 140737488355328) (hbase : base ≤ w.heap.size) :
    ∃ v' w', (Builtin.append_ #[t, t] ty #[v, x]).run P w = .ok v' w' ∧ w'.ownsRow base e size v' (n + m) (xs ++ news) ∧ w.grownBy w' v.ownBlock := by
  rcases hx with ⟨rfl, rfl, rfl⟩ | ⟨b, off, c, rfl, h2, h3⟩
  · exact ⟨v, w, run_append_owned_none w base t ty e i size ht hi v n xs hown, by simpa using hown, ⟨rfl, rfl, rfl, Nat.le_refl _, fun _ _ _ => rfl⟩⟩
  · obtain ⟨v', w', hr, r1, r2, _⟩ := run_append_own (P := P) w base t ty e i z size bytes ht hi hz hsize hby hzs hsz v n xs hown ⟨b, off, none⟩ m c news h2 (fun j u hu => by rw [add_mid0]; exact h3 j u hu) h1 h63 hbytes hbase
    exact ⟨v', w', hr, r1, r2⟩
theorem wp_append_src {P : Program} (w : World) {o : Oper} {a : Act} {K : Act → World → Prop} {Q : Exit → Act → World → Prop} (s x : Operand) (t : TypeId)
    (ho : o.op = .call { callee := .builtin .append, args := #[s, x], argTypes := #[t, t] })
    (base : Nat) (e : TypeId) (i : TypeInfo) (z : Value) (size bytes : Nat) (ht : P.underlying t = some (.slice e)) (hi : P.info? e = some i) (hz : i.zero = some z)
    (hsize : i.size = size) (hby : i.bytes = bytes) (hzs : z.cells.size = size) (hsz : 0 < size)
    (v : Value) (n : Nat) (xs : List Value) (hs : a.eval s = v) (hown : w.ownsRow base e size v n xs) (y : Value) (m : Nat) (news : List Value) (hy : a.eval x = y) (hx : Src w y m size news) (h1 : ∀ u ∈ news, u.oneCell' = true)
    (h63 : n + m ≤ maxLen) (hbytes : (n + m) * bytes ≤ 140737488355328) (hbase : base ≤ w.heap.size)
    (h : ∀ v' w', w'.ownsRow base e size v' (n + m) (xs ++ news) → w.grownBy w' v.ownBlock → K (a.put o.dst v') w') : o.wp P a w K Q := by
  obtain ⟨v', w', hr, h2, h3⟩ := run_append_src (P := P) w base t o.type e i z size bytes ht hi hz hsize hby hzs hsz v n xs hown y m news hx h1 h63 hbytes hbase
  unfold Oper.wp execOp
  simp only [ho, resolve, invoke, builtin, Sem.run_bind, Sem.run_pure, Result.andThen_ok, List.map_toArray, List.map_cons, List.map_nil, hs, hy, hr]
  exact h v' w' h2 h3
/-- in a plain region -/
theorem wpList_append_src {P : Program} (w : World) {ops : Array Oper} {rest : List Oper} {o : Oper} {a : Act} {Q : Exit → Act → World → Prop} (hgd : o.guard = none) (s x : Operand) (t : TypeId)
    (ho : o.op = .call { callee := .builtin .append, args := #[s, x], argTypes := #[t, t] })
    (base : Nat) (e : TypeId) (i : TypeInfo) (z : Value) (size bytes : Nat) (ht : P.underlying t = some (.slice e)) (hi : P.info? e = some i) (hz : i.zero = some z)
    (hsize : i.size = size) (hby : i.bytes = bytes) (hzs : z.cells.size = size) (hsz : 0 < size)
    (v : Value) (n : Nat) (xs : List Value) (hs : a.eval s = v) (hown : w.ownsRow base e size v n xs) (y : Value) (m : Nat) (news : List Value) (hy : a.eval x = y) (hx : Src w y m size news) (h1 : ∀ u ∈ news, u.oneCell' = true)
    (h63 : n + m ≤ maxLen) (hbytes : (n + m) * bytes ≤ 140737488355328) (hbase : base ≤ w.heap.size)
    (h : ∀ v' w', w'.ownsRow base e size v' (n + m) (xs ++ news) → w.grownBy w' v.ownBlock → wpList P ops Q rest (a.put o.dst v') w') : wpList P ops Q (o :: rest) a w :=
  wpList_plain hgd fun _ hK => wp_append_src w s x t ho base e i z size bytes ht hi hz hsize hby hzs hsz v n xs hs hown y m news hy hx h1 h63 hbytes hbase fun v' w' h2 h3 => hK _ _ (h v' w' h2 h3)
/-- at a step of a region that draws -/
theorem step_append_src {P : Program} (w : World) {ops : Array Oper} {o : Oper} {a : Act} {K : Act → World → Prop} {Q : Exit → Act → World → Prop} {E : Prop} (hgd : o.guard = none) (s x : Operand) (t : TypeId)
    (ho : o.op = .call { callee := .builtin .append, args := #[s, x], argTypes := #[t, t] })
    (base : Nat) (e : TypeId) (i : TypeInfo) (z : Value) (size bytes : Nat) (ht : P.underlying t = some (.slice e)) (hi : P.info? e = some i) (hz : i.zero = some z)
    (hsize : i.size = size) (hby : i.bytes = bytes) (hzs : z.cells.size = size) (hsz : 0 < size)
    (v : Value) (n : Nat) (xs : List Value) (hs : a.eval s = v) (hown : w.ownsRow base e size v n xs) (y : Value) (m : Nat) (news : List Value) (hy : a.eval x = y) (hx : Src w y m size news) (h1 : ∀ u ∈ news, u.oneCell' = true)
    (h63 : n + m ≤ maxLen) (hbytes : (n + m) * bytes ≤ 140737488355328) (hbase : base ≤ w.heap.size)
    (h : ∀ v' w', w'.ownsRow base e size v' (n + m) (xs ++ news) → w.grownBy w' v.ownBlock → K (a.put o.dst v') w') :
    if Region.wanted o (yielded ops a.tmps) = true then Oper.wp P o a w K Q else E := by
  have hw : Region.wanted o (yielded ops a.tmps) = true := by simp [Region.wanted, hgd]
  rw [if_pos hw]
  exact wp_append_src w s x t ho base e i z size bytes ht hi hz hsize hby hzs hsz v n xs hs hown y m news hy hx h1 h63 hbytes hbase h
end Go.Proofs.YtfdnfllefednjaaDoor

/-
  Plain mathematics of walks: entries at the places of tables, what is got and put there.
-/
namespace Go.Proofs.YtfdnfllefednjaaDoor
open Go.ChangeShapes Go.WideShapes Go.ChangeAt Go.RowKit

/-- an entry -/
structure En where
  v : Bool
  r : Bool
  t : Bool
  f : Int
def En.zero : En := ⟨false, false, false, 0⟩
abbrev En.val (e : En) : Value := entV e.v e.r e.t e.f
def En.ok (e : En) : Bool := rightB e.v e.r e.t e.f
def En.word (e : En) : Int := wordI e.v e.r e.t e.f
/-- the entry of a word -/
def enOf (x : Int) : En := ⟨ofV x, ofR x, ofT x, ofF x⟩
theorem enOf_no {x : Int} (h : ofB x = false) : enOf x = En.zero := by
  unfold enOf ofV ofR ofT ofF En.zero
  rw [h]
  simp
theorem enOf_yes {x : Int} (h : ofB x = true) : enOf x = ⟨pV x, pR x, pT x, pF x⟩ := by
  unfold enOf ofV ofR ofT ofF
  rw [h]
  simp
/-- all words are words -/
def Mem.good (m : Mem) : Prop := ∀ i, 0 ≤ m.at i ∧ m.at i < 18446744073709551616
def plB (p : Int) : Bool := decide (0 ≤ p ∧ p ≤ 15)
/-- is there such a place? -/
def Mem.slot (m : Mem) (f p : Int) : Bool := m.ex f 1 && plB p
def Mem.word (m : Mem) (f p : Int) : Int := m.at (f * 16 + p).toNat
def Mem.getE (m : Mem) (f p : Int) : En := if m.slot f p = true then enOf (m.word f p) else En.zero
def Mem.getX (m : Mem) (f p : Int) : Int := if m.slot f p = true then (if ofB (m.word f p) = true then 0 else 11) else 1
def Mem.putB (m : Mem) (f p : Int) (e : En) : Bool := m.slot f p && e.ok
def Mem.put (m : Mem) (f p : Int) (e : En) : Mem := if m.putB f p e = true then m.wr (f * 16 + p) e.word else m

theorem Mem.slot_iff (m : Mem) (f p : Int) : m.slot f p = true ↔ (0 ≤ f ∧ f < m.n) ∧ 0 ≤ p ∧ p ≤ 15 := by
  simp [Mem.slot, Mem.ex, plB]; omega
theorem Mem.slot_has (m : Mem) (f p : Int) (h : m.slot f p = true) : m.has (f * 16 + p) = true := by
  rw [Mem.slot_iff] at h
  exact decide_eq_true (by omega)
theorem Mem.slot_rd (m : Mem) (f p : Int) (h : m.slot f p = true) : m.rd (f * 16 + p) = m.word f p := by
  unfold Mem.rd
  rw [if_pos (m.slot_has f p h)]
  rfl
theorem Mem.put_B (m : Mem) (f p : Int) (e : En) : (m.put f p e).B = m.B := by unfold Mem.put; split; exact Mem.wr_B ..; rfl
theorem Mem.put_n (m : Mem) (f p : Int) (e : En) : (m.put f p e).n = m.n := by unfold Mem.put; split; exact Mem.wr_n ..; rfl
theorem Mem.put_ok (m : Mem) (h : m.ok) (f p : Int) (e : En) : (m.put f p e).ok := by unfold Mem.put; split; exact Mem.wr_ok _ h _ _; exact h
theorem Mem.put_slot (m : Mem) (f p : Int) (e : En) (g q : Int) : (m.put f p e).slot g q = m.slot g q := by
  unfold Mem.slot Mem.ex
  rw [Mem.put_n]
theorem Mem.at_lay1 (m : Mem) (o i : Nat) (v : Int) (h : o < m.ws.length) : (m.lay o [v]).at i = if i = o then v else m.at i := by
  unfold Mem.at Mem.lay
  show (splice m.ws o [v]).getD i 0 = _
  rw [getD_splice m.ws o [v] (by simp; omega) i 0]
  by_cases e : i = o
  · subst e
    simp
  · rw [if_neg (by simp; omega), if_neg e]
theorem Mem.at_wr (m : Mem) (hk : m.ok) (a v : Int) (h : m.has a = true) (i : Nat) : (m.wr a v).at i = if i = a.toNat then v else m.at i := by
  have h' := of_decide_eq_true h
  unfold Mem.wr
  rw [if_pos h]
  unfold Mem.ok at hk
  exact m.at_lay1 _ _ _ (by omega)
theorem bI_lo (b : Bool) (k : Int) (h : 0 ≤ k) : 0 ≤ bI b k ∧ bI b k ≤ k := by unfold bI; split <;> omega
theorem En.word_bd (e : En) : 0 ≤ e.word ∧ e.word < 65536 := by
  unfold En.word
  cases h : rightB e.v e.r e.t e.f
  · rw [wordI_no h]; omega
  · cases hv : e.v
    · unfold wordI; rw [hv] at h; rw [if_pos h]; simp
    · rw [hv] at h
      rw [wordI_yes h]
      have b1 := bI_lo e.r 2 (by omega)
      have b2 := bI_lo e.t 4 (by omega)
      have : 0 ≤ e.f ∧ e.f ≤ 255 := by revert h; simp [rightB]; omega
      omega
theorem Mem.wr_good (m : Mem) (hk : m.ok) (h : m.good) (a v : Int) (h0 : 0 ≤ v) (h1 : v < 18446744073709551616) : (m.wr a v).good := by
  intro i
  cases ha : m.has a
  · rw [Mem.wr_no m a v ha]; exact h i
  · rw [m.at_wr hk a v ha i]
    split
    · exact ⟨h0, h1⟩
    · exact h i
theorem Mem.put_good (m : Mem) (hk : m.ok) (h : m.good) (f p : Int) (e : En) : (m.put f p e).good := by
  unfold Mem.put
  split
  · have := e.word_bd
    exact m.wr_good hk h _ _ this.1 (by omega)
  · exact h
theorem Mem.new_good (B n : Nat) : (memNew B n).good := by
  intro i
  have : (memNew B n).at i = 0 := getD_replicate0 _ _
  rw [this]; omega
theorem Mem.word_wr (m : Mem) (hk : m.ok) (f p g q v : Int) (h : m.slot f p = true) (h' : m.slot g q = true) : (m.wr (f * 16 + p) v).word g q = if g = f ∧ q = p then v else m.word g q := by
  unfold Mem.word
  rw [m.at_wr hk _ _ (m.slot_has f p h)]
  rw [Mem.slot_iff] at h h'
  by_cases e : g = f ∧ q = p
  · rw [if_pos e, e.1, e.2, if_pos rfl]
  · rw [if_neg e, if_neg (by omega)]
/-- what was put is got -/
theorem of_word (e : En) (h : e.ok = true) : ofB e.word = true ∧ enOf e.word = e := by
  have hp : pV e.word = e.v ∧ pR e.word = e.r ∧ pT e.word = e.t ∧ pF e.word = e.f := by
    unfold En.word
    unfold En.ok at h
    obtain ⟨v, r, t, f⟩ := e
    simp only at h ⊢
    cases v
    · obtain ⟨⟨rfl, rfl⟩, rfl⟩ : (r = false ∧ t = false) ∧ f = 0 := by simpa [rightB] using h
      decide
    · rw [wordI_yes h]
      have h' : (0 ≤ f ∧ f ≤ 255) ∧ (r && t) = false := by revert h; cases r <;> cases t <;> simp [rightB]
      obtain ⟨⟨h0, h1⟩, hrt⟩ := h'
      unfold pV pR pT pF
      cases r <;> cases t
      · simp [bI]; omega
      · simp [bI]; omega
      · simp [bI]; omega
      · simp at hrt
  have hb : ofB e.word = true := by
    unfold ofB
    rw [hp.1, hp.2.1, hp.2.2.1, hp.2.2.2]
    unfold En.ok at h
    rw [h]
    simp [En.word]
  refine ⟨hb, ?_⟩
  rw [enOf_yes hb, hp.1, hp.2.1, hp.2.2.1, hp.2.2.2]
theorem Mem.put_getX (m : Mem) (hk : m.ok) (f p : Int) (e : En) (g q : Int) : (m.put f p e).getX g q = if m.putB f p e = true ∧ g = f ∧ q = p then 0 else m.getX g q := by
  unfold Mem.getX
  rw [Mem.put_slot]
  unfold Mem.put
  cases hb : m.putB f p e
  · simp
  · have hs : m.slot f p = true ∧ e.ok = true := by simpa [Mem.putB] using hb
    simp only [if_true, true_and]
    cases hq : m.slot g q
    · have : ¬ (g = f ∧ q = p) := by rintro ⟨rfl, rfl⟩; rw [hs.1] at hq; cases hq
      simp [this]
    · simp only [if_true]
      rw [m.word_wr hk f p g q _ hs.1 hq]
      by_cases e' : g = f ∧ q = p
      · rw [if_pos e', if_pos e', (of_word e hs.2).1]; rfl
      · rw [if_neg e', if_neg e']
theorem Mem.put_getE (m : Mem) (hk : m.ok) (f p : Int) (e : En) (g q : Int) : (m.put f p e).getE g q = if m.putB f p e = true ∧ g = f ∧ q = p then e else m.getE g q := by
  unfold Mem.getE
  rw [Mem.put_slot]
  unfold Mem.put
  cases hb : m.putB f p e
  · simp
  · have hs : m.slot f p = true ∧ e.ok = true := by simpa [Mem.putB] using hb
    simp only [if_true, true_and]
    cases hq : m.slot g q
    · have : ¬ (g = f ∧ q = p) := by rintro ⟨rfl, rfl⟩; rw [hs.1] at hq; cases hq
      simp [this]
    · simp only [if_true]
      rw [m.word_wr hk f p g q _ hs.1 hq]
      by_cases e' : g = f ∧ q = p
      · rw [if_pos e', if_pos e', (of_word e hs.2).2]
      · rw [if_neg e', if_neg e']
/-- the table of fields is not the memory's words -/
theorem Tab.apart {w : World} {A : Nat} {m : Mem} (T : Tab w) (h : MemAt w A m) : ¬ 0 = m.B := by
  intro e
  have h1 := (T 0 (by omega)).1
  have h2 := h.cellB 0 (by have := h.lo; omega)
  rw [← e] at h2
  rw [Nat.zero_mul, h2] at h1
  simp at h1
theorem Tab.keptS {S : Nat → Prop} {w w' : World} (h : Tab w) (u : Upd S w w') (hs : ¬ S 0) : Tab w' := fun p hp => ⟨u.cell (h p hp).1 hs, u.cell (h p hp).2 hs⟩
end Go.Proofs.YtfdnfllefednjaaDoor

/-
  Contracts of package walk: exists, isPlace, addr, Get, Put.
-/
namespace Go.Proofs.YtfdnfllefednjaaDoor
open Go.ChangeShapes Go.WideShapes Go.ChangeAt Go.RowKit

set_option maxHeartbeats 400000 in
theorem wexists_any (A : Nat) (m : Mem) (f : Int) (w : World) (h : MemAt w A m) :
    Calls Tryd.prog 43 #[.pointer (some ⟨A, 0, none⟩), .int .i64 f] w fun e w' => e = .returned (.bool (m.ex f 1)) ∧ w = w' := by
  have hc := Lib.hid (fun W (h : MemAt W A m) => frames_any A m W h)
  by_cases h0 : 0 ≤ f
  · have hv := Lib.hid (show m.ex f 1 = decide (f < m.n) from by unfold Mem.ex; rw [Bool.eq_iff_iff, decide_eq_true_eq, decide_eq_true_eq]; omega)
    go_enter Tryd.func43, Tryd.ntmps43
    go_wp2_with fail
    refine (hc.out _ h).mono ?_
    rintro e w' ⟨rfl, rfl⟩
    go_wp2
    go_ret
    exact ⟨by rw [hv.out]; rfl, rfl⟩
  · have hv := Lib.hid (show m.ex f 1 = false from by unfold Mem.ex; simp; omega)
    go_enter Tryd.func43, Tryd.ntmps43
    go_wp2
    go_ret
    exact ⟨by rw [hv.out]; rfl, rfl⟩
set_option maxHeartbeats 400000 in
theorem wisPlace_any (p : Int) (w : World) : Calls Tryd.prog 44 #[.int .i64 p] w fun e w' => e = .returned (.bool (plB p)) ∧ w = w' := by
  by_cases h0 : 0 ≤ p
  · have hv := Lib.hid (show plB p = decide (p < 16) from by unfold plB; rw [Bool.eq_iff_iff, decide_eq_true_eq, decide_eq_true_eq]; omega)
    go_enter Tryd.func44, Tryd.ntmps44
    go_wp2
    go_ret
    exact ⟨by rw [hv.out]; rfl, rfl⟩
  · have hv := Lib.hid (show plB p = false from by unfold plB; simp; omega)
    go_enter Tryd.func44, Tryd.ntmps44
    go_wp2
    go_ret
    exact ⟨by rw [hv.out]; rfl, rfl⟩
set_option maxHeartbeats 400000 in
theorem waddr_any (f p : Int) (w : World) (h0 : 0 ≤ f) (h1 : f ≤ 255) (h2 : 0 ≤ p) (h3 : p ≤ 15) : Calls Tryd.prog 45 #[.int .i64 f, .int .i64 p] w fun e w' => e = .returned (.int .i64 (f * 16 + p)) ∧ w = w' := by
  go_enter Tryd.func45, Tryd.ntmps45
  go_wp2
  go_ret
  exact ⟨rfl, rfl⟩
/-- a new box for an entry -/
theorem ent_box (w : World) (v r t : Bool) (f : Int) :
    EntAt ((w.alloc (.cells #[.bool false, .bool false, .bool false, .int .i64 0] 34)).setCells w.heap.size 0 [.bool v, .bool r, .bool t, .int .i64 f]) w.heap.size v r t f ∧
    Upd (fun _ => False) w ((w.alloc (.cells #[.bool false, .bool false, .bool false, .int .i64 0] 34)).setCells w.heap.size 0 [.bool v, .bool r, .bool t, .int .i64 f]) ∧
    (w.alloc (.cells #[.bool false, .bool false, .bool false, .int .i64 0] 34)).there w.heap.size 0 4 ∧
    ((w.alloc (.cells #[.bool false, .bool false, .bool false, .int .i64 0] 34)).setCells w.heap.size 0 [.bool v, .bool r, .bool t, .int .i64 f]).heap.size = w.heap.size + 1 := by
  have h0 : EntAt (w.alloc (.cells #[.bool false, .bool false, .bool false, .int .i64 0] 34)) w.heap.size false false false 0 := heap_alloc_last w _
  exact ⟨h0.set v r t f, Upd.setCells (.inr (Nat.le_refl _)) _ _ ((Upd.refl _ _).alloc _), h0.there, by simp [World.setCells, World.setCell]⟩
set_option maxHeartbeats 1000000 in
theorem wget_any (A : Nat) (m : Mem) (f p : Int) (w : World) (h : MemAt w A m) (T : Tab w) (hg : m.good) :
    Calls Tryd.prog 10 #[.pointer (some ⟨A, 0, none⟩), .int .i64 f, .int .i64 p] w fun e w' => e = .returned (.tuple #[(m.getE f p).val, .int .i64 (m.getX f p)]) ∧ Upd (fun _ => False) w w' := by
  have c1 := Lib.hid (fun W (h : MemAt W A m) => wexists_any A m f W h)
  have c2 := Lib.hid (fun W => wisPlace_any p W)
  have k0 : Hid (EntAt (w.alloc (.cells #[.bool false, .bool false, .bool false, .int .i64 0] 34)) w.heap.size false false false 0) := Lib.hid (heap_alloc_last w _)
  cases hs : m.slot f p
  · have hE : Hid (m.getE f p = En.zero) := Lib.hid (by unfold Mem.getE; rw [hs]; rfl)
    have hX : Hid (m.getX f p = 1) := Lib.hid (by unfold Mem.getX; rw [hs]; rfl)
    have hb := Lib.hid hs
    unfold Mem.slot at hb
    clear hs
    cases he : m.ex f 1
    · rw [he] at c1
      clear hb
      go_enter Tryd.func10, Tryd.ntmps10
      go_wp2_with fail
      refine (c1.out _ (h.alloc _)).mono ?_
      rintro e w1 ⟨rfl, rfl⟩
      go_wp2_with (with_reducible refine wpList_store_sz rfl 34 (.tmp 6) (.tmp 20) rfl w.heap.size 0 #[.bool false, .bool false, .bool false, .int .i64 0] rfl rfl 4 (ent_sz _ _ _ _) k0.out.there size_ent (ent_one _ _ _ _) [.bool false, .bool false, .bool false, .int .i64 0] (ent_ls _ _ _ _) ?_)
      (try simp only [Exit.inBlock, Exit.then])
      refine bodyPost_ret (ret_ent rfl _ _ w.heap.size false false false 0 rfl (k0.out.set false false false 0)) rfl ⟨?_, ?_⟩
      · rw [hE.out, hX.out]; rfl
      · exact Upd.setCells (.inr (Nat.le_refl _)) _ _ ((Upd.refl _ _).alloc _)
    · have hb' : plB p = false := by have := hb.out; rw [he] at this; simpa using this
      rw [he] at c1
      rw [hb'] at c2
      clear hb hb'
      go_enter Tryd.func10, Tryd.ntmps10
      go_wp2_with fail
      refine (c1.out _ (h.alloc _)).mono ?_
      rintro e w1 ⟨rfl, rfl⟩
      go_wp2_with fail
      refine (c2.out _).mono ?_
      rintro e w1 ⟨rfl, rfl⟩
      go_wp2_with (with_reducible refine wpList_store_sz rfl 34 (.tmp 6) (.tmp 20) rfl w.heap.size 0 #[.bool false, .bool false, .bool false, .int .i64 0] rfl rfl 4 (ent_sz _ _ _ _) k0.out.there size_ent (ent_one _ _ _ _) [.bool false, .bool false, .bool false, .int .i64 0] (ent_ls _ _ _ _) ?_)
      (try simp only [Exit.inBlock, Exit.then])
      refine bodyPost_ret (ret_ent rfl _ _ w.heap.size false false false 0 rfl (k0.out.set false false false 0)) rfl ⟨?_, ?_⟩
      · rw [hE.out, hX.out]; rfl
      · exact Upd.setCells (.inr (Nat.le_refl _)) _ _ ((Upd.refl _ _).alloc _)
  · have hi := (m.slot_iff f p).1 hs
    have hx : m.ex f 1 = true ∧ plB p = true := by simpa [Mem.slot] using hs
    have hn := h.hi
    rw [hx.1] at c1
    rw [hx.2] at c2
    have c3 := Lib.hid (fun W => waddr_any f p W hi.1.1 (by omega) hi.2.1 hi.2.2)
    have c4 := Lib.hid (fun W (h : MemAt W A m) => read_any A m (f * 16 + p) W h)
    rw [m.slot_rd f p hs, m.slot_has f p hs] at c4
    have hE : Hid (m.getE f p = enOf (m.word f p)) := Lib.hid (by unfold Mem.getE; rw [hs]; rfl)
    have hX : Hid (m.getX f p = if ofB (m.word f p) = true then 0 else 11) := Lib.hid (by unfold Mem.getX; rw [hs]; rfl)
    have c5 : Hid (∀ W, Tab W → Calls Tryd.prog 46 #[.int .u64 (m.word f p)] W fun e w' => e = .returned (.tuple #[(enOf (m.word f p)).val, .int .i64 (errB (ofB (m.word f p)))]) ∧ Upd (fun _ => False) W w') := Lib.hid (fun W (T : Tab W) => eof_any (m.word f p) W T (hg _).1 (hg _).2)
    clear hi hx hn hs hg
    generalize m.word f p = x at c4 c5 hE hX
    obtain ⟨E, hEq⟩ : ∃ E, E = enOf x := ⟨_, rfl⟩
    have hno := Lib.hid (fun hB : ofB x = false => hEq.trans (enOf_no hB))
    rw [← hEq] at c5 hE
    clear hEq
    obtain ⟨v, r, t, g⟩ := E
    cases hB : ofB x
    · obtain ⟨rfl, rfl, rfl, rfl⟩ := En.mk.inj (hno.out hB)
      rw [hB] at c5 hX
      clear hB hno
      go_enter Tryd.func10, Tryd.ntmps10
      go_wp2_with fail
      refine (c1.out _ (h.alloc _)).mono ?_
      rintro e w1 ⟨rfl, rfl⟩
      go_wp2_with fail
      refine (c2.out _).mono ?_
      rintro e w1 ⟨rfl, rfl⟩
      go_wp2_with fail
      refine (c3.out _).mono ?_
      rintro e w1 ⟨rfl, rfl⟩
      go_wp2_with fail
      refine (c4.out _ (h.alloc _)).mono ?_
      rintro e w1 ⟨rfl, rfl⟩
      go_wp2_with fail
      refine (c5.out _ (T.kept ((Upd.refl _ _).alloc _))).mono ?_
      rintro e w1 ⟨rfl, u⟩
      have k1 : Hid (EntAt w1 w.heap.size false false false 0) := Lib.hid (k0.out.kept u id)
      have U := Lib.hid (((Upd.refl (fun _ => False) w).alloc _).trans u)
      clear u k0 c1 c2 c3 c4 c5 T h
      obtain ⟨B, hB⟩ : ∃ B, B = w.heap.size := ⟨_, rfl⟩
      rw [← hB] at k1 ⊢
      have hB' := Lib.hid hB
      clear hB
      obtain ⟨a1, a2, a3, a4⟩ := ent_box w1 false false false 0
      have A1 := Lib.hid a1
      have A2 := Lib.hid a2
      have A3 := Lib.hid a3
      have A4 := Lib.hid (k1.out.kept a2 id)
      clear a1 a2 a3 a4 k1
      go_upto_region 7 with ((with_reducible refine wpList_store_sz rfl 34 (.tmp 10) (.tmp 36) rfl w1.heap.size 0 #[.bool false, .bool false, .bool false, .int .i64 0] rfl rfl 4 (ent_sz _ _ _ _) A3.out size_ent (ent_one _ _ _ _) [.bool false, .bool false, .bool false, .int .i64 0] (ent_ls _ _ _ _) ?_))
      generalize (w1.alloc (.cells #[.bool false, .bool false, .bool false, .int .i64 0] 34)).setCells w1.heap.size 0 [.bool false, .bool false, .bool false, .int .i64 0] = w2 at A1 A2 A4 ⊢
      clear A3
      go_wp2_with (with_reducible refine wpList_store_sz rfl 34 (.tmp 6) (.tmp 40) rfl B 0 #[.bool false, .bool false, .bool false, .int .i64 0] rfl rfl 4 (ent_sz _ _ _ _) A4.out.there size_ent (ent_one _ _ _ _) [.bool false, .bool false, .bool false, .int .i64 0] (ent_ls _ _ _ _) ?_)
      (try simp only [Exit.inBlock, Exit.then])
      refine bodyPost_ret (ret_ent rfl _ _ B false false false 0 rfl (A4.out.set false false false 0)) rfl ⟨?_, ?_⟩
      · rw [hE.out, hX.out]; rfl
      · exact Upd.setCells (.inr (Nat.le_of_eq hB'.out.symm)) _ _ (U.out.trans A2.out)
    · rw [hB] at c5 hX
      clear hB hno
      go_enter Tryd.func10, Tryd.ntmps10
      go_wp2_with fail
      refine (c1.out _ (h.alloc _)).mono ?_
      rintro e w1 ⟨rfl, rfl⟩
      go_wp2_with fail
      refine (c2.out _).mono ?_
      rintro e w1 ⟨rfl, rfl⟩
      go_wp2_with fail
      refine (c3.out _).mono ?_
      rintro e w1 ⟨rfl, rfl⟩
      go_wp2_with fail
      refine (c4.out _ (h.alloc _)).mono ?_
      rintro e w1 ⟨rfl, rfl⟩
      go_wp2_with fail
      refine (c5.out _ (T.kept ((Upd.refl _ _).alloc _))).mono ?_
      rintro e w1 ⟨rfl, u⟩
      have k1 : Hid (EntAt w1 w.heap.size false false false 0) := Lib.hid (k0.out.kept u id)
      have U := Lib.hid (((Upd.refl (fun _ => False) w).alloc _).trans u)
      clear u k0 c1 c2 c3 c4 c5 T h
      obtain ⟨B, hB⟩ : ∃ B, B = w.heap.size := ⟨_, rfl⟩
      rw [← hB] at k1 ⊢
      have hB' := Lib.hid hB
      clear hB
      obtain ⟨a1, a2, a3, a4⟩ := ent_box w1 v r t g
      have A1 := Lib.hid a1
      have A2 := Lib.hid a2
      have A3 := Lib.hid a3
      have A4 := Lib.hid (k1.out.kept a2 id)
      clear a1 a2 a3 a4 k1
      go_upto_region 7 with ((with_reducible refine wpList_store_sz rfl 34 (.tmp 10) (.tmp 36) rfl w1.heap.size 0 #[.bool v, .bool r, .bool t, .int .i64 g] rfl rfl 4 (ent_sz _ _ _ _) A3.out size_ent (ent_one _ _ _ _) [.bool v, .bool r, .bool t, .int .i64 g] (ent_ls _ _ _ _) ?_))
      generalize (w1.alloc (.cells #[.bool false, .bool false, .bool false, .int .i64 0] 34)).setCells w1.heap.size 0 [.bool v, .bool r, .bool t, .int .i64 g] = w2 at A1 A2 A4 ⊢
      generalize w1.heap.size = C at A1 ⊢
      clear A3
      go_wp2_with (first
        | (with_reducible refine wpList_load_sz rfl 34 (.tmp 10) rfl C 0 rfl [.bool v, .bool r, .bool t, .int .i64 g] _ A1.out.range Tryd.underlying34 rfl 4 (ent_len _ _ _ _) size_ent ?_)
        | (with_reducible refine wpList_store_sz rfl 34 (.tmp 6) (.tmp 41) rfl B 0 #[.bool v, .bool r, .bool t, .int .i64 g] rfl rfl 4 (ent_sz _ _ _ _) A4.out.there size_ent (ent_one _ _ _ _) [.bool v, .bool r, .bool t, .int .i64 g] (ent_ls _ _ _ _) ?_))
      (try simp only [Exit.inBlock, Exit.then])
      refine bodyPost_ret (ret_ent rfl _ _ B v r t g rfl (A4.out.set v r t g)) rfl ⟨?_, ?_⟩
      · rw [hE.out, hX.out]; rfl
      · exact Upd.setCells (.inr (Nat.le_of_eq hB'.out.symm)) _ _ (U.out.trans A2.out)
end Go.Proofs.YtfdnfllefednjaaDoor

/-
  Contracts of package walk: Put, Blank.
-/
namespace Go.Proofs.YtfdnfllefednjaaDoor
open Go.ChangeShapes Go.WideShapes Go.ChangeAt Go.RowKit

set_option maxHeartbeats 1000000 in
theorem wput_any (A : Nat) (m : Mem) (f p : Int) (E : En) (w : World) (h : MemAt w A m) (T : Tab w) (hw : (Lit.int .i64 E.f).wf = true) :
    Calls Tryd.prog 17 #[.pointer (some ⟨A, 0, none⟩), .int .i64 f, .int .i64 p, E.val] w fun e w' => e = .returned (.int .i64 (errB (m.putB f p E))) ∧ MemAt w' A (m.put f p E) ∧ Upd (· = m.B) w w' := by
  have c0 := Lib.hid (fun W (T : Tab W) => eword_any E.v E.r E.t E.f W T hw)
  have c1 := Lib.hid (fun W (h : MemAt W A m) => wexists_any A m f W h)
  have c2 := Lib.hid (fun W => wisPlace_any p W)
  have hP : Hid (m.put f p E = if m.putB f p E = true then m.wr (f * 16 + p) (wordI E.v E.r E.t E.f) else m) := Lib.hid rfl
  have hQ : Hid (m.putB f p E = (m.ex f 1 && plB p && rightB E.v E.r E.t E.f)) := Lib.hid rfl
  unfold wordE at c0
  clear hw
  obtain ⟨v, r, t, g⟩ := E
  simp only at c0 hP hQ
  generalize wordI v r t g = x at c0 hP
  cases hr : rightB v r t g
  · rw [hr, Bool.and_false] at hQ
    rw [hQ.out] at hP
    rw [hr] at c0
    rw [hQ.out]
    clear hQ hr c1 c2
    go_enter Tryd.func17, Tryd.ntmps17
    go_wp2_with fail
    refine (c0.out _ (T.kept ((Upd.refl _ _).alloc _))).mono ?_
    rintro e w1 ⟨rfl, u⟩
    have U := Lib.hid (((Upd.refl (fun _ => False) w).alloc _).trans u)
    clear u
    rw [show errB false = 1 from rfl]
    go_wp2
    go_ret
    exact ⟨rfl, by rw [hP.out]; exact h.kept U.out id id, U.out.none⟩
  · rw [hr, Bool.and_true] at hQ
    rw [hr] at c0
    clear hr
    cases he : m.ex f 1
    · rw [he, Bool.false_and] at hQ
      rw [hQ.out] at hP
      rw [he] at c1
      rw [hQ.out]
      clear hQ he c2
      go_enter Tryd.func17, Tryd.ntmps17
      go_wp2_with fail
      refine (c0.out _ (T.kept ((Upd.refl _ _).alloc _))).mono ?_
      rintro e w1 ⟨rfl, u⟩
      have U := Lib.hid (((Upd.refl (fun _ => False) w).alloc _).trans u)
      clear u
      rw [show errB true = 0 from rfl]
      go_wp2_with fail
      refine (c1.out _ (h.kept U.out id id)).mono ?_
      rintro e w2 ⟨rfl, rfl⟩
      go_wp2
      go_ret
      exact ⟨rfl, by rw [hP.out]; exact h.kept U.out id id, U.out.none⟩
    · rw [he, Bool.true_and] at hQ
      rw [he] at c1
      cases hp : plB p
      · rw [hp] at hQ c2
        rw [hQ.out] at hP
        rw [hQ.out]
        clear hQ he hp
        go_enter Tryd.func17, Tryd.ntmps17
        go_wp2_with fail
        refine (c0.out _ (T.kept ((Upd.refl _ _).alloc _))).mono ?_
        rintro e w1 ⟨rfl, u⟩
        have U := Lib.hid (((Upd.refl (fun _ => False) w).alloc _).trans u)
        clear u
        rw [show errB true = 0 from rfl]
        go_wp2_with fail
        refine (c1.out _ (h.kept U.out id id)).mono ?_
        rintro e w2 ⟨rfl, rfl⟩
        go_wp2_with fail
        refine (c2.out _).mono ?_
        rintro e w2 ⟨rfl, rfl⟩
        go_wp2
        go_ret
        exact ⟨rfl, by rw [hP.out]; exact h.kept U.out id id, U.out.none⟩
      · rw [hp] at hQ c2
        rw [hQ.out] at hP
        rw [hQ.out]
        have hs : m.slot f p = true := by unfold Mem.slot; rw [he, hp]; rfl
        have hi := (m.slot_iff f p).1 hs
        have hn := h.hi
        have c3 := Lib.hid (fun W => waddr_any f p W hi.1.1 (by omega) hi.2.1 hi.2.2)
        have c4 := Lib.hid (fun W (h : MemAt W A m) => write_any A m (f * 16 + p) x W h)
        rw [m.slot_has f p hs] at c4
        clear hQ he hp hi hn hs
        go_enter Tryd.func17, Tryd.ntmps17
        go_wp2_with fail
        refine (c0.out _ (T.kept ((Upd.refl _ _).alloc _))).mono ?_
        rintro e w1 ⟨rfl, u⟩
        have U := Lib.hid (((Upd.refl (fun _ => False) w).alloc _).trans u)
        clear u
        rw [show errB true = 0 from rfl]
        go_wp2_with fail
        refine (c1.out _ (h.kept U.out id id)).mono ?_
        rintro e w2 ⟨rfl, rfl⟩
        go_wp2_with fail
        refine (c2.out _).mono ?_
        rintro e w2 ⟨rfl, rfl⟩
        go_wp2_with fail
        refine (c3.out _).mono ?_
        rintro e w2 ⟨rfl, rfl⟩
        go_wp2_with fail
        refine (c4.out _ (h.kept U.out id id)).mono ?_
        rintro e w2 ⟨rfl, h2, u2⟩
        go_wp2
        go_ret
        exact ⟨rfl, by rw [hP.out]; exact h2, U.out.none.trans u2⟩

/-- a word is nought just if it is that of an entry that is not valid -/
theorem nought_iff (x : Int) (h0 : 0 ≤ x) : (ofB x = true ∧ ofV x = false) ↔ x = 0 := by
  constructor
  · rintro ⟨h1, h2⟩
    unfold ofV at h2
    rw [h1, Bool.true_and] at h2
    unfold ofB at h1
    rw [h2] at h1
    simp only [Bool.and_eq_true, decide_eq_true_eq] at h1
    obtain ⟨h3, h4⟩ := h1
    unfold wordI at h4
    rw [if_pos h3] at h4
    simpa using h4.symm
  · rintro rfl
    decide
/-- are the first k words of a frame noughts? -/
def Mem.blankTo (m : Mem) (f : Int) (k : Nat) : Prop := ∀ i : Nat, i < k → m.word f i = 0
theorem Mem.zero_blank (m : Mem) (hk : m.ok) (f : Int) (hf : m.ex f 1 = true) (h : m.blankTo f 16) : m.zero f = true := by
  refine m.zero_of hk f hf fun i hi => ?_
  have := h i hi
  unfold Mem.word at this
  obtain ⟨a1, a2, a3⟩ := of_decide_eq_true hf
  rwa [show (f * 16 + (i : Int)).toNat = f.toNat * 16 + i from by omega] at this
theorem Mem.zero_not (m : Mem) (f : Int) (i : Nat) (hi : i < 16) (hf : m.ex f 1 = true) (h : m.word f i ≠ 0) : m.zero f = false := by
  obtain ⟨a1, a2, a3⟩ := of_decide_eq_true hf
  unfold Mem.zero
  rw [hf, Bool.true_and, decide_eq_false_iff_not]
  intro e
  apply h
  unfold Mem.word
  rw [show (f * 16 + (i : Int)).toNat = f.toNat * 16 + i from by omega, ← m.fr_getD f.toNat i hi, e]
  exact getD_replicate0 16 i
theorem Mem.zero_none (m : Mem) (f : Int) (h : m.ex f 1 = false) : m.zero f = false := by unfold Mem.zero; rw [h]; rfl
theorem getX_zero {m : Mem} {f p : Int} (h : m.getX f p = 0) : m.slot f p = true ∧ ofB (m.word f p) = true := by
  unfold Mem.getX at h
  cases hs : m.slot f p
  · rw [hs] at h; simp at h
  · rw [hs] at h
    refine ⟨rfl, ?_⟩
    cases hb : ofB (m.word f p)
    · rw [hb] at h; simp at h
    · rfl
theorem getE_v {m : Mem} {f p : Int} (h : m.slot f p = true) : (m.getE f p).v = ofV (m.word f p) := by unfold Mem.getE; rw [if_pos h]; rfl
/-- what Blank asks of a place -/
theorem blank_at {m : Mem} (hg : m.good) (f : Int) (k : Nat) (hk : k < 16) : (m.getX f k = 0 ∧ (m.getE f k).v = false) ↔ (m.ex f 1 = true ∧ m.word f k = 0) := by
  have hp : plB k = true := decide_eq_true (by omega)
  constructor
  · rintro ⟨h1, h2⟩
    obtain ⟨h3, h4⟩ := getX_zero h1
    rw [getE_v h3] at h2
    refine ⟨?_, (nought_iff _ (hg _).1).1 ⟨h4, h2⟩⟩
    unfold Mem.slot at h3
    rw [hp, Bool.and_true] at h3
    exact h3
  · rintro ⟨h1, h2⟩
    have hs : m.slot f k = true := by unfold Mem.slot; rw [h1, hp]; rfl
    have := (nought_iff _ (hg (f * 16 + k).toNat).1).2 h2
    refine ⟨?_, by rw [getE_v hs]; exact this.2⟩
    unfold Mem.getX
    rw [if_pos hs]
    exact if_pos this.1
set_option maxHeartbeats 1000000 in
theorem wblank_any (A : Nat) (m : Mem) (f : Int) (w : World) (h : MemAt w A m) (T : Tab w) (hg : m.good) :
    Calls Tryd.prog 70 #[.pointer (some ⟨A, 0, none⟩), .int .i64 f] w fun e w' => e = .returned (.bool (m.zero f)) ∧ Upd (fun _ => False) w w' := by
  have c := Lib.hid (fun p W (h : MemAt W A m) (T : Tab W) => wget_any A m f p W h T hg)
  have hok := Lib.hid h.okm
  have hg' := Lib.hid hg
  clear hg
  go_enter Tryd.func70, Tryd.ntmps70
  go_wp2
  go_loopw [8] (fun t wr => ∃ k : Nat, k ≤ 16 ∧ t = .int .i64 k ∧ Upd (fun _ => False) w wr ∧ Hid (m.blankTo f k ∧ (0 < k → m.ex f 1 = true))) (fun t _ => 16 - (intOf t).toNat)
  case atStart => exact ⟨0, by omega, rfl, Upd.refl _ _, Lib.hid ⟨fun i hi => absurd hi (by omega), fun h => absurd h (by omega)⟩⟩
  case round =>
    obtain ⟨k, hk, rfl, hU, hb⟩ := hrel
    by_cases hlt : k < 16
    · have hb1 := Lib.hid (blank_at hg'.out f k hlt)
      have hM := h.kept hU id id
      have hT := T.kept hU
      have ck := Lib.hid (c.out k wr hM hT)
      obtain ⟨E, hE⟩ : ∃ E, E = m.getE f k := ⟨_, rfl⟩
      obtain ⟨x, hx⟩ : ∃ x, x = m.getX f k := ⟨_, rfl⟩
      rw [← hE, ← hx] at ck hb1
      clear hM hT hE hx
      obtain ⟨v, r, t, g⟩ := E
      go_wp2_with fail
      refine ck.out.mono ?_
      rintro e w1 ⟨rfl, u⟩
      have U := hU.trans u
      clear u hU ck c
      obtain ⟨a1, a2, a3, a4⟩ := ent_box w1 v r t g
      have A3 := Lib.hid a3
      have U2 := U.trans a2
      have b0 := a1.range 0 _ rfl
      clear a1 a2 a3 a4 U
      go_upto_region 5 with ((with_reducible refine wpList_store_sz rfl 34 (.tmp 6) (.tmp 16) rfl w1.heap.size 0 #[.bool v, .bool r, .bool t, .int .i64 g] rfl rfl 4 (ent_sz _ _ _ _) A3.out size_ent (ent_one _ _ _ _) [.bool v, .bool r, .bool t, .int .i64 g] (ent_ls _ _ _ _) ?_))
      generalize (w1.alloc (.cells #[.bool false, .bool false, .bool false, .int .i64 0] 34)).setCells w1.heap.size 0 [.bool v, .bool r, .bool t, .int .i64 g] = w2 at b0 U2 ⊢
      generalize w1.heap.size = C at b0 ⊢
      clear A3
      by_cases hx0 : x = 0
      · cases v
        · have hb2 := Lib.hid (hb1.out.1 ⟨hx0, rfl⟩)
          clear hb1
          subst hx0
          go_wp2
          refine ⟨⟨k + 1, by omega, by go_num, U2, Lib.hid ⟨fun i hi => ?_, fun _ => hb2.out.1⟩⟩, by simp [intOf]; omega⟩
          by_cases e : i = k
          · subst e; exact hb2.out.2
          · exact hb.out.1 i (by omega)
        · have hz : Hid (m.zero f = false) := Lib.hid (by
            cases hf : m.ex f 1
            · exact m.zero_none f hf
            · refine m.zero_not f k hlt hf fun e => ?_
              have := (hb1.out.2 ⟨hf, e⟩).2
              cases this)
          clear hb1 hb
          subst hx0
          go_wp2
          go_ret
          exact ⟨by rw [hz.out]; rfl, U2⟩
      · have hz : Hid (m.zero f = false) := Lib.hid (by
          cases hf : m.ex f 1
          · exact m.zero_none f hf
          · refine m.zero_not f k hlt hf fun e => ?_
            exact hx0 (hb1.out.2 ⟨hf, e⟩).1)
        clear hb1 hb
        go_wp2
        go_ret
        exact ⟨by rw [hz.out]; rfl, U2⟩
    · obtain rfl : k = 16 := by omega
      have hz := Lib.hid (m.zero_blank hok.out f (hb.out.2 (by omega)) hb.out.1)
      clear hb
      go_wp2
      go_ret
      exact ⟨by rw [hz.out]; rfl, hU⟩
end Go.Proofs.YtfdnfllefednjaaDoor
