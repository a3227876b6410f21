/-
  Contracts of package entry: Of.
-/
import Derived.Test.YtbakhipabeaojaaDoorEnC
import Derived.Laws.ResultCell
namespace Go.Proofs.YtbakhipabeaojaaDoor
open Go.ChangeShapes Go.WideShapes Go.ChangeAt Go.RowKit

set_option maxHeartbeats 1000000 in
theorem eof_any (x : Int) (w : World) (T : Tab w) (h0 : 0 ≤ x) (h1 : x < 18446744073709551616) :
    Calls Tryd.prog 31 #[.int .u64 x] w fun e w' => e = .returned (.tuple #[entV (ofV x) (ofR x) (ofT x) (ofF x), .int .i64 (errB (ofB x))]) ∧ Upd (fun _ => False) w w' := by
  have c0 := Lib.hid (fun W (T : Tab W) => eget_any x 0 W T (by omega) h0 h1)
  have c1 := Lib.hid (fun W (T : Tab W) => eget_any x 1 W T (by omega) h0 h1)
  have c2 := Lib.hid (fun W (T : Tab W) => eget_any x 2 W T (by omega) h0 h1)
  have c3 := Lib.hid (fun W (T : Tab W) => eget_any x 3 W T (by omega) h0 h1)
  obtain ⟨a0, e0⟩ : ∃ a, a = getP x 0 := ⟨_, rfl⟩
  obtain ⟨a1, e1⟩ : ∃ a, a = getP x 1 := ⟨_, rfl⟩
  obtain ⟨a2, e2⟩ : ∃ a, a = getP x 2 := ⟨_, rfl⟩
  obtain ⟨a3, e3⟩ : ∃ a, a = getP x 3 := ⟨_, rfl⟩
  rw [← e0] at c0
  rw [← e1] at c1
  rw [← e2] at c2
  rw [← e3] at c3
  have q0 := Lib.hid (show (a0 == 1) = pV x by rw [e0, getP0 x h0, Bool.eq_iff_iff]; simp [pV])
  have q1 := Lib.hid (show (a1 == 1) = pR x by rw [e1, getP1 x h0, Bool.eq_iff_iff]; simp [pR])
  have q2 := Lib.hid (show (a2 == 1) = pT x by rw [e2, getP2 x h0, Bool.eq_iff_iff]; simp [pT])
  rw [getP3 x h0] at e3
  have q3 := Lib.hid (show a3 = pF x from e3)
  have b3 : 0 ≤ a3 := by omega
  have b4 : a3 ≤ 255 := by omega
  have hwf : (Lit.int .i64 a3).wf = true := mk_i64 (by omega) (by omega)
  have hW := Lib.hid (fun W (T : Tab W) => eword_any (pV x) (pR x) (pT x) a3 W T hwf)
  have hR := Lib.hid (show ofB x = (rightB (pV x) (pR x) (pT x) a3 && decide (wordI (pV x) (pR x) (pT x) a3 = x)) from by rw [q3.out]; rfl)
  have hF := Lib.hid (show ofF x = if ofB x = true then a3 else 0 from by rw [q3.out]; rfl)
  obtain ⟨v, ev⟩ : ∃ v, v = pV x := ⟨_, rfl⟩
  obtain ⟨r, er⟩ : ∃ r, r = pR x := ⟨_, rfl⟩
  obtain ⟨t, et⟩ : ∃ t, t = pT x := ⟨_, rfl⟩
  have hV := Lib.hid (show ofV x = (ofB x && v) from by rw [ev]; rfl)
  have hRr := Lib.hid (show ofR x = (ofB x && r) from by rw [er]; rfl)
  have hT := Lib.hid (show ofT x = (ofB x && t) from by rw [et]; rfl)
  rw [← ev] at q0 hW hR
  rw [← er] at q1 hW hR
  rw [← et] at q2 hW hR
  clear e0 e1 e2 e3 h1 q3 hwf ev er et h0
  cases hr : rightB v r t a3
  · rw [hr, Bool.false_and] at hR
    have hr' : wordE v r t a3 = 1 := by unfold wordE; rw [hr]; rfl
    rw [hr'] at hW
    clear hr hr'
    go_enter Tryd.func31, Tryd.ntmps31
    go_wp2_with fail
    refine (c0.out _ (T.kept ((Upd.refl _ _).alloc _))).mono ?_
    rintro e w1 ⟨rfl, n1, rfl⟩
    go_wp2_with fail
    refine (c1.out _ (T.kept (((Upd.refl _ _).alloc _).drewN _))).mono ?_
    rintro e w1 ⟨rfl, n2, rfl⟩
    go_wp2_with fail
    refine (c2.out _ (T.kept (((Upd.refl _ _).alloc _).drewN _))).mono ?_
    rintro e w1 ⟨rfl, n3, rfl⟩
    go_wp2_with fail
    refine (c3.out _ (T.kept (((Upd.refl _ _).alloc _).drewN _))).mono ?_
    rintro e w1 ⟨rfl, n4, rfl⟩
    go_wp2_with fail
    rw [q0.out, q1.out, q2.out]
    refine (hW.out _ (T.kept ((((Upd.refl _ _).alloc _).drewN _).alloc _))).mono ?_
    rintro e w1 ⟨rfl, u⟩
    have k0 : Hid (EntAt w1 w.heap.size false false false 0) := Lib.hid (u.at (two_blocks ..).1 id)
    have k1 : Hid (EntAt w1 (w.heap.size + 1) v r t a3) := Lib.hid (u.at (two_blocks ..).2 id)
    have U := Lib.hid (((((Upd.refl (fun _ => False) w).alloc _).drewN _).alloc _).trans u)
    clear u
    obtain ⟨B, hB⟩ : ∃ B, B = w.heap.size := ⟨_, rfl⟩
    rw [← hB] at k0 k1 ⊢
    have hB' := Lib.hid hB
    clear hB
    go_wp2_with (with_reducible refine wpList_store_sz rfl 35 (.tmp 2) (.tmp 32) rfl B 0 #[.bool false, .bool false, .bool false, .int .i64 0] rfl rfl 4 (ent_sz _ _ _ _) k0.out.there size_ent (ent_one _ _ _ _) [.bool false, .bool false, .bool false, .int .i64 0] (ent_ls _ _ _ _) ?_)
    (try simp only [Exit.inBlock, Exit.then])
    refine bodyPost_ret (ret_ent rfl _ _ B false false false 0 rfl (k0.out.set false false false 0)) rfl ⟨?_, ?_⟩
    · rw [hV.out, hRr.out, hT.out, hF.out, hR.out]; rfl
    · exact Upd.setCells (.inr (Nat.le_of_eq hB'.out.symm)) _ _ U.out
  · rw [hr, Bool.true_and] at hR
    have hr' : wordE v r t a3 = 0 := by unfold wordE; rw [hr]; rfl
    rw [hr'] at hW
    clear hr hr'
    obtain ⟨y, ey⟩ : ∃ y, y = wordI v r t a3 := ⟨_, rfl⟩
    rw [← ey] at hW hR
    clear ey
    by_cases hxy : y = x
    · rw [decide_eq_true hxy] at hR
      subst hxy
      go_enter Tryd.func31, Tryd.ntmps31
      go_wp2_with fail
      refine (c0.out _ (T.kept ((Upd.refl _ _).alloc _))).mono ?_
      rintro e w1 ⟨rfl, n1, rfl⟩
      go_wp2_with fail
      refine (c1.out _ (T.kept (((Upd.refl _ _).alloc _).drewN _))).mono ?_
      rintro e w1 ⟨rfl, n2, rfl⟩
      go_wp2_with fail
      refine (c2.out _ (T.kept (((Upd.refl _ _).alloc _).drewN _))).mono ?_
      rintro e w1 ⟨rfl, n3, rfl⟩
      go_wp2_with fail
      refine (c3.out _ (T.kept (((Upd.refl _ _).alloc _).drewN _))).mono ?_
      rintro e w1 ⟨rfl, n4, rfl⟩
      go_wp2_with fail
      rw [q0.out, q1.out, q2.out]
      refine (hW.out _ (T.kept ((((Upd.refl _ _).alloc _).drewN _).alloc _))).mono ?_
      rintro e w1 ⟨rfl, u⟩
      have k0 : Hid (EntAt w1 w.heap.size false false false 0) := Lib.hid (u.at (two_blocks ..).1 id)
      have k1 : Hid (EntAt w1 (w.heap.size + 1) v r t a3) := Lib.hid (u.at (two_blocks ..).2 id)
      have U := Lib.hid (((((Upd.refl (fun _ => False) w).alloc _).drewN _).alloc _).trans u)
      clear u
      obtain ⟨B, hB⟩ : ∃ B, B = w.heap.size := ⟨_, rfl⟩
      rw [← hB] at k0 k1 ⊢
      have hB' := Lib.hid hB
      clear hB
      go_wp2_with (first
        | (with_reducible refine wpList_load_sz rfl 35 (.tmp 4) rfl (B + 1) 0 rfl [.bool v, .bool r, .bool t, .int .i64 a3] _ k1.out.range Tryd.underlying35 rfl 4 (ent_len _ _ _ _) size_ent ?_)
        | (with_reducible refine wpList_store_sz rfl 35 (.tmp 2) (.tmp 33) rfl B 0 #[.bool v, .bool r, .bool t, .int .i64 a3] rfl rfl 4 (ent_sz _ _ _ _) k0.out.there size_ent (ent_one _ _ _ _) [.bool v, .bool r, .bool t, .int .i64 a3] (ent_ls _ _ _ _) ?_))
      (try simp only [Exit.inBlock, Exit.then])
      refine bodyPost_ret (ret_ent rfl _ _ B v r t a3 rfl (k0.out.set v r t a3)) rfl ⟨?_, ?_⟩
      · rw [hV.out, hRr.out, hT.out, hF.out, hR.out]; rfl
      · exact Upd.setCells (.inr (Nat.le_of_eq hB'.out.symm)) _ _ U.out
    · rw [decide_eq_false hxy] at hR
      go_enter Tryd.func31, Tryd.ntmps31
      go_wp2_with fail
      refine (c0.out _ (T.kept ((Upd.refl _ _).alloc _))).mono ?_
      rintro e w1 ⟨rfl, n1, rfl⟩
      go_wp2_with fail
      refine (c1.out _ (T.kept (((Upd.refl _ _).alloc _).drewN _))).mono ?_
      rintro e w1 ⟨rfl, n2, rfl⟩
      go_wp2_with fail
      refine (c2.out _ (T.kept (((Upd.refl _ _).alloc _).drewN _))).mono ?_
      rintro e w1 ⟨rfl, n3, rfl⟩
      go_wp2_with fail
      refine (c3.out _ (T.kept (((Upd.refl _ _).alloc _).drewN _))).mono ?_
      rintro e w1 ⟨rfl, n4, rfl⟩
      go_wp2_with fail
      rw [q0.out, q1.out, q2.out]
      refine (hW.out _ (T.kept ((((Upd.refl _ _).alloc _).drewN _).alloc _))).mono ?_
      rintro e w1 ⟨rfl, u⟩
      have k0 : Hid (EntAt w1 w.heap.size false false false 0) := Lib.hid (u.at (two_blocks ..).1 id)
      have k1 : Hid (EntAt w1 (w.heap.size + 1) v r t a3) := Lib.hid (u.at (two_blocks ..).2 id)
      have U := Lib.hid (((((Upd.refl (fun _ => False) w).alloc _).drewN _).alloc _).trans u)
      clear u
      obtain ⟨B, hB⟩ : ∃ B, B = w.heap.size := ⟨_, rfl⟩
      rw [← hB] at k0 k1 ⊢
      have hB' := Lib.hid hB
      clear hB
      go_wp2_with (with_reducible refine wpList_store_sz rfl 35 (.tmp 2) (.tmp 32) rfl B 0 #[.bool false, .bool false, .bool false, .int .i64 0] rfl rfl 4 (ent_sz _ _ _ _) k0.out.there size_ent (ent_one _ _ _ _) [.bool false, .bool false, .bool false, .int .i64 0] (ent_ls _ _ _ _) ?_)
      (try simp only [Exit.inBlock, Exit.then])
      refine bodyPost_ret (ret_ent rfl _ _ B false false false 0 rfl (k0.out.set false false false 0)) rfl ⟨?_, ?_⟩
      · rw [hV.out, hRr.out, hT.out, hF.out, hR.out]; rfl
      · exact Upd.setCells (.inr (Nat.le_of_eq hB'.out.symm)) _ _ U.out
end Go.Proofs.YtbakhipabeaojaaDoor
