/-
  Contracts of the document's own answers for entry: Of, Page.
-/
import Derived.Test.YtbakhipabeaojaaDoorEnR
namespace Go.Proofs.YtbakhipabeaojaaDoor
open Go.ChangeShapes Go.WideShapes Go.ChangeAt Go.RowKit

theorem quo_rem (x d m : Int) (h0 : 0 ≤ x) (h1 : x < 18446744073709551616) (hd : 0 < d) : (IntKind.u64.wrap (x.tdiv d)).tmod m = x / d % m := by
  have e1 : x.tdiv d = x / d := Int.tdiv_eq_ediv_of_nonneg h0
  have b1 : 0 ≤ x / d := Int.ediv_nonneg h0 (by omega)
  have b2 : x / d ≤ x := Int.ediv_le_self d h0
  have e2 : IntKind.u64.wrap (x / d) = x / d := by rw [IntKind.wrap_u64]; omega
  rw [e1, e2]
  exact Int.tmod_eq_emod_of_nonneg b1
set_option maxHeartbeats 1000000 in
theorem rof_any (x : Int) (w : World) (h0 : 0 ≤ x) (h1 : x < 18446744073709551616) :
    Calls Tryd.prog 32 #[.int .u64 x] w fun e w' => e = .returned (.tuple #[entV (ofV x) (ofR x) (ofT x) (ofF x), .int .i64 (errB (ofB x))]) ∧ Upd (fun _ => False) w w' := by
  have q0 := Lib.hid (show (x % 2 == 1) = pV x by rw [Bool.eq_iff_iff]; simp [pV])
  have q1 := Lib.hid (show ((IntKind.u64.wrap (x.tdiv 2)).tmod 2 == 1) = pR x by rw [quo_rem x 2 2 h0 h1 (by omega), Bool.eq_iff_iff]; simp [pR])
  have q2 := Lib.hid (show ((IntKind.u64.wrap (x.tdiv 4)).tmod 2 == 1) = pT x by rw [quo_rem x 4 2 h0 h1 (by omega), Bool.eq_iff_iff]; simp [pT])
  have q3 := Lib.hid (show wrap64 ((IntKind.u64.wrap (x.tdiv 256)).tmod 256) = pF x by rw [quo_rem x 256 256 h0 h1 (by omega)]; unfold pF; exact IntWalk.wrap64_in _ (by omega))
  have hW := Lib.hid (fun W => rword_any (pV x) (pR x) (pT x) (pF x) W)
  have hR := Lib.hid (show ofB x = (rightB (pV x) (pR x) (pT x) (pF x) && decide (wordI (pV x) (pR x) (pT x) (pF x) = x)) from rfl)
  have hF := Lib.hid (show ofF x = if ofB x = true then pF x else 0 from rfl)
  obtain ⟨v, ev⟩ : ∃ v, v = pV x := ⟨_, rfl⟩
  obtain ⟨r, er⟩ : ∃ r, r = pR x := ⟨_, rfl⟩
  obtain ⟨t, et⟩ : ∃ t, t = pT x := ⟨_, rfl⟩
  obtain ⟨a3, ea⟩ : ∃ a, a = pF x := ⟨_, rfl⟩
  have hV := Lib.hid (show ofV x = (ofB x && v) from by rw [ev]; rfl)
  have hRr := Lib.hid (show ofR x = (ofB x && r) from by rw [er]; rfl)
  have hT := Lib.hid (show ofT x = (ofB x && t) from by rw [et]; rfl)
  rw [← ev] at q0 hW hR
  rw [← er] at q1 hW hR
  rw [← et] at q2 hW hR
  rw [← ea] at q3 hW hR hF
  clear h1 ev er et ea
  cases hr : rightB v r t a3
  · rw [hr, Bool.false_and] at hR
    have hr' : wordE v r t a3 = 1 := by unfold wordE; rw [hr]; rfl
    rw [hr'] at hW
    clear hr hr'
    go_enter Tryd.func32, Tryd.ntmps32
    go_wp2_with fail
    rw [q0.out, q1.out, q2.out, q3.out]
    refine (hW.out _).mono ?_
    rintro e w1 ⟨rfl, u⟩
    have k0 : Hid (EntAt w1 w.heap.size false false false 0) := Lib.hid (u.at (two_blocks w 0 _ _).1 id)
    have k1 : Hid (EntAt w1 (w.heap.size + 1) v r t a3) := Lib.hid (u.at (two_blocks w 0 _ _).2 id)
    have U := Lib.hid ((((Upd.refl (fun _ => False) w).alloc _).alloc _).trans u)
    clear u
    obtain ⟨B, hB⟩ : ∃ B, B = w.heap.size := ⟨_, rfl⟩
    rw [← hB] at k0 k1 ⊢
    have hB' := Lib.hid hB
    clear hB
    go_wp2_with (with_reducible refine wpList_store_sz rfl 35 (.tmp 2) (.tmp 35) rfl B 0 #[.bool false, .bool false, .bool false, .int .i64 0] rfl rfl 4 (ent_sz _ _ _ _) k0.out.there size_ent (ent_one _ _ _ _) [.bool false, .bool false, .bool false, .int .i64 0] (ent_ls _ _ _ _) ?_)
    (try simp only [Exit.inBlock, Exit.then])
    refine bodyPost_ret (ret_ent rfl _ _ B false false false 0 rfl (k0.out.set false false false 0)) rfl ⟨?_, ?_⟩
    · rw [hV.out, hRr.out, hT.out, hF.out, hR.out]; rfl
    · exact Upd.setCells (.inr (Nat.le_of_eq hB'.out.symm)) _ _ U.out
  · rw [hr, Bool.true_and] at hR
    have hr' : wordE v r t a3 = 0 := by unfold wordE; rw [hr]; rfl
    rw [hr'] at hW
    clear hr hr'
    obtain ⟨y, ey⟩ : ∃ y, y = wordI v r t a3 := ⟨_, rfl⟩
    rw [← ey] at hW hR
    clear ey
    by_cases hxy : y = x
    · rw [decide_eq_true hxy] at hR
      subst hxy
      go_enter Tryd.func32, Tryd.ntmps32
      go_wp2_with fail
      rw [q0.out, q1.out, q2.out, q3.out]
      refine (hW.out _).mono ?_
      rintro e w1 ⟨rfl, u⟩
      have k0 : Hid (EntAt w1 w.heap.size false false false 0) := Lib.hid (u.at (two_blocks w 0 _ _).1 id)
      have k1 : Hid (EntAt w1 (w.heap.size + 1) v r t a3) := Lib.hid (u.at (two_blocks w 0 _ _).2 id)
      have U := Lib.hid ((((Upd.refl (fun _ => False) w).alloc _).alloc _).trans u)
      clear u
      obtain ⟨B, hB⟩ : ∃ B, B = w.heap.size := ⟨_, rfl⟩
      rw [← hB] at k0 k1 ⊢
      have hB' := Lib.hid hB
      clear hB
      go_wp2_with (first
        | (with_reducible refine wpList_load_sz rfl 35 (.tmp 4) rfl (B + 1) 0 rfl [.bool v, .bool r, .bool t, .int .i64 a3] _ k1.out.range Tryd.underlying35 rfl 4 (ent_len _ _ _ _) size_ent ?_)
        | (with_reducible refine wpList_store_sz rfl 35 (.tmp 2) (.tmp 36) rfl B 0 #[.bool v, .bool r, .bool t, .int .i64 a3] rfl rfl 4 (ent_sz _ _ _ _) k0.out.there size_ent (ent_one _ _ _ _) [.bool v, .bool r, .bool t, .int .i64 a3] (ent_ls _ _ _ _) ?_))
      (try simp only [Exit.inBlock, Exit.then])
      refine bodyPost_ret (ret_ent rfl _ _ B v r t a3 rfl (k0.out.set v r t a3)) rfl ⟨?_, ?_⟩
      · rw [hV.out, hRr.out, hT.out, hF.out, hR.out]; rfl
      · exact Upd.setCells (.inr (Nat.le_of_eq hB'.out.symm)) _ _ U.out
    · rw [decide_eq_false hxy] at hR
      go_enter Tryd.func32, Tryd.ntmps32
      go_wp2_with fail
      rw [q0.out, q1.out, q2.out, q3.out]
      refine (hW.out _).mono ?_
      rintro e w1 ⟨rfl, u⟩
      have k0 : Hid (EntAt w1 w.heap.size false false false 0) := Lib.hid (u.at (two_blocks w 0 _ _).1 id)
      have k1 : Hid (EntAt w1 (w.heap.size + 1) v r t a3) := Lib.hid (u.at (two_blocks w 0 _ _).2 id)
      have U := Lib.hid ((((Upd.refl (fun _ => False) w).alloc _).alloc _).trans u)
      clear u
      obtain ⟨B, hB⟩ : ∃ B, B = w.heap.size := ⟨_, rfl⟩
      rw [← hB] at k0 k1 ⊢
      have hB' := Lib.hid hB
      clear hB
      go_wp2_with (with_reducible refine wpList_store_sz rfl 35 (.tmp 2) (.tmp 35) rfl B 0 #[.bool false, .bool false, .bool false, .int .i64 0] rfl rfl 4 (ent_sz _ _ _ _) k0.out.there size_ent (ent_one _ _ _ _) [.bool false, .bool false, .bool false, .int .i64 0] (ent_ls _ _ _ _) ?_)
      (try simp only [Exit.inBlock, Exit.then])
      refine bodyPost_ret (ret_ent rfl _ _ B false false false 0 rfl (k0.out.set false false false 0)) rfl ⟨?_, ?_⟩
      · rw [hV.out, hRr.out, hT.out, hF.out, hR.out]; rfl
      · exact Upd.setCells (.inr (Nat.le_of_eq hB'.out.symm)) _ _ U.out

end Go.Proofs.YtbakhipabeaojaaDoor
