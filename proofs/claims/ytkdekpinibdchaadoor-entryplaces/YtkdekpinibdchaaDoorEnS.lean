/-
  Contracts of the document's own answers for entry: Of, Page.
-/
import Derived.Test.YtkdekpinibdchaaDoorEnR
namespace Go.Proofs.YtkdekpinibdchaaDoor
open Go.ChangeShapes Go.WideShapes Go.ChangeAt Go.RowKit

theorem quo_rem (x d m : Int) (h0 : 0 ≤ x) (h1 : x < 18446744073709551616) (hd : 0 < d) : (IntKind.u64.wrap (x.tdiv d)).tmod m = x / d % m := by
  have e1 : x.tdiv d = x / d := Int.tdiv_eq_ediv_of_nonneg h0
  have b1 : 0 ≤ x / d := Int.ediv_nonneg h0 (by omega)
  have b2 : x / d ≤ x := Int.ediv_le_self d h0
  have e2 : IntKind.u64.wrap (x / d) = x / d := by rw [IntKind.wrap_u64]; omega
  rw [e1, e2]
  exact Int.tmod_eq_emod_of_nonneg b1
set_option maxHeartbeats 1000000 in
theorem rof_any (x : Int) (w : World) (h0 : 0 ≤ x) (h1 : x < 18446744073709551616) :
    Calls Tryd.prog 12 #[.int .u64 x] w fun e w' => e = .returned (.tuple #[entV (ofV x) (ofR x) (ofT x) (ofF x), .int .i64 (errB (ofB x))]) ∧ Upd (fun _ => False) w w' := by
  have q0 := Lib.hid (show (x % 2 == 1) = pV x by rw [Bool.eq_iff_iff]; simp [pV])
  have q1 := Lib.hid (show ((IntKind.u64.wrap (x.tdiv 2)).tmod 2 == 1) = pR x by rw [quo_rem x 2 2 h0 h1 (by omega), Bool.eq_iff_iff]; simp [pR])
  have q2 := Lib.hid (show ((IntKind.u64.wrap (x.tdiv 4)).tmod 2 == 1) = pT x by rw [quo_rem x 4 2 h0 h1 (by omega), Bool.eq_iff_iff]; simp [pT])
  have q3 := Lib.hid (show wrap64 ((IntKind.u64.wrap (x.tdiv 256)).tmod 256) = pF x by rw [quo_rem x 256 256 h0 h1 (by omega)]; unfold pF; exact IntWalk.wrap64_in _ (by omega))
  have hW := Lib.hid (fun W => rword_any (pV x) (pR x) (pT x) (pF x) W)
  have hR := Lib.hid (show ofB x = (rightB (pV x) (pR x) (pT x) (pF x) && decide (wordI (pV x) (pR x) (pT x) (pF x) = x)) from rfl)
  have hF := Lib.hid (show ofF x = if ofB x = true then pF x else 0 from rfl)
  obtain ⟨v, ev⟩ : ∃ v, v = pV x := ⟨_, rfl⟩
  obtain ⟨r, er⟩ : ∃ r, r = pR x := ⟨_, rfl⟩
  obtain ⟨t, et⟩ : ∃ t, t = pT x := ⟨_, rfl⟩
  obtain ⟨a3, ea⟩ : ∃ a, a = pF x := ⟨_, rfl⟩
  have hV := Lib.hid (show ofV x = (ofB x && v) from by rw [ev]; rfl)
  have hRr := Lib.hid (show ofR x = (ofB x && r) from by rw [er]; rfl)
  have hT := Lib.hid (show ofT x = (ofB x && t) from by rw [et]; rfl)
  rw [← ev] at q0 hW hR
  rw [← er] at q1 hW hR
  rw [← et] at q2 hW hR
  rw [← ea] at q3 hW hR hF
  clear h1 ev er et ea
  cases hr : rightB v r t a3
  · rw [hr, Bool.false_and] at hR
    have hr' : wordE v r t a3 = 1 := by unfold wordE; rw [hr]; rfl
    rw [hr'] at hW
    clear hr hr'
    go_enter Tryd.func12, Tryd.ntmps12
    go_wp2_with fail
    rw [q0.out, q1.out, q2.out, q3.out]
    refine (hW.out _).mono ?_
    rintro e w1 ⟨rfl, u⟩
    have k0 : Hid (EntAt w1 w.heap.size false false false 0) := Lib.hid (u.at (two_blocks w 0 _ _).1 id)
    have k1 : Hid (EntAt w1 (w.heap.size + 1) v r t a3) := Lib.hid (u.at (two_blocks w 0 _ _).2 id)
    have U := Lib.hid ((((Upd.refl (fun _ => False) w).alloc _).alloc _).trans u)
    clear u
    obtain ⟨B, hB⟩ : ∃ B, B = w.heap.size := ⟨_, rfl⟩
    rw [← hB] at k0 k1 ⊢
    have hB' := Lib.hid hB
    clear hB
    go_wp2_with (with_reducible refine wpList_store_sz rfl 23 (.tmp 2) (.tmp 35) rfl B 0 #[.bool false, .bool false, .bool false, .int .i64 0] rfl rfl 4 (ent_sz _ _ _ _) k0.out.there size_ent (ent_one _ _ _ _) [.bool false, .bool false, .bool false, .int .i64 0] (ent_ls _ _ _ _) ?_)
    (try simp only [Exit.inBlock, Exit.then])
    refine bodyPost_ret (ret_ent rfl _ _ B false false false 0 rfl (k0.out.set false false false 0)) rfl ⟨?_, ?_⟩
    · rw [hV.out, hRr.out, hT.out, hF.out, hR.out]; rfl
    · exact Upd.setCells (.inr (Nat.le_of_eq hB'.out.symm)) _ _ U.out
  · rw [hr, Bool.true_and] at hR
    have hr' : wordE v r t a3 = 0 := by unfold wordE; rw [hr]; rfl
    rw [hr'] at hW
    clear hr hr'
    obtain ⟨y, ey⟩ : ∃ y, y = wordI v r t a3 := ⟨_, rfl⟩
    rw [← ey] at hW hR
    clear ey
    by_cases hxy : y = x
    · rw [decide_eq_true hxy] at hR
      subst hxy
      go_enter Tryd.func12, Tryd.ntmps12
      go_wp2_with fail
      rw [q0.out, q1.out, q2.out, q3.out]
      refine (hW.out _).mono ?_
      rintro e w1 ⟨rfl, u⟩
      have k0 : Hid (EntAt w1 w.heap.size false false false 0) := Lib.hid (u.at (two_blocks w 0 _ _).1 id)
      have k1 : Hid (EntAt w1 (w.heap.size + 1) v r t a3) := Lib.hid (u.at (two_blocks w 0 _ _).2 id)
      have U := Lib.hid ((((Upd.refl (fun _ => False) w).alloc _).alloc _).trans u)
      clear u
      obtain ⟨B, hB⟩ : ∃ B, B = w.heap.size := ⟨_, rfl⟩
      rw [← hB] at k0 k1 ⊢
      have hB' := Lib.hid hB
      clear hB
      go_wp2_with (first
        | (with_reducible refine wpList_load_sz rfl 23 (.tmp 4) rfl (B + 1) 0 rfl [.bool v, .bool r, .bool t, .int .i64 a3] _ k1.out.range Tryd.underlying23 rfl 4 (ent_len _ _ _ _) size_ent ?_)
        | (with_reducible refine wpList_store_sz rfl 23 (.tmp 2) (.tmp 36) rfl B 0 #[.bool v, .bool r, .bool t, .int .i64 a3] rfl rfl 4 (ent_sz _ _ _ _) k0.out.there size_ent (ent_one _ _ _ _) [.bool v, .bool r, .bool t, .int .i64 a3] (ent_ls _ _ _ _) ?_))
      (try simp only [Exit.inBlock, Exit.then])
      refine bodyPost_ret (ret_ent rfl _ _ B v r t a3 rfl (k0.out.set v r t a3)) rfl ⟨?_, ?_⟩
      · rw [hV.out, hRr.out, hT.out, hF.out, hR.out]; rfl
      · exact Upd.setCells (.inr (Nat.le_of_eq hB'.out.symm)) _ _ U.out
    · rw [decide_eq_false hxy] at hR
      go_enter Tryd.func12, Tryd.ntmps12
      go_wp2_with fail
      rw [q0.out, q1.out, q2.out, q3.out]
      refine (hW.out _).mono ?_
      rintro e w1 ⟨rfl, u⟩
      have k0 : Hid (EntAt w1 w.heap.size false false false 0) := Lib.hid (u.at (two_blocks w 0 _ _).1 id)
      have k1 : Hid (EntAt w1 (w.heap.size + 1) v r t a3) := Lib.hid (u.at (two_blocks w 0 _ _).2 id)
      have U := Lib.hid ((((Upd.refl (fun _ => False) w).alloc _).alloc _).trans u)
      clear u
      obtain ⟨B, hB⟩ : ∃ B, B = w.heap.size := ⟨_, rfl⟩
      rw [← hB] at k0 k1 ⊢
      have hB' := Lib.hid hB
      clear hB
      go_wp2_with (with_reducible refine wpList_store_sz rfl 23 (.tmp 2) (.tmp 35) rfl B 0 #[.bool false, .bool false, .bool false, .int .i64 0] rfl rfl 4 (ent_sz _ _ _ _) k0.out.there size_ent (ent_one _ _ _ _) [.bool false, .bool false, .bool false, .int .i64 0] (ent_ls _ _ _ _) ?_)
      (try simp only [Exit.inBlock, Exit.then])
      refine bodyPost_ret (ret_ent rfl _ _ B false false false 0 rfl (k0.out.set false false false 0)) rfl ⟨?_, ?_⟩
      · rw [hV.out, hRr.out, hT.out, hF.out, hR.out]; rfl
      · exact Upd.setCells (.inr (Nat.le_of_eq hB'.out.symm)) _ _ U.out

set_option maxHeartbeats 1000000 in
theorem rpage_any (p0 p1 p2 : Int) (w : World) :
    Calls Tryd.prog 16 #[arr3 p0 p1 p2] w fun e w' => e = .returned (.tuple #[.int .i64 (pgI p0 p1 p2), .int .i64 (errB (pgB p0 p1 p2))]) ∧ Upd (fun _ => False) w w' := by
  go_enter Tryd.func16, Tryd.ntmps16
  go_wp2
  go_loop [4] (fun t => ∃ k : Nat, k ≤ 3 ∧ t = .int .i64 k ∧ Hid (Fits p0 p1 p2 k)) (fun t => 3 - (intOf t).toNat)
  case atStart => exact ⟨0, by omega, rfl, Lib.hid ⟨fun h => absurd h (by omega), fun h => absurd h (by omega), fun h => absurd h (by omega)⟩⟩
  case round =>
    obtain ⟨k, hk, rfl, hd⟩ := hrel
    by_cases hlt : k < 3
    · obtain ⟨z, hz⟩ : ∃ z, z = [p0, p1, p2].getD k 0 := ⟨_, rfl⟩
      have hcell : (w.alloc (.cells #[.int .i64 p0, .int .i64 p1, .int .i64 p2] 32)).cell? ⟨w.heap.size, k, none⟩ = some (.int .i64 z) := by
        rw [cell_of_row _ _ _ _ _ _ (heap_alloc_last w _), hz]
        match k, hlt with
        | 0, _ => rfl
        | 1, _ => rfl
        | 2, _ => rfl
      by_cases f0 : z < 0
      · have hr := Lib.hid (pg_no_at hlt hz (by omega))
        clear hz hd
        go_wp2
        go_ret2
        exact ⟨by rw [hr.out.1, hr.out.2]; rfl, (Upd.refl _ _).alloc _⟩
      · by_cases f1 : 15 < z
        · have hr := Lib.hid (pg_no_at hlt hz (by omega))
          clear hz hd
          go_wp2
          go_ret2
          exact ⟨by rw [hr.out.1, hr.out.2]; rfl, (Upd.refl _ _).alloc _⟩
        · have hd' := Lib.hid (pp_next hlt hz (by omega) hd.out).2
          clear hz hd
          go_wp2
          exact ⟨⟨k + 1, by omega, by go_num, hd'⟩, by simp [intOf]; omega⟩
    · obtain rfl : k = 3 := by omega
      have h := hd.out
      have h1 := h.1 (by omega)
      have h2 := h.2.1 (by omega)
      have h3 := h.2.2 (by omega)
      have hr := Lib.hid (pg_yes ⟨h1, h2, h3⟩)
      clear h hd
      go_wp2
      go_ret2
      exact ⟨by rw [hr.out.1, hr.out.2]; rfl, (Upd.refl _ _).alloc _⟩
end Go.Proofs.YtkdekpinibdchaaDoor
