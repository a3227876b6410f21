/-
  Contracts of the document's own answers for walk: Get, Put, Blank.
-/
import Derived.Test.YtbakhipabeaojaaDoorWkO
namespace Go.Proofs.YtbakhipabeaojaaDoor
open Go.ChangeShapes Go.WideShapes Go.ChangeAt Go.RowKit

theorem Mem.word_nat (m : Mem) (F P : Nat) : m.word (F : Int) (P : Int) = m.at (16 * F + P) := by
  unfold Mem.word
  rw [show ((F : Int) * 16 + (P : Int)).toNat = 16 * F + P from by omega]
theorem RefAt.allocd {w : World} {A : Nat} {m : Mem} (h : RefAt w A m) (o : Obj) : RefAt (w.alloc o) A m := h.kept ((Upd.refl (fun _ => False) w).alloc o) id id
set_option maxHeartbeats 1000000 in
theorem kget_no (C : Nat) (m : Mem) (f p : Int) (w : World) (h : RefAt w C m) (hs : m.slot f p = false) :
    Calls Tryd.prog 16 #[.pointer (some ⟨C, 0, none⟩), .int .i64 f, .int .i64 p] w fun e w' => e = .returned (.tuple #[En.zero.val, .int .i64 1]) ∧ Upd (fun _ => False) w w' := by
  have c1 := Lib.hid (fun W (h : RefAt W C m) => rHas_any C m f W h)
  have k0 : Hid (EntAt (w.alloc (.cells #[.bool false, .bool false, .bool false, .int .i64 0] 35)) w.heap.size false false false 0) := Lib.hid (heap_alloc_last w _)
  have hb := Lib.hid hs
  unfold Mem.slot at hb
  clear hs
  cases he : m.ex f 1
  · rw [he] at c1
    clear hb
    go_enter Tryd.func16, Tryd.ntmps16
    go_wp2_with fail
    refine (c1.out _ (h.allocd _)).mono ?_
    rintro e w1 ⟨rfl, rfl⟩
    go_wp2_with (with_reducible refine wpList_store_sz rfl 35 (.tmp 6) (.tmp 22) rfl w.heap.size 0 #[.bool false, .bool false, .bool false, .int .i64 0] rfl rfl 4 (ent_sz _ _ _ _) k0.out.there size_ent (ent_one _ _ _ _) [.bool false, .bool false, .bool false, .int .i64 0] (ent_ls _ _ _ _) ?_)
    (try simp only [Exit.inBlock, Exit.then])
    refine bodyPost_ret (ret_ent rfl _ _ w.heap.size false false false 0 rfl (k0.out.set false false false 0)) rfl ⟨rfl, ?_⟩
    exact Upd.setCells (.inr (Nat.le_refl _)) _ _ ((Upd.refl _ _).alloc _)
  · have hb' : plB p = false := by have := hb.out; rw [he] at this; simpa using this
    have hb2 := of_decide_eq_false hb'
    rw [he] at c1
    clear hb hb'
    by_cases p0 : p < 0
    · clear hb2
      go_enter Tryd.func16, Tryd.ntmps16
      go_wp2_with fail
      refine (c1.out _ (h.allocd _)).mono ?_
      rintro e w1 ⟨rfl, rfl⟩
      go_wp2_with (with_reducible refine wpList_store_sz rfl 35 (.tmp 6) (.tmp 22) rfl w.heap.size 0 #[.bool false, .bool false, .bool false, .int .i64 0] rfl rfl 4 (ent_sz _ _ _ _) k0.out.there size_ent (ent_one _ _ _ _) [.bool false, .bool false, .bool false, .int .i64 0] (ent_ls _ _ _ _) ?_)
      (try simp only [Exit.inBlock, Exit.then])
      refine bodyPost_ret (ret_ent rfl _ _ w.heap.size false false false 0 rfl (k0.out.set false false false 0)) rfl ⟨rfl, ?_⟩
      exact Upd.setCells (.inr (Nat.le_refl _)) _ _ ((Upd.refl _ _).alloc _)
    · have p1 : 15 < p := by omega
      clear hb2
      go_enter Tryd.func16, Tryd.ntmps16
      go_wp2_with fail
      refine (c1.out _ (h.allocd _)).mono ?_
      rintro e w1 ⟨rfl, rfl⟩
      go_wp2_with (with_reducible refine wpList_store_sz rfl 35 (.tmp 6) (.tmp 22) rfl w.heap.size 0 #[.bool false, .bool false, .bool false, .int .i64 0] rfl rfl 4 (ent_sz _ _ _ _) k0.out.there size_ent (ent_one _ _ _ _) [.bool false, .bool false, .bool false, .int .i64 0] (ent_ls _ _ _ _) ?_)
      (try simp only [Exit.inBlock, Exit.then])
      refine bodyPost_ret (ret_ent rfl _ _ w.heap.size false false false 0 rfl (k0.out.set false false false 0)) rfl ⟨rfl, ?_⟩
      exact Upd.setCells (.inr (Nat.le_refl _)) _ _ ((Upd.refl _ _).alloc _)
set_option maxHeartbeats 1000000 in
theorem kget_any (C : Nat) (m : Mem) (f p : Int) (w : World) (h : RefAt w C m) (hg : m.good) :
    Calls Tryd.prog 16 #[.pointer (some ⟨C, 0, none⟩), .int .i64 f, .int .i64 p] w fun e w' => e = .returned (.tuple #[(m.getE f p).val, .int .i64 (m.getX f p)]) ∧ Upd (fun _ => False) w w' := by
  cases hs : m.slot f p
  · have hE : m.getE f p = En.zero := by unfold Mem.getE; rw [hs]; rfl
    have hX : m.getX f p = 1 := by unfold Mem.getX; rw [hs]; rfl
    rw [hE, hX]
    exact kget_no C m f p w h hs
  · have c1 := Lib.hid (fun W (h : RefAt W C m) => rHas_any C m f W h)
    have k0 : Hid (EntAt (w.alloc (.cells #[.bool false, .bool false, .bool false, .int .i64 0] 35)) w.heap.size false false false 0) := Lib.hid (heap_alloc_last w _)
    have hi := (m.slot_iff f p).1 hs
    have hx : m.ex f 1 = true ∧ plB p = true := by simpa [Mem.slot] using hs
    have hn := h.hi
    rw [hx.1] at c1
    have hE : Hid (m.getE f p = enOf (m.word f p)) := Lib.hid (by unfold Mem.getE; rw [hs]; rfl)
    have hX : Hid (m.getX f p = if ofB (m.word f p) = true then 0 else 11) := Lib.hid (by unfold Mem.getX; rw [hs]; rfl)
    obtain ⟨⟨i1, i2⟩, i3, i4⟩ := hi
    obtain ⟨F, rfl⟩ := Int.eq_ofNat_of_zero_le i1
    obtain ⟨P, rfl⟩ := Int.eq_ofNat_of_zero_le i3
    have hF : F < m.n := by omega
    have hP : P ≤ 15 := by omega
    rw [m.word_nat] at hE hX
    have c5 : Hid (∀ W, Calls Tryd.prog 32 #[.int .u64 (m.at (16 * F + P))] W fun e w' => e = .returned (.tuple #[(enOf (m.at (16 * F + P))).val, .int .i64 (errB (ofB (m.at (16 * F + P))))]) ∧ Upd (fun _ => False) W w') := Lib.hid (fun W => rof_any (m.at (16 * F + P)) W (hg _).1 (hg _).2)
    have hc := (h.allocd (.cells #[.bool false, .bool false, .bool false, .int .i64 0] 35)).cellA
    have hcell := (h.allocd (.cells #[.bool false, .bool false, .bool false, .int .i64 0] 35)).cellB (16 * F + P) (by omega)
    have ht : (16 * (F : Int) + (P : Int)).toNat = 16 * F + P := by omega
    clear hx hn hs hg i1 i2 i3 i4
    generalize m.at (16 * F + P) = x at c5 hE hX hcell
    obtain ⟨E, hEq⟩ : ∃ E, E = enOf x := ⟨_, rfl⟩
    have hno := Lib.hid (fun hB : ofB x = false => hEq.trans (enOf_no hB))
    rw [← hEq] at c5 hE
    clear hEq
    obtain ⟨v, r, t, g⟩ := E
    have hmn := h.hi
    cases hB : ofB x
    · obtain ⟨rfl, rfl, rfl, rfl⟩ := En.mk.inj (hno.out hB)
      rw [hB] at c5 hX
      clear hB hno
      go_enter Tryd.func16, Tryd.ntmps16
      go_wp2_with fail
      refine (c1.out _ (h.allocd _)).mono ?_
      rintro e w1 ⟨rfl, rfl⟩
      go_wp2_with fail
      refine (c5.out _).mono ?_
      rintro e w1 ⟨rfl, u⟩
      rw [show errB false = 1 from rfl]
      have k1 : Hid (EntAt w1 w.heap.size false false false 0) := Lib.hid (k0.out.kept u id)
      have U := Lib.hid (((Upd.refl (fun _ => False) w).alloc _).trans u)
      clear u k0 c1 c5 h hc hcell
      obtain ⟨B, hB⟩ : ∃ B, B = w.heap.size := ⟨_, rfl⟩
      rw [← hB] at k1 ⊢
      have hB' := Lib.hid hB
      clear hB
      obtain ⟨a1, a2, a3, a4⟩ := ent_box w1 false false false 0
      have A1 := Lib.hid a1
      have A2 := Lib.hid a2
      have A3 := Lib.hid a3
      have A4 := Lib.hid (k1.out.kept a2 id)
      clear a1 a2 a3 a4 k1
      go_upto_region 4 with ((with_reducible refine wpList_store_sz rfl 35 (.tmp 8) (.tmp 35) rfl w1.heap.size 0 #[.bool false, .bool false, .bool false, .int .i64 0] rfl rfl 4 (ent_sz _ _ _ _) A3.out size_ent (ent_one _ _ _ _) [.bool false, .bool false, .bool false, .int .i64 0] (ent_ls _ _ _ _) ?_))
      generalize (w1.alloc (.cells #[.bool false, .bool false, .bool false, .int .i64 0] 35)).setCells w1.heap.size 0 [.bool false, .bool false, .bool false, .int .i64 0] = w2 at A1 A2 A4 ⊢
      clear A3
      go_wp2_with (with_reducible refine wpList_store_sz rfl 35 (.tmp 6) (.tmp 39) rfl B 0 #[.bool false, .bool false, .bool false, .int .i64 0] rfl rfl 4 (ent_sz _ _ _ _) A4.out.there size_ent (ent_one _ _ _ _) [.bool false, .bool false, .bool false, .int .i64 0] (ent_ls _ _ _ _) ?_)
      (try simp only [Exit.inBlock, Exit.then])
      refine bodyPost_ret (ret_ent rfl _ _ B false false false 0 rfl (A4.out.set false false false 0)) rfl ⟨?_, ?_⟩
      · rw [hE.out, hX.out]; rfl
      · exact Upd.setCells (.inr (Nat.le_of_eq hB'.out.symm)) _ _ (U.out.trans A2.out)
    · rw [hB] at c5 hX
      clear hB hno
      go_enter Tryd.func16, Tryd.ntmps16
      go_wp2_with fail
      refine (c1.out _ (h.allocd _)).mono ?_
      rintro e w1 ⟨rfl, rfl⟩
      go_wp2_with fail
      refine (c5.out _).mono ?_
      rintro e w1 ⟨rfl, u⟩
      rw [show errB true = 0 from rfl]
      have k1 : Hid (EntAt w1 w.heap.size false false false 0) := Lib.hid (k0.out.kept u id)
      have U := Lib.hid (((Upd.refl (fun _ => False) w).alloc _).trans u)
      clear u k0 c1 c5 h hc hcell
      obtain ⟨B, hB⟩ : ∃ B, B = w.heap.size := ⟨_, rfl⟩
      rw [← hB] at k1 ⊢
      have hB' := Lib.hid hB
      clear hB
      obtain ⟨a1, a2, a3, a4⟩ := ent_box w1 v r t g
      have A1 := Lib.hid a1
      have A2 := Lib.hid a2
      have A3 := Lib.hid a3
      have A4 := Lib.hid (k1.out.kept a2 id)
      clear a1 a2 a3 a4 k1
      go_upto_region 4 with ((with_reducible refine wpList_store_sz rfl 35 (.tmp 8) (.tmp 35) rfl w1.heap.size 0 #[.bool v, .bool r, .bool t, .int .i64 g] rfl rfl 4 (ent_sz _ _ _ _) A3.out size_ent (ent_one _ _ _ _) [.bool v, .bool r, .bool t, .int .i64 g] (ent_ls _ _ _ _) ?_))
      generalize (w1.alloc (.cells #[.bool false, .bool false, .bool false, .int .i64 0] 35)).setCells w1.heap.size 0 [.bool v, .bool r, .bool t, .int .i64 g] = w2 at A1 A2 A4 ⊢
      generalize w1.heap.size = D at A1 ⊢
      clear A3
      go_wp2_with (first
        | (with_reducible refine wpList_load_sz rfl 35 (.tmp 8) rfl D 0 rfl [.bool v, .bool r, .bool t, .int .i64 g] _ A1.out.range Tryd.underlying35 rfl 4 (ent_len _ _ _ _) size_ent ?_)
        | (with_reducible refine wpList_store_sz rfl 35 (.tmp 6) (.tmp 40) rfl B 0 #[.bool v, .bool r, .bool t, .int .i64 g] rfl rfl 4 (ent_sz _ _ _ _) A4.out.there size_ent (ent_one _ _ _ _) [.bool v, .bool r, .bool t, .int .i64 g] (ent_ls _ _ _ _) ?_))
      (try simp only [Exit.inBlock, Exit.then])
      refine bodyPost_ret (ret_ent rfl _ _ B v r t g rfl (A4.out.set v r t g)) rfl ⟨?_, ?_⟩
      · rw [hE.out, hX.out]; rfl
      · exact Upd.setCells (.inr (Nat.le_of_eq hB'.out.symm)) _ _ (U.out.trans A2.out)
set_option maxHeartbeats 1000000 in
theorem kput_any (C : Nat) (m : Mem) (f p : Int) (E : En) (w : World) (h : RefAt w C m) :
    Calls Tryd.prog 11 #[.pointer (some ⟨C, 0, none⟩), .int .i64 f, .int .i64 p, E.val] w fun e w' => e = .returned (.int .i64 (errB (m.putB f p E))) ∧ RefAt w' C (m.put f p E) ∧ Upd (· = m.B) w w' := by
  have c0 := Lib.hid (fun W => rword_any E.v E.r E.t E.f W)
  have c1 := Lib.hid (fun W (h : RefAt W C m) => rHas_any C m f W h)
  have hP : Hid (m.put f p E = if m.putB f p E = true then m.wr (f * 16 + p) (wordI E.v E.r E.t E.f) else m) := Lib.hid rfl
  have hQ : Hid (m.putB f p E = (m.ex f 1 && plB p && rightB E.v E.r E.t E.f)) := Lib.hid rfl
  unfold wordE at c0
  obtain ⟨v, r, t, g⟩ := E
  simp only at c0 hP hQ
  generalize wordI v r t g = x at c0 hP
  cases he : m.ex f 1
  · rw [he, Bool.false_and, Bool.false_and] at hQ
    rw [hQ.out] at hP
    rw [he] at c1
    rw [hQ.out]
    clear hQ he
    generalize errB (rightB v r t g) = eb at c0
    go_enter Tryd.func11, Tryd.ntmps11
    go_wp2_with fail
    refine (c0.out _).mono ?_
    rintro e w1 ⟨rfl, u⟩
    have U := Lib.hid (((Upd.refl (fun _ => False) w).alloc _).trans u)
    clear u
    go_wp2_with fail
    refine (c1.out _ (h.kept U.out id id)).mono ?_
    rintro e w2 ⟨rfl, rfl⟩
    go_wp2
    go_ret
    exact ⟨rfl, by rw [hP.out]; exact h.kept U.out id id, U.out.none⟩
  · rw [he, Bool.true_and] at hQ
    rw [he] at c1
    by_cases p0 : p < 0
    · have hp : plB p = false := decide_eq_false (by omega)
      rw [hp, Bool.false_and] at hQ
      rw [hQ.out] at hP
      rw [hQ.out]
      clear hQ he hp
      generalize errB (rightB v r t g) = eb at c0
      go_enter Tryd.func11, Tryd.ntmps11
      go_wp2_with fail
      refine (c0.out _).mono ?_
      rintro e w1 ⟨rfl, u⟩
      have U := Lib.hid (((Upd.refl (fun _ => False) w).alloc _).trans u)
      clear u
      go_wp2_with fail
      refine (c1.out _ (h.kept U.out id id)).mono ?_
      rintro e w2 ⟨rfl, rfl⟩
      go_wp2
      go_ret
      exact ⟨rfl, by rw [hP.out]; exact h.kept U.out id id, U.out.none⟩
    · by_cases p1 : 15 < p
      · have hp : plB p = false := decide_eq_false (by omega)
        rw [hp, Bool.false_and] at hQ
        rw [hQ.out] at hP
        rw [hQ.out]
        clear hQ he hp
        generalize errB (rightB v r t g) = eb at c0
        go_enter Tryd.func11, Tryd.ntmps11
        go_wp2_with fail
        refine (c0.out _).mono ?_
        rintro e w1 ⟨rfl, u⟩
        have U := Lib.hid (((Upd.refl (fun _ => False) w).alloc _).trans u)
        clear u
        go_wp2_with fail
        refine (c1.out _ (h.kept U.out id id)).mono ?_
        rintro e w2 ⟨rfl, rfl⟩
        go_wp2
        go_ret
        exact ⟨rfl, by rw [hP.out]; exact h.kept U.out id id, U.out.none⟩
      · have hp : plB p = true := decide_eq_true (by omega)
        rw [hp, Bool.true_and] at hQ
        cases hr : rightB v r t g
        · rw [hr] at hQ c0
          rw [hQ.out] at hP
          rw [hQ.out]
          clear hQ he hp hr
          go_enter Tryd.func11, Tryd.ntmps11
          go_wp2_with fail
          refine (c0.out _).mono ?_
          rintro e w1 ⟨rfl, u⟩
          have U := Lib.hid (((Upd.refl (fun _ => False) w).alloc _).trans u)
          clear u
          rw [show errB false = 1 from rfl]
          go_wp2_with fail
          refine (c1.out _ (h.kept U.out id id)).mono ?_
          rintro e w2 ⟨rfl, rfl⟩
          go_wp2
          go_ret
          exact ⟨rfl, by rw [hP.out]; exact h.kept U.out id id, U.out.none⟩
        · rw [hr] at hQ c0
          rw [hQ.out, if_pos rfl] at hP
          rw [hQ.out]
          have hs : m.slot f p = true := by unfold Mem.slot; rw [he, hp]; rfl
          obtain ⟨⟨i1, i2⟩, i3, i4⟩ := (m.slot_iff f p).1 hs
          obtain ⟨F, rfl⟩ := Int.eq_ofNat_of_zero_le i1
          obtain ⟨P, rfl⟩ := Int.eq_ofNat_of_zero_le i3
          have hmn := h.hi
          have hF : F < m.n := by omega
          have hPl : P ≤ 15 := by omega
          have hl : Hid (m.wr ((F : Int) * 16 + (P : Int)) x = m.lay (16 * F + P) [x]) := Lib.hid (by
            unfold Mem.wr
            rw [if_pos (m.slot_has _ _ hs), show ((F : Int) * 16 + (P : Int)).toNat = 16 * F + P from by omega])
          have ht : (16 * (F : Int) + (P : Int)).toNat = 16 * F + P := by omega
          clear hQ he hp hr hs i1 i2 i3 i4 p0 p1
          go_enter Tryd.func11, Tryd.ntmps11
          go_wp2_with fail
          refine (c0.out _).mono ?_
          rintro e w1 ⟨rfl, u⟩
          have U := Lib.hid (((Upd.refl (fun _ => False) w).alloc _).trans u)
          clear u
          have h1 := h.kept U.out id id
          have hc := h1.cellA
          have hcell := h1.cellB (16 * F + P) (by omega)
          have hfr := h1.freeB (16 * F + P)
          rw [show errB true = 0 from rfl]
          go_wp2_with fail
          refine (c1.out _ h1).mono ?_
          rintro e w2 ⟨rfl, rfl⟩
          go_wp2
          go_ret
          exact ⟨rfl, by rw [hP.out, hl.out]; exact h1.lay1 _ x (by omega), U.out.none.trans ((Upd.refl _ _).setCell (by left; rfl) _)⟩
theorem kblank_any (C : Nat) (m : Mem) (f : Int) (w : World) (h : RefAt w C m) :
    Calls Tryd.prog 18 #[.pointer (some ⟨C, 0, none⟩), .int .i64 f] w fun e w' => e = .returned (.bool (m.zero f)) ∧ Upd (fun _ => False) w w' := by
  go_enter Tryd.func18, Tryd.ntmps18
  go_wp2_with fail
  refine (rZero_any C m f _ h).mono ?_
  rintro e w1 ⟨rfl, rfl⟩
  go_wp2
  go_ret
  exact ⟨rfl, Upd.refl _ _⟩
end Go.Proofs.YtbakhipabeaojaaDoor
