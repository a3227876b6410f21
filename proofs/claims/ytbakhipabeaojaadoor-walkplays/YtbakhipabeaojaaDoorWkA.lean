/-
  Contracts of package walk: exists, isPlace, addr, Get, Put.
-/
import Derived.Test.YtbakhipabeaojaaDoorWkM
import Derived.Deep.CutBlock
namespace Go.Proofs.YtbakhipabeaojaaDoor
open Go.ChangeShapes Go.WideShapes Go.ChangeAt Go.RowKit

set_option maxHeartbeats 400000 in
theorem wexists_any (A : Nat) (m : Mem) (f : Int) (w : World) (h : MemAt w A m) :
    Calls Tryd.prog 27 #[.pointer (some ⟨A, 0, none⟩), .int .i64 f] w fun e w' => e = .returned (.bool (m.ex f 1)) ∧ w = w' := by
  have hc := Lib.hid (fun W (h : MemAt W A m) => frames_any A m W h)
  by_cases h0 : 0 ≤ f
  · have hv := Lib.hid (show m.ex f 1 = decide (f < m.n) from by unfold Mem.ex; rw [Bool.eq_iff_iff, decide_eq_true_eq, decide_eq_true_eq]; omega)
    go_enter Tryd.func27, Tryd.ntmps27
    go_wp2_with fail
    refine (hc.out _ h).mono ?_
    rintro e w' ⟨rfl, rfl⟩
    go_wp2
    go_ret
    exact ⟨by rw [hv.out]; rfl, rfl⟩
  · have hv := Lib.hid (show m.ex f 1 = false from by unfold Mem.ex; simp; omega)
    go_enter Tryd.func27, Tryd.ntmps27
    go_wp2
    go_ret
    exact ⟨by rw [hv.out]; rfl, rfl⟩
set_option maxHeartbeats 400000 in
theorem wisPlace_any (p : Int) (w : World) : Calls Tryd.prog 28 #[.int .i64 p] w fun e w' => e = .returned (.bool (plB p)) ∧ w = w' := by
  by_cases h0 : 0 ≤ p
  · have hv := Lib.hid (show plB p = decide (p < 16) from by unfold plB; rw [Bool.eq_iff_iff, decide_eq_true_eq, decide_eq_true_eq]; omega)
    go_enter Tryd.func28, Tryd.ntmps28
    go_wp2
    go_ret
    exact ⟨by rw [hv.out]; rfl, rfl⟩
  · have hv := Lib.hid (show plB p = false from by unfold plB; simp; omega)
    go_enter Tryd.func28, Tryd.ntmps28
    go_wp2
    go_ret
    exact ⟨by rw [hv.out]; rfl, rfl⟩
set_option maxHeartbeats 400000 in
theorem waddr_any (f p : Int) (w : World) (h0 : 0 ≤ f) (h1 : f ≤ 255) (h2 : 0 ≤ p) (h3 : p ≤ 15) : Calls Tryd.prog 29 #[.int .i64 f, .int .i64 p] w fun e w' => e = .returned (.int .i64 (f * 16 + p)) ∧ w = w' := by
  go_enter Tryd.func29, Tryd.ntmps29
  go_wp2
  go_ret
  exact ⟨rfl, rfl⟩
/-- a new box for an entry -/
theorem ent_box (w : World) (v r t : Bool) (f : Int) :
    EntAt ((w.alloc (.cells #[.bool false, .bool false, .bool false, .int .i64 0] 35)).setCells w.heap.size 0 [.bool v, .bool r, .bool t, .int .i64 f]) w.heap.size v r t f ∧
    Upd (fun _ => False) w ((w.alloc (.cells #[.bool false, .bool false, .bool false, .int .i64 0] 35)).setCells w.heap.size 0 [.bool v, .bool r, .bool t, .int .i64 f]) ∧
    (w.alloc (.cells #[.bool false, .bool false, .bool false, .int .i64 0] 35)).there w.heap.size 0 4 ∧
    ((w.alloc (.cells #[.bool false, .bool false, .bool false, .int .i64 0] 35)).setCells w.heap.size 0 [.bool v, .bool r, .bool t, .int .i64 f]).heap.size = w.heap.size + 1 := by
  have h0 : EntAt (w.alloc (.cells #[.bool false, .bool false, .bool false, .int .i64 0] 35)) w.heap.size false false false 0 := heap_alloc_last w _
  exact ⟨h0.set v r t f, Upd.setCells (.inr (Nat.le_refl _)) _ _ ((Upd.refl _ _).alloc _), h0.there, by simp [World.setCells, World.setCell]⟩
set_option maxHeartbeats 1000000 in
theorem wget_any (A : Nat) (m : Mem) (f p : Int) (w : World) (h : MemAt w A m) (T : Tab w) (hg : m.good) :
    Calls Tryd.prog 15 #[.pointer (some ⟨A, 0, none⟩), .int .i64 f, .int .i64 p] w fun e w' => e = .returned (.tuple #[(m.getE f p).val, .int .i64 (m.getX f p)]) ∧ Upd (fun _ => False) w w' := by
  have c1 := Lib.hid (fun W (h : MemAt W A m) => wexists_any A m f W h)
  have c2 := Lib.hid (fun W => wisPlace_any p W)
  have k0 : Hid (EntAt (w.alloc (.cells #[.bool false, .bool false, .bool false, .int .i64 0] 35)) w.heap.size false false false 0) := Lib.hid (heap_alloc_last w _)
  cases hs : m.slot f p
  · have hE : Hid (m.getE f p = En.zero) := Lib.hid (by unfold Mem.getE; rw [hs]; rfl)
    have hX : Hid (m.getX f p = 1) := Lib.hid (by unfold Mem.getX; rw [hs]; rfl)
    have hb := Lib.hid hs
    unfold Mem.slot at hb
    clear hs
    cases he : m.ex f 1
    · rw [he] at c1
      clear hb
      go_enter Tryd.func15, Tryd.ntmps15
      go_wp2_with fail
      refine (c1.out _ (h.alloc _)).mono ?_
      rintro e w1 ⟨rfl, rfl⟩
      go_wp2_with (with_reducible refine wpList_store_sz rfl 35 (.tmp 6) (.tmp 20) rfl w.heap.size 0 #[.bool false, .bool false, .bool false, .int .i64 0] rfl rfl 4 (ent_sz _ _ _ _) k0.out.there size_ent (ent_one _ _ _ _) [.bool false, .bool false, .bool false, .int .i64 0] (ent_ls _ _ _ _) ?_)
      (try simp only [Exit.inBlock, Exit.then])
      refine bodyPost_ret (ret_ent rfl _ _ w.heap.size false false false 0 rfl (k0.out.set false false false 0)) rfl ⟨?_, ?_⟩
      · rw [hE.out, hX.out]; rfl
      · exact Upd.setCells (.inr (Nat.le_refl _)) _ _ ((Upd.refl _ _).alloc _)
    · have hb' : plB p = false := by have := hb.out; rw [he] at this; simpa using this
      rw [he] at c1
      rw [hb'] at c2
      clear hb hb'
      go_enter Tryd.func15, Tryd.ntmps15
      go_wp2_with fail
      refine (c1.out _ (h.alloc _)).mono ?_
      rintro e w1 ⟨rfl, rfl⟩
      go_wp2_with fail
      refine (c2.out _).mono ?_
      rintro e w1 ⟨rfl, rfl⟩
      go_wp2_with (with_reducible refine wpList_store_sz rfl 35 (.tmp 6) (.tmp 20) rfl w.heap.size 0 #[.bool false, .bool false, .bool false, .int .i64 0] rfl rfl 4 (ent_sz _ _ _ _) k0.out.there size_ent (ent_one _ _ _ _) [.bool false, .bool false, .bool false, .int .i64 0] (ent_ls _ _ _ _) ?_)
      (try simp only [Exit.inBlock, Exit.then])
      refine bodyPost_ret (ret_ent rfl _ _ w.heap.size false false false 0 rfl (k0.out.set false false false 0)) rfl ⟨?_, ?_⟩
      · rw [hE.out, hX.out]; rfl
      · exact Upd.setCells (.inr (Nat.le_refl _)) _ _ ((Upd.refl _ _).alloc _)
  · have hi := (m.slot_iff f p).1 hs
    have hx : m.ex f 1 = true ∧ plB p = true := by simpa [Mem.slot] using hs
    have hn := h.hi
    rw [hx.1] at c1
    rw [hx.2] at c2
    have c3 := Lib.hid (fun W => waddr_any f p W hi.1.1 (by omega) hi.2.1 hi.2.2)
    have c4 := Lib.hid (fun W (h : MemAt W A m) => read_any A m (f * 16 + p) W h)
    rw [m.slot_rd f p hs, m.slot_has f p hs] at c4
    have hE : Hid (m.getE f p = enOf (m.word f p)) := Lib.hid (by unfold Mem.getE; rw [hs]; rfl)
    have hX : Hid (m.getX f p = if ofB (m.word f p) = true then 0 else 11) := Lib.hid (by unfold Mem.getX; rw [hs]; rfl)
    have c5 : Hid (∀ W, Tab W → Calls Tryd.prog 31 #[.int .u64 (m.word f p)] W fun e w' => e = .returned (.tuple #[(enOf (m.word f p)).val, .int .i64 (errB (ofB (m.word f p)))]) ∧ Upd (fun _ => False) W w') := Lib.hid (fun W (T : Tab W) => eof_any (m.word f p) W T (hg _).1 (hg _).2)
    clear hi hx hn hs hg
    generalize m.word f p = x at c4 c5 hE hX
    obtain ⟨E, hEq⟩ : ∃ E, E = enOf x := ⟨_, rfl⟩
    have hno := Lib.hid (fun hB : ofB x = false => hEq.trans (enOf_no hB))
    rw [← hEq] at c5 hE
    clear hEq
    obtain ⟨v, r, t, g⟩ := E
    cases hB : ofB x
    · obtain ⟨rfl, rfl, rfl, rfl⟩ := En.mk.inj (hno.out hB)
      rw [hB] at c5 hX
      clear hB hno
      go_enter Tryd.func15, Tryd.ntmps15
      go_wp2_with fail
      refine (c1.out _ (h.alloc _)).mono ?_
      rintro e w1 ⟨rfl, rfl⟩
      go_wp2_with fail
      refine (c2.out _).mono ?_
      rintro e w1 ⟨rfl, rfl⟩
      go_wp2_with fail
      refine (c3.out _).mono ?_
      rintro e w1 ⟨rfl, rfl⟩
      go_wp2_with fail
      refine (c4.out _ (h.alloc _)).mono ?_
      rintro e w1 ⟨rfl, rfl⟩
      go_wp2_with fail
      refine (c5.out _ (T.kept ((Upd.refl _ _).alloc _))).mono ?_
      rintro e w1 ⟨rfl, u⟩
      have k1 : Hid (EntAt w1 w.heap.size false false false 0) := Lib.hid (k0.out.kept u id)
      have U := Lib.hid (((Upd.refl (fun _ => False) w).alloc _).trans u)
      clear u k0 c1 c2 c3 c4 c5 T h
      obtain ⟨B, hB⟩ : ∃ B, B = w.heap.size := ⟨_, rfl⟩
      rw [← hB] at k1 ⊢
      have hB' := Lib.hid hB
      clear hB
      obtain ⟨a1, a2, a3, a4⟩ := ent_box w1 false false false 0
      have A1 := Lib.hid a1
      have A2 := Lib.hid a2
      have A3 := Lib.hid a3
      have A4 := Lib.hid (k1.out.kept a2 id)
      clear a1 a2 a3 a4 k1
      go_upto_region 7 with ((with_reducible refine wpList_store_sz rfl 35 (.tmp 10) (.tmp 36) rfl w1.heap.size 0 #[.bool false, .bool false, .bool false, .int .i64 0] rfl rfl 4 (ent_sz _ _ _ _) A3.out size_ent (ent_one _ _ _ _) [.bool false, .bool false, .bool false, .int .i64 0] (ent_ls _ _ _ _) ?_))
      generalize (w1.alloc (.cells #[.bool false, .bool false, .bool false, .int .i64 0] 35)).setCells w1.heap.size 0 [.bool false, .bool false, .bool false, .int .i64 0] = w2 at A1 A2 A4 ⊢
      clear A3
      go_wp2_with (with_reducible refine wpList_store_sz rfl 35 (.tmp 6) (.tmp 40) rfl B 0 #[.bool false, .bool false, .bool false, .int .i64 0] rfl rfl 4 (ent_sz _ _ _ _) A4.out.there size_ent (ent_one _ _ _ _) [.bool false, .bool false, .bool false, .int .i64 0] (ent_ls _ _ _ _) ?_)
      (try simp only [Exit.inBlock, Exit.then])
      refine bodyPost_ret (ret_ent rfl _ _ B false false false 0 rfl (A4.out.set false false false 0)) rfl ⟨?_, ?_⟩
      · rw [hE.out, hX.out]; rfl
      · exact Upd.setCells (.inr (Nat.le_of_eq hB'.out.symm)) _ _ (U.out.trans A2.out)
    · rw [hB] at c5 hX
      clear hB hno
      go_enter Tryd.func15, Tryd.ntmps15
      go_wp2_with fail
      refine (c1.out _ (h.alloc _)).mono ?_
      rintro e w1 ⟨rfl, rfl⟩
      go_wp2_with fail
      refine (c2.out _).mono ?_
      rintro e w1 ⟨rfl, rfl⟩
      go_wp2_with fail
      refine (c3.out _).mono ?_
      rintro e w1 ⟨rfl, rfl⟩
      go_wp2_with fail
      refine (c4.out _ (h.alloc _)).mono ?_
      rintro e w1 ⟨rfl, rfl⟩
      go_wp2_with fail
      refine (c5.out _ (T.kept ((Upd.refl _ _).alloc _))).mono ?_
      rintro e w1 ⟨rfl, u⟩
      have k1 : Hid (EntAt w1 w.heap.size false false false 0) := Lib.hid (k0.out.kept u id)
      have U := Lib.hid (((Upd.refl (fun _ => False) w).alloc _).trans u)
      clear u k0 c1 c2 c3 c4 c5 T h
      obtain ⟨B, hB⟩ : ∃ B, B = w.heap.size := ⟨_, rfl⟩
      rw [← hB] at k1 ⊢
      have hB' := Lib.hid hB
      clear hB
      obtain ⟨a1, a2, a3, a4⟩ := ent_box w1 v r t g
      have A1 := Lib.hid a1
      have A2 := Lib.hid a2
      have A3 := Lib.hid a3
      have A4 := Lib.hid (k1.out.kept a2 id)
      clear a1 a2 a3 a4 k1
      go_upto_region 7 with ((with_reducible refine wpList_store_sz rfl 35 (.tmp 10) (.tmp 36) rfl w1.heap.size 0 #[.bool v, .bool r, .bool t, .int .i64 g] rfl rfl 4 (ent_sz _ _ _ _) A3.out size_ent (ent_one _ _ _ _) [.bool v, .bool r, .bool t, .int .i64 g] (ent_ls _ _ _ _) ?_))
      generalize (w1.alloc (.cells #[.bool false, .bool false, .bool false, .int .i64 0] 35)).setCells w1.heap.size 0 [.bool v, .bool r, .bool t, .int .i64 g] = w2 at A1 A2 A4 ⊢
      generalize w1.heap.size = C at A1 ⊢
      clear A3
      go_wp2_with (first
        | (with_reducible refine wpList_load_sz rfl 35 (.tmp 10) rfl C 0 rfl [.bool v, .bool r, .bool t, .int .i64 g] _ A1.out.range Tryd.underlying35 rfl 4 (ent_len _ _ _ _) size_ent ?_)
        | (with_reducible refine wpList_store_sz rfl 35 (.tmp 6) (.tmp 41) rfl B 0 #[.bool v, .bool r, .bool t, .int .i64 g] rfl rfl 4 (ent_sz _ _ _ _) A4.out.there size_ent (ent_one _ _ _ _) [.bool v, .bool r, .bool t, .int .i64 g] (ent_ls _ _ _ _) ?_))
      (try simp only [Exit.inBlock, Exit.then])
      refine bodyPost_ret (ret_ent rfl _ _ B v r t g rfl (A4.out.set v r t g)) rfl ⟨?_, ?_⟩
      · rw [hE.out, hX.out]; rfl
      · exact Upd.setCells (.inr (Nat.le_of_eq hB'.out.symm)) _ _ (U.out.trans A2.out)
end Go.Proofs.YtbakhipabeaojaaDoor
