/-
  Texts that the laws stand on, joined: TbA, WkE, WkL, WkO, TbC, TbG, TbB, TbH, TbI, TbP.
-/
import Derived.Deep.CutBlock
import Derived.Deep.RegionHeld3
import Derived.Maps.AppendAt
import Derived.RangeFuncBox
import Derived.Shelf.Abstract
import Derived.Sort.OwnSortedInts
import Derived.WalkMore
import Derived.Test.YtdapmcclplfpfaaGreatDoorPart4

/-
  Package tables: where a space lies; contracts of its small functions, of each, and of the library's search.
-/
namespace Go.Proofs.YtdapmcclplfpfaaGreatDoor
open Go.ChangeShapes Go.WideShapes Go.ChangeAt Go.RowKit Go.Shelf

/-- a space in memory: its memory, its allocator, its root -/
def SpAt (w : World) (S MA A : Nat) (root : Int) : Prop := w.heap[S]? = some (.cells #[.pointer (some ⟨MA, 0, none⟩), .pointer (some ⟨A, 0, none⟩), .int .i64 root] 80 (0, 0))
theorem SpAt.c0 {w : World} {S MA A : Nat} {root : Int} (h : SpAt w S MA A root) : w.cell? ⟨S, 0, none⟩ = some (.pointer (some ⟨MA, 0, none⟩)) := by rw [cell_of_row w S 0 _ _ _ h]; rfl
theorem SpAt.c1 {w : World} {S MA A : Nat} {root : Int} (h : SpAt w S MA A root) : w.cell? ⟨S, 1, none⟩ = some (.pointer (some ⟨A, 0, none⟩)) := by rw [cell_of_row w S 1 _ _ _ h]; rfl
theorem SpAt.c2 {w : World} {S MA A : Nat} {root : Int} (h : SpAt w S MA A root) : w.cell? ⟨S, 2, none⟩ = some (.int .i64 root) := by rw [cell_of_row w S 2 _ _ _ h]; rfl
theorem SpAt.kept {T : Nat → Prop} {w w' : World} {S MA A : Nat} {root : Int} (h : SpAt w S MA A root) (u : Upd T w w') (hs : ¬ T S) : SpAt w' S MA A root := u.at h hs

set_option maxHeartbeats 400000 in
theorem lacks_any (S MA A : Nat) (root : Int) (m : Mem) (f : Int) (w : World) (h : SpAt w S MA A root) (hm : MemAt w MA m) :
    Calls Tryz.prog 33 #[.pointer (some ⟨S, 0, none⟩), .int .i64 f] w fun e w' => e = .returned (.bool (!m.ex f 1)) ∧ w = w' := by
  have hc := h.c0
  have hn := hm.hi
  by_cases h0 : f < 0
  · have hv := Lib.hid (show (!m.ex f 1) = true from by unfold Mem.ex; simp; omega)
    go_enter Tryz.func33, Tryz.ntmps33
    go_wp2_with (go_at_call 51; refine (frames_any MA m _ hm).mono ?_; rintro e w' ⟨rfl, rfl⟩)
    go_ret
    exact ⟨by rw [hv.out]; rfl, rfl⟩
  · have hv := Lib.hid (show (!m.ex f 1) = decide ((m.n : Int) ≤ f) from by unfold Mem.ex; rw [Bool.eq_iff_iff]; simp; omega)
    go_enter Tryz.func33, Tryz.ntmps33
    go_wp2_with (go_at_call 51; refine (frames_any MA m _ hm).mono ?_; rintro e w' ⟨rfl, rfl⟩)
    go_ret
    exact ⟨by rw [hv.out]; rfl, rfl⟩

set_option maxHeartbeats 400000 in
theorem sroot_any (S MA A : Nat) (root : Int) (w : World) (h : SpAt w S MA A root) :
    Calls Tryz.prog 27 #[.pointer (some ⟨S, 0, none⟩)] w fun e w' => e = .returned (.int .i64 root) ∧ w = w' := by
  have hc := h.c2
  go_enter Tryz.func27, Tryz.ntmps27
  go_wp2
  go_ret
  exact ⟨rfl, rfl⟩

set_option maxHeartbeats 400000 in
theorem sclear_any (S MA A : Nat) (root : Int) (m : Mem) (f : Int) (w : World) (h : SpAt w S MA A root) (hm : MemAt w MA m) :
    Calls Tryz.prog 62 #[.pointer (some ⟨S, 0, none⟩), .int .i64 f] w fun e w' => e = .returned (.tuple #[]) ∧ MemAt w' MA (m.scrub f 1) ∧ Upd (· = m.B) w w' := by
  have hc := h.c0
  go_enter Tryz.func62, Tryz.ntmps62
  go_wp2_with (go_at_call 79; refine (scrub_any MA m f 1 _ hm (by omega)).mono ?_; rintro e w' ⟨rfl, hm', u⟩)
  go_end0
  exact ⟨rfl, hm', u⟩

set_option maxHeartbeats 400000 in
theorem sfree_any (S MA A GB : Nat) (root : Int) (m : Mem) (b : Bud) (f : Int) (w : World) (h : SpAt w S MA A root) (hd : Duo w A MA GB m b) (h0 : 0 ≤ f) (hf : ((f.toNat, 0) : Nat × Nat) ∈ b.gave) :
    Calls Tryz.prog 45 #[.pointer (some ⟨S, 0, none⟩), .int .i64 f] w fun e w' => e = .returned (.tuple #[]) ∧ Duo w' A MA GB (m.scrub f 1) (b.take (f.toNat, 0)) ∧ Upd (fun k => k = GB ∨ k = m.B) w w' := by
  have hc := h.c1
  obtain ⟨j, rfl⟩ := Int.eq_ofNat_of_zero_le h0
  have hb := bfree_yes A MA GB m b (j, 0) w hd hf
  go_enter Tryz.func45, Tryz.ntmps45
  go_wp2_with (go_at_call 71; refine hb.mono ?_; rintro e w' ⟨rfl, hd', u⟩)
  go_end0
  exact ⟨rfl, hd', u⟩

set_option maxHeartbeats 400000 in
/-- each does the same to all of the frames -/
theorem each_any (g : Nat) (eg : Enters Tryz.prog g) (S : Nat) (o : Option Addr) (L cap : Nat) (c : Nat → Int) (J : Nat → World → Prop) (w : World) (hL : L ≤ 1000) (h0 : J 0 w)
    (hcell : ∀ k W, J k W → k < L → ∃ b, o = some ⟨b, 0, none⟩ ∧ W.cell? ⟨b, k, none⟩ = some (.int .i64 (c k)))
    (hstep : ∀ k W, J k W → k < L → Calls Tryz.prog g #[.pointer (some ⟨S, 0, none⟩), .int .i64 (c k)] W fun e W' => e = .returned (.tuple #[]) ∧ J (k + 1) W') :
    Calls Tryz.prog 54 #[.slice o L cap, .func (.func g) #[.pointer (some ⟨S, 0, none⟩)] #[]] w fun e W' => e = .returned (.tuple #[]) ∧ J L W' := by
  have eg2 : ∀ args w, Sem.run Tryz.prog (callFunc g args) w = .ok (.enter g args) w := eg
  go_enter Tryz.func54, Tryz.ntmps54
  go_wp2_with fail
  go_loopw [8] (fun t wr => ∃ k : Nat, k ≤ L ∧ t = .int .i64 k ∧ J k wr) (fun t _ => L - (intOf t).toNat)
  case atStart => exact ⟨0, by omega, rfl, h0⟩
  case round =>
    obtain ⟨k, hk, rfl, hJ⟩ := hrel
    by_cases hlt : k < L
    · obtain ⟨b, rfl, hc⟩ := hcell k wr hJ hlt
      have hs := hstep k wr hJ hlt
      go_wp2_with (go_at_fn g; refine hs.mono ?_; rintro e W' ⟨rfl, hJ'⟩)
      go_roundw
      case rel => exact ⟨k + 1, by omega, by go_num, hJ'⟩
      case measure => simp [intOf]; omega
    · obtain rfl : k = L := by omega
      go_wp2
      go_end0
      exact ⟨rfl, hJ⟩

set_option maxHeartbeats 400000 in
/-- a search that finds none -/
theorem idxf_any (g : Nat) (eg : Enters Tryz.prog g) (S : Nat) (o : Option Addr) (L cap : Nat) (c : Nat → Int) (w : World) (hL : L ≤ 1000)
    (hcell : ∀ k, k < L → ∃ b, o = some ⟨b, 0, none⟩ ∧ w.cell? ⟨b, k, none⟩ = some (.int .i64 (c k)))
    (hstep : ∀ k, k < L → Calls Tryz.prog g #[.pointer (some ⟨S, 0, none⟩), .int .i64 (c k)] w fun e W' => e = .returned (.bool false) ∧ w = W') :
    Calls Tryz.prog 78 #[.slice o L cap, .func (.func g) #[.pointer (some ⟨S, 0, none⟩)] #[]] w fun e W' => e = .returned (.int .i64 (-1)) ∧ w = W' := by
  have eg2 : ∀ args w, Sem.run Tryz.prog (callFunc g args) w = .ok (.enter g args) w := eg
  go_enter Tryz.func78, Tryz.ntmps78
  go_wp2_with fail
  go_loopw [8] (fun t wr => ∃ k : Nat, k ≤ L ∧ t = .int .i64 k ∧ w = wr) (fun t _ => L - (intOf t).toNat)
  case atStart => exact ⟨0, by omega, rfl, rfl⟩
  case round =>
    obtain ⟨k, hk, rfl, rfl⟩ := hrel
    by_cases hlt : k < L
    · obtain ⟨b, rfl, hc⟩ := hcell k hlt
      have hs := hstep k hlt
      go_wp2_with (go_at_fn g; refine hs.mono ?_; rintro e W' ⟨rfl, rfl⟩)
      go_roundw
      case rel => exact ⟨k + 1, by omega, by go_num, trivial⟩
      case measure => simp [intOf]; omega
    · obtain rfl : k = L := by omega
      go_wp2
      go_ret
      exact ⟨rfl, rfl⟩
set_option maxHeartbeats 400000 in
theorem contf_any (g : Nat) (eg : Enters Tryz.prog g) (S : Nat) (o : Option Addr) (L cap : Nat) (c : Nat → Int) (w : World) (hL : L ≤ 1000)
    (hcell : ∀ k, k < L → ∃ b, o = some ⟨b, 0, none⟩ ∧ w.cell? ⟨b, k, none⟩ = some (.int .i64 (c k)))
    (hstep : ∀ k, k < L → Calls Tryz.prog g #[.pointer (some ⟨S, 0, none⟩), .int .i64 (c k)] w fun e W' => e = .returned (.bool false) ∧ w = W') :
    Calls Tryz.prog 61 #[.slice o L cap, .func (.func g) #[.pointer (some ⟨S, 0, none⟩)] #[]] w fun e W' => e = .returned (.bool false) ∧ w = W' := by
  have hi := idxf_any g eg S o L cap c w hL hcell hstep
  clear hcell hstep
  go_enter Tryz.func61, Tryz.ntmps61
  go_wp2_with (go_at_call 78; refine hi.mono ?_; rintro e W' ⟨rfl, rfl⟩)
  go_ret
  exact ⟨rfl, rfl⟩
end Go.Proofs.YtdapmcclplfpfaaGreatDoor

/-
  Contracts of package walk: Walk.
-/
namespace Go.Proofs.YtdapmcclplfpfaaGreatDoor
open Go.ChangeShapes Go.WideShapes Go.ChangeAt Go.RowKit

set_option maxRecDepth 100000 in
set_option maxHeartbeats 2000000 in
theorem wwalk_any (A : Nat) (m : Mem) (root q : Int) (w : World) (h : MemAt w A m) (T : Tab w) (hg : m.good) :
    Calls Tryz.prog 32 #[.pointer (some ⟨A, 0, none⟩), .int .i64 root, .int .i64 q] w fun e w' => ∃ v, e = .returned (.tuple #[(m.wE root q).val, v, .int .i64 (m.wX root q)]) ∧
      w'.ownsRow w.heap.size 85 2 v (m.wN root q) (m.wS root q (m.wN root q)) ∧ Upd (fun _ => False) w w' := by
  obtain ⟨i0, hi, hz0, hz1, hz2⟩ := info_parts info_step
  have cI := Lib.hid (fun W (T : Tab W) => windices_any q W T)
  have cX := Lib.hid (fun W (h : MemAt W A m) => wexists_any A m root W h)
  have cG := Lib.hid (fun f p W (h : MemAt W A m) (T : Tab W) => wget_any A m f p W h T hg)
  have k0 : Hid (EntAt (w.alloc (.cells #[.bool false, .bool false, .bool false, .int .i64 0] 46)) w.heap.size false false false 0) := Lib.hid (heap_alloc_last w _)
  clear hg
  obtain ⟨p0, e0⟩ : ∃ p, p = idxI q 0 := ⟨_, rfl⟩
  obtain ⟨p1, e1⟩ : ∃ p, p = idxI q 1 := ⟨_, rfl⟩
  obtain ⟨p2, e2⟩ : ∃ p, p = idxI q 2 := ⟨_, rfl⟩
  rw [← e0, ← e1, ← e2] at cI
  have hP := Lib.hid (And.intro e0 (And.intro e1 e2))
  clear e0 e1 e2
  cases hw : m.wB root q
  · obtain ⟨n1, n2, n3⟩ := m.walk_no root q hw
    rw [n1, n2, n3]
    clear n1 n2 n3 cG hP
    cases hq : pageB q
    · rw [hq] at cI
      clear hq hw cX
      go_enter Tryz.func32, Tryz.ntmps32
      go_wp2
      go_step3
      go_wp2_with fail
      refine (cI.out _ (T.kept ((Upd.refl _ _).alloc _))).mono ?_
      rintro e w1 ⟨rfl, u⟩
      rw [show errB false = 1 from rfl]
      have k1 : Hid (EntAt w1 w.heap.size false false false 0) := Lib.hid (k0.out.kept u id)
      have U := Lib.hid (((Upd.refl (fun _ => False) w).alloc _).trans u)
      clear u k0 T h cI
      obtain ⟨a1, a2, a3⟩ := arr_box w1 p0 p1 p2
      have A3 := Lib.hid a3
      have U2 := Lib.hid (U.out.trans a2)
      have k2 := Lib.hid (k1.out.kept a2 id)
      clear a1 a2 a3 U k1
      obtain ⟨B, hB⟩ : ∃ B, B = w.heap.size := ⟨_, rfl⟩
      rw [← hB] at k2 ⊢
      have hB' := Lib.hid hB
      clear hB
      go_upto_region 2 with ((with_reducible refine wpList_store_sz rfl 114 (.tmp 9) (.tmp 22) rfl w1.heap.size 0 #[.int .i64 p0, .int .i64 p1, .int .i64 p2] rfl rfl 3 (arr3_sz _ _ _) A3.out size_arr3 (arr3_one _ _ _) [.int .i64 p0, .int .i64 p1, .int .i64 p2] (arr3_ls _ _ _) ?_))
      generalize (w1.alloc (.cells #[.int .i64 0, .int .i64 0, .int .i64 0] 114)).setCells w1.heap.size 0 [.int .i64 p0, .int .i64 p1, .int .i64 p2] = w2 at U2 k2 ⊢
      clear A3
      go_wp2_with (with_reducible refine wpList_store_sz rfl 46 (.tmp 6) (.tmp 32) rfl B 0 #[.bool false, .bool false, .bool false, .int .i64 0] rfl rfl 4 (ent_sz _ _ _ _) k2.out.there size_ent (ent_one _ _ _ _) [.bool false, .bool false, .bool false, .int .i64 0] (ent_ls _ _ _ _) ?_)
      (try simp only [Exit.inBlock, Exit.then])
      (try rw [Exit.noGoto_ret])
      refine bodyPost_ret (ret_ent2 rfl _ _ B false false false 0 rfl (k2.out.set false false false 0)) rfl ⟨_, rfl, World.ownsRow_nil _ _ _ _, ?_⟩
      exact Upd.setCells (.inr (Nat.le_of_eq hB'.out.symm)) _ _ U2.out
    · have hr : m.ex root 1 = false := by unfold Mem.wB at hw; rw [hq, Bool.and_true] at hw; exact hw
      rw [hq] at cI
      rw [hr] at cX
      clear hq hw hr
      go_enter Tryz.func32, Tryz.ntmps32
      go_wp2
      go_step3
      go_wp2_with fail
      refine (cI.out _ (T.kept ((Upd.refl _ _).alloc _))).mono ?_
      rintro e w1 ⟨rfl, u⟩
      rw [show errB true = 0 from rfl]
      have k1 : Hid (EntAt w1 w.heap.size false false false 0) := Lib.hid (k0.out.kept u id)
      have U := Lib.hid (((Upd.refl (fun _ => False) w).alloc _).trans u)
      clear u k0 T cI
      obtain ⟨a1, a2, a3⟩ := arr_box w1 p0 p1 p2
      have A3 := Lib.hid a3
      have U2 := Lib.hid (U.out.trans a2)
      have k2 := Lib.hid (k1.out.kept a2 id)
      clear a1 a2 a3 U k1
      obtain ⟨B, hB⟩ : ∃ B, B = w.heap.size := ⟨_, rfl⟩
      rw [← hB] at k2 ⊢
      have hB' := Lib.hid hB
      clear hB
      go_upto_region 2 with ((with_reducible refine wpList_store_sz rfl 114 (.tmp 9) (.tmp 22) rfl w1.heap.size 0 #[.int .i64 p0, .int .i64 p1, .int .i64 p2] rfl rfl 3 (arr3_sz _ _ _) A3.out size_arr3 (arr3_one _ _ _) [.int .i64 p0, .int .i64 p1, .int .i64 p2] (arr3_ls _ _ _) ?_))
      generalize (w1.alloc (.cells #[.int .i64 0, .int .i64 0, .int .i64 0] 114)).setCells w1.heap.size 0 [.int .i64 p0, .int .i64 p1, .int .i64 p2] = w2 at U2 k2 ⊢
      clear A3
      go_wp2_with fail
      refine (cX.out _ (h.kept U2.out id id)).mono ?_
      rintro e w3 ⟨rfl, rfl⟩
      go_wp2_with (with_reducible refine wpList_store_sz rfl 46 (.tmp 6) (.tmp 32) rfl B 0 #[.bool false, .bool false, .bool false, .int .i64 0] rfl rfl 4 (ent_sz _ _ _ _) k2.out.there size_ent (ent_one _ _ _ _) [.bool false, .bool false, .bool false, .int .i64 0] (ent_ls _ _ _ _) ?_)
      (try simp only [Exit.inBlock, Exit.then])
      (try rw [Exit.noGoto_ret])
      refine bodyPost_ret (ret_ent2 rfl _ _ B false false false 0 rfl (k2.out.set false false false 0)) rfl ⟨_, rfl, World.ownsRow_nil _ _ _ _, ?_⟩
      exact Upd.setCells (.inr (Nat.le_of_eq hB'.out.symm)) _ _ U2.out
  · obtain ⟨hr, hq⟩ : m.ex root 1 = true ∧ pageB q = true := by simpa [Mem.wB] using hw
    rw [hq] at cI
    rw [hr] at cX
    have hw' := Lib.hid hw
    clear hq hr hw
    go_enter Tryz.func32, Tryz.ntmps32
    go_wp2
    go_step3
    go_wp2_with fail
    refine (cI.out _ (T.kept ((Upd.refl _ _).alloc _))).mono ?_
    rintro e w1 ⟨rfl, u⟩
    rw [show errB true = 0 from rfl]
    have k1 : Hid (EntAt w1 w.heap.size false false false 0) := Lib.hid (k0.out.kept u id)
    have U := Lib.hid (((Upd.refl (fun _ => False) w).alloc _).trans u)
    clear u k0 cI
    obtain ⟨a1, a2, a3⟩ := arr_box w1 p0 p1 p2
    have A1 := Lib.hid a1
    have A3 := Lib.hid a3
    have U2 := Lib.hid (U.out.trans a2)
    have k2 := Lib.hid (k1.out.kept a2 id)
    have hs1 := lt_of_heap k1.out
    clear a1 a2 a3 U k1
    obtain ⟨R, hR⟩ : ∃ R, R = w.heap.size := ⟨_, rfl⟩
    rw [← hR] at k2 hs1 ⊢
    have hRN := Lib.hid (Nat.le_of_eq hR.symm)
    clear hR
    have hRF1 := Lib.hid (lt_of_heap A1.out)
    have hs2 := Lib.hid hs1
    clear hs1
    go_upto_region 2 with ((with_reducible refine wpList_store_sz rfl 114 (.tmp 9) (.tmp 22) rfl w1.heap.size 0 #[.int .i64 p0, .int .i64 p1, .int .i64 p2] rfl rfl 3 (arr3_sz _ _ _) A3.out size_arr3 (arr3_one _ _ _) [.int .i64 p0, .int .i64 p1, .int .i64 p2] (arr3_ls _ _ _) ?_))
    generalize (w1.alloc (.cells #[.int .i64 0, .int .i64 0, .int .i64 0] 114)).setCells w1.heap.size 0 [.int .i64 p0, .int .i64 p1, .int .i64 p2] = w2 at U2 k2 A1 hRF1 ⊢
    generalize w1.heap.size = Bx at A1 hRF1 hs2 ⊢
    have hRF2 : Hid (R < w2.heap.size) := Lib.hid (Nat.lt_trans hs2.out hRF1.out)
    clear A3 hs2 hRF1
    go_wp2_with fail
    refine (cX.out _ (h.kept U2.out id id)).mono ?_
    rintro e w3 ⟨rfl, rfl⟩
    have u3 := (Upd.refl (fun _ => False) w2).alloc (.cells #[.bool false, .bool false, .bool false, .int .i64 0] 46)
    have A2 := Lib.hid (A1.out.kept u3 id)
    have k3 := Lib.hid (k2.out.kept u3 id)
    have kF : Hid (EntAt (w2.alloc (.cells #[.bool false, .bool false, .bool false, .int .i64 0] 46)) w2.heap.size false false false 0) := Lib.hid (heap_alloc_last w2 _)
    have U3 := U2.out.trans u3
    have hFN := Lib.hid U2.out.size
    clear u3 k2 A1 U2 cX
    go_wp2
    go_step3
    generalize w2.alloc (.cells #[.bool false, .bool false, .bool false, .int .i64 0] 46) = W at A2 k3 kF U3 ⊢
    obtain ⟨F, hF⟩ : ∃ F, F = w2.heap.size := ⟨_, rfl⟩
    rw [← hF] at kF hFN hRF2 ⊢
    have hRF0 := hRF2
    clear hF hRF2
    go_wp2_with (with_reducible refine wpList_load_sz rfl 114 (.tmp 9) rfl Bx 0 rfl [.int .i64 p0, .int .i64 p1, .int .i64 p2] _ A2.out.range Tryz.underlying114 rfl 3 (arr_len _ _ _) size_arr3 ?_)
    go_loopw [12, 13, 14, 35] (fun s t x c wr => ∃ k : Nat, k ≤ 3 ∧ c = .int .i64 k ∧ x = .int .i64 0 ∧ (∃ z, t = .int .i64 z ∧ Hid (k < 3 → z = m.wF root q k)) ∧ Hid (wr.ownsRow w.heap.size 85 2 s k (m.wS root q k)) ∧ Upd (fun _ => False) w wr ∧ Hid (EntAt wr R false false false 0) ∧
      (∃ E : En, Hid (EntAt wr F E.v E.r E.t E.f) ∧ Hid (k < 3 → E = En.zero) ∧ Hid (k = 3 → E = m.getE (m.wF root q 2) (idxI q 2))) ∧ Hid (∀ j, j < k → m.wC root q j = 0)) (fun _ _ _ c _ => 3 - (intOf c).toNat)
    case atStart => exact ⟨0, by omega, rfl, rfl, ⟨root, rfl, Lib.hid fun _ => rfl⟩, Lib.hid (World.ownsRow_nil _ _ _ _), U3, k3, ⟨En.zero, kF, Lib.hid fun _ => rfl, Lib.hid fun h => absurd h (by omega)⟩, Lib.hid fun j hj => absurd hj (by omega)⟩
    case round =>
      obtain ⟨k, hk, rfl, rfl, ⟨z, rfl, hz⟩, hrow, hU, KR, ⟨E, KF, hE0, hE3⟩, hC⟩ := hrel
      clear A2 k3 kF U3
      by_cases hlt : k < 3
      · obtain rfl := hE0.out hlt
        have hz' := Lib.hid (hz.out hlt)
        obtain ⟨y, hy⟩ : ∃ y, y = [p0, p1, p2].getD k 0 := ⟨_, rfl⟩
        have hx : ∀ w, (Instr.index 114 (.agg #[.int .i64 p0, .int .i64 p1, .int .i64 p2]) (.int .i64 k)).run Tryz.prog w = .ok (.int .i64 y) w := run_index_ints (P := Tryz.prog) Tryz.underlying114 Tryz.underlying3 (by kernel_rfl) [p0, p1, p2] rfl .i64 k hlt y hy.symm
        have hy' : Hid (y = idxI q k) := Lib.hid (by
          rw [hy]
          have := hP.out
          match k, hlt with
          | 0, _ => exact this.1
          | 1, _ => exact this.2.1
          | 2, _ => exact this.2.2)
        clear hy hE0 hE3 hz
        obtain ⟨o, cap, rfl⟩ := wk_slice hrow.out
        have hsz := hU.size
        have ck := Lib.hid (fun W hM hT => cG.out z y W hM hT)
        have hcd : Hid (m.wC root q k = codeI (m.getE z y) (m.getX z y) k) := Lib.hid (by rw [hz'.out, hy'.out]; rfl)
        have hFn : Hid (m.wF root q (k + 1) = (m.getE z y).f) := Lib.hid (by rw [hz'.out, hy'.out]; rfl)
        have hE2 : Hid (k = 2 → m.getE (m.wF root q 2) (idxI q 2) = m.getE z y) := Lib.hid (by rw [hz'.out, hy'.out]; rintro rfl; rfl)
        have hSn : Hid (m.wS root q (k + 1) = m.wS root q k ++ [.int .i64 z, .int .i64 y]) := Lib.hid (by rw [hz'.out, hy'.out]; rfl)
        generalize m.getE z y = G at ck hcd hFn hE2
        generalize m.getX z y = X at ck hcd
        obtain ⟨v, r, t, f⟩ := G
        clear cG hz' hy' hP
        go_upto_region 11 with ((at_builtin; refine wpList_append_own _ rfl _ _ 76 rfl w.heap.size 85 i0 (.agg #[.int .i64 0, .int .i64 0]) 2 16 Tryz.underlying76 hi hz0 hz1 hz2 rfl (by decide) _ _ _ rfl (hrow.out.alloc _) ⟨wr.heap.size, 0, none⟩ 1 1 [.int .i64 z, .int .i64 y] rfl rfl (wk_two _ _ _ _) (by simp [Value.oneCell']) (by simp [maxLen]; omega) (by omega) (by simp; omega) ?_; intro v' w4 hown' hgrow _; obtain ⟨g', cap', rfl⟩ := ownsRow_succ hown'))
        obtain ⟨U4, hat⟩ := wk_grown hrow.out hgrow hU (Nat.le_refl _)
        have KR4 : Hid (EntAt w4 R false false false 0) := Lib.hid (hat R _ _ KR.out (by decide))
        have KF4 : Hid (EntAt w4 F false false false 0) := Lib.hid (hat F _ _ KF.out (by decide))
        rw [← hSn.out] at hown'
        have hrow4 := Lib.hid hown'
        have ck4 := Lib.hid (ck.out w4 (h.kept U4 id id) (T.kept U4))
        clear hown' hgrow hat hrow hU KR KF hSn hx hsz ck
        go_wp2_with fail
        refine ck4.out.mono ?_
        rintro e w5 ⟨rfl, u⟩
        clear ck4
        obtain ⟨a1, a2, a3, a4⟩ := ent_box w5 v r t f
        have u5 := u.trans a2
        have hU5 := U4.trans u5
        have KR5 := Lib.hid (KR4.out.kept u5 id)
        have KF5 := Lib.hid (KF4.out.kept u5 id)
        have hrow5 := Lib.hid (wk_kept hrow4.out u5 (fun _ _ => id))
        have A1 := Lib.hid a1
        have A3 := Lib.hid a3
        have b0 := a1.range 0 _ rfl
        have b2 := a1.range 2 _ rfl
        have b3 := a1.range 3 _ rfl
        clear a1 a2 a3 a4 u u5 U4 KR4 KF4 hrow4
        go_upto_region 13 with ((with_reducible refine wpList_store_sz rfl 46 (.tmp 17) (.tmp 50) rfl w5.heap.size 0 #[.bool v, .bool r, .bool t, .int .i64 f] rfl rfl 4 (ent_sz _ _ _ _) A3.out size_ent (ent_one _ _ _ _) [.bool v, .bool r, .bool t, .int .i64 f] (ent_ls _ _ _ _) ?_))
        generalize (w5.alloc (.cells #[.bool false, .bool false, .bool false, .int .i64 0] 46)).setCells w5.heap.size 0 [.bool v, .bool r, .bool t, .int .i64 f] = w6 at A1 b0 b2 b3 hU5 KR5 KF5 hrow5 ⊢
        generalize w5.heap.size = Eb at A1 b0 b2 b3 ⊢
        clear A3
        by_cases hX : X = 0
        · subst hX
          cases v
          · have hc : m.wC root q k = 10 := by rw [hcd.out]; simp [codeI]
            have hS0 := m.walk_stop root q hw'.out k hlt hC.out (by rw [hc]; decide)
            rw [hc] at hS0
            have hS := Lib.hid hS0
            clear hc hS0 hcd hFn hE2 hC A1 hw'
            go_wp2_with (first
              | (with_reducible refine wpList_load_sz rfl 46 (.tmp 11) rfl F 0 rfl [.bool false, .bool false, .bool false, .int .i64 0] _ KF5.out.range Tryz.underlying46 rfl 4 (ent_len _ _ _ _) size_ent ?_)
              | (with_reducible refine wpList_store_sz rfl 46 (.tmp 6) (.tmp 72) rfl R 0 #[.bool false, .bool false, .bool false, .int .i64 0] rfl rfl 4 (ent_sz _ _ _ _) KR5.out.there size_ent (ent_one _ _ _ _) [.bool false, .bool false, .bool false, .int .i64 0] (ent_ls _ _ _ _) ?_))
            (try simp only [Exit.inBlock, Exit.then])
            (try rw [Exit.noGoto_ret])
            refine bodyPost_ret (ret_ent2 rfl _ _ R false false false 0 rfl (KR5.out.set false false false 0)) rfl ⟨_, by rw [hS.out.2.1, hS.out.2.2]; rfl, ?_, ?_⟩
            · rw [hS.out.1]
              exact wk_kept hrow5.out (Upd.setCells (S := (· = R)) (.inl rfl) _ _ (Upd.refl _ _)) (fun j hj e => wk_ne hrow5.out KR5.out (by decide) j hj e)
            · exact Upd.setCells (.inr hRN.out) _ _ hU5
          · by_cases ht : t = decide (k < 2)
            · have hc : m.wC root q k = 0 := by rw [hcd.out]; simp [codeI, ht]
              have hC' : Hid (∀ j, j < k + 1 → m.wC root q j = 0) := Lib.hid (fun j hj => by
                by_cases e : j = k
                · rw [e]; exact hc
                · exact hC.out j (by omega))
              clear hc hcd hC
              by_cases h2 : k < 2
              · obtain rfl : t = true := by rw [ht]; exact decide_eq_true h2
                have hdec : decide ((k : Int) < 2) = true := decide_eq_true (by omega)
                clear ht A1 hE2
                go_wp2
                exact ⟨⟨k + 1, by omega, by go_num, rfl, ⟨f, rfl, Lib.hid fun _ => hFn.out.symm⟩, hrow5, hU5, KR5, ⟨En.zero, KF5, Lib.hid fun _ => rfl, Lib.hid fun h => absurd h (by omega)⟩, hC'⟩, by simp [intOf]; omega⟩
              · obtain rfl : t = false := by rw [ht]; exact decide_eq_false h2
                obtain rfl : k = 2 := by omega
                have hE2' := Lib.hid (hE2.out rfl)
                clear ht hE2
                go_wp2_with (first
                  | (with_reducible refine wpList_load_sz rfl 46 (.tmp 17) rfl Eb 0 rfl [.bool true, .bool r, .bool false, .int .i64 f] _ A1.out.range Tryz.underlying46 rfl 4 (ent_len _ _ _ _) size_ent ?_)
                  | (with_reducible refine wpList_store_sz rfl 46 (.tmp 11) (.tmp 52) rfl F 0 #[.bool true, .bool r, .bool false, .int .i64 f] rfl rfl 4 (ent_sz _ _ _ _) KF5.out.there size_ent (ent_one _ _ _ _) [.bool true, .bool r, .bool false, .int .i64 f] (ent_ls _ _ _ _) ?_))
                have hRF : ¬ R = F := fun e => by have := hRF0.out; omega
                have us := Upd.setCells (S := (· = F)) (.inl rfl) [.bool true, .bool r, .bool false, .int .i64 f] 0 (Upd.refl _ w6)
                exact ⟨⟨2 + 1, by omega, by go_num, rfl, ⟨z, rfl, Lib.hid fun h => absurd h (by omega)⟩, Lib.hid (wk_kept hrow5.out us (fun j hj e => wk_ne hrow5.out KF5.out (by decide) j hj e)), Upd.setCells (.inr hFN.out) _ _ hU5, Lib.hid (KR5.out.kept us hRF),
                  ⟨⟨true, r, false, f⟩, Lib.hid (KF5.out.set true r false f), Lib.hid fun h => absurd h (by omega), Lib.hid fun _ => hE2'.out.symm⟩, hC'⟩, by simp [intOf]⟩
            · have hc : m.wC root q k = 11 := by rw [hcd.out]; simp [codeI, ht]
              have hS0 := m.walk_stop root q hw'.out k hlt hC.out (by rw [hc]; decide)
              rw [hc] at hS0
              have hS := Lib.hid hS0
              clear hc hS0 hcd hFn hE2 hC A1 hw'
              by_cases h2 : k < 2
              · obtain rfl : t = false := by simpa [h2] using ht
                have hdec : decide ((k : Int) < 2) = true := decide_eq_true (by omega)
                clear ht
                go_wp2_with (first
                  | (with_reducible refine wpList_load_sz rfl 46 (.tmp 11) rfl F 0 rfl [.bool false, .bool false, .bool false, .int .i64 0] _ KF5.out.range Tryz.underlying46 rfl 4 (ent_len _ _ _ _) size_ent ?_)
                  | (with_reducible refine wpList_store_sz rfl 46 (.tmp 6) (.tmp 72) rfl R 0 #[.bool false, .bool false, .bool false, .int .i64 0] rfl rfl 4 (ent_sz _ _ _ _) KR5.out.there size_ent (ent_one _ _ _ _) [.bool false, .bool false, .bool false, .int .i64 0] (ent_ls _ _ _ _) ?_))
                (try simp only [Exit.inBlock, Exit.then])
                (try rw [Exit.noGoto_ret])
                refine bodyPost_ret (ret_ent2 rfl _ _ R false false false 0 rfl (KR5.out.set false false false 0)) rfl ⟨_, by rw [hS.out.2.1, hS.out.2.2]; rfl, ?_, ?_⟩
                · rw [hS.out.1]
                  exact wk_kept hrow5.out (Upd.setCells (S := (· = R)) (.inl rfl) _ _ (Upd.refl _ _)) (fun j hj e => wk_ne hrow5.out KR5.out (by decide) j hj e)
                · exact Upd.setCells (.inr hRN.out) _ _ hU5
              · obtain rfl : t = true := by simpa [h2] using ht
                have hdec : decide ((k : Int) < 2) = false := decide_eq_false (by omega)
                clear ht
                go_wp2_with (first
                  | (with_reducible refine wpList_load_sz rfl 46 (.tmp 11) rfl F 0 rfl [.bool false, .bool false, .bool false, .int .i64 0] _ KF5.out.range Tryz.underlying46 rfl 4 (ent_len _ _ _ _) size_ent ?_)
                  | (with_reducible refine wpList_store_sz rfl 46 (.tmp 6) (.tmp 72) rfl R 0 #[.bool false, .bool false, .bool false, .int .i64 0] rfl rfl 4 (ent_sz _ _ _ _) KR5.out.there size_ent (ent_one _ _ _ _) [.bool false, .bool false, .bool false, .int .i64 0] (ent_ls _ _ _ _) ?_))
                (try simp only [Exit.inBlock, Exit.then])
                (try rw [Exit.noGoto_ret])
                refine bodyPost_ret (ret_ent2 rfl _ _ R false false false 0 rfl (KR5.out.set false false false 0)) rfl ⟨_, by rw [hS.out.2.1, hS.out.2.2]; rfl, ?_, ?_⟩
                · rw [hS.out.1]
                  exact wk_kept hrow5.out (Upd.setCells (S := (· = R)) (.inl rfl) _ _ (Upd.refl _ _)) (fun j hj e => wk_ne hrow5.out KR5.out (by decide) j hj e)
                · exact Upd.setCells (.inr hRN.out) _ _ hU5
        · have hc : m.wC root q k = 11 := by rw [hcd.out]; simp [codeI, hX]
          have hS0 := m.walk_stop root q hw'.out k hlt hC.out (by rw [hc]; decide)
          rw [hc] at hS0
          have hS := Lib.hid hS0
          clear hc hS0 hcd hFn hE2 hC A1 hw'
          go_wp2_with (first
            | (with_reducible refine wpList_load_sz rfl 46 (.tmp 11) rfl F 0 rfl [.bool false, .bool false, .bool false, .int .i64 0] _ KF5.out.range Tryz.underlying46 rfl 4 (ent_len _ _ _ _) size_ent ?_)
            | (with_reducible refine wpList_store_sz rfl 46 (.tmp 6) (.tmp 72) rfl R 0 #[.bool false, .bool false, .bool false, .int .i64 0] rfl rfl 4 (ent_sz _ _ _ _) KR5.out.there size_ent (ent_one _ _ _ _) [.bool false, .bool false, .bool false, .int .i64 0] (ent_ls _ _ _ _) ?_))
          (try simp only [Exit.inBlock, Exit.then])
          (try rw [Exit.noGoto_ret])
          refine bodyPost_ret (ret_ent2 rfl _ _ R false false false 0 rfl (KR5.out.set false false false 0)) rfl ⟨_, by rw [hS.out.2.1, hS.out.2.2]; rfl, ?_, ?_⟩
          · rw [hS.out.1]
            exact wk_kept hrow5.out (Upd.setCells (S := (· = R)) (.inl rfl) _ _ (Upd.refl _ _)) (fun j hj e => wk_ne hrow5.out KR5.out (by decide) j hj e)
          · exact Upd.setCells (.inr hRN.out) _ _ hU5
      · obtain rfl : k = 3 := by omega
        obtain ⟨v, r, t, f⟩ := E
        have hE := hE3.out rfl
        have hS0 := m.walk_end root q hw'.out hC.out
        rw [← hE] at hS0
        have hS := Lib.hid hS0
        obtain ⟨o, cap, rfl⟩ := wk_slice hrow.out
        clear hS0 hE hE3 hE0 hC hz hw' cG
        go_wp2_with (first
          | (with_reducible refine wpList_load_sz rfl 46 (.tmp 11) rfl F 0 rfl [.bool v, .bool r, .bool t, .int .i64 f] _ KF.out.range Tryz.underlying46 rfl 4 (ent_len _ _ _ _) size_ent ?_)
          | (with_reducible refine wpList_store_sz rfl 46 (.tmp 6) (.tmp 72) rfl R 0 #[.bool v, .bool r, .bool t, .int .i64 f] rfl rfl 4 (ent_sz _ _ _ _) KR.out.there size_ent (ent_one _ _ _ _) [.bool v, .bool r, .bool t, .int .i64 f] (ent_ls _ _ _ _) ?_))
        (try simp only [Exit.inBlock, Exit.then])
        (try rw [Exit.noGoto_ret])
        refine bodyPost_ret (ret_ent2 rfl _ _ R v r t f rfl (KR.out.set v r t f)) rfl ⟨_, by rw [hS.out.2.1, hS.out.2.2]; rfl, ?_, ?_⟩
        · rw [hS.out.1]
          exact wk_kept hrow.out (Upd.setCells (S := (· = R)) (.inl rfl) _ _ (Upd.refl _ _)) (fun j hj e => wk_ne hrow.out KR.out (by decide) j hj e)
        · exact Upd.setCells (.inr hRN.out) _ _ hU
end Go.Proofs.YtdapmcclplfpfaaGreatDoor

/-
  The laws' tables and awake over package walk.
-/
namespace Go.Proofs.YtdapmcclplfpfaaGreatDoor
open Go.ChangeShapes Go.WideShapes Go.ChangeAt Go.RowKit

/-- three tables -/
def Mem.tabs (m : Mem) : Mem := ((m.put 0 1 ⟨true, false, true, 1⟩).put 1 2 ⟨true, false, true, 2⟩).put 2 3 ⟨true, true, false, 7⟩
theorem Mem.tabs_B (m : Mem) : m.tabs.B = m.B := by unfold Mem.tabs; rw [Mem.put_B, Mem.put_B, Mem.put_B]
theorem Mem.tabs_n (m : Mem) : m.tabs.n = m.n := by unfold Mem.tabs; rw [Mem.put_n, Mem.put_n, Mem.put_n]
theorem Mem.tabs_ok (m : Mem) (h : m.ok) : m.tabs.ok := Mem.put_ok _ (Mem.put_ok _ (Mem.put_ok _ h ..) ..) ..
theorem Mem.tabs_good (m : Mem) (h : m.ok) (hg : m.good) : m.tabs.good := by
  have h1 := m.put_good h hg 0 1 ⟨true, false, true, 1⟩
  have k1 := m.put_ok h 0 1 ⟨true, false, true, 1⟩
  have h2 := Mem.put_good _ k1 h1 1 2 ⟨true, false, true, 2⟩
  have k2 := Mem.put_ok _ k1 1 2 ⟨true, false, true, 2⟩
  exact Mem.put_good _ k2 h2 2 3 ⟨true, true, false, 7⟩
theorem wk_aw (B : Nat) : (memNew B 4).tabs.wE 0 291 = ⟨true, true, false, 7⟩ ∧ (memNew B 4).tabs.wX 0 291 = 0 ∧ (memNew B 4).tabs.wN 0 291 = 3 ∧ (memNew B 4).tabs.wX 0 547 = 10 ∧ (memNew B 4).tabs.wN 0 547 = 1 ∧
    (memNew B 4).tabs.zero 3 = true ∧ (memNew B 4).tabs.zero 1 = false := ⟨by kernel_rfl, by kernel_rfl, by kernel_rfl, by kernel_rfl, by kernel_rfl, by kernel_rfl, by kernel_rfl⟩
/-- a memory that the call itself made -/
theorem Upd.fresh {a b c : World} {B : Nat} (h : Upd (fun _ => False) a b) (u : Upd (· = B) b c) (hB : a.heap.size ≤ B) : Upd (fun _ => False) a c :=
  ⟨u.os.trans h.os, u.tape.trans h.tape, u.output.trans h.output, Nat.le_trans h.size u.size, fun k hk hs => (u.block k (Nat.lt_of_lt_of_le hk h.size) (by omega)).trans (h.block k hk hs)⟩
end Go.Proofs.YtdapmcclplfpfaaGreatDoor

/-
  Rows of the laws' Ops in memory; what a walk's codes say.
-/
namespace Go.Proofs.YtdapmcclplfpfaaGreatDoor
open Go.ChangeShapes Go.WideShapes Go.ChangeAt Go.RowKit

abbrev opKs : List (Option IntKind) := [some .i64, some .i64, none, none, none, some .i64, none, some .u64]
/-- the cells of an Op in a row of them -/
structure OpIn (w : World) (b o : Nat) (x y : Int) (e : En) (raw : Bool) (u : Int) : Prop where
  c0 : w.cell? ⟨b, o, none⟩ = some (.int .i64 x)
  c1 : w.cell? ⟨b, o + 1, none⟩ = some (.int .i64 y)
  rg : w.rangeAt b (o + 2) [.bool e.v, .bool e.r, .bool e.t, .int .i64 e.f]
  all : w.rangeAt b o [.int .i64 x, .int .i64 y, .bool e.v, .bool e.r, .bool e.t, .int .i64 e.f, .bool raw, .int .u64 u]
  wx : (Lit.int .i64 x).wf = true
  wy : (Lit.int .i64 y).wf = true
  wf : (Lit.int .i64 e.f).wf = true
  wu : (Lit.int .u64 u).wf = true
theorem op8 {w : World} {ao : Option Addr} {n b off : Nat} {E : Nat → Nat → Value} (R : Fr.RowArg w ao n b off opKs E) (i : Nat) (hi : i < n) :
    ∃ (x y : Int) (e : En) (raw : Bool) (u : Int), OpIn w b (off + i * 8) x y e raw u := by
  obtain ⟨x, hx, wx⟩ := R.ok i hi 0 _ rfl
  obtain ⟨y, hy, wy⟩ := R.ok i hi 1 _ rfl
  obtain ⟨v, hv⟩ := R.ok i hi 2 _ rfl
  obtain ⟨r, hr⟩ := R.ok i hi 3 _ rfl
  obtain ⟨t, ht⟩ := R.ok i hi 4 _ rfl
  obtain ⟨f, hf, wf⟩ := R.ok i hi 5 _ rfl
  obtain ⟨raw, hq⟩ := R.ok i hi 6 _ rfl
  obtain ⟨u, hu, wu⟩ := R.ok i hi 7 _ rfl
  have c : ∀ j, j < 8 → w.cell? ⟨b, off + i * 8 + j, none⟩ = some (E i j) := fun j hj => by
    have := R.cell i hi j hj
    rwa [show off + (i * opKs.length + j) = off + i * 8 + j from by show off + (i * 8 + j) = _; omega] at this
  have c0 := c 0 (by omega)
  have c1 := c 1 (by omega)
  have c2 := c 2 (by omega)
  have c3 := c 3 (by omega)
  have c4 := c 4 (by omega)
  have c5 := c 5 (by omega)
  have c6 := c 6 (by omega)
  have c7 := c 7 (by omega)
  rw [hx] at c0
  rw [hy] at c1
  rw [hv] at c2
  rw [hr] at c3
  rw [ht] at c4
  rw [hf] at c5
  rw [hq] at c6
  rw [hu] at c7
  refine ⟨x, y, ⟨v, r, t, f⟩, raw, u, c0, c1, ?_, ?_, wx, wy, wf, wu⟩
  · intro j z hz
    match j, hz with
    | 0, hz => simp at hz; subst hz; exact c2
    | 1, hz => simp at hz; subst hz; exact c3
    | 2, hz => simp at hz; subst hz; exact c4
    | 3, hz => simp at hz; subst hz; exact c5
    | j + 4, hz => simp at hz
  · intro j z hz
    match j, hz with
    | 0, hz => simp at hz; subst hz; exact c0
    | 1, hz => simp at hz; subst hz; exact c1
    | 2, hz => simp at hz; subst hz; exact c2
    | 3, hz => simp at hz; subst hz; exact c3
    | 4, hz => simp at hz; subst hz; exact c4
    | 5, hz => simp at hz; subst hz; exact c5
    | 6, hz => simp at hz; subst hz; exact c6
    | 7, hz => simp at hz; subst hz; exact c7
    | j + 8, hz => simp at hz
theorem OpIn.drew {w : World} {b o : Nat} {x y : Int} {e : En} {raw : Bool} {u : Int} (h : OpIn w b o x y e raw u) : OpIn w.drew b o x y e raw u := ⟨h.c0, h.c1, h.rg, h.all, h.wx, h.wy, h.wf, h.wu⟩
/-- what the laws keep of a memory of four frames -/
structure Four (N : Nat) (M : Mem) : Prop where
  ok : M.ok
  good : M.good
  B : M.B = N
  n : M.n = 4
theorem Four.new (N : Nat) : Four N (memNew N 4).tabs :=
  ⟨Mem.tabs_ok _ (Mem.new_ok _ 4), Mem.tabs_good _ (Mem.new_ok _ 4) (Mem.new_good _ 4), by rw [Mem.tabs_B]; rfl, by rw [Mem.tabs_n]; rfl⟩
theorem Four.put {N : Nat} {M : Mem} (h : Four N M) (f p : Int) (e : En) : Four N (M.put f p e) :=
  ⟨M.put_ok h.ok f p e, M.put_good h.ok h.good f p e, by rw [Mem.put_B]; exact h.B, by rw [Mem.put_n]; exact h.n⟩
theorem Four.wB {N : Nat} {M : Mem} (h : Four N M) (q : Int) : M.wB 0 q = pageB q := by
  unfold Mem.wB Mem.ex
  rw [h.n]
  rfl
theorem codeI_vals (E : En) (X : Int) (k : Nat) : codeI E X k = 0 ∨ codeI E X k = 10 ∨ codeI E X k = 11 := by
  unfold codeI
  split
  · exact .inr (.inr rfl)
  · split
    · exact .inr (.inl rfl)
    · split
      · exact .inr (.inr rfl)
      · exact .inl rfl
theorem codeI_zero {E : En} {X : Int} {k : Nat} (h : codeI E X k = 0) : X = 0 ∧ E.v = true ∧ E.t = decide (k < 2) := by
  unfold codeI at h
  split at h
  · cases h
  · rename_i h1
    split at h
    · cases h
    · rename_i h2
      split at h
      · cases h
      · rename_i h3
        exact ⟨by simpa using h1, by simpa using h2, by simpa using h3⟩
theorem Mem.wC_vals (m : Mem) (root q : Int) (k : Nat) : m.wC root q k = 0 ∨ m.wC root q k = 10 ∨ m.wC root q k = 11 := codeI_vals _ _ _
theorem Mem.wX_arg (m : Mem) (root q : Int) : m.wX root q = 1 ↔ m.wB root q = false := by
  unfold Mem.wX
  cases m.wB root q
  · simp
  · simp only [if_true]
    constructor
    · intro h
      exfalso
      revert h
      rcases m.wC_vals root q 0 with c | c | c <;> rw [c]
      · rcases m.wC_vals root q 1 with d | d | d <;> rw [d]
        · rcases m.wC_vals root q 2 with e | e | e <;> rw [e] <;> simp
        · simp
        · simp
      · simp
      · simp
    · intro h; cases h
theorem Mem.wN_bd (m : Mem) (root q : Int) (h : m.wB root q = true) : 1 ≤ m.wN root q ∧ m.wN root q ≤ 3 := by
  unfold Mem.wN
  rw [if_pos h]
  split
  · omega
  · split <;> omega
theorem Mem.wN_on (m : Mem) (root q : Int) (j : Nat) (h : j + 1 < m.wN root q) : m.wC root q j = 0 := by
  unfold Mem.wN at h
  cases hb : m.wB root q
  · rw [hb] at h; simp at h
  · rw [hb] at h
    simp only [if_true] at h
    split at h
    · omega
    · rename_i h0
      split at h
      · match j, h with
        | 0, _ => simpa using h0
      · rename_i h1
        match j, h with
        | 0, _ => simpa using h0
        | 1, _ => simpa using h1
theorem Mem.wX_ok (m : Mem) (root q : Int) (h : m.wX root q = 0) : m.wN root q = 3 ∧ m.wE root q = m.getE (m.wF root q 2) (idxI q 2) ∧ m.wC root q 2 = 0 := by
  cases hb : m.wB root q
  · rw [(m.walk_no root q hb).2.1] at h; cases h
  · by_cases h0 : m.wC root q 0 = 0
    · by_cases h1 : m.wC root q 1 = 0
      · by_cases h2 : m.wC root q 2 = 0
        · have := m.walk_end root q hb (fun j hj => by match j, hj with | 0, _ => exact h0 | 1, _ => exact h1 | 2, _ => exact h2)
          exact ⟨this.1, this.2.2, h2⟩
        · have := m.walk_stop root q hb 2 (by omega) (fun j hj => by match j, hj with | 0, _ => exact h0 | 1, _ => exact h1) h2
          rw [this.2.1] at h; exact absurd h h2
      · have := m.walk_stop root q hb 1 (by omega) (fun j hj => by match j, hj with | 0, _ => exact h0) h1
        rw [this.2.1] at h; exact absurd h h1
    · have := m.walk_stop root q hb 0 (by omega) (fun j hj => absurd hj (by omega)) h0
      rw [this.2.1] at h; exact absurd h h0
/-- the cells of a walk's steps -/
theorem steps_cells {w : World} {base : Nat} {v : Value} {m : Mem} {root q : Int} {n : Nat} (h : w.ownsRow base 85 2 v n (m.wS root q n)) (hn : 0 < n) : ∃ g cap, v = .slice (some ⟨g, 0, none⟩) n cap ∧ base ≤ g ∧
    ∀ j, j < n → w.cell? ⟨g, j * 2, none⟩ = some (.int .i64 (m.wF root q j)) ∧ w.cell? ⟨g, j * 2 + 1, none⟩ = some (.int .i64 (idxI q j)) := by
  rcases h.2 with ⟨_, rfl⟩ | ⟨g, cap, cur, rfl, hb, _⟩
  · omega
  · refine ⟨g, cap, rfl, hb, fun j hj => ?_⟩
    obtain ⟨a, b⟩ := m.wS_at root q j n hj
    have c0 := h.cells (g := g) rfl (j * 2) _ a
    have c1 := h.cells (g := g) rfl (j * 2 + 1) _ b
    rw [add_mid0, Nat.zero_add] at c0 c1
    exact ⟨c0, c1⟩
/-- a whole row stored, as a step of a region that draws -/
theorem step_store_sz {P : Program} {ops : Array Oper} {o : Oper} {a : Act} {w : World} {K : Act → World → Prop} {Q : Exit → Act → World → Prop} {E : Prop} (hw : Region.wanted o (yielded ops a.tmps) = true) (ty : TypeId) (x y : Operand) (ho : o.op = .store ty x y)
    (b f : Nat) (cells : Array Value) (hx : a.eval x = .pointer (some ⟨b, f, none⟩)) (hy : a.eval y = .agg cells) (k : Nat) (hk : cells.size = k)
    (ht : w.there b f k) (hi : (P.info? ty).map (·.size) = some k) (h1 : cells.all (·.oneCell') = true) (cs : List Value) (hcs : cells.toList = cs)
    (h : K (a.put o.dst undef) (w.setCells b f cs)) : if Region.wanted o (yielded ops a.tmps) = true then Oper.wp P o a w K Q else E := by
  subst hk hcs
  rw [if_pos hw]
  exact wp_store_mid ty x y ho b f cells hx hy ht hi h1 h
/-- a whole row loaded, as a step of a region that draws -/
theorem step_load_sz {P : Program} {ops : Array Oper} {o : Oper} {a : Act} {w : World} {K : Act → World → Prop} {Q : Exit → Act → World → Prop} {E : Prop} (hw : Region.wanted o (yielded ops a.tmps) = true) (ty : TypeId) (x : Operand) (ho : o.op = .load ty x)
    (b f : Nat) (hx : a.eval x = .pointer (some ⟨b, f, none⟩)) (cs : List Value) (d : TypeDesc) (hc : w.rangeAt b f cs)
    (hu : P.underlying ty = some d) (hd : d.isRow = true) (k : Nat) (hk : cs.length = k) (hi : (P.info? ty).map (·.size) = some k)
    (h : K (a.put o.dst (.agg cs.toArray)) w) : if Region.wanted o (yielded ops a.tmps) = true then Oper.wp P o a w K Q else E := by
  subst hk
  rw [if_pos hw]
  exact wp_load_mid ty x ho b f hx cs d hc hu hd hi h
/-- an entry's cells, and that they may be written -/
theorem EntAt.eight {w : World} {b : Nat} {v r t : Bool} {f : Int} (h : EntAt w b v r t f) : w.cell? ⟨b, 0, none⟩ = some (.bool v) ∧ w.cell? ⟨b, 1, none⟩ = some (.bool r) ∧ w.cell? ⟨b, 2, none⟩ = some (.bool t) ∧ w.cell? ⟨b, 3, none⟩ = some (.int .i64 f) ∧
    w.frozen? ⟨b, 0, none⟩ = false ∧ w.frozen? ⟨b, 1, none⟩ = false ∧ w.frozen? ⟨b, 2, none⟩ = false ∧ w.frozen? ⟨b, 3, none⟩ = false :=
  ⟨h.range 0 _ rfl, h.range 1 _ rfl, h.range 2 _ rfl, h.range 3 _ rfl, frozen_block h _, frozen_block h _, frozen_block h _, frozen_block h _⟩
end Go.Proofs.YtdapmcclplfpfaaGreatDoor

/-
  Package tables: Find and Protect, over the words of the memory.
-/
namespace Go.Proofs.YtdapmcclplfpfaaGreatDoor
open Go.ChangeShapes Go.WideShapes Go.ChangeAt Go.RowKit Go.Shelf

theorem Mem.wX_three (m : Mem) (root q : Int) (h : m.wX root q = 0) : m.wN root q = 3 := by
  unfold Mem.wX at h
  unfold Mem.wN
  cases hb : m.wB root q
  · rw [hb] at h; simp at h
  · rw [hb] at h
    simp only [if_true] at h ⊢
    split at h
    · rename_i h0; exact absurd h h0
    · rename_i h0
      split at h
      · rename_i h1; exact absurd h h1
      · rename_i h1; rw [if_neg h0, if_neg h1]
theorem row_mono {w : World} {base b' sz k : Nat} {e : TypeId} {v : Value} {xs : List Value} (h : w.ownsRow base e sz v k xs) (hb : b' ≤ base) : w.ownsRow b' e sz v k xs := by
  refine ⟨h.1, ?_⟩
  rcases h.2 with hn | ⟨g, cap, cur, rfl, hbg, rest⟩
  · exact .inl hn
  · exact .inr ⟨g, cap, cur, rfl, Nat.le_trans hb hbg, rest⟩
/-- what a walk hands on, wherever its row of steps lies -/
theorem walk_row {A : Nat} {m : Mem} {root q : Int} {w : World} (N : Nat) (hN : N ≤ w.heap.size) (h : MemAt w A m) (T : Tab w) (hg : m.good) :
    Calls Tryz.prog 32 #[.pointer (some ⟨A, 0, none⟩), .int .i64 root, .int .i64 q] w fun e w' => ∃ o cap, e = .returned (.tuple #[(m.wE root q).val, .slice o (m.wN root q) cap, .int .i64 (m.wX root q)]) ∧
      Hid (w'.ownsRow N 85 2 (.slice o (m.wN root q) cap) (m.wN root q) (m.wS root q (m.wN root q))) ∧ Upd (fun _ => False) w w' := by
  refine (wwalk_any A m root q w h T hg).mono ?_
  rintro e w' ⟨v, rfl, hr, u⟩
  obtain ⟨o, cap, rfl⟩ := wk_slice hr
  exact ⟨o, cap, rfl, Lib.hid (row_mono hr hN), u⟩

set_option maxRecDepth 100000 in
set_option maxHeartbeats 2000000 in
theorem sfind_any (S MA A : Nat) (root : Int) (m : Mem) (q : Int) (w : World) (h : SpAt w S MA A root) (hm : MemAt w MA m) (T : Tab w) (hg : m.good) :
    Calls Tryz.prog 15 #[.pointer (some ⟨S, 0, none⟩), .int .i64 q] w fun e w' => e = .returned (.tuple #[(m.wE root q).val, .int .i64 (m.wX root q)]) ∧ Upd (fun _ => False) w w' := by
  have cW := Lib.hid (fun (W : World) (hW : w.heap.size ≤ W.heap.size) (h : MemAt W MA m) (T : Tab W) => walk_row (root := root) (q := q) w.heap.size hW h T hg)
  clear hg
  generalize m.wN root q = n at cW
  generalize m.wX root q = X at cW ⊢
  generalize m.wE root q = E at cW ⊢
  generalize m.wS root q n = xs at cW
  obtain ⟨ev, er, et, ef⟩ := E
  have k0 : Hid (EntAt (w.alloc (.cells #[.bool false, .bool false, .bool false, .int .i64 0] 46)) w.heap.size false false false 0) := Lib.hid (heap_alloc_last w _)
  have U0 := (Upd.refl (fun _ => False) w).alloc (.cells #[.bool false, .bool false, .bool false, .int .i64 0] 46)
  have h1 := h.kept U0 id
  have M1 := hm.kept U0 id id
  have T1 := T.kept U0
  go_enter Tryz.func15, Tryz.ntmps15
  go_upto_region 1 with fail
  generalize w.alloc (.cells #[.bool false, .bool false, .bool false, .int .i64 0] 46) = wr at k0 U0 h1 M1 T1 ⊢
  have hsz := Lib.hid U0.size
  generalize eN : w.heap.size = N at k0 cW hsz ⊢
  have hR := Lib.hid (Nat.le_of_eq eN)
  clear eN
  have c0 := h1.c0
  have c2 := h1.c2
  have hS := Lib.hid (show ∀ (W' : World), Upd (fun _ => False) wr W' → W'.cell? ⟨S, 0, none⟩ = some (.pointer (some ⟨MA, 0, none⟩)) ∧ W'.cell? ⟨S, 2, none⟩ = some (.int .i64 root) ∧ Upd (fun _ => False) wr W' from fun W' u => ⟨u.cell c0 id, u.cell c2 id, u⟩)
  go_cut [6, 7, 8] (fun s6 s7 s8 wx => ∃ (D : Nat) (o : Option Addr) (cap : Nat), s6 = .pointer (some ⟨D, 0, none⟩) ∧ s7 = .slice o n cap ∧ s8 = .int .i64 X ∧ Hid (EntAt wx D ev er et ef) ∧ Upd (fun _ => False) wr wx)
  case first =>
    go_region_held3 (fun w' => w'.cell? ⟨S, 0, none⟩ = some (.pointer (some ⟨MA, 0, none⟩)) ∧ w'.cell? ⟨S, 2, none⟩ = some (.int .i64 root) ∧ Upd (fun _ => False) wr w')
      (first
        | assumption
        | exact hS.out _ (Upd.refl _ _).drew
        | exact hS.out _ ((Upd.refl _ _).drew.alloc _)
        | exact hS.out _ u7
        | exact hS.out _ (u7.alloc _)
        | exact hS.out _ ((((u7.setCell (.inr (Nat.le_refl _)) _).setCell (.inr (Nat.le_refl _)) _).setCell (.inr (Nat.le_refl _)) _).setCell (.inr (Nat.le_refl _)) _)
        | exact hS.out _ (((((u7.alloc _).setCell (.inr u7.size) _).setCell (.inr u7.size) _).setCell (.inr u7.size) _).setCell (.inr u7.size) _))
      (first
        | (go_at_call 32; go_split_ands; rename_i s1 s2 s3; refine (cW.out (wr.alloc (.cells #[.bool false, .bool false, .bool false, .int .i64 0] 46)).drew (Nat.le_trans hsz.out s3.size) (M1.kept s3 id id) (T1.kept s3)).mono ?_; rintro e w6 ⟨o, cap, rfl, -, u6⟩; have u7 := s3.trans u6; have e7 : Hid (EntAt w6 wr.heap.size false false false 0) := Lib.hid (u6.at (heap_alloc_last wr _) id); obtain ⟨e0, e1, e2, e3, z0, z1, z2, z3⟩ := e7.out.eight)
        | (go_at_call 32; go_split_ands; rename_i s1 s2 s3; refine (cW.out _ (Nat.le_trans hsz.out s3.size) (M1.kept s3 id id) (T1.kept s3)).mono ?_; rintro e w6 ⟨o, cap, rfl, -, u6⟩; have u7 := s3.trans u6))
    all_goals (go_wp2_with fail)
    all_goals go_meet
    all_goals
      first
        | exact ⟨wr.heap.size, o, cap, rfl, rfl, rfl, Lib.hid (e7.out.set ev er et ef), (((u7.setCell (.inr (Nat.le_refl _)) _).setCell (.inr (Nat.le_refl _)) _).setCell (.inr (Nat.le_refl _)) _).setCell (.inr (Nat.le_refl _)) _⟩
        | exact ⟨w6.heap.size, o, cap, rfl, rfl, rfl, Lib.hid (heap_alloc_last w6 _), u7.alloc _⟩
  case rest =>
    obtain ⟨D, o, cap, rfl, rfl, rfl, hD, u8⟩ := hcut
    have k1 := Lib.hid (k0.out.kept u8 id)
    have U := Lib.hid (U0.trans u8)
    clear hS c0 c2 h1 M1 T1 cW k0 u8 U0
    go_wp2_with first
      | (with_reducible refine wpList_load_sz rfl 46 (.tmp 6) rfl D 0 rfl [.bool ev, .bool er, .bool et, .int .i64 ef] _ hD.out.range Tryz.underlying46 rfl 4 (ent_len _ _ _ _) size_ent ?_)
      | (with_reducible refine wpList_store_sz rfl 46 (.tmp 4) (.tmp 23) rfl N 0 #[.bool ev, .bool er, .bool et, .int .i64 ef] rfl rfl 4 (ent_sz _ _ _ _) k1.out.there size_ent (ent_one _ _ _ _) [.bool ev, .bool er, .bool et, .int .i64 ef] (ent_ls _ _ _ _) ?_)
    (try simp only [Exit.inBlock, Exit.then])
    refine bodyPost_ret (ret_ent rfl _ _ N ev er et ef rfl (k1.out.set ev er et ef)) rfl ⟨rfl, ?_⟩
    exact Upd.setCells (.inr hR.out) _ _ U.out

theorem size_step : (Tryz.prog.info? 85).map (·.size) = some 2 := by kernel_rfl
end Go.Proofs.YtdapmcclplfpfaaGreatDoor

/-
  Package tables: a visit of all valid entries, for whatever function it calls.
-/
namespace Go.Proofs.YtdapmcclplfpfaaGreatDoor
open Go.ChangeShapes Go.WideShapes Go.ChangeAt Go.RowKit Go.Shelf

/-- what a visit of k levels from the table d of level l on tells -/
def Sp.vis (s : Sp) : Nat → Nat → Nat → List (Nat × En)
  | 0, _, _ => []
  | k + 1, l, d => (List.range 16).flatMap fun p => if (s.E (l + 1) (16 * d + p)).v = true then (16 * d + p, s.E (l + 1) (16 * d + p)) :: s.vis k (l + 1) (16 * d + p) else []
/-- .. of the first places -/
def Sp.visTo (s : Sp) (k l d P : Nat) : List (Nat × En) := (List.range P).flatMap fun p => if (s.E (l + 1) (16 * d + p)).v = true then (16 * d + p, s.E (l + 1) (16 * d + p)) :: s.vis k (l + 1) (16 * d + p) else []
theorem Sp.visTo_all (s : Sp) (k l d : Nat) : s.visTo k l d 16 = s.vis (k + 1) l d := rfl
theorem Sp.visTo_no (s : Sp) (k l d P : Nat) (h : (s.E (l + 1) (16 * d + P)).v = false) : s.visTo k l d (P + 1) = s.visTo k l d P := by
  unfold Sp.visTo
  rw [List.range_succ, List.flatMap_append]
  simp [h]
theorem Sp.visTo_yes (s : Sp) (k l d P : Nat) (h : (s.E (l + 1) (16 * d + P)).v = true) : s.visTo k l d (P + 1) = s.visTo k l d P ++ [(16 * d + P, s.E (l + 1) (16 * d + P))] ++ s.vis k (l + 1) (16 * d + P) := by
  unfold Sp.visTo
  rw [List.range_succ, List.flatMap_append]
  simp [h]

theorem Sp.visTo_mono (s : Sp) (k l d P : Nat) : (s.visTo k l d P).length ≤ (s.visTo k l d (P + 1)).length := by
  cases h : (s.E (l + 1) (16 * d + P)).v
  · rw [s.visTo_no k l d P h]; exact Nat.le_refl _
  · rw [s.visTo_yes k l d P h]; simp
theorem Sp.visTo_le (s : Sp) (k l d : Nat) : ∀ j P, P + j = 16 → (s.visTo k l d P).length ≤ (s.vis (k + 1) l d).length
  | 0, P, h => by rw [show P = 16 from by omega, s.visTo_all]; exact Nat.le_refl _
  | j + 1, P, h => Nat.le_trans (s.visTo_mono k l d P) (s.visTo_le k l d j (P + 1) (by omega))
theorem Sp.visTo_bd (s : Sp) (k l d c : Nat) (hc : ∀ d', (s.vis k (l + 1) d').length ≤ c) : ∀ P, (s.visTo k l d P).length ≤ P * (c + 1)
  | 0 => by simp [Sp.visTo]
  | P + 1 => by
    have ih := s.visTo_bd k l d c hc P
    have h1 := hc (16 * d + P)
    rw [Nat.add_mul]
    cases h : (s.E (l + 1) (16 * d + P)).v
    · rw [s.visTo_no k l d P h]; omega
    · rw [s.visTo_yes k l d P h]; simp; omega
theorem Sp.vis_bd (s : Sp) : (s.vis 3 0 0).length ≤ 4368 := by
  have h1 : ∀ d, (s.vis 1 2 d).length ≤ 16 := fun d => by have := s.visTo_bd 0 2 d 0 (fun _ => by simp [Sp.vis]) 16; rwa [s.visTo_all] at this
  have h2 : ∀ d, (s.vis 2 1 d).length ≤ 272 := fun d => by have := s.visTo_bd 1 1 d 16 h1 16; rwa [s.visTo_all] at this
  have := s.visTo_bd 2 0 0 272 h2 16
  rwa [s.visTo_all] at this

/-- what is asked of the function that is called with each entry -/
structure Sees (g B MA A S : Nat) (root : Int) (m : Mem) (J : List (Nat × En) → World → Prop) : Prop where
  has : ∀ pre W, J pre W → MemAt W MA m ∧ Tab W ∧ SpAt W S MA A root
  keep : ∀ pre W W', J pre W → Upd (fun _ => False) W W' → J pre W'
  see : ∀ pre (x : Nat × En) W, pre.length < 5000 → J pre W → Calls Tryz.prog g #[.int .i64 (x.1 : Nat), x.2.val, .pointer (some ⟨B, 0, none⟩)] W fun e W' => e = .returned (.tuple #[]) ∧ J (pre ++ [x]) W' ∧ ∀ D v r t f, EntAt W D v r t f → EntAt W' D v r t f

set_option maxRecDepth 100000 in
set_option maxHeartbeats 1000000 in
theorem visit_step (g B MA A S : Nat) (root : Int) (m : Mem) (s : Sp) (J : List (Nat × En) → World → Prop) (eg : Enters Tryz.prog g) (hJ : Sees g B MA A S root m J) (hIn : s.In m) (hOk : s.Ok m.n) (hg : m.good) (hn : m.n ≤ 256)
    (l d k : Nat) (hl : l + k = 2) (ho : s.on l d = true)
    (ih : l < 2 → ∀ d', s.on (l + 1) d' = true → ∀ pre w, pre.length + (s.vis k (l + 1) d').length ≤ 5000 → J pre w → Calls Tryz.prog 72 #[.pointer (some ⟨S, 0, none⟩), .int .i64 (s.fr (l + 1) d'), .int .i64 ((l + 1 : Nat) : Int), .int .i64 (d' : Nat), .func (.func g) #[] #[.pointer (some ⟨B, 0, none⟩)]] w fun e W' => e = .returned (.tuple #[]) ∧ J (pre ++ s.vis k (l + 1) d') W')
    (pre : List (Nat × En)) (w : World) (hpre : pre.length + (s.vis (k + 1) l d).length ≤ 5000) (h0 : J pre w) :
    Calls Tryz.prog 72 #[.pointer (some ⟨S, 0, none⟩), .int .i64 (s.fr l d), .int .i64 (l : Nat), .int .i64 (d : Nat), .func (.func g) #[] #[.pointer (some ⟨B, 0, none⟩)]] w fun e W' => e = .returned (.tuple #[]) ∧ J (pre ++ s.vis (k + 1) l d) W' := by
  have eg2 : ∀ args w, Sem.run Tryz.prog (callFunc g args) w = .ok (.enter g args) w := eg
  have hd : d < 256 := by
    have := hOk.ond (by omega) ho
    have h16 : 16 ^ l ≤ 16 ^ 2 := Nat.pow_le_pow_right (by decide) (by omega)
    have : (16 : Nat) ^ 2 = 256 := rfl
    omega
  have hGet := Lib.hid (fun (p : Nat) (hp : p < 16) (W : World) (M : MemAt W MA m) (T : Tab W) => (wget_any MA m (s.fr l d) p W M T hg).mono (fun e w' x => by
    have := hIn.get hOk hn (p := p) (by omega) ho hp
    rw [this.2.1, this.2.2] at x
    exact x))
  have hvv := Lib.hid (fun p (hp : p < 16) (hv : (s.E (l + 1) (16 * d + p)).v = true) => And.intro (show (s.E (l + 1) (16 * d + p)).t = decide (l < 2) from by
    by_cases h2 : l < 2
    · rw [(hOk.tb _ _ hv (by omega)).1]; simp [h2]
    · obtain rfl : l = 2 := by omega
      rw [hOk.pg _ hv]; rfl) (hOk.f _ _ hv))
  have hfr := Lib.hid (show ∀ d', s.fr (l + 1) d' = (s.E (l + 1) d').f from fun d' => s.frS l d')
  have hon := Lib.hid (show ∀ d', s.on (l + 1) d' = (s.E (l + 1) d').v from fun d' => s.onS l d')
  have hno := Lib.hid (fun p => s.visTo_no k l d p)
  have hyes := Lib.hid (fun p => s.visTo_yes k l d p)
  have hall := Lib.hid (s.visTo_all k l d)
  have h00 := Lib.hid (show s.visTo k l d 0 = [] from rfl)
  have IH := Lib.hid ih
  have hlen := Lib.hid (fun (p : Nat) (hp : p < 16) => show pre.length + (s.visTo k l d (p + 1)).length ≤ 5000 from by have := s.visTo_le k l d (15 - p) (p + 1) (by omega); omega)
  clear hIn hOk hg ih hpre
  generalize s.fr l d = fr0 at hGet ⊢
  go_enter Tryz.func72, Tryz.ntmps72
  go_wp2_with fail
  go_loopw [14] (fun t wr => ∃ p : Nat, p ≤ 16 ∧ t = .int .i64 p ∧ J (pre ++ s.visTo k l d p) wr) (fun t _ => 16 - (intOf t).toNat)
  case atStart => exact ⟨0, by omega, rfl, by rw [h00.out, List.append_nil]; exact h0⟩
  case round =>
    obtain ⟨p, hp, rfl, hj⟩ := hrel
    clear h0
    by_cases hlt : p < 16
    · obtain ⟨M, T, hs⟩ := hJ.has _ _ hj
      have c0 := hs.c0
      have hgp := Lib.hid (hGet.out p hlt wr M T)
      have hv1 := Lib.hid (hvv.out p hlt)
      have hf1 := Lib.hid (hfr.out (16 * d + p))
      have ho1 := Lib.hid (hon.out (16 * d + p))
      have hn1 := Lib.hid (hno.out p)
      have hy1 := Lib.hid (hyes.out p)
      have ih1 := Lib.hid (fun hl2 => IH.out hl2 (16 * d + p))
      rw [hf1.out, ho1.out] at ih1
      have hpg : (d : Int) * 16 + p = ((16 * d + p : Nat) : Int) := by omega
      clear hGet hvv hfr hon hno hyes IH hf1 ho1 M T
      generalize s.E (l + 1) (16 * d + p) = E at hgp hv1 hn1 hy1 ih1
      obtain ⟨ev, er, et, ef⟩ := E
      go_wp2_with fail
      refine hgp.out.mono ?_
      rintro e w1 ⟨rfl, u1⟩
      have a1 : Hid (EntAt (w1.alloc (.cells #[.bool ev, .bool er, .bool et, .int .i64 ef] 46)) w1.heap.size ev er et ef) := Lib.hid (heap_alloc_last w1 _)
      have u2 := u1.alloc (.cells #[.bool ev, .bool er, .bool et, .int .i64 ef] 46)
      have j2 := hJ.keep _ _ _ hj u2
      clear u1 u2 hj c0 hs hgp
      cases ev
      · rw [← hn1.out rfl] at j2
        go_wp2_with fail
        exact ⟨⟨p + 1, by omega, by go_num, j2⟩, by simp [intOf]; omega⟩
      · go_upto_region 4 with fail
        generalize w1.alloc (.cells #[.bool true, .bool er, .bool et, .int .i64 ef] 46) = w2 at a1 j2 ⊢
        generalize w1.heap.size = D at a1 ⊢
        obtain ⟨e1, e2⟩ := hv1.out (by trivial)
        (try dsimp only at e1 e2)
        obtain ⟨pg, hpgE⟩ : ∃ pg : Nat, pg = 16 * d + p := ⟨_, rfl⟩
        have hpb := Lib.hid (show pg ≤ 4095 from by omega)
        have hy2 := hy1.out (by trivial)
        have hl2 := hlen.out p hlt
        rw [hy2] at hl2
        simp only [List.length_append, List.length_cons, List.length_nil] at hl2
        have hsee := Lib.hid (hJ.see _ (16 * d + p, ⟨true, er, et, ef⟩) w2 (by rw [List.length_append]; omega) j2)
        have Hl2 := Lib.hid hl2
        clear hl2
        rw [← hpgE] at hsee hpg hy2 ih1 Hl2
        (try dsimp only at hsee)
        have Hy := Lib.hid hy2
        have b0 := a1.out.range 0 _ rfl
        rw [Nat.zero_add] at b0
        have hpgw : IntKind.i64.wrap ((d : Int) * 16 + p) = (pg : Int) := by rw [hpg, IntWalk.i64_in _ (by omega)]
        have hpgw2 : IntKind.i64.wrap ((d : Int) * 16) = (d : Int) * 16 := IntWalk.i64_in _ (by omega)
        clear hpg hpgE hy2 hy1 hn1 hv1 e2
        by_cases h2 : l < 2
        · obtain rfl : et = true := by rw [e1]; simp [h2]
          clear e1
          have ih2 := Lib.hid (fun pre w hh => ih1.out h2 (by trivial) pre w hh)
          (try dsimp only at ih2)
          have h2i : (l : Int) < 2 := by omega
          have hlw : IntKind.i64.wrap ((l : Int) + 1) = ((l + 1 : Nat) : Int) := by rw [IntWalk.i64_in _ (by omega)]; omega
          clear ih1
          go_upto_region 6 with fail
          clear b0 hpgw hpgw2
          go_wp2_with first
            | (with_reducible refine wpList_load_sz rfl 46 (.tmp 11) rfl D 0 rfl [.bool true, .bool er, .bool true, .int .i64 ef] _ a1.out.range Tryz.underlying46 rfl 4 (ent_len _ _ _ _) size_ent ?_)
            | (go_at_fn g; refine hsee.out.mono ?_; rintro e w3 ⟨rfl, j3, hk3⟩; have b2 := (hk3 _ _ _ _ _ a1.out).range 2 _ rfl; have b3 := (hk3 _ _ _ _ _ a1.out).range 3 _ rfl; rw [Nat.zero_add] at b2 b3)
            | (go_at_call 72; refine (ih2.out _ _ (by have := Hl2.out; simp only [List.length_append, List.length_cons, List.length_nil]; omega) j3).mono ?_; rintro e w4 ⟨rfl, j4⟩)
          rw [List.append_assoc, List.append_assoc, ← List.append_assoc (s.visTo k l d p), ← Hy.out] at j4
          exact ⟨⟨p + 1, by omega, by go_num, j4⟩, by simp [intOf]; omega⟩
        · obtain rfl : et = false := by rw [e1]; simp [h2]
          clear e1 ih1
          have h2i : ¬ (l : Int) < 2 := by omega
          go_upto_region 6 with fail
          clear b0 hpgw hpgw2
          go_wp2_with first
            | (with_reducible refine wpList_load_sz rfl 46 (.tmp 11) rfl D 0 rfl [.bool true, .bool er, .bool false, .int .i64 ef] _ a1.out.range Tryz.underlying46 rfl 4 (ent_len _ _ _ _) size_ent ?_)
            | (go_at_fn g; refine hsee.out.mono ?_; rintro e w3 ⟨rfl, j3, hk3⟩; have b2 := (hk3 _ _ _ _ _ a1.out).range 2 _ rfl; have b3 := (hk3 _ _ _ _ _ a1.out).range 3 _ rfl; rw [Nat.zero_add] at b2 b3)
          obtain rfl : k = 0 := by omega
          rw [show s.vis 0 (l + 1) pg = [] from rfl, List.append_nil] at Hy
          rw [List.append_assoc, ← Hy.out] at j3
          exact ⟨⟨p + 1, by omega, by go_num, j3⟩, by simp [intOf]; omega⟩
    · obtain rfl : p = 16 := by omega
      rw [hall.out] at hj
      go_wp2
      go_end0
      exact ⟨rfl, hj⟩

theorem visit_all (g B MA A S : Nat) (root : Int) (m : Mem) (s : Sp) (J : List (Nat × En) → World → Prop) (eg : Enters Tryz.prog g) (hJ : Sees g B MA A S root m J) (hIn : s.In m) (hOk : s.Ok m.n) (hg : m.good) (hn : m.n ≤ 256) :
    ∀ (k l : Nat), l + k = 2 → ∀ d, s.on l d = true → ∀ pre w, pre.length + (s.vis (k + 1) l d).length ≤ 5000 → J pre w → Calls Tryz.prog 72 #[.pointer (some ⟨S, 0, none⟩), .int .i64 (s.fr l d), .int .i64 (l : Nat), .int .i64 (d : Nat), .func (.func g) #[] #[.pointer (some ⟨B, 0, none⟩)]] w fun e W' => e = .returned (.tuple #[]) ∧ J (pre ++ s.vis (k + 1) l d) W' := by
  intro k
  induction k with
  | zero => intro l hl d ho pre w hp h0; exact visit_step g B MA A S root m s J eg hJ hIn hOk hg hn l d 0 hl ho (fun h => by omega) pre w hp h0
  | succ k ih =>
    intro l hl d ho pre w hp h0
    exact visit_step g B MA A S root m s J eg hJ hIn hOk hg hn l d (k + 1) hl ho (fun _ d' ho' pre' w' hp' h' => ih (l + 1) (by omega) d' ho' pre' w' hp' h') pre w hp h0
set_option maxHeartbeats 400000 in
theorem svisit_any (g B MA A S : Nat) (m : Mem) (s : Sp) (J : List (Nat × En) → World → Prop) (eg : Enters Tryz.prog g) (hJ : Sees g B MA A S s.root m J) (hIn : s.In m) (hOk : s.Ok m.n) (hg : m.good) (hn : m.n ≤ 256) (w : World) (h0 : J [] w) :
    Calls Tryz.prog 47 #[.pointer (some ⟨S, 0, none⟩), .func (.func g) #[] #[.pointer (some ⟨B, 0, none⟩)]] w fun e W' => e = .returned (.tuple #[]) ∧ J (s.vis 3 0 0) W' := by
  have hc := (hJ.has _ _ h0).2.2.c2
  have hv := Lib.hid (visit_all g B MA A S s.root m s J eg hJ hIn hOk hg hn 2 0 rfl 0 rfl [] w (by have := s.vis_bd; simp; omega) h0)
  rw [s.fr0] at hv
  clear hJ hIn hOk hg hn
  go_enter Tryz.func47, Tryz.ntmps47
  go_wp2_with (go_at_call 72; refine hv.out.mono ?_; rintro e w' ⟨rfl, j⟩)
  go_end0
  exact ⟨rfl, j⟩
end Go.Proofs.YtdapmcclplfpfaaGreatDoor

/-
  Package tables: tables created: the frames that are allocated, one by one, and cleared.
-/
namespace Go.Proofs.YtdapmcclplfpfaaGreatDoor
open Go.ChangeShapes Go.WideShapes Go.ChangeAt Go.RowKit Go.Shelf

/-- so many frames allocated one by one -/
def Bud.al (b : Bud) : Nat → List Nat × Bud
  | 0 => ([], b)
  | k + 1 => match (b.al k).2.sel 0 with
    | some x => ((b.al k).1 ++ [x.1], (b.al k).2.give (x.1, 0))
    | none => b.al k
theorem sel0_some {b : Bud} (h : 1 ≤ b.left) : ∃ x, b.sel 0 = some x := by
  unfold Bud.left cnt at h
  obtain ⟨j, hj⟩ := List.exists_mem_of_length_pos (l := (List.range b.n).filter b.F) (by omega)
  rw [List.mem_filter, List.mem_range] at hj
  obtain ⟨k, hk⟩ := exists_mx hj.2 hj.1
  have hm : (st j k, k) ∈ blocks b.F b.n := mem_blocks.2 hk
  cases hs : b.sel 0 with
  | some x => exact ⟨x, rfl⟩
  | none => have := pick_none hs _ hm; simp at this
structure AlOk (b : Bud) (k : Nat) (c : List Nat) (b' : Bud) : Prop where
  len : c.length = k
  ok : b'.Ok
  n : b'.n = b.n
  res : b'.res = b.res
  left : b'.left + k = b.left
  gave : b'.gave = b.gave ++ c.map fun f => (f, 0)
  fr : ∀ f, f ∈ c → f < b.n ∧ b.F f = true
  nd : c.Nodup
  F : ∀ j, b'.F j = true ↔ b.F j = true ∧ j ∉ c
theorem al_ok {b : Bud} (h : b.Ok) : ∀ k, k ≤ b.left → AlOk b k (b.al k).1 (b.al k).2
  | 0, _ => ⟨rfl, h, rfl, rfl, rfl, by simp [Bud.al], by simp [Bud.al], by simp [Bud.al], by simp [Bud.al]⟩
  | k + 1, hk => by
    have ih := al_ok h k (by omega)
    obtain ⟨x, hx⟩ := sel0_some (b := (b.al k).2) (by have := ih.left; omega)
    have e : b.al (k + 1) = ((b.al k).1 ++ [x.1], (b.al k).2.give (x.1, 0)) := by rw [Bud.al, hx]
    rw [e]
    obtain ⟨g1, g2⟩ := sel_give ih.ok (by omega) hx
    have hF : (b.al k).2.F x.1 = true := g2.fr x.1 (Nat.le_refl _) (by simp)
    have hF' := (ih.F x.1).1 hF
    have hle := g2.le
    have hl := left_give g2
    have := ih.left
    have := ih.n
    simp at hle hl
    refine ⟨by simp [ih.len], g1, ih.n, ih.res, by simp; omega, ?_, ?_, ?_, ?_⟩
    · show (b.al k).2.gave ++ [(x.1, 0)] = _
      rw [ih.gave]; simp
    · intro f hf
      rcases List.mem_append.1 hf with hf | hf
      · exact ih.fr f hf
      · simp at hf; subst hf; exact ⟨by omega, hF'.1⟩
    · rw [List.nodup_append]
      refine ⟨ih.nd, by simp, fun a ha y hy => ?_⟩
      simp at hy; subst hy
      rintro rfl
      exact hF'.2 ha
    · intro j
      show (cutF (b.al k).2.F (x.1, 0)) j = true ↔ _
      unfold cutF
      rw [Bool.and_eq_true, ih.F j]
      have : (!inBlk (x.1, 0) j) = true ↔ j ≠ x.1 := by
        rw [Bool.not_eq_true', inBlk_no]; simp; omega
      rw [this]
      simp [and_assoc]
/-- frames cleared one by one -/
def Mem.clears (m : Mem) (c : List Nat) : Mem := c.foldl (fun (m : Mem) (f : Nat) => m.scrub (f : Int) 1) m
theorem Mem.clears_snoc (m : Mem) (c : List Nat) (f : Nat) : m.clears (c ++ [f]) = (m.clears c).scrub (f : Int) 1 := by simp [Mem.clears]
theorem Mem.clears_n (m : Mem) (c : List Nat) : (m.clears c).n = m.n := by
  induction c using snoc_induction with
  | h0 => rfl
  | h1 l x ih => rw [m.clears_snoc, Mem.scrub_n, ih]
theorem Mem.clears_B (m : Mem) (c : List Nat) : (m.clears c).B = m.B := by
  induction c using snoc_induction with
  | h0 => rfl
  | h1 l x ih => rw [m.clears_snoc, Mem.scrub_B, ih]
theorem Mem.clears_ok (m : Mem) (h : m.ok) (c : List Nat) : (m.clears c).ok := by
  induction c using snoc_induction with
  | h0 => exact h
  | h1 l x ih => rw [m.clears_snoc]; exact Mem.ok_scrub _ ih _ _
theorem Mem.word_scrub (m : Mem) (h : m.ok) (f g p : Int) (hf : m.ex f 1 = true) (hs : m.slot g p = true) : (m.scrub f 1).word g p = if g = f then 0 else m.word g p := by
  have hs' : (m.scrub f 1).slot g p = true := by unfold Mem.slot; rw [Mem.scrub_ex]; exact hs
  rw [← Mem.slot_rd _ _ _ hs', ← Mem.slot_rd _ _ _ hs, m.scrub_rd h f 1 _ hf (m.slot_has _ _ hs)]
  rw [Mem.slot_iff] at hs
  by_cases e : g = f
  · rw [if_pos (by omega), if_pos e]
  · rw [if_neg (by omega), if_neg e]
theorem Mem.scrub_good (m : Mem) (h : m.ok) (hg : m.good) (f : Int) : (m.scrub f 1).good := by
  intro i
  cases hf : m.ex f 1
  · unfold Mem.scrub; rw [hf]; exact hg i
  · by_cases hi : i < 16 * m.n
    · have hh : m.has (i : Int) = true := decide_eq_true (by omega)
      have hh' : (m.scrub f 1).has (i : Int) = true := by rw [Mem.scrub_has]; exact hh
      have e1 : (m.scrub f 1).rd (i : Int) = (m.scrub f 1).at i := by unfold Mem.rd; rw [if_pos hh']; rfl
      have e2 : m.rd (i : Int) = m.at i := by unfold Mem.rd; rw [if_pos hh]; rfl
      rw [← e1, m.scrub_rd h f 1 _ hf hh, e2]
      split
      · omega
      · exact hg i
    · have : (m.scrub f 1).at i = 0 := by
        have := Mem.ok_scrub m h f 1
        unfold Mem.ok at this
        rw [Mem.scrub_n] at this
        unfold Mem.at
        rw [List.getD_eq_getElem?_getD, List.getElem?_eq_none (by omega)]; rfl
      rw [this]; omega
theorem Mem.clears_good (m : Mem) (h : m.ok) (hg : m.good) (c : List Nat) : (m.clears c).good := by
  induction c using snoc_induction with
  | h0 => exact hg
  | h1 l x ih => rw [m.clears_snoc]; exact Mem.scrub_good _ (m.clears_ok h l) ih _
theorem Mem.slot_of_n {m m' : Mem} (h : m'.n = m.n) (f p : Int) : m'.slot f p = m.slot f p := by unfold Mem.slot Mem.ex; rw [h]
theorem Mem.clears_word (m : Mem) (h : m.ok) (c : List Nat) (hc : ∀ f, f ∈ c → f < m.n) (g p : Nat) (hg : g < m.n) (hp : p < 16) : (m.clears c).word (g : Nat) (p : Nat) = if g ∈ c then 0 else m.word (g : Nat) (p : Nat) := by
  induction c using snoc_induction with
  | h0 => simp [Mem.clears]
  | h1 l x ih =>
    have hs : (m.clears l).slot g p = true := by rw [Mem.slot_iff, m.clears_n]; omega
    have hx := hc x (by simp)
    rw [m.clears_snoc, Mem.word_scrub _ (m.clears_ok h l) _ _ _ (decide_eq_true (by rw [m.clears_n]; omega)) hs, ih fun f hf => hc f (by simp [hf])]
    by_cases e : g = x
    · subst e; simp
    · rw [if_neg (by omega)]
      simp [e]

theorem SpAt.apart {w : World} {S MA A GB : Nat} {root : Int} {m : Mem} {b : Bud} (h : SpAt w S MA A root) (hd : Duo w A MA GB m b) : ¬ (S = GB ∨ S = m.B) := by
  rintro (rfl | rfl)
  · obtain ⟨D, ⟨es, clock, hb, _⟩, _⟩ := hd.B.mp
    have h' : w.heap[S]? = _ := h
    rw [h'] at hb
    cases hb
  · have h' : w.heap[m.B]? = _ := h
    rw [hd.M.body] at h'
    simp at h'
def nat1 (c : List Nat) : List Value := c.map fun f => .int .i64 (f : Nat)
theorem nat1_at (c : List Nat) (k : Nat) (h : k < c.length) : (nat1 c)[k]? = some (.int .i64 (c.getD k 0 : Nat)) := by
  simp [nat1, List.getD_eq_getElem?_getD, List.getElem?_eq_getElem h]
theorem info_int8 : (Tryz.prog.info? 3).map (fun i => (i.zero, i.size, i.bytes)) = some (some (.int .i64 0), 1, 8) := by kernel_rfl
theorem take_snocN (l : List Nat) (k : Nat) (h : k < l.length) : l.take (k + 1) = l.take k ++ [l.getD k 0] := by
  rw [List.take_add_one, List.getElem?_eq_getElem h]
  simp [List.getD_eq_getElem?_getD, List.getElem?_eq_getElem h]
theorem Duo.cleared {w w' : World} {A MA GB : Nat} {m m' : Mem} {b : Bud} (h : Duo w A MA GB m b) (hm : MemAt w' MA m') (u : Upd (· = m.B) w w') (hn : m'.n = m.n) : Duo w' A MA GB m' b := by
  have := h.ne
  exact ⟨h.B.kept u (by omega) (by omega), hm, by rw [hn]; exact h.n⟩

theorem upd_own {W w4 : World} {X : Obj} {N sz k : Nat} {e : TypeId} {v : Value} {xs : List Value} (hrow : W.ownsRow N e sz v k xs) (hgr : (W.alloc X).grownBy w4 v.ownBlock) : Upd (N ≤ ·) W w4 :=
  ⟨hgr.os, hgr.tape, hgr.output, by have h1 := hgr.size; simp at h1; omega, fun k hk hs => by
    rw [hgr.block k (by simp; omega) (fun e => by have := (hrow.lt k e.symm).1; omega), Below.heap_alloc _ _ _ (by omega)]⟩

set_option maxRecDepth 100000 in
set_option maxHeartbeats 2000000 in
theorem create_any (S MA A GB : Nat) (root : Int) (m : Mem) (b : Bud) (k : Nat) (w : World) (h : SpAt w S MA A root) (hd : Duo w A MA GB m b) (hk : k ≤ 3) :
    Calls Tryz.prog 34 #[.pointer (some ⟨S, 0, none⟩), .int .i64 k] w fun e w' =>
      (b.left < k ∧ e = .returned (.tuple #[.slice none 0 0, .int .i64 6]) ∧ Upd (fun _ => False) w w') ∨
      (k ≤ b.left ∧ ∃ v, e = .returned (.tuple #[v, .int .i64 0]) ∧ w'.ownsRow w.heap.size 3 1 v k (nat1 (b.al k).1) ∧ Duo w' A MA GB (m.clears (b.al k).1) (b.al k).2 ∧ Upd (fun j => j = GB ∨ j = m.B) w w') := by
  have hc := h.c1
  have hleft := hd.B.ok
  by_cases hlt : b.left < k
  · go_enter Tryz.func34, Tryz.ntmps34
    go_wp2_with (go_at_call 22; refine (bLeft_any A MA GB m b _ hd.B hd.M hd.n).mono ?_; rintro e w' ⟨rfl, u⟩)
    go_ret2
    exact .inl ⟨hlt, rfl, u⟩
  · have ha := al_ok hd.B.ok k (by omega)
    obtain ⟨i0, hi, hz0, hz1, hz2⟩ := info_parts info_int8
    obtain ⟨N, hN⟩ : ∃ N, w.heap.size = N := ⟨_, rfl⟩
    have hap := h.apart hd
    have hlts := hd.B.lts
    have hBlt := lt_of_heap hd.M.body
    have hMlt := lt_of_heap hd.M.head
    have hSlt := lt_of_heap h
    go_enter Tryz.func34, Tryz.ntmps34
    go_wp2_with (go_at_call 22; refine (bLeft_any A MA GB m b _ hd.B hd.M hd.n).mono ?_; rintro e w' ⟨rfl, u⟩)
    have h' := h.kept u id
    have hd' := hd.still u
    have hNu := u.size
    go_loopw [6, 17] (fun v t wr => ∃ j : Nat, j ≤ k ∧ t = .int .i64 j ∧ wr.ownsRow N 3 1 v j (nat1 (b.al j).1) ∧ Duo wr A MA GB m (b.al j).2 ∧ SpAt wr S MA A root ∧ Upd (fun j => j = GB ∨ j = m.B) w wr) (fun _ t _ => k - (intOf t).toNat)
    case atStart => exact ⟨0, by omega, rfl, World.ownsRow_nil _ _ _ _, hd', h', u.mono (fun _ _ x => x.elim)⟩
    case round =>
      rename_i v _ _
      clear h' hd' u
      obtain ⟨j, hj, rfl, hrow, hdr, hsr, hU⟩ := hrel
      obtain ⟨o, cap, rfl⟩ := wk_slice hrow
      have hsz := hU.size
      by_cases hjk : j < k
      · have hcr := hsr.c1
        have aj := al_ok hd.B.ok j (by omega)
        obtain ⟨x, hx⟩ := sel0_some (b := (b.al j).2) (by have := aj.left; omega)
        have hnext := Lib.hid (show b.al (j + 1) = ((b.al j).1 ++ [x.1], (b.al j).2.give (x.1, 0)) from by rw [Bud.al, hx])
        go_wp2_with first
          | (go_at_call 60
             refine (bAlloc_any A MA GB m (b.al j).2 0 _ hdr.B hdr.M hdr.n (by omega)).mono ?_
             rintro e w1 (⟨hno, _⟩ | ⟨x', hx', rfl, hB1, u1⟩)
             · rw [hx] at hno; cases hno
             obtain rfl : x' = x := by rw [hx] at hx'; exact (Option.some.inj hx').symm
             have hd1 := hdr.gb hB1 u1 rfl
             have hs1 := hsr.kept u1 (fun e => hap (.inl e))
             have hrow1 := wk_kept hrow u1 (fun q hq => by have := (hrow.lt q hq).1; omega)
             have hU1 := hU.trans (u1.mono (T := fun j => j = GB ∨ j = m.B) (fun _ _ e => .inl e)))
          | (at_builtin; refine wpList_append_own _ rfl _ _ 50 rfl N 3 i0 (.int .i64 0) 1 8 Tryz.underlying50 hi hz0 hz1 hz2 rfl (by decide) _ _ _ rfl (hrow1.alloc _) ⟨w1.heap.size, 0, none⟩ 1 1 [.int .i64 x'.1] rfl rfl (cell_one_new _ _ _) (by simp [Value.oneCell']) (by simp [maxLen]; omega) (by omega) (by have := hU1.size; simp; omega) ?_; intro v' w2 hown' hgrow _; obtain ⟨g', cap', rfl⟩ := ownsRow_succ hown')
        go_roundw
        case rel =>
          refine ⟨j + 1, by omega, by go_num, ?_, ?_, ?_, ?_⟩
          · rw [hnext.out]
            unfold nat1 at hown' ⊢
            rw [List.map_append]
            exact hown'
          · rw [hnext.out]
            exact hd1.kept (upd_own hrow1 hgrow) (by omega) (by omega) (by omega) (by omega)
          · exact hs1.kept (upd_own hrow1 hgrow) (by omega)
          · exact upd_app hU1 hrow1 (by omega) hgrow
        case measure => simp [intOf]; omega
      · obtain rfl : j = k := by omega
        have hR := slice1 hrow
        obtain ⟨o', cap', e1, hcell⟩ := hR
        cases e1
        have hlenc := ha.len
        go_wp2_with first
          | (go_at_call 61
             refine (contf_any 33 (enters_of Tryz.func33 (by kernel_rfl) rfl) S o j cap (fun i => ((b.al j).1.getD i 0 : Nat)) _ (by omega) ?_ ?_).mono ?_
             · exact fun i hi => hcell i _ (nat1_at _ _ (by omega))
             · intro i hi
               refine (lacks_any S MA A root m _ _ hsr hdr.M).mono ?_
               rintro e w1 ⟨rfl, rfl⟩
               refine ⟨?_, rfl⟩
               have hm := ha.fr ((b.al j).1.getD i 0) (by rw [List.getD_eq_getElem?_getD, List.getElem?_eq_getElem (by omega)]; simp)
               have : m.ex ((b.al j).1.getD i 0 : Nat) 1 = true := decide_eq_true (by have := hd.n; omega)
               rw [this]; rfl
             rintro e w1 ⟨rfl, rfl⟩)
          | (go_at_call 54
             refine (each_any 62 (enters_of Tryz.func62 (by kernel_rfl) rfl) S o j cap (fun i => ((b.al j).1.getD i 0 : Nat)) (fun i W => Duo W A MA GB (m.clears ((b.al j).1.take i)) (b.al j).2 ∧ SpAt W S MA A root ∧ W.ownsRow N 3 1 (.slice o j cap) j (nat1 (b.al j).1) ∧ Upd (fun q => q = GB ∨ q = m.B) w W) _ (by omega) ⟨by simpa [Mem.clears] using hdr, hsr, hrow, hU⟩ ?_ ?_).mono ?_
             · rintro i W ⟨-, -, hrW, -⟩ hi
               obtain ⟨o2, cap2, e2, hc2⟩ := slice1 hrW
               cases e2
               exact hc2 i _ (nat1_at _ _ (by omega))
             · rintro i W ⟨hdW, hsW, hrW, hUW⟩ hi
               refine (sclear_any S MA A root _ _ W hsW hdW.M).mono ?_
               rintro e W' ⟨rfl, hmW, uW⟩
               rw [Mem.clears_B] at uW
               refine ⟨rfl, ?_, hsW.kept uW (fun e => hap (.inr e)), wk_kept hrW uW (fun q hq => by have := (hrW.lt q hq).1; omega), hUW.trans (uW.mono (fun _ _ e => .inr e))⟩
               rw [take_snocN _ _ (by omega), Mem.clears_snoc]
               exact hdW.cleared hmW (by rw [Mem.clears_B]; exact uW) (by rw [Mem.scrub_n])
             rintro e w1 ⟨rfl, hd1, hs1, hrow1, hU1⟩)
        go_ret2
        rw [List.take_of_length_le (by omega)] at hd1
        exact .inr ⟨by omega, _, rfl, hN ▸ hrow1, hd1, hU1⟩
end Go.Proofs.YtdapmcclplfpfaaGreatDoor

/-
  Package tables: what the visits collect: Pages, Tables, Close.
-/
namespace Go.Proofs.YtdapmcclplfpfaaGreatDoor
open Go.ChangeShapes Go.WideShapes Go.ChangeAt Go.RowKit Go.Shelf

/-- what Pages, Tables and Close take of an entry -/
def selP (x : Nat × En) : Option Int := if x.2.t = true then none else some (x.1 : Nat)
def selT (x : Nat × En) : Option Int := if x.2.t = true then some x.2.f else none
def selC (x : Nat × En) : Option Int := if x.2.t = true then none else some x.2.f
def i64s (l : List Int) : List Value := l.map fun f => .int .i64 f
/-- what is held while a visit collects -/
structure Coll (w : World) (N B MA A S : Nat) (root : Int) (m : Mem) (L0 : List Int) (sel : Nat × En → Option Int) (pre : List (Nat × En)) (W : World) : Prop where
  box : ∃ o cap, Boxed W B 50 (.slice o (L0 ++ pre.filterMap sel).length cap) ∧ W.ownsRow N 3 1 (.slice o (L0 ++ pre.filterMap sel).length cap) (L0 ++ pre.filterMap sel).length (i64s (L0 ++ pre.filterMap sel))
  M : MemAt W MA m
  T : Tab W
  S : SpAt W S MA A root
  U : Upd (fun _ => False) w W
theorem Coll.keep {w : World} {N B MA A S : Nat} {root : Int} {m : Mem} {L0 : List Int} {sel : Nat × En → Option Int} {pre : List (Nat × En)} {W W' : World} (h : Coll w N B MA A S root m L0 sel pre W) (u : Upd (fun _ => False) W W') : Coll w N B MA A S root m L0 sel pre W' := by
  obtain ⟨⟨o, cap, hb, hr⟩, M, T, hS, U⟩ := h
  exact ⟨⟨o, cap, u.at hb id, wk_kept hr u (fun _ _ => id)⟩, M.kept u id id, T.kept u, hS.kept u id, U.trans u⟩
theorem collN (L0 : List Int) (sel : Nat × En → Option Int) (pre : List (Nat × En)) (h : pre.length < 5000) (h0 : L0.length ≤ 1) : (L0 ++ pre.filterMap sel).length ≤ 5000 := by
  have := List.length_filterMap_le sel pre
  rw [List.length_append]; omega
/-- one number more -/
theorem Coll.push {w : World} {N B MA A S : Nat} {root : Int} {m : Mem} {L0 : List Int} {sel : Nat × En → Option Int} {pre : List (Nat × En)} {W w1 : World} {o : Option Addr} {cap : Nat} {x : Nat × En} {y : Int} {X : Obj} {v' : Value}
    (hwN : w.heap.size = N) (hB : N ≤ B) (hTw : Tab w) (h : Coll w N B MA A S root m L0 sel pre W) (hbox : Boxed W B 50 (.slice o (L0 ++ pre.filterMap sel).length cap)) (hrow : W.ownsRow N 3 1 (.slice o (L0 ++ pre.filterMap sel).length cap) (L0 ++ pre.filterMap sel).length (i64s (L0 ++ pre.filterMap sel)))
    (hs : sel x = some y) (hown : w1.ownsRow N 3 1 v' ((L0 ++ pre.filterMap sel).length + 1) (i64s (L0 ++ pre.filterMap sel) ++ [.int .i64 y])) (hgrow : (W.alloc X).grownBy w1 (Value.slice o (L0 ++ pre.filterMap sel).length cap).ownBlock) :
    Boxed w1 B 50 (.slice o (L0 ++ pre.filterMap sel).length cap) ∧ Coll w N B MA A S root m L0 sel (pre ++ [x]) (w1.setCell ⟨B, 0, none⟩ v') ∧ (∀ (D : Nat) (c : Array Value), W.heap[D]? = some (Obj.cells c 46 (0, 0)) → (w1.setCell ⟨B, 0, none⟩ v').heap[D]? = some (Obj.cells c 46 (0, 0))) := by
  have hsz := h.U.size
  obtain ⟨hv1, hv2, hr2, hk2, hb2⟩ := hbox.appended (by decide) hrow (by omega) hB hown hgrow
  have heq : L0 ++ (pre ++ [x]).filterMap sel = (L0 ++ pre.filterMap sel) ++ [y] := by simp [hs]
  have U0 : Upd (N ≤ ·) W (w1.setCell ⟨B, 0, none⟩ v') := (upd_own hrow hgrow).setCell (.inl hB) _
  have hMA := lt_of_heap h.M.head
  have keepOld : ∀ (k : Nat) (t : Nat) (c : Array Value), t ≠ 3 → t ≠ 50 → W.heap[k]? = some (.cells c t (0, 0)) → (w1.setCell ⟨B, 0, none⟩ v').heap[k]? = some (.cells c t (0, 0)) := by
    intro k t c h1 h2 hk
    have n1 : ∀ j, (Value.slice o (L0 ++ pre.filterMap sel).length cap).ownBlock = some j → ¬ j = k := wk_ne hrow hk h1
    have n2 : ¬ k = B := by
      rintro rfl
      have hb : W.heap[k]? = _ := hbox
      rw [hb] at hk
      simp at hk
      exact h2 hk.2.symm
    have hkl := lt_of_heap hk
    rw [Below.heap_setCell _ _ _ _ n2, hgrow.block k (by simp; omega) (fun e => n1 k e.symm rfl), Below.heap_alloc _ _ _ hkl]
    exact hk
  refine ⟨hv1, ⟨?_, ?_, ?_, ?_, ?_⟩, fun D c hD => keepOld D _ c (by decide) (by decide) hD⟩
  · obtain ⟨g', cap', rfl⟩ := ownsRow_succ hown
    rw [heq]
    refine ⟨some ⟨g', 0, none⟩, cap', ?_, ?_⟩
    · rw [show ((L0 ++ pre.filterMap sel) ++ [y]).length = (L0 ++ pre.filterMap sel).length + 1 from by rw [List.length_append]; rfl]; exact hv2
    · rw [show ((L0 ++ pre.filterMap sel) ++ [y]).length = (L0 ++ pre.filterMap sel).length + 1 from by rw [List.length_append]; rfl]
      unfold i64s at hr2 ⊢
      rw [List.map_append]
      exact hr2
  · exact ⟨keepOld _ _ _ (by decide) (by decide) h.M.head, keepOld _ _ _ (by decide) (by decide) h.M.body, h.M.len, h.M.lo, h.M.hi⟩
  · exact h.T.keptS U0 (by have := World.block_lt_of_cell? w _ (hTw 0 (by omega)).1; simp at this; omega)
  · exact keepOld _ _ _ (by decide) (by decide) h.S
  · exact h.U.new (U0.mono (fun _ _ e => by omega))

theorem Coll.skip {w : World} {N B MA A S : Nat} {root : Int} {m : Mem} {L0 : List Int} {sel : Nat × En → Option Int} {pre : List (Nat × En)} {W : World} {x : Nat × En} (h : Coll w N B MA A S root m L0 sel pre W) (hs : sel x = none) : Coll w N B MA A S root m L0 sel (pre ++ [x]) W := by
  have e : (pre ++ [x]).filterMap sel = pre.filterMap sel := by simp [hs]
  exact ⟨by rw [e]; exact h.box, h.M, h.T, h.S, h.U⟩

set_option maxRecDepth 100000 in
set_option maxHeartbeats 1000000 in
theorem pages_sees (w : World) (N B MA A S : Nat) (root : Int) (m : Mem) (L0 : List Int) (hwN : w.heap.size = N) (hB : N ≤ B) (hTw : Tab w) (hL0 : L0.length ≤ 1) :
    Sees 48 B MA A S root m (Coll w N B MA A S root m L0 selP) := by
  refine ⟨fun pre W h => ⟨h.M, h.T, h.S⟩, fun pre W W' h u => h.keep u, fun pre x W hlen h => ?_⟩
  obtain ⟨i0, hi, hz0, hz1, hz2⟩ := info_parts info_int8
  obtain ⟨pg, ev, er, et, ef⟩ := x
  have hln := collN L0 selP pre hlen hL0
  have u0 := (Upd.refl (fun _ => False) W).alloc (.cells #[.bool ev, .bool er, .bool et, .int .i64 ef] 46)
  have h1 := h.keep u0
  have hE0 := Lib.hid (show ∀ D v r t f, EntAt W D v r t f → EntAt (W.alloc (.cells #[.bool ev, .bool er, .bool et, .int .i64 ef] 46)) D v r t f from fun D v r t f hD => u0.at hD id)
  have a1 := heap_alloc_last W (.cells #[.bool ev, .bool er, .bool et, .int .i64 ef] 46)
  clear u0 h
  have hb2 := (show EntAt (W.alloc (.cells #[.bool ev, .bool er, .bool et, .int .i64 ef] 46)) W.heap.size ev er et ef from a1).range 2 _ rfl
  have hb3 := (show EntAt (W.alloc (.cells #[.bool ev, .bool er, .bool et, .int .i64 ef] 46)) W.heap.size ev er et ef from a1).range 3 _ rfl
  rw [Nat.zero_add] at hb2 hb3
  clear a1
  cases et
  · go_enter Tryz.func48, Tryz.ntmps48
    go_upto_region 1 with fail
    generalize W.alloc (.cells #[.bool ev, .bool er, .bool false, .int .i64 ef] 46) = W1 at h1 hE0 hb2 hb3 ⊢
    generalize W.heap.size = D at hb2 hb3 ⊢
    obtain ⟨o, cap, hbox, hrow⟩ := h1.box
    have hsz := h1.U.size
    obtain ⟨n, hn⟩ : ∃ n, n = (L0 ++ pre.filterMap selP).length := ⟨_, rfl⟩
    rw [← hn] at hbox hrow hln
    have hcb := hbox.cell
    have Hn := Lib.hid hn
    clear hn
    go_wp2_with (at_builtin; refine wpList_append_own _ rfl _ _ 50 rfl N 3 i0 (.int .i64 0) 1 8 Tryz.underlying50 hi hz0 hz1 hz2 rfl (by decide) _ _ _ rfl (hrow.alloc _) ⟨W1.heap.size, 0, none⟩ 1 1 [.int .i64 (pg : Nat)] rfl rfl (cell_one_new _ _ _) (by simp [Value.oneCell']) (by simp [maxLen]; omega) (by omega) (by simp; omega) ?_; intro v' w2 hown' hgrow _; obtain ⟨g', cap', rfl⟩ := ownsRow_succ hown'; have hv1 := (hbox.appended (by decide) hrow (by omega) hB hown' hgrow).1; have hc1 := hv1.cell; have hf1 := hv1.frozen)
    go_end0
    have e := Hn.out
    subst e
    obtain ⟨p1, p2, p3⟩ := Coll.push (x := (pg, ⟨ev, er, false, ef⟩)) (y := (pg : Nat)) hwN hB hTw h1 hbox hrow rfl hown' hgrow
    exact ⟨rfl, p2, fun D' v r t f hD => p3 D' _ (hE0.out D' v r t f hD)⟩
  · go_enter Tryz.func48, Tryz.ntmps48
    go_upto_region 1 with fail
    generalize W.alloc (.cells #[.bool ev, .bool er, .bool true, .int .i64 ef] 46) = W1 at h1 hE0 hb2 hb3 ⊢
    generalize W.heap.size = D at hb2 hb3 ⊢
    go_wp2
    go_end0
    exact ⟨rfl, h1.skip rfl, hE0.out⟩

set_option maxRecDepth 100000 in
set_option maxHeartbeats 1000000 in
theorem tables_sees (w : World) (N B MA A S : Nat) (root : Int) (m : Mem) (L0 : List Int) (hwN : w.heap.size = N) (hB : N ≤ B) (hTw : Tab w) (hL0 : L0.length ≤ 1) :
    Sees 49 B MA A S root m (Coll w N B MA A S root m L0 selT) := by
  refine ⟨fun pre W h => ⟨h.M, h.T, h.S⟩, fun pre W W' h u => h.keep u, fun pre x W hlen h => ?_⟩
  obtain ⟨i0, hi, hz0, hz1, hz2⟩ := info_parts info_int8
  obtain ⟨pg, ev, er, et, ef⟩ := x
  have hln := collN L0 selT pre hlen hL0
  have u0 := (Upd.refl (fun _ => False) W).alloc (.cells #[.bool ev, .bool er, .bool et, .int .i64 ef] 46)
  have h1 := h.keep u0
  have hE0 := Lib.hid (show ∀ D v r t f, EntAt W D v r t f → EntAt (W.alloc (.cells #[.bool ev, .bool er, .bool et, .int .i64 ef] 46)) D v r t f from fun D v r t f hD => u0.at hD id)
  have a1 := heap_alloc_last W (.cells #[.bool ev, .bool er, .bool et, .int .i64 ef] 46)
  clear u0 h
  have hb2 := (show EntAt (W.alloc (.cells #[.bool ev, .bool er, .bool et, .int .i64 ef] 46)) W.heap.size ev er et ef from a1).range 2 _ rfl
  have hb3 := (show EntAt (W.alloc (.cells #[.bool ev, .bool er, .bool et, .int .i64 ef] 46)) W.heap.size ev er et ef from a1).range 3 _ rfl
  rw [Nat.zero_add] at hb2 hb3
  clear a1
  cases et
  · go_enter Tryz.func49, Tryz.ntmps49
    go_upto_region 1 with fail
    generalize W.alloc (.cells #[.bool ev, .bool er, .bool false, .int .i64 ef] 46) = W1 at h1 hE0 hb2 hb3 ⊢
    generalize W.heap.size = D at hb2 hb3 ⊢
    go_wp2
    go_end0
    exact ⟨rfl, h1.skip rfl, hE0.out⟩
  · go_enter Tryz.func49, Tryz.ntmps49
    go_upto_region 1 with fail
    generalize W.alloc (.cells #[.bool ev, .bool er, .bool true, .int .i64 ef] 46) = W1 at h1 hE0 hb2 hb3 ⊢
    generalize W.heap.size = D at hb2 hb3 ⊢
    obtain ⟨o, cap, hbox, hrow⟩ := h1.box
    have hsz := h1.U.size
    obtain ⟨n, hn⟩ : ∃ n, n = (L0 ++ pre.filterMap selT).length := ⟨_, rfl⟩
    rw [← hn] at hbox hrow hln
    have hcb := hbox.cell
    have Hn := Lib.hid hn
    clear hn
    go_wp2_with (at_builtin; refine wpList_append_own _ rfl _ _ 50 rfl N 3 i0 (.int .i64 0) 1 8 Tryz.underlying50 hi hz0 hz1 hz2 rfl (by decide) _ _ _ rfl (hrow.alloc _) ⟨W1.heap.size, 0, none⟩ 1 1 [.int .i64 ef] rfl rfl (cell_one_new _ _ _) (by simp [Value.oneCell']) (by simp [maxLen]; omega) (by omega) (by simp; omega) ?_; intro v' w2 hown' hgrow _; obtain ⟨g', cap', rfl⟩ := ownsRow_succ hown'; have hv1 := (hbox.appended (by decide) hrow (by omega) hB hown' hgrow).1; have hc1 := hv1.cell; have hf1 := hv1.frozen)
    go_end0
    have e := Hn.out
    subst e
    obtain ⟨p1, p2, p3⟩ := Coll.push (x := (pg, ⟨ev, er, true, ef⟩)) (y := ef) hwN hB hTw h1 hbox hrow rfl hown' hgrow
    exact ⟨rfl, p2, fun D' v r t f hD => p3 D' _ (hE0.out D' v r t f hD)⟩

set_option maxRecDepth 100000 in
set_option maxHeartbeats 1000000 in
theorem close_sees (w : World) (N B MA A S : Nat) (root : Int) (m : Mem) (L0 : List Int) (hwN : w.heap.size = N) (hB : N ≤ B) (hTw : Tab w) (hL0 : L0.length ≤ 1) :
    Sees 53 B MA A S root m (Coll w N B MA A S root m L0 selC) := by
  refine ⟨fun pre W h => ⟨h.M, h.T, h.S⟩, fun pre W W' h u => h.keep u, fun pre x W hlen h => ?_⟩
  obtain ⟨i0, hi, hz0, hz1, hz2⟩ := info_parts info_int8
  obtain ⟨pg, ev, er, et, ef⟩ := x
  have hln := collN L0 selC pre hlen hL0
  have u0 := (Upd.refl (fun _ => False) W).alloc (.cells #[.bool ev, .bool er, .bool et, .int .i64 ef] 46)
  have h1 := h.keep u0
  have hE0 := Lib.hid (show ∀ D v r t f, EntAt W D v r t f → EntAt (W.alloc (.cells #[.bool ev, .bool er, .bool et, .int .i64 ef] 46)) D v r t f from fun D v r t f hD => u0.at hD id)
  have a1 := heap_alloc_last W (.cells #[.bool ev, .bool er, .bool et, .int .i64 ef] 46)
  clear u0 h
  have hb2 := (show EntAt (W.alloc (.cells #[.bool ev, .bool er, .bool et, .int .i64 ef] 46)) W.heap.size ev er et ef from a1).range 2 _ rfl
  have hb3 := (show EntAt (W.alloc (.cells #[.bool ev, .bool er, .bool et, .int .i64 ef] 46)) W.heap.size ev er et ef from a1).range 3 _ rfl
  rw [Nat.zero_add] at hb2 hb3
  clear a1
  cases et
  · go_enter Tryz.func53, Tryz.ntmps53
    go_upto_region 1 with fail
    generalize W.alloc (.cells #[.bool ev, .bool er, .bool false, .int .i64 ef] 46) = W1 at h1 hE0 hb2 hb3 ⊢
    generalize W.heap.size = D at hb2 hb3 ⊢
    obtain ⟨o, cap, hbox, hrow⟩ := h1.box
    have hsz := h1.U.size
    obtain ⟨n, hn⟩ : ∃ n, n = (L0 ++ pre.filterMap selC).length := ⟨_, rfl⟩
    rw [← hn] at hbox hrow hln
    have hcb := hbox.cell
    have Hn := Lib.hid hn
    clear hn
    go_wp2_with (at_builtin; refine wpList_append_own _ rfl _ _ 50 rfl N 3 i0 (.int .i64 0) 1 8 Tryz.underlying50 hi hz0 hz1 hz2 rfl (by decide) _ _ _ rfl (hrow.alloc _) ⟨W1.heap.size, 0, none⟩ 1 1 [.int .i64 ef] rfl rfl (cell_one_new _ _ _) (by simp [Value.oneCell']) (by simp [maxLen]; omega) (by omega) (by simp; omega) ?_; intro v' w2 hown' hgrow _; obtain ⟨g', cap', rfl⟩ := ownsRow_succ hown'; have hv1 := (hbox.appended (by decide) hrow (by omega) hB hown' hgrow).1; have hc1 := hv1.cell; have hf1 := hv1.frozen)
    go_end0
    have e := Hn.out
    subst e
    obtain ⟨p1, p2, p3⟩ := Coll.push (x := (pg, ⟨ev, er, false, ef⟩)) (y := ef) hwN hB hTw h1 hbox hrow rfl hown' hgrow
    exact ⟨rfl, p2, fun D' v r t f hD => p3 D' _ (hE0.out D' v r t f hD)⟩
  · go_enter Tryz.func53, Tryz.ntmps53
    go_upto_region 1 with fail
    generalize W.alloc (.cells #[.bool ev, .bool er, .bool true, .int .i64 ef] 46) = W1 at h1 hE0 hb2 hb3 ⊢
    generalize W.heap.size = D at hb2 hb3 ⊢
    go_wp2
    go_end0
    exact ⟨rfl, h1.skip rfl, hE0.out⟩
end Go.Proofs.YtdapmcclplfpfaaGreatDoor

/-
  Package tables: Pages and Tables.
-/
namespace Go.Proofs.YtdapmcclplfpfaaGreatDoor
open Go.ChangeShapes Go.WideShapes Go.ChangeAt Go.RowKit Go.Shelf Go.Sort

theorem Coll.start {w : World} {MA A S : Nat} {root : Int} {m : Mem} (hm : MemAt w MA m) (T : Tab w) (h : SpAt w S MA A root) (sel : Nat × En → Option Int) :
    Coll w w.heap.size w.heap.size MA A S root m [] sel [] (w.alloc (.cells #[.slice none 0 0] 50)) := by
  have u := (Upd.refl (fun _ => False) w).alloc (.cells #[.slice none 0 0] 50)
  exact ⟨⟨none, 0, Boxed.new w _ _, World.ownsRow_nil _ _ _ _⟩, hm.kept u id id, T.kept u, h.kept u id, u⟩
set_option maxHeartbeats 400000 in
theorem spages_any (S MA A : Nat) (m : Mem) (s : Sp) (w : World) (h : SpAt w S MA A s.root) (hm : MemAt w MA m) (T : Tab w) (hIn : s.In m) (hOk : s.Ok m.n) (hg : m.good) (hn : m.n ≤ 256) :
    Calls Tryz.prog 18 #[.pointer (some ⟨S, 0, none⟩)] w fun e w' => ∃ v, e = .returned v ∧ w'.ownsRow w.heap.size 3 1 v ((s.vis 3 0 0).filterMap selP).length (i64s ((s.vis 3 0 0).filterMap selP)) ∧ Upd (fun _ => False) w w' := by
  have hv := Lib.hid (svisit_any 48 w.heap.size MA A S m s _ (enters_of Tryz.func48 (by kernel_rfl) rfl) (pages_sees w w.heap.size w.heap.size MA A S s.root m [] rfl (Nat.le_refl _) T (by simp)) hIn hOk hg hn _ (Coll.start hm T h selP))
  clear hIn hOk hg
  go_enter Tryz.func18, Tryz.ntmps18
  go_wp2_with (go_at_call 47; refine hv.out.mono ?_; rintro e w1 ⟨rfl, j⟩; obtain ⟨o, cap, hbox, hrow⟩ := j.box; have hc := hbox.cell; have hU := j.U)
  go_ret
  exact ⟨_, rfl, hrow, hU⟩

def leI (x y : Int) : Bool := decide (x ≤ y)
theorem ssort_any (N cap : Nat) (o : Option Addr) (ss : List Int) (w : World) (hrow : w.ownsRow N 3 1 (.slice o ss.length cap) ss.length (i64s ss)) (hne : 0 < ss.length) (hlen : ss.length ≤ 5001) :
    Calls Tryz.prog 50 #[.slice o ss.length cap] w fun e w' => e = .returned (.tuple #[]) ∧ w'.ownsRow N 3 1 (.slice o ss.length cap) ss.length (i64s (ss.mergeSort leI)) ∧ Upd (fun j => (Value.slice o ss.length cap).ownBlock = some j) w w' := by
  rcases hrow.2 with ⟨hnil, h0⟩ | ⟨g, cap', cur, e1, hbase, hb, h1, h2, h3, h4⟩
  · omega
  · cases e1
    have hH : Holds (Value.int .i64) w g 0 ss.toArray := holds_of_blockI hb (by rw [Nat.mul_one] at h4; exact h4)
    have hc := AnyM.slices_Sort_int sortA g 0 cap ss w hH (lt_of_heap hb) (by omega)
    change Calls Tryz.prog 50 _ _ _ at hc
    refine hc.mono ?_
    rintro e w' ⟨rfl, n, os, rfl⟩
    have hg := grownBy_sortedI (w := w) (g := g) (n := n) (os := os) (ss.mergeSort leI).toArray
    exact ⟨rfl, ownsRow_sortedI (by simp) hbase hb h1 h2 h3, ⟨hg.os, hg.tape, hg.output, hg.size, fun k hk hs => hg.block k hk (fun e => hs (by rw [e]; rfl))⟩⟩
theorem Coll.start1 {w : World} {MA A S : Nat} {root : Int} {m : Mem} (hm : MemAt w MA m) (T : Tab w) (h : SpAt w S MA A root) (r : Int) (sel : Nat × En → Option Int) :
    Coll w w.heap.size (w.heap.size + 1) MA A S root m [r] sel [] ((w.alloc (.cells #[.int .i64 r] 3)).alloc (.cells #[.slice (some ⟨w.heap.size, 0, none⟩) 1 1] 50)) := by
  have u1 := (Upd.refl (fun _ => False) w).alloc (.cells #[.int .i64 r] 3)
  have u := u1.alloc (.cells #[.slice (some ⟨w.heap.size, 0, none⟩) 1 1] 50)
  have b1 := heap_alloc_last w (.cells #[.int .i64 r] 3)
  have b2 : Boxed ((w.alloc (.cells #[.int .i64 r] 3)).alloc (.cells #[.slice (some ⟨w.heap.size, 0, none⟩) 1 1] 50)) (w.heap.size + 1) 50 (.slice (some ⟨w.heap.size, 0, none⟩) 1 1) := by
    have := Boxed.new (w.alloc (.cells #[.int .i64 r] 3)) 50 (.slice (some ⟨w.heap.size, 0, none⟩) 1 1)
    rwa [World.size_alloc] at this
  have b1' := ((Upd.refl (fun _ => False) (w.alloc (.cells #[.int .i64 r] 3))).alloc (.cells #[.slice (some ⟨w.heap.size, 0, none⟩) 1 1] 50)).at b1 id
  exact ⟨⟨some ⟨w.heap.size, 0, none⟩, 1, b2, rfl, .inr ⟨w.heap.size, 1, _, rfl, Nat.le_refl _, b1', by simp, by simp [maxLen], by simp, by simp [i64s]⟩⟩, hm.kept u id id, T.kept u, h.kept u id, u⟩
def Sp.tabs (s : Sp) : List Int := s.root :: (s.vis 3 0 0).filterMap selT
set_option maxRecDepth 100000 in
set_option maxHeartbeats 1000000 in
theorem stables_any (S MA A : Nat) (m : Mem) (s : Sp) (w : World) (h : SpAt w S MA A s.root) (hm : MemAt w MA m) (T : Tab w) (hIn : s.In m) (hOk : s.Ok m.n) (hg : m.good) (hn : m.n ≤ 256) :
    Calls Tryz.prog 20 #[.pointer (some ⟨S, 0, none⟩)] w fun e w' => ∃ v, e = .returned v ∧ w'.ownsRow w.heap.size 3 1 v s.tabs.length (i64s (s.tabs.mergeSort leI)) ∧ Upd (fun _ => False) w w' := by
  have c2 := h.c2
  have hlen : s.tabs.length ≤ 5001 := by
    have := List.length_filterMap_le selT (s.vis 3 0 0)
    have := s.vis_bd
    unfold Sp.tabs
    simp; omega
  have hE := Lib.hid (show s.tabs = [s.root] ++ (s.vis 3 0 0).filterMap selT from rfl)
  have u1 := (Upd.refl (fun _ => False) w).alloc (.cells #[.int .i64 s.root] 3)
  have hv := Lib.hid (fun W (h0 : Coll w w.heap.size (w.heap.size + 1) MA A S s.root m [s.root] selT [] W) => svisit_any 49 (w.heap.size + 1) MA A S m s _ (enters_of Tryz.func49 (by kernel_rfl) rfl) (tables_sees w w.heap.size (w.heap.size + 1) MA A S s.root m [s.root] rfl (by omega) T (by simp)) hIn hOk hg hn _ h0)
  clear hIn hOk hg
  go_enter Tryz.func20, Tryz.ntmps20
  go_upto_region 2 with fail
  have hst := Coll.start1 hm T h s.root selT
  clear u1
  generalize (w.alloc (.cells #[.int .i64 s.root] 3)).alloc (.cells #[.slice (some ⟨w.heap.size, 0, none⟩) 1 1] 50) = W2 at hst ⊢
  have hv2 := Lib.hid (hv.out W2 hst)
  clear hv hst c2
  have hR := Lib.hid (Nat.le_refl w.heap.size)
  generalize eN : w.heap.size = N at hv2 ⊢
  have HN := Lib.hid eN
  clear eN hR
  go_wp2_with first
    | (go_at_call 47; refine hv2.out.mono ?_; rintro e w1 ⟨rfl, j⟩; obtain ⟨o, cap, hbox, hrow⟩ := j.box; have hU := j.U; rw [← hE.out] at hbox hrow; have hc := hbox.cell)
    | (go_at_call 50; refine (ssort_any N cap o s.tabs w1 hrow (by unfold Sp.tabs; simp) hlen).mono ?_; rintro e w2 ⟨rfl, hrow2, u2⟩; have hc2 := u2.cell hc (fun e => hbox.not_row (by decide) hrow e.symm); have hU2 := hU.since u2 (fun q hq => by have := (hrow.lt q hq).1; have := HN.out; omega))
  go_ret
  exact ⟨_, rfl, by rw [HN.out]; exact hrow2, hU2⟩
end Go.Proofs.YtdapmcclplfpfaaGreatDoor

/-
  Package tables, in plain numbers: the lists that the visits tell, page by page and table by table.
-/
namespace Go.Proofs.YtdapmcclplfpfaaGreatDoor

/-- the pages, and the tables of a level -/
def Sp.pgs (s : Sp) : List Nat := (List.range 4096).filter fun q => (s.E 3 q).v
def Sp.lev (s : Sp) (l : Nat) : List Nat := (List.range (16 ^ l)).filter fun d => (s.E l d).v

theorem range_flat {α : Type} (g : Nat → List α) (k : Nat) : ∀ a, (List.range a).flatMap (fun p => (List.range k).flatMap fun q => g (k * p + q)) = (List.range (k * a)).flatMap g
  | 0 => by simp
  | a + 1 => by
    rw [List.range_succ, List.flatMap_append, range_flat g k a, Nat.mul_succ, List.range_add, List.flatMap_append]
    simp [List.flatMap_map]
theorem flat_perm {α β : Type} (A B : α → List β) : ∀ l : List α, (l.flatMap fun x => A x ++ B x).Perm (l.flatMap A ++ l.flatMap B)
  | [] => by simp
  | x :: l => by
    simp only [List.flatMap_cons]
    refine (List.Perm.append_left _ (flat_perm A B l)).trans ?_
    simp only [List.append_assoc]
    refine List.Perm.append_left _ ?_
    rw [← List.append_assoc, ← List.append_assoc]
    exact List.Perm.append_right _ List.perm_append_comm
theorem flat_if {α β : Type} (p : α → Bool) (f : α → β) : ∀ l : List α, (l.flatMap fun x => if p x = true then [f x] else []) = (l.filter p).map f
  | [] => rfl
  | x :: l => by
    rw [List.flatMap_cons, flat_if p f l, List.filter_cons]
    split <;> simp
theorem flat_congr {α β : Type} {f g : α → List β} : ∀ {l : List α}, (∀ x, x ∈ l → f x = g x) → l.flatMap f = l.flatMap g
  | [], _ => rfl
  | x :: l, h => by
    rw [List.flatMap_cons, List.flatMap_cons, h x (by simp), flat_congr (l := l) fun y hy => h y (by simp [hy])]
theorem flat_nil {α β : Type} {f : α → List β} {l : List α} (h : ∀ x, x ∈ l → f x = []) : l.flatMap f = [] := by
  rw [flat_congr h]; induction l with
  | nil => rfl
  | cons x l ih => rw [List.flatMap_cons, ih fun y hy => h y (by simp [hy])]; rfl

theorem Sp.vis_fm (s : Sp) {β : Type} (sel : Nat × En → Option β) (k l d : Nat) : (s.vis (k + 1) l d).filterMap sel = (List.range 16).flatMap fun p => if (s.E (l + 1) (16 * d + p)).v = true then (sel (16 * d + p, s.E (l + 1) (16 * d + p))).toList ++ (s.vis k (l + 1) (16 * d + p)).filterMap sel else [] := by
  rw [Sp.vis, List.filterMap_flatMap]
  refine flat_congr fun p _ => ?_
  split
  · rw [List.filterMap_cons]
    split <;> rename_i h <;> rw [h] <;> rfl
  · rfl
theorem Sp.Ok.low {s : Sp} {n : Nat} (h : s.Ok n) {l d p : Nat} (hv : (s.E (l + 1) d).v = false) (hp : p < 16) : (s.E (l + 2) (16 * d + p)).v = false := by
  cases hc : (s.E (l + 2) (16 * d + p)).v
  · rfl
  · have := (h.lv _ _ hc).2.2.2
    rw [show l + 2 - 1 = l + 1 from rfl, show (16 * d + p) / 16 = d from by omega, s.onS, hv] at this
    cases this
/-- a list of the pages -/
theorem Sp.Ok.vis_pages {s : Sp} {n : Nat} (h : s.Ok n) {β : Type} (sel : Nat × En → Option β) (f : Nat → β) (hn : ∀ q e, e.t = true → sel (q, e) = Option.none) (hs : ∀ q, (s.E 3 q).v = true → sel (q, s.E 3 q) = some (f q)) :
    (s.vis 3 0 0).filterMap sel = s.pgs.map f := by
  have h1 : ∀ d, (s.vis 1 2 d).filterMap sel = (List.range 16).flatMap fun p => if (s.E 3 (16 * d + p)).v = true then [f (16 * d + p)] else [] := by
    intro d
    rw [s.vis_fm]
    refine flat_congr fun p _ => ?_
    split
    · rename_i hv
      rw [hs _ hv]
      rfl
    · rfl
  have h2 : ∀ d, (s.vis 2 1 d).filterMap sel = (List.range 16).flatMap fun p => (List.range 16).flatMap fun q => if (s.E 3 (16 * (16 * d + p) + q)).v = true then [f (16 * (16 * d + p) + q)] else [] := by
    intro d
    rw [s.vis_fm]
    refine flat_congr fun p _ => ?_
    split
    · rename_i hv
      rw [hn _ _ (h.tb _ _ hv (by omega)).1, h1]
      rfl
    · rename_i hv
      refine (flat_nil fun q hq => ?_).symm
      rw [List.mem_range] at hq
      rw [h.low (by simpa using hv) hq]
      rfl
  rw [s.vis_fm]
  have e : ∀ p, p ∈ List.range 16 → (if (s.E (0 + 1) (16 * 0 + p)).v = true then (sel (16 * 0 + p, s.E (0 + 1) (16 * 0 + p))).toList ++ (s.vis 2 (0 + 1) (16 * 0 + p)).filterMap sel else []) = (List.range 16).flatMap fun p2 => (fun x => (List.range 16).flatMap fun q => (fun y => if (s.E 3 y).v = true then [f y] else []) (16 * x + q)) (16 * p + p2) := by
    intro p hp
    simp only [Nat.mul_zero, Nat.zero_add]
    split
    · rename_i hv
      rw [hn _ _ (h.tb _ _ hv (by omega)).1, h2]
      rfl
    · rename_i hv
      refine (flat_nil fun q hq => flat_nil fun r hr => ?_).symm
      rw [List.mem_range] at hq hr
      dsimp only
      rw [h.low (h.low (by simpa using hv) hq) hr]
      rfl
  rw [flat_congr e, range_flat (fun x => (List.range 16).flatMap fun q => (fun y => if (s.E 3 y).v = true then [f y] else []) (16 * x + q)) 16 16, range_flat (fun y => if (s.E 3 y).v = true then [f y] else []) 16]
  exact flat_if (fun y => (s.E 3 y).v) f _
theorem Sp.Ok.vis_selP {s : Sp} {n : Nat} (h : s.Ok n) : (s.vis 3 0 0).filterMap selP = s.pgs.map fun q => ((q : Nat) : Int) :=
  h.vis_pages selP _ (fun q e hx => by unfold selP; rw [hx]; rfl) (fun q hv => by unfold selP; rw [h.pg _ hv]; rfl)
theorem Sp.Ok.vis_selC {s : Sp} {n : Nat} (h : s.Ok n) : (s.vis 3 0 0).filterMap selC = s.pgs.map fun q => (s.E 3 q).f :=
  h.vis_pages selC _ (fun q e hx => by unfold selC; rw [hx]; rfl) (fun q hv => by unfold selC; rw [h.pg _ hv]; rfl)
/-- the tables -/
theorem Sp.Ok.tabs_perm {s : Sp} {n : Nat} (h : s.Ok n) : s.tabs.Perm (s.root :: ((s.lev 1).map (fun d => (s.E 1 d).f) ++ (s.lev 2).map fun d => (s.E 2 d).f)) := by
  refine List.Perm.cons _ ?_
  have h1 : ∀ d, (s.vis 1 2 d).filterMap selT = [] := by
    intro d
    rw [s.vis_fm]
    refine flat_nil fun p _ => ?_
    split
    · rename_i hv
      have : selT (16 * d + p, s.E (2 + 1) (16 * d + p)) = Option.none := by unfold selT; rw [h.pg _ hv]; rfl
      rw [this]
      rfl
    · rfl
  have h2 : ∀ d, (s.vis 2 1 d).filterMap selT = (List.range 16).flatMap fun p => (fun x => if (s.E 2 x).v = true then [(s.E 2 x).f] else []) (16 * d + p) := by
    intro d
    rw [s.vis_fm]
    refine flat_congr fun p _ => ?_
    dsimp only
    split
    · rename_i hv
      have : selT (16 * d + p, s.E (1 + 1) (16 * d + p)) = some (s.E 2 (16 * d + p)).f := by unfold selT; rw [(h.tb _ _ hv (by omega)).1]; rfl
      rw [this, h1]
      rfl
    · rfl
  rw [s.vis_fm]
  have e : ∀ p, p ∈ List.range 16 → (if (s.E (0 + 1) (16 * 0 + p)).v = true then (selT (16 * 0 + p, s.E (0 + 1) (16 * 0 + p))).toList ++ (s.vis 2 (0 + 1) (16 * 0 + p)).filterMap selT else []) = (if (s.E 1 p).v = true then [(s.E 1 p).f] else []) ++ (List.range 16).flatMap fun p2 => (fun x => if (s.E 2 x).v = true then [(s.E 2 x).f] else []) (16 * p + p2) := by
    intro p hp
    simp only [Nat.mul_zero, Nat.zero_add]
    split
    · rename_i hv
      have : selT (p, s.E (0 + 1) p) = some (s.E 1 p).f := by unfold selT; rw [(h.tb _ _ hv (by omega)).1]; rfl
      rw [this, h2]
      rfl
    · rename_i hv
      rw [List.nil_append]
      refine (flat_nil fun q hq => ?_).symm
      rw [List.mem_range] at hq
      rw [h.low (by simpa using hv) hq]
      rfl
  rw [flat_congr e]
  refine (flat_perm _ _ _).trans ?_
  rw [range_flat (fun x => if (s.E 2 x).v = true then [(s.E 2 x).f] else []) 16 16]
  rw [flat_if (fun p => (s.E 1 p).v) (fun p => (s.E 1 p).f), flat_if (fun p => (s.E 2 p).v) (fun p => (s.E 2 p).f)]
  exact List.Perm.refl _
theorem Sp.Ok.tabs_len {s : Sp} {n : Nat} (h : s.Ok n) : s.tabs.length = 1 + (s.lev 1).length + (s.lev 2).length := by
  rw [h.tabs_perm.length_eq]
  simp; omega
theorem Sp.mem_lev {s : Sp} {l d : Nat} : d ∈ s.lev l ↔ d < 16 ^ l ∧ (s.E l d).v = true := by
  unfold Sp.lev
  rw [List.mem_filter, List.mem_range]
theorem Sp.mem_pgs {s : Sp} {q : Nat} : q ∈ s.pgs ↔ q < 4096 ∧ (s.E 3 q).v = true := by
  unfold Sp.pgs
  rw [List.mem_filter, List.mem_range]
theorem Sp.Ok.mem_tabs {s : Sp} {n : Nat} (h : s.Ok n) {f : Int} : f ∈ s.tabs ↔ ∃ l d, l ≤ 2 ∧ s.on l d = true ∧ f = s.fr l d := by
  rw [h.tabs_perm.mem_iff]
  simp only [List.mem_cons, List.mem_append, List.mem_map, Sp.mem_lev]
  constructor
  · rintro (rfl | ⟨d, ⟨_, hv⟩, rfl⟩ | ⟨d, ⟨_, hv⟩, rfl⟩)
    · exact ⟨0, 0, by omega, rfl, rfl⟩
    · exact ⟨1, d, by omega, by rw [s.onS]; exact hv, by rw [s.frS]⟩
    · exact ⟨2, d, by omega, by rw [s.onS]; exact hv, by rw [s.frS]⟩
  · rintro ⟨l, d, hl, ho, rfl⟩
    match l, hl with
    | 0, _ => exact .inl rfl
    | 1, _ => rw [s.onS] at ho; exact .inr (.inl ⟨d, ⟨(h.lv _ _ ho).2.2.1, ho⟩, by rw [s.frS]⟩)
    | 2, _ => rw [s.onS] at ho; exact .inr (.inr ⟨d, ⟨(h.lv _ _ ho).2.2.1, ho⟩, by rw [s.frS]⟩)
theorem nodup_mapF {l : List Nat} {f : Nat → Int} (hl : l.Nodup) (hf : ∀ a b, a ∈ l → b ∈ l → f a = f b → a = b) : (l.map f).Nodup := by
  induction l with
  | nil => simp
  | cons x l ih =>
    rw [List.nodup_cons] at hl
    rw [List.map_cons, List.nodup_cons]
    refine ⟨fun hm => ?_, ih hl.2 fun a b ha hb => hf a b (by simp [ha]) (by simp [hb])⟩
    obtain ⟨y, hy, e⟩ := List.mem_map.1 hm
    have := hf y x (by simp [hy]) (by simp) e
    subst this
    exact hl.1 hy
theorem Sp.Ok.tabs_nodup {s : Sp} {n : Nat} (h : s.Ok n) : s.tabs.Nodup := by
  rw [h.tabs_perm.nodup_iff]
  have onE : ∀ l d, d ∈ s.lev (l + 1) → s.on (l + 1) d = true := fun l d hd => by rw [s.onS]; exact (Sp.mem_lev.1 hd).2
  have lv : ∀ l, l + 1 ≤ 2 → ((s.lev (l + 1)).map fun d => (s.E (l + 1) d).f).Nodup := fun l hl =>
    nodup_mapF ((List.nodup_range).filter _) fun a b ha hb e => (h.inj _ _ _ _ hl hl (onE l a ha) (onE l b hb) (by rw [s.frS, s.frS]; exact e)).2
  rw [List.nodup_cons, List.nodup_append]
  refine ⟨?_, lv 0 (by omega), lv 1 (by omega), ?_⟩
  · intro hm
    rcases List.mem_append.1 hm with hm | hm <;> obtain ⟨d, hd, e⟩ := List.mem_map.1 hm
    · have := (h.inj 1 d 0 0 (by omega) (by omega) (onE 0 d hd) rfl (by rw [s.frS, s.fr0]; exact e)).1; omega
    · have := (h.inj 2 d 0 0 (by omega) (by omega) (onE 1 d hd) rfl (by rw [s.frS, s.fr0]; exact e)).1; omega
  · rintro a ha b hb rfl
    obtain ⟨d, hd, e⟩ := List.mem_map.1 ha
    obtain ⟨d', hd', e'⟩ := List.mem_map.1 hb
    have := (h.inj 1 d 2 d' (by omega) (by omega) (onE 0 d hd) (onE 1 d' hd') (by rw [s.frS, s.frS]; exact e.trans e'.symm)).1
    omega
theorem Sp.pgs_rises (s : Sp) : s.pgs.Pairwise (· < ·) := (List.pairwise_lt_range).filter _
/-- all frames that are not free are given, one by one -/
theorem left_len : ∀ (k : Nat) {b : Bud}, b.gave.length = k → b.Ok → (∀ x, x ∈ b.gave → x.2 = 0) → b.left + b.gave.length + b.res = b.n
  | 0, b, hl, h, h0 => by
    have hn : b.gave = [] := List.eq_nil_of_length_eq_zero hl
    have hF : ∀ k, k ≤ b.n → cnt b.F k = k - b.res := by
      intro k
      induction k with
      | zero => intro _; simp [cnt]
      | succ k ih =>
        intro hk
        rw [cnt_succ, ih (by omega)]
        by_cases hr : b.res ≤ k
        · have : b.F k = true := (h.fr k).2 ⟨hr, by omega, by rw [hn]; simp⟩
          rw [this]; simp; omega
        · have : b.F k = false := by
            cases hf : b.F k
            · rfl
            · have := (h.fr k).1 hf; omega
          rw [this]; simp; omega
    have := hF b.n (Nat.le_refl _)
    have := h.rs
    unfold Bud.left
    omega
  | k + 1, b, hl, h, h0 => by
    obtain ⟨x, hx⟩ := List.exists_mem_of_length_pos (l := b.gave) (by omega)
    have e : (b.take x).gave = b.gave.erase x := rfl
    have hle : (b.gave.erase x).length = k := by rw [List.length_erase_of_mem hx]; omega
    have ih := left_len k (b := b.take x) (by rw [e]; exact hle) (h.take hx) (fun y hy => h0 y (List.mem_of_mem_erase hy))
    have hlt := left_take h hx
    rw [h0 x hx] at hlt
    rw [e, hle] at ih
    have : (b.take x).res = b.res := rfl
    have : (b.take x).n = b.n := rfl
    simp at hlt
    omega
end Go.Proofs.YtdapmcclplfpfaaGreatDoor
