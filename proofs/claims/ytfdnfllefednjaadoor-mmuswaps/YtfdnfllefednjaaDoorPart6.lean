/-
  Texts that the laws stand on, joined: MmE, MmF, MmQ, TbM, TbA, TbC, TbG, TbB, TbH, TbI, TbP, TbD, TbE.
-/
import Derived.Deep.CutBlock
import Derived.Deep.RegionHeld3
import Derived.Maps.AppendAt
import Derived.RangeFuncBox
import Derived.Shelf.Abstract
import Derived.Sort.OwnSortedInts
import Derived.Test.YtfdnfllefednjaaDoorPart5

/-
  Package mmu: a unit with its memory and its buffer; the laws' own beginning.
-/
namespace Go.Proofs.YtfdnfllefednjaaDoor
open Go.ChangeShapes Go.WideShapes Go.ChangeAt Go.RowKit Go.Shelf

theorem uM_good {m : Mem} (hk : m.ok) (h : m.good) (B : Buf) (root asid addr v at' : Int) (h0 : 0 ≤ v) (h1 : v < 18446744073709551616) : (uM m B root asid addr v at').good := by
  unfold uM
  split
  · exact m.wr_good hk h _ _ h0 h1
  · exact h
/-- which blocks are which -/
structure UNe (U MA BA MB : Nat) : Prop where
  ub : U ≠ BA
  mb : MA ≠ BA
  wb : MB ≠ BA
  uw : U ≠ MB
  um : U ≠ MA
  fb : ¬ 0 = BA
  fu : ¬ 0 = U
/-- a unit, its memory and its buffer -/
structure Mmu (w : World) (U MA BA MB : Nat) (root asid : Int) (m : Mem) (B : Buf) : Prop where
  un : UnAt w U MA BA root asid
  me : MemAt w MA m
  bu : BufAt w BA B
  T : Tab w
  g : m.good
  bo : B.Ok
  e : m.B = MB
  ne : UNe U MA BA MB
theorem Mmu.kept {S : Nat → Prop} {w w' : World} {U MA BA MB : Nat} {root asid : Int} {m : Mem} {B : Buf} (h : Mmu w U MA BA MB root asid m B) (u : Upd S w w') (h1 : ¬ S U) (h2 : ¬ S MA) (h3 : ¬ S BA) (h4 : ¬ S MB) (h5 : ¬ S 0) : Mmu w' U MA BA MB root asid m B :=
  ⟨h.un.kept u h1, h.me.kept u h2 (by rw [h.e]; exact h4), h.bu.kept u h3, h.T.keptS u h5, h.g, h.bo, h.e, h.ne⟩
theorem Mmu.still {w w' : World} {U MA BA MB : Nat} {root asid : Int} {m : Mem} {B : Buf} (h : Mmu w U MA BA MB root asid m B) (u : Upd (fun _ => False) w w') : Mmu w' U MA BA MB root asid m B := h.kept u id id id id id
/-- what a unit's calls turn -/
def MmS (U BA MB : Nat) : Nat → Prop := fun k => k = U ∨ k = BA ∨ k = MB
theorem Mmu.lts {w : World} {U MA BA MB : Nat} {root asid : Int} {m : Mem} {B : Buf} (h : Mmu w U MA BA MB root asid m B) : ∀ k, MmS U BA MB k → k < w.heap.size := by
  have l1 := h.un.lt
  have l2 := h.bu.lt
  have l3 := lt_of_heap h.me.body
  rw [h.e] at l3
  unfold MmS
  rintro k (rfl | rfl | rfl) <;> omega
theorem Mmu.mne {w : World} {U MA BA MB : Nat} {root asid : Int} {m : Mem} {B : Buf} (h : Mmu w U MA BA MB root asid m B) : MA ≠ MB ∧ ¬ 0 = MB := ⟨by rw [← h.e]; exact h.me.ne, by rw [← h.e]; exact h.T.apart h.me⟩
theorem Mmu.find {w : World} {U MA BA MB : Nat} {root asid : Int} {m : Mem} {B : Buf} (h : Mmu w U MA BA MB root asid m B) (addr : Int) (wr : Bool) (at' : Int) :
    Calls Tryd.prog 23 #[.pointer (some ⟨U, 0, none⟩), .int .i64 addr, .bool wr, .int .i64 at'] w fun e w' => e = .returned (.tuple #[.int .i64 (uF m B root asid addr wr at'), .int .i64 (uO m B root asid addr wr at'), .int .i64 (uX m B root asid addr wr at')]) ∧ Mmu w' U MA BA MB root asid m (uB m B root asid addr at') ∧ Upd (MmS U BA MB) w w' := by
  have n := h.ne
  refine (ufind_any U MA BA root asid addr wr at' m B h.bo w h.un h.me h.bu h.T h.g n.ub n.mb (by rw [h.e]; exact n.wb)).mono ?_
  rintro e w' ⟨rfl, b, u⟩
  exact ⟨rfl, ⟨h.un.kept u n.ub, h.me.kept u n.mb (by rw [h.e]; exact n.wb), b, h.T.keptS u n.fb, h.g, uB_ok h.bo _ _ _ _, h.e, n⟩, u.mono fun _ _ e => .inr (.inl e)⟩
theorem Mmu.load {w : World} {U MA BA MB : Nat} {root asid : Int} {m : Mem} {B : Buf} (h : Mmu w U MA BA MB root asid m B) (addr at' : Int) :
    Calls Tryd.prog 13 #[.pointer (some ⟨U, 0, none⟩), .int .i64 addr, .int .i64 at'] w fun e w' => e = .returned (.tuple #[.int .u64 (uW m B root asid addr at'), .int .i64 (uX m B root asid addr false at')]) ∧ Mmu w' U MA BA MB root asid m (uB m B root asid addr at') ∧ Upd (MmS U BA MB) w w' := by
  have n := h.ne
  refine (uload_any U MA BA root asid addr at' m B h.bo w h.un h.me h.bu h.T h.g n.ub n.mb (by rw [h.e]; exact n.wb)).mono ?_
  rintro e w' ⟨rfl, b, u⟩
  exact ⟨rfl, ⟨h.un.kept u n.ub, h.me.kept u n.mb (by rw [h.e]; exact n.wb), b, h.T.keptS u n.fb, h.g, uB_ok h.bo _ _ _ _, h.e, n⟩, u.mono fun _ _ e => .inr (.inl e)⟩
theorem Mmu.store {w : World} {U MA BA MB : Nat} {root asid : Int} {m : Mem} {B : Buf} (h : Mmu w U MA BA MB root asid m B) (addr v at' : Int) (h0 : 0 ≤ v) (h1 : v < 18446744073709551616) :
    Calls Tryd.prog 15 #[.pointer (some ⟨U, 0, none⟩), .int .i64 addr, .int .u64 v, .int .i64 at'] w fun e w' => e = .returned (.int .i64 (uX m B root asid addr true at')) ∧ Mmu w' U MA BA MB root asid (uM m B root asid addr v at') (uB m B root asid addr at') ∧ Upd (MmS U BA MB) w w' := by
  have n := h.ne
  have hk := h.me.okm
  have he := h.e
  refine (ustore_any U MA BA root asid addr v at' m B h.bo w h.un h.me h.bu h.T h.g n.ub n.mb (by rw [h.e]; exact n.wb) (by rw [h.e]; exact n.uw)).mono ?_
  rintro e w' ⟨rfl, b, mm, u⟩
  exact ⟨rfl, ⟨h.un.kept u (by rw [he]; have := n.ub; have := n.uw; omega), mm, b, h.T.keptS u (by have := n.fb; have := h.mne.2; rw [he]; omega), uM_good hk h.g B root asid addr v at' h0 h1, uB_ok h.bo _ _ _ _, by rw [uM_B]; exact he, n⟩, u.mono fun _ _ e => by unfold MmS; rw [he] at e; omega⟩
theorem Mmu.use {w : World} {U MA BA MB : Nat} {root asid : Int} {m : Mem} {B : Buf} (h : Mmu w U MA BA MB root asid m B) (r a : Int) :
    Calls Tryd.prog 18 #[.pointer (some ⟨U, 0, none⟩), .int .i64 r, .int .i64 a] w fun e w' => e = .returned (.int .i64 (if useB m r a = true then 0 else 1)) ∧ Mmu w' U MA BA MB (if useB m r a = true then r else root) (if useB m r a = true then a else asid) m B ∧ Upd (MmS U BA MB) w w' := by
  have n := h.ne
  refine (uuse_any U MA BA root asid r a m w h.un h.me).mono ?_
  rintro e w' ⟨rfl, x, u⟩
  exact ⟨rfl, ⟨x, h.me.kept u (Ne.symm n.um) (by rw [h.e]; exact Ne.symm n.uw), h.bu.kept u (Ne.symm n.ub), h.T.keptS u n.fu, h.g, h.bo, h.e, n⟩, u.mono fun _ _ e => .inl e⟩
/-- the laws' own tables -/
def Mem.parts (m : Mem) : Mem := (((m.put 0 0 ⟨true, false, true, 1⟩).put 1 0 ⟨true, false, true, 2⟩).put 2 0 ⟨true, true, false, 4⟩).put 2 1 ⟨true, false, false, 5⟩
theorem Mem.parts_B (m : Mem) : m.parts.B = m.B := by unfold Mem.parts; rw [Mem.put_B, Mem.put_B, Mem.put_B, Mem.put_B]
theorem Mem.parts_n (m : Mem) : m.parts.n = m.n := by unfold Mem.parts; rw [Mem.put_n, Mem.put_n, Mem.put_n, Mem.put_n]
theorem Mem.parts_ok (m : Mem) (h : m.ok) : m.parts.ok := Mem.put_ok _ (Mem.put_ok _ (Mem.put_ok _ (Mem.put_ok _ h ..) ..) ..) ..
theorem Mem.parts_good (m : Mem) (h : m.ok) (hg : m.good) : m.parts.good := by
  have h1 := m.put_good h hg 0 0 ⟨true, false, true, 1⟩
  have k1 := m.put_ok h 0 0 ⟨true, false, true, 1⟩
  have h2 := Mem.put_good _ k1 h1 1 0 ⟨true, false, true, 2⟩
  have k2 := Mem.put_ok _ k1 1 0 ⟨true, false, true, 2⟩
  have h3 := Mem.put_good _ k2 h2 2 0 ⟨true, true, false, 4⟩
  have k3 := Mem.put_ok _ k2 2 0 ⟨true, true, false, 4⟩
  exact Mem.put_good _ k3 h3 2 1 ⟨true, false, false, 5⟩
set_option maxHeartbeats 1000000 in
theorem uparts_any (A : Nat) (m : Mem) (w : World) (h : MemAt w A m) (T : Tab w) :
    Calls Tryd.prog 42 #[.pointer (some ⟨A, 0, none⟩)] w fun e w' => e = .returned (.tuple #[]) ∧ MemAt w' A m.parts ∧ Tab w' ∧ Upd (· = m.B) w w' := by
  have c1 := Lib.hid (fun m W (h : MemAt W A m) T => wput_any A m 0 0 ⟨true, false, true, 1⟩ W h T (by decide))
  have c2 := Lib.hid (fun m W (h : MemAt W A m) T => wput_any A m 1 0 ⟨true, false, true, 2⟩ W h T (by decide))
  have c3 := Lib.hid (fun m W (h : MemAt W A m) T => wput_any A m 2 0 ⟨true, true, false, 4⟩ W h T (by decide))
  have c4 := Lib.hid (fun m W (h : MemAt W A m) T => wput_any A m 2 1 ⟨true, false, false, 5⟩ W h T (by decide))
  go_enter Tryd.func42, Tryd.ntmps42
  go_wp2_with fail
  refine (c1.out _ _ h T).mono ?_
  rintro e w1 ⟨rfl, h1, u1⟩
  have T1 := T.keptS u1 (T.apart h)
  go_wp2_with fail
  refine (c2.out _ _ h1 T1).mono ?_
  rintro e w2 ⟨rfl, h2, u2⟩
  have T2 := T1.keptS u2 (T1.apart h1)
  rw [Mem.put_B] at u2
  go_wp2_with fail
  refine (c3.out _ _ h2 T2).mono ?_
  rintro e w3 ⟨rfl, h3, u3⟩
  have T3 := T2.keptS u3 (T2.apart h2)
  rw [Mem.put_B, Mem.put_B] at u3
  go_wp2_with fail
  refine (c4.out _ _ h3 T3).mono ?_
  rintro e w4 ⟨rfl, h4, u4⟩
  have T4 := T3.keptS u4 (T3.apart h3)
  rw [Mem.put_B, Mem.put_B, Mem.put_B] at u4
  go_wp2
  go_end0
  exact ⟨rfl, h4, T4, ((u1.trans u2).trans u3).trans u4⟩
/-- blocks that are new -/
structure UNew (N U MA BA MB : Nat) : Prop where
  u : N ≤ U
  m : N ≤ MA
  b : N ≤ BA
  w : N ≤ MB
set_option maxHeartbeats 2000000 in
theorem ubegun_any (w : World) (T : Tab w) :
    Calls Tryd.prog 8 #[] w fun e w' => ∃ U MA BA MB, e = .returned (.tuple #[.pointer (some ⟨MA, 0, none⟩), .pointer (some ⟨BA, 0, none⟩), .pointer (some ⟨U, 0, none⟩)]) ∧ Mmu w' U MA BA MB 0 1 (memNew MB 8).parts buf0 ∧ UNew w.heap.size U MA BA MB ∧ Upd (fun _ => False) w w' := by
  go_enter Tryd.func8, Tryd.ntmps8
  go_wp2_with fail
  refine (new_yes 8 _ (by omega) (by omega)).mono ?_
  rintro e w1 ⟨rfl, h1, u1, s1⟩
  have H1 := Lib.hid h1
  have V1 := Lib.hid u1
  have S1 := Lib.hid s1
  clear h1 u1 s1
  go_wp2_with fail
  refine (tnew_any w1).mono ?_
  rintro e w2 ⟨BA, rfl, hBA, b2, u2⟩
  have HB := Lib.hid hBA
  have B2 := Lib.hid b2
  have V2 := Lib.hid u2
  clear hBA b2 u2
  generalize hMA : w.heap.size + 1 = MA at H1 ⊢
  have HMA := Lib.hid hMA
  clear hMA
  go_wp2_with fail
  refine (unew_any MA BA w2).mono ?_
  rintro e w3 ⟨rfl, x3, u3⟩
  have X3 := Lib.hid x3
  have V3 := Lib.hid u3
  have HU := Lib.hid (show w2.heap.size ≤ w2.heap.size from Nat.le_refl _)
  have W3 := Lib.hid ((V1.out.trans V2.out).trans u3)
  have M3 := Lib.hid (H1.out.kept (V2.out.trans u3) id id)
  have T3 := Lib.hid (T.kept W3.out)
  have hlt := Lib.hid (show MA < w2.heap.size ∧ BA < w2.heap.size ∧ w.heap.size < w2.heap.size ∧ 0 < w.heap.size from ⟨by have := HMA.out; have := S1.out; have := V2.out.size; omega, B2.out.lt, by have := S1.out; have := V2.out.size; omega, World.block_lt_of_cell? w _ (T 0 (by omega)).1⟩)
  have hNe : Hid (UNe w2.heap.size MA BA w.heap.size ∧ UNew w.heap.size w2.heap.size MA BA w.heap.size) := Lib.hid (by
    have := hlt.out
    have := HB.out
    have := S1.out
    have := HMA.out
    exact ⟨⟨by omega, by omega, by omega, by omega, by omega, by omega, by omega⟩, ⟨by omega, by omega, by omega, by omega⟩⟩)
  have B3 := Lib.hid (B2.out.kept V3.out id)
  generalize w2.heap.size = U at X3 hNe ⊢
  clear x3 u3 V1 V2 V3 H1 B2 hlt HU HB S1 HMA
  go_wp2_with fail
  refine (uparts_any MA _ w3 M3.out T3.out).mono ?_
  rintro e w4 ⟨rfl, m4, t4, u4⟩
  have hk := Mem.new_ok w.heap.size 8
  have M4 : Mmu w4 U MA BA w.heap.size 0 0 (memNew w.heap.size 8).parts buf0 := ⟨X3.out.kept u4 hNe.out.1.uw, m4, B3.out.kept u4 (Ne.symm hNe.out.1.wb), t4, Mem.parts_good _ hk (Mem.new_good _ _), buf0_ok, Mem.parts_B _, hNe.out.1⟩
  have W4 := Lib.hid (W3.out.fresh u4 (Nat.le_refl _))
  have H4 := Lib.hid M4
  clear M4 m4 t4 u4 hk X3 B3 W3 M3 T3
  go_wp2_with fail
  refine (H4.out.use 0 1).mono ?_
  rintro e w5 ⟨rfl, h5, u5⟩
  have hu : useB (memNew w.heap.size 8).parts 0 1 = true := by kernel_rfl
  rw [hu, if_pos rfl, if_pos rfl] at h5
  go_wp2
  go_ret3
  exact ⟨U, MA, BA, w.heap.size, rfl, h5, hNe.out.2, W4.out.since u5 (by
    have := hNe.out.2
    unfold MmS
    rintro k (rfl | rfl | rfl)
    · exact this.u
    · exact this.b
    · exact this.w)⟩
end Go.Proofs.YtfdnfllefednjaaDoor

/-
  Package mmu: the laws' awake.
-/
namespace Go.Proofs.YtfdnfllefednjaaDoor
open Go.ChangeShapes Go.WideShapes Go.ChangeAt Go.RowKit Go.Shelf

/-- the memory and the buffers of awake -/
def awm (B : Nat) : Mem := (memNew B 8).parts
def awm1 (B : Nat) : Mem := uM (awm B) buf0 0 1 3 7 0
def awb1 (B : Nat) : Buf := uB (awm B) buf0 0 1 3 0
def awb2 (B : Nat) : Buf := uB (awm1 B) (awb1 B) 0 1 3 0
def awm2 (B : Nat) : Mem := uM (awm1 B) (awb2 B) 0 1 20 7 0
def awb3 (B : Nat) : Buf := uB (awm1 B) (awb2 B) 0 1 20 0
def awb4 (B : Nat) : Buf := uB (awm2 B) (awb3 B) 0 1 40 0
theorem aw_1 (B : Nat) : uX (awm B) buf0 0 1 3 true 0 = 0 := by kernel_rfl
theorem aw_2 (B : Nat) : uW (awm1 B) (awb1 B) 0 1 3 0 = 7 := by kernel_rfl
theorem aw_3 (B : Nat) : uX (awm1 B) (awb1 B) 0 1 3 false 0 = 0 := by kernel_rfl
theorem aw_4 (B : Nat) : (awm1 B).rd 67 = 7 := by kernel_rfl
theorem aw_5 (B : Nat) : uX (awm1 B) (awb2 B) 0 1 20 true 0 = 9 := by kernel_rfl
theorem aw_6 (B : Nat) : uX (awm2 B) (awb3 B) 0 1 40 false 0 = 10 := by kernel_rfl
theorem aw_7 (B : Nat) : (awb4 B).lines.length = 2 := by kernel_rfl
theorem MmS.new {N U MA BA MB : Nat} (h : UNew N U MA BA MB) : ∀ k, MmS U BA MB k → N ≤ k := by
  have := h.u
  have := h.b
  have := h.w
  unfold MmS
  rintro k (rfl | rfl | rfl) <;> omega
set_option maxHeartbeats 2000000 in
theorem uawake_any (w : World) (T : Tab w) : Calls Tryd.prog 7 #[] w fun e w' => e = .returned (.bool true) ∧ Upd (fun _ => False) w w' := by
  go_enter Tryd.func7, Tryd.ntmps7
  go_wp2_with fail
  refine (ubegun_any w T).mono ?_
  rintro e w1 ⟨U, MA, BA, MB, rfl, h1, n1, u1⟩
  have hS := Lib.hid (MmS.new n1)
  have H1 := Lib.hid (show Mmu w1 U MA BA MB 0 1 (awm MB) buf0 from h1)
  have V1 := Lib.hid u1
  clear h1 n1 u1 T
  go_wp2_with fail
  refine (H1.out.store 3 7 0 (by omega) (by omega)).mono ?_
  rintro e w2 ⟨rfl, h2, u2⟩
  have V2 := Lib.hid (V1.out.since u2 hS.out)
  have H2 := Lib.hid (show Mmu w2 U MA BA MB 0 1 (awm1 MB) (awb1 MB) from h2)
  rw [aw_1]
  clear h2 u2 H1 V1
  go_wp2_with fail
  refine (H2.out.load 3 0).mono ?_
  rintro e w3 ⟨rfl, h3, u3⟩
  have V3 := Lib.hid (V2.out.since u3 hS.out)
  have H3 := Lib.hid (show Mmu w3 U MA BA MB 0 1 (awm1 MB) (awb2 MB) from h3)
  rw [aw_2, aw_3]
  clear h3 u3 H2 V2
  go_wp2_with fail
  refine (read_any MA (awm1 MB) 67 w3 H3.out.me).mono ?_
  rintro e w4 ⟨rfl, rfl⟩
  rw [aw_4]
  go_wp2_with fail
  refine (H3.out.store 20 7 0 (by omega) (by omega)).mono ?_
  rintro e w5 ⟨rfl, h5, u5⟩
  have V5 := Lib.hid (V3.out.since u5 hS.out)
  have H5 := Lib.hid (show Mmu w5 U MA BA MB 0 1 (awm2 MB) (awb3 MB) from h5)
  rw [aw_5]
  clear h5 u5 H3 V3
  go_wp2_with fail
  refine (H5.out.load 40 0).mono ?_
  rintro e w6 ⟨rfl, h6, u6⟩
  have V6 := Lib.hid (V5.out.since u6 hS.out)
  have H6 := Lib.hid (show Mmu w6 U MA BA MB 0 1 (awm2 MB) (awb4 MB) from h6)
  rw [aw_6]
  clear h6 u6 H5 V5
  go_wp2_with fail
  refine (tlines_any BA (awb4 MB) H6.out.bo w6 H6.out.bu).mono ?_
  rintro e w7 ⟨v, rfl, r7, u7⟩
  obtain ⟨o7, c7, rfl⟩ := wk_slice r7
  rw [aw_7]
  have V7 := Lib.hid (V6.out.trans u7)
  clear r7 u7 H6 V6
  go_wp2
  go_ret
  exact ⟨rfl, V7.out⟩
end Go.Proofs.YtfdnfllefednjaaDoor

/-
  The laws' own rows of calls.
-/
namespace Go.Proofs.YtfdnfllefednjaaDoor
open Go.ChangeShapes Go.WideShapes Go.ChangeAt Go.RowKit Go.Shelf

abbrev mopKs : List (Option IntKind) := [some .i64, some .i64, some .i64, some .i64, some .i64, some .u64, none, none, none, some .i64]
structure MopIn (w : World) (b o : Nat) (d ad at' f pl v : Int) (e : En) : Prop where
  c0 : w.cell? ⟨b, o, none⟩ = some (.int .i64 d)
  c1 : w.cell? ⟨b, o + 1, none⟩ = some (.int .i64 ad)
  c2 : w.cell? ⟨b, o + 2, none⟩ = some (.int .i64 at')
  c3 : w.cell? ⟨b, o + 3, none⟩ = some (.int .i64 f)
  c4 : w.cell? ⟨b, o + 4, none⟩ = some (.int .i64 pl)
  c5 : w.cell? ⟨b, o + 5, none⟩ = some (.int .u64 v)
  c6 : w.cell? ⟨b, o + 6, none⟩ = some (.bool e.v)
  c7 : w.cell? ⟨b, o + 7, none⟩ = some (.bool e.r)
  c8 : w.cell? ⟨b, o + 8, none⟩ = some (.bool e.t)
  c9 : w.cell? ⟨b, o + 9, none⟩ = some (.int .i64 e.f)
  wa : (Lit.int .i64 ad).wf = true
  wx : (Lit.int .i64 at').wf = true
  wv : 0 ≤ v ∧ v < 18446744073709551616
  wf : (Lit.int .i64 e.f).wf = true
theorem mop10 {w : World} {ao : Option Addr} {n b off : Nat} {E : Nat → Nat → Value} (R : Fr.RowArg w ao n b off mopKs E) (i : Nat) (hi : i < n) :
    ∃ (d ad at' f pl v : Int) (e : En), MopIn w b (off + i * 10) d ad at' f pl v e := by
  obtain ⟨d, h0, -⟩ := R.ok i hi 0 _ rfl
  obtain ⟨ad, h1, w1⟩ := R.ok i hi 1 _ rfl
  obtain ⟨at', h2, w2⟩ := R.ok i hi 2 _ rfl
  obtain ⟨f, h3, -⟩ := R.ok i hi 3 _ rfl
  obtain ⟨pl, h4, -⟩ := R.ok i hi 4 _ rfl
  obtain ⟨v, h5, w5⟩ := R.ok i hi 5 _ rfl
  obtain ⟨ev, h6⟩ := R.ok i hi 6 _ rfl
  obtain ⟨er, h7⟩ := R.ok i hi 7 _ rfl
  obtain ⟨et, h8⟩ := R.ok i hi 8 _ rfl
  obtain ⟨ef, h9, w9⟩ := R.ok i hi 9 _ rfl
  have c : ∀ j, j < 10 → w.cell? ⟨b, off + i * 10 + j, none⟩ = some (E i j) := fun j hj => by
    have := R.cell i hi j hj
    rwa [show off + (i * mopKs.length + j) = off + i * 10 + j from by show off + (i * 10 + j) = _; omega] at this
  have q0 := c 0 (by omega)
  have q1 := c 1 (by omega)
  have q2 := c 2 (by omega)
  have q3 := c 3 (by omega)
  have q4 := c 4 (by omega)
  have q5 := c 5 (by omega)
  have q6 := c 6 (by omega)
  have q7 := c 7 (by omega)
  have q8 := c 8 (by omega)
  have q9 := c 9 (by omega)
  rw [h0] at q0
  rw [h1] at q1
  rw [h2] at q2
  rw [h3] at q3
  rw [h4] at q4
  rw [h5] at q5
  rw [h6] at q6
  rw [h7] at q7
  rw [h8] at q8
  rw [h9] at q9
  have hv : 0 ≤ v ∧ v < 18446744073709551616 := by
    simp only [Lit.wf, Bool.and_eq_true, decide_eq_true_eq] at w5
    have hmin : IntKind.u64.min = 0 := rfl
    have hmax : IntKind.u64.max = 18446744073709551615 := rfl
    omega
  exact ⟨d, ad, at', f, pl, v, ⟨ev, er, et, ef⟩, q0, q1, q2, q3, q4, q5, q6, q7, q8, q9, w1, w2, hv, w9⟩
theorem ob10 {w : World} {g : Nat} {x0 x1 x2 x3 x4 x5 x6 x7 x8 x9 : Value} {t : TypeId} (h : w.heap[g]? = some (.cells #[x0, x1, x2, x3, x4, x5, x6, x7, x8, x9] t (0, 0))) :
    w.cell? ⟨g, 0, none⟩ = some x0 ∧ w.cell? ⟨g, 1, none⟩ = some x1 ∧ w.cell? ⟨g, 2, none⟩ = some x2 ∧ w.cell? ⟨g, 3, none⟩ = some x3 ∧ w.cell? ⟨g, 4, none⟩ = some x4 ∧ w.cell? ⟨g, 5, none⟩ = some x5 ∧ w.cell? ⟨g, 6, none⟩ = some x6 ∧ w.cell? ⟨g, 7, none⟩ = some x7 ∧ w.cell? ⟨g, 8, none⟩ = some x8 ∧ w.cell? ⟨g, 9, none⟩ = some x9 := by
  refine ⟨?_, ?_, ?_, ?_, ?_, ?_, ?_, ?_, ?_, ?_⟩ <;> (rw [cell_of_row w g _ _ _ _ h]; rfl)
end Go.Proofs.YtfdnfllefednjaaDoor

/-
  Package tables, in plain numbers: a space as a tree of entries, the words of its tables, what a walk finds there.
-/
namespace Go.Proofs.YtfdnfllefednjaaDoor

/-- the node of a level on the way to page q: its upper digits -/
def nd (q l : Nat) : Nat := q / 16 ^ (3 - l)
theorem nd0 {q : Nat} (h : q < 4096) : nd q 0 = 0 := Nat.div_eq_of_lt (by simpa using h)
theorem nd1 (q : Nat) : nd q 1 = q / 256 := rfl
theorem nd2 (q : Nat) : nd q 2 = q / 16 := rfl
theorem nd3 (q : Nat) : nd q 3 = q := by simp [nd]
theorem idx_nat (q k : Nat) (hq : q < 4096) (hk : k < 3) : idxI q k = ((nd q (k + 1) % 16 : Nat) : Int) := by
  have hb : idxB q k = true := decide_eq_true (by omega)
  unfold idxI
  rw [if_pos hb]
  match k, hk with
  | 0, _ => simp [nd1]; omega
  | 1, _ => simp [nd2]
  | 2, _ => simp [nd3]
theorem nd_up (q k : Nat) (hk : k < 3) : nd q (k + 1) / 16 = nd q k := by
  match k, hk with
  | 0, _ => rw [nd1]; unfold nd; simp; omega
  | 1, _ => rw [nd1, nd2]; omega
  | 2, _ => rw [nd2, nd3]
theorem nd_step (q k : Nat) (hk : k < 3) : 16 * nd q k + nd q (k + 1) % 16 = nd q (k + 1) := by
  have := nd_up q k hk
  omega
theorem nd_lt (q k : Nat) (hq : q < 4096) (hk : k ≤ 3) : nd q k < 16 ^ k := by
  match k, hk with
  | 0, _ => rw [nd0 hq]; decide
  | 1, _ => rw [nd1]; omega
  | 2, _ => rw [nd2]; omega
  | 3, _ => rw [nd3]; omega

/-- a space: its root, and the entry of each node in the table above it (levels 1 to 3) -/
structure Sp where
  root : Int
  E : Nat → Nat → En
def Sp.on (s : Sp) (l d : Nat) : Bool := if l = 0 then decide (d = 0) else (s.E l d).v
def Sp.fr (s : Sp) (l d : Nat) : Int := if l = 0 then s.root else (s.E l d).f
theorem Sp.on0 (s : Sp) : s.on 0 0 = true := rfl
theorem Sp.fr0 (s : Sp) (d : Nat) : s.fr 0 d = s.root := rfl
theorem Sp.onS (s : Sp) (l d : Nat) : s.on (l + 1) d = (s.E (l + 1) d).v := by simp [Sp.on]
theorem Sp.frS (s : Sp) (l d : Nat) : s.fr (l + 1) d = (s.E (l + 1) d).f := by simp [Sp.fr]
structure Sp.Ok (s : Sp) (n : Nat) : Prop where
  rlo : 0 ≤ s.root
  rhi : s.root < n
  none : ∀ l d, (s.E l d).v = false → s.E l d = En.zero
  lv : ∀ l d, (s.E l d).v = true → 1 ≤ l ∧ l ≤ 3 ∧ d < 16 ^ l ∧ s.on (l - 1) (d / 16) = true
  tb : ∀ l d, (s.E l d).v = true → l ≤ 2 → (s.E l d).t = true ∧ (s.E l d).r = false
  pg : ∀ d, (s.E 3 d).v = true → (s.E 3 d).t = false
  f : ∀ l d, (s.E l d).v = true → 0 ≤ (s.E l d).f ∧ (s.E l d).f < n
  inj : ∀ l d l' d', l ≤ 2 → l' ≤ 2 → s.on l d = true → s.on l' d' = true → s.fr l d = s.fr l' d' → l = l' ∧ d = d'
/-- no table is there for nothing -/
def Sp.need (s : Sp) : Prop := ∀ l d, 1 ≤ l → l ≤ 2 → s.on l d = true → ∃ p, p < 16 ∧ (s.E (l + 1) (16 * d + p)).v = true
/-- the words of its tables -/
def Sp.In (s : Sp) (m : Mem) : Prop := ∀ l d p, l ≤ 2 → s.on l d = true → p < 16 → m.word (s.fr l d) (p : Nat) = (s.E (l + 1) (16 * d + p)).word
theorem En.zero_ok : En.zero.ok = true := rfl
theorem En.zero_word : En.zero.word = 0 := rfl
theorem Sp.Ok.frb {s : Sp} {n : Nat} (h : s.Ok n) {l d : Nat} (ho : s.on l d = true) : 0 ≤ s.fr l d ∧ s.fr l d < n := by
  cases l with
  | zero => exact ⟨h.rlo, h.rhi⟩
  | succ l => rw [s.onS] at ho; rw [s.frS]; exact h.f _ _ ho
theorem Sp.Ok.eok {s : Sp} {n : Nat} (h : s.Ok n) (hn : n ≤ 256) (l d : Nat) : (s.E l d).ok = true := by
  cases hv : (s.E l d).v
  · rw [h.none l d hv]; rfl
  · have hf := h.f l d hv
    have hl := h.lv l d hv
    by_cases h3 : l = 3
    · subst h3
      have := h.pg d hv
      unfold En.ok rightB
      rw [hv, this]
      simp; omega
    · have := h.tb l d hv (by omega)
      unfold En.ok rightB
      rw [hv, this.1, this.2]
      simp; omega
theorem Sp.Ok.ond {s : Sp} {n : Nat} (h : s.Ok n) {l d : Nat} (hl : l ≤ 3) (ho : s.on l d = true) : d < 16 ^ l := by
  cases l with
  | zero => have : d = 0 := by simpa [Sp.on] using ho
            subst this; decide
  | succ l => rw [s.onS] at ho; exact (h.lv _ _ ho).2.2.1
theorem Sp.In.get {s : Sp} {m : Mem} (h : s.In m) (hk : s.Ok m.n) (hn : m.n ≤ 256) {l d p : Nat} (hl : l ≤ 2) (ho : s.on l d = true) (hp : p < 16) :
    m.slot (s.fr l d) (p : Nat) = true ∧ m.getX (s.fr l d) (p : Nat) = 0 ∧ m.getE (s.fr l d) (p : Nat) = s.E (l + 1) (16 * d + p) := by
  have hs : m.slot (s.fr l d) (p : Nat) = true := by
    rw [Mem.slot_iff]
    have := hk.frb ho
    omega
  have hw := h l d p hl ho hp
  have := of_word _ (hk.eok hn (l + 1) (16 * d + p))
  refine ⟨hs, ?_, ?_⟩
  · unfold Mem.getX; rw [if_pos hs, hw, this.1]; rfl
  · unfold Mem.getE; rw [if_pos hs, hw, this.2]

/-- how many tables lead towards a page -/
def Sp.dep (s : Sp) (q : Nat) : Nat := if (s.E 1 (nd q 1)).v = false then 1 else if (s.E 2 (nd q 2)).v = false then 2 else 3
theorem Sp.dep_on {s : Sp} {q : Nat} (hq : q < 4096) : ∀ k, k < s.dep q → s.on k (nd q k) = true := by
  intro k hk
  match k with
  | 0 => rw [nd0 hq]; rfl
  | 1 =>
    unfold Sp.dep at hk
    rw [s.onS]
    cases hv : (s.E 1 (nd q 1)).v
    · rw [hv] at hk; simp at hk
    · rfl
  | 2 =>
    unfold Sp.dep at hk
    rw [s.onS]
    cases hv : (s.E 2 (nd q 2)).v
    · rw [hv] at hk; split at hk <;> simp at hk
    · rfl
  | k + 3 => unfold Sp.dep at hk; split at hk; omega; split at hk <;> omega
theorem Sp.dep_bd (s : Sp) (q : Nat) : 1 ≤ s.dep q ∧ s.dep q ≤ 3 := by unfold Sp.dep; split; omega; split <;> omega
theorem Sp.dep_off {s : Sp} {n q : Nat} (hk : s.Ok n) : ∀ k, s.dep q ≤ k → k ≤ 2 → s.on k (nd q k) = false := by
  intro k h1 h2
  have hb := s.dep_bd q
  match k, h2 with
  | 0, _ => omega
  | 1, _ =>
    rw [s.onS]
    cases hv : (s.E 1 (nd q 1)).v
    · rfl
    · unfold Sp.dep at h1; rw [hv] at h1; simp at h1; split at h1 <;> omega
  | 2, _ =>
    rw [s.onS]
    cases hv : (s.E 2 (nd q 2)).v
    · rfl
    · have := (hk.lv _ _ hv).2.2.2
      rw [show nd q 2 / 16 = nd q 1 from nd_up q 1 (by omega)] at this
      rw [show (2 : Nat) - 1 = 0 + 1 from rfl, s.onS] at this
      unfold Sp.dep at h1
      rw [this, hv] at h1
      simp at h1
theorem Sp.page_dep {s : Sp} {n q : Nat} (hk : s.Ok n) (hv : (s.E 3 q).v = true) : s.dep q = 3 ∧ q < 4096 := by
  have h3 := hk.lv _ _ hv
  have h2 : (s.E 2 (nd q 2)).v = true := by
    have := h3.2.2.2
    rw [show (3 : Nat) - 1 = 1 + 1 from rfl, s.onS] at this
    exact this
  have h1 : (s.E 1 (nd q 1)).v = true := by
    have := (hk.lv _ _ h2).2.2.2
    rw [show nd q 2 / 16 = nd q 1 from nd_up q 1 (by omega)] at this
    rw [show (2 : Nat) - 1 = 0 + 1 from rfl, s.onS] at this
    exact this
  refine ⟨?_, by simpa using h3.2.2.1⟩
  unfold Sp.dep
  rw [h1, h2]
  simp
/-- what a walk from the root finds -/
theorem Sp.walk {s : Sp} {m : Mem} (h : s.In m) (hk : s.Ok m.n) (hn : m.n ≤ 256) {q : Nat} (hq : q < 4096) :
    m.wN s.root q = s.dep q ∧ m.wX s.root q = (if (s.E 3 q).v = true then 0 else 10) ∧ m.wE s.root q = s.E 3 q ∧ (∀ k, k < s.dep q → m.wF s.root q k = s.fr k (nd q k)) := by
  have hB : m.wB s.root q = true := by
    unfold Mem.wB
    have h1 : m.ex s.root 1 = true := decide_eq_true (by have := hk.rlo; have := hk.rhi; omega)
    have h2 : pageB q = true := decide_eq_true (by omega)
    rw [h1, h2]; rfl
  have key : ∀ k, k < 3 → m.wF s.root q k = s.fr k (nd q k) → s.on k (nd q k) = true → m.getE (m.wF s.root q k) (idxI q k) = s.E (k + 1) (nd q (k + 1)) ∧ m.getX (m.wF s.root q k) (idxI q k) = 0 := by
    intro k hk3 e ho
    have := h.get hk hn (p := nd q (k + 1) % 16) (by omega) ho (Nat.mod_lt _ (by decide))
    rw [nd_step q k hk3] at this
    rw [e, idx_nat q k hq hk3]
    exact ⟨this.2.2, this.2.1⟩
  have hC : ∀ k, k < 3 → m.wF s.root q k = s.fr k (nd q k) → s.on k (nd q k) = true → m.wC s.root q k = if (s.E (k + 1) (nd q (k + 1))).v = true then 0 else 10 := by
    intro k hk3 e ho
    obtain ⟨k1, k2⟩ := key k hk3 e ho
    unfold Mem.wC
    rw [k1, k2]
    unfold codeI
    cases hv : (s.E (k + 1) (nd q (k + 1))).v
    · simp
    · by_cases h2 : k < 2
      · have := (hk.tb _ _ hv (by omega)).1
        simp [this, h2]
      · obtain rfl : k = 2 := by omega
        have := hk.pg _ hv
        simp [this]
  have f0 : m.wF s.root q 0 = s.fr 0 (nd q 0) := rfl
  have o0 : s.on 0 (nd q 0) = true := by rw [nd0 hq]; rfl
  have c0 := hC 0 (by omega) f0 o0
  cases h1 : (s.E 1 (nd q 1)).v
  · have hd : s.dep q = 1 := by unfold Sp.dep; rw [h1]; rfl
    rw [h1] at c0
    have := m.walk_stop s.root q hB 0 (by omega) (by omega) (by rw [c0]; simp)
    have h3 : (s.E 3 q).v = false := by
      cases hv : (s.E 3 q).v
      · rfl
      · have := (Sp.page_dep hk hv).1; omega
    rw [hd, h3, hk.none _ _ h3]
    refine ⟨this.1, by rw [this.2.1, c0], this.2.2, fun k hk => ?_⟩
    obtain rfl : k = 0 := by omega
    exact f0
  · rw [h1] at c0
    have f1 : m.wF s.root q 1 = s.fr 1 (nd q 1) := by rw [Mem.wF, (key 0 (by omega) f0 o0).1, s.frS]
    have o1 : s.on 1 (nd q 1) = true := by rw [s.onS]; exact h1
    have c1 := hC 1 (by omega) f1 o1
    cases h2 : (s.E 2 (nd q 2)).v
    · have hd : s.dep q = 2 := by unfold Sp.dep; rw [h1, h2]; rfl
      rw [h2] at c1
      have := m.walk_stop s.root q hB 1 (by omega) (fun j hj => by obtain rfl : j = 0 := by omega
                                                                   exact c0) (by rw [c1]; simp)
      have h3 : (s.E 3 q).v = false := by
        cases hv : (s.E 3 q).v
        · rfl
        · have := (Sp.page_dep hk hv).1; omega
      rw [hd, h3, hk.none _ _ h3]
      refine ⟨this.1, by rw [this.2.1, c1], this.2.2, fun k hk => ?_⟩
      match k, hk with
      | 0, _ => exact f0
      | 1, _ => exact f1
    · have hd : s.dep q = 3 := by unfold Sp.dep; rw [h1, h2]; rfl
      rw [h2] at c1
      have f2 : m.wF s.root q 2 = s.fr 2 (nd q 2) := by rw [Mem.wF, (key 1 (by omega) f1 o1).1, s.frS]
      have o2 : s.on 2 (nd q 2) = true := by rw [s.onS]; exact h2
      have c2 := hC 2 (by omega) f2 o2
      rw [show (2 : Nat) + 1 = 3 from rfl, nd3] at c2
      have hF : ∀ k, k < s.dep q → m.wF s.root q k = s.fr k (nd q k) := by
        intro k hk
        rw [hd] at hk
        match k, hk with
        | 0, _ => exact f0
        | 1, _ => exact f1
        | 2, _ => exact f2
      cases h3 : (s.E 3 q).v
      · rw [h3] at c2
        have := m.walk_stop s.root q hB 2 (by omega) (fun j hj => by
          match j, hj with
          | 0, _ => exact c0
          | 1, _ => exact c1) (by rw [c2]; simp)
        rw [hk.none _ _ h3]
        exact ⟨by rw [this.1, hd], by rw [this.2.1, c2], this.2.2, hF⟩
      · rw [h3] at c2
        have := m.walk_end s.root q hB (fun j hj => by
          match j, hj with
          | 0, _ => exact c0
          | 1, _ => exact c1
          | 2, _ => exact c2)
        refine ⟨by rw [this.1, hd], this.2.1, ?_, hF⟩
        have k2 := (key 2 (by omega) f2 o2).1
        rw [nd3] at k2
        rw [this.2.2]
        exact k2

/-! one entry set -/
def Sp.set (s : Sp) (l d : Nat) (e : En) : Sp := { s with E := fun l' d' => if l' = l ∧ d' = d then e else s.E l' d' }
theorem Sp.set_same (s : Sp) (l d : Nat) (e : En) : (s.set l d e).E l d = e := by simp [Sp.set]
theorem Sp.set_ne (s : Sp) {l d l' d' : Nat} (e : En) (h : ¬ (l' = l ∧ d' = d)) : (s.set l d e).E l' d' = s.E l' d' := by simp only [Sp.set]; rw [if_neg h]
theorem Sp.set_root (s : Sp) (l d : Nat) (e : En) : (s.set l d e).root = s.root := rfl
theorem Sp.set_on_same (s : Sp) (l d : Nat) (e : En) : (s.set (l + 1) d e).on (l + 1) d = e.v := by rw [Sp.onS, Sp.set_same]
theorem Sp.set_fr_same (s : Sp) (l d : Nat) (e : En) : (s.set (l + 1) d e).fr (l + 1) d = e.f := by rw [Sp.frS, Sp.set_same]
theorem Sp.set_on (s : Sp) {l d l' d' : Nat} (e : En) (h : ¬ (l' = l + 1 ∧ d' = d)) : (s.set (l + 1) d e).on l' d' = s.on l' d' := by
  cases l' with
  | zero => rfl
  | succ l' => rw [Sp.onS, Sp.onS, s.set_ne e h]
theorem Sp.set_fr (s : Sp) {l d l' d' : Nat} (e : En) (h : ¬ (l' = l + 1 ∧ d' = d)) : (s.set (l + 1) d e).fr l' d' = s.fr l' d' := by
  cases l' with
  | zero => rfl
  | succ l' => rw [Sp.frS, Sp.frS, s.set_ne e h]
theorem Mem.word_put (m : Mem) (hk : m.ok) (f p : Int) (e : En) (g q : Int) (hs : m.slot f p = true) (hq : m.slot g q = true) (he : e.ok = true) : (m.put f p e).word g q = if g = f ∧ q = p then e.word else m.word g q := by
  unfold Mem.put Mem.putB
  rw [hs, he]
  simp only [Bool.and_true, if_true]
  exact m.word_wr hk f p g q _ hs hq
/-- the words behind a Put -/
theorem Sp.In.set {s : Sp} {m : Mem} (h : s.In m) (hk : s.Ok m.n) (hm : m.ok) {l d p : Nat} (hl : l ≤ 2) (ho : s.on l d = true) (hp : p < 16) (e : En) (he : e.ok = true)
    (hnew : l + 1 ≤ 2 → e.v = true → 0 ≤ e.f ∧ e.f < m.n ∧ (∀ p' : Nat, p' < 16 → m.word e.f p' = 0 ∧ (s.E (l + 2) (16 * (16 * d + p) + p')).v = false) ∧ e.f ≠ s.fr l d) :
    (s.set (l + 1) (16 * d + p) e).In (m.put (s.fr l d) (p : Nat) e) := by
  have hs : m.slot (s.fr l d) (p : Nat) = true := by rw [Mem.slot_iff]; have := hk.frb ho; omega
  intro l' d' p' hl' ho' hp'
  by_cases hx : l' = l + 1 ∧ d' = 16 * d + p
  · obtain ⟨rfl, rfl⟩ := hx
    rw [Sp.set_on_same] at ho'
    rw [Sp.set_fr_same]
    obtain ⟨n1, n2, n3, n4⟩ := hnew hl' ho'
    rw [m.word_put hm _ _ _ _ _ hs (by rw [Mem.slot_iff]; omega) he, if_neg (fun x => n4 x.1), (n3 p' hp').1, s.set_ne e (by omega), hk.none _ _ (n3 p' hp').2]
    rfl
  · rw [s.set_on e hx] at ho'
    rw [s.set_fr e hx]
    rw [m.word_put hm _ _ _ _ _ hs (by rw [Mem.slot_iff]; have := hk.frb ho'; omega) he]
    by_cases hy : s.fr l' d' = s.fr l d ∧ (p' : Int) = p
    · obtain ⟨rfl, rfl⟩ := hk.inj _ _ _ _ hl' hl ho' ho hy.1
      obtain rfl : p' = p := by omega
      rw [if_pos hy, s.set_same]
    · rw [if_neg hy, h l' d' p' hl' ho' hp', s.set_ne e]
      rintro ⟨a, b⟩
      obtain rfl : l' = l := by omega
      have : d' = d ∧ p' = p := by omega
      exact hy ⟨by rw [this.1], by rw [this.2]⟩
/-- a table more -/
def tbE (c : Int) : En := ⟨true, false, true, c⟩
theorem Sp.Ok.table {s : Sp} {n : Nat} (hk : s.Ok n) {l d p : Nat} (hl : l ≤ 1) (ho : s.on l d = true) (hp : p < 16) (_hoff : (s.E (l + 1) (16 * d + p)).v = false) {c : Int} (h0 : 0 ≤ c) (h1 : c < n)
    (hfr : ∀ l' d', l' ≤ 2 → s.on l' d' = true → s.fr l' d' ≠ c) : (s.set (l + 1) (16 * d + p) (tbE c)).Ok n := by
  have hd := hk.ond (by omega) ho
  have hon : ∀ l' d', s.on l' d' = true → (s.set (l + 1) (16 * d + p) (tbE c)).on l' d' = true := by
    intro l' d' h
    by_cases hx : l' = l + 1 ∧ d' = 16 * d + p
    · rw [hx.1, hx.2, Sp.set_on_same]; rfl
    · rw [s.set_on _ hx]; exact h
  refine ⟨hk.rlo, hk.rhi, ?_, ?_, ?_, ?_, ?_, ?_⟩
  · intro l' d' hv
    by_cases hx : l' = l + 1 ∧ d' = 16 * d + p
    · rw [hx.1, hx.2, Sp.set_same] at hv; cases hv
    · rw [s.set_ne _ hx] at hv ⊢; exact hk.none _ _ hv
  · intro l' d' hv
    by_cases hx : l' = l + 1 ∧ d' = 16 * d + p
    · obtain ⟨rfl, rfl⟩ := hx
      refine ⟨by omega, by omega, ?_, ?_⟩
      · rw [Nat.pow_succ]; omega
      · rw [show l + 1 - 1 = l from rfl, show (16 * d + p) / 16 = d from by omega]
        exact hon _ _ ho
    · rw [s.set_ne _ hx] at hv
      obtain ⟨a, b, c', e⟩ := hk.lv _ _ hv
      exact ⟨a, b, c', hon _ _ e⟩
  · intro l' d' hv h2
    by_cases hx : l' = l + 1 ∧ d' = 16 * d + p
    · rw [hx.1, hx.2, Sp.set_same]; exact ⟨rfl, rfl⟩
    · rw [s.set_ne _ hx] at hv ⊢; exact hk.tb _ _ hv h2
  · intro d' hv
    rw [s.set_ne _ (by omega)] at hv ⊢
    exact hk.pg _ hv
  · intro l' d' hv
    by_cases hx : l' = l + 1 ∧ d' = 16 * d + p
    · rw [hx.1, hx.2, Sp.set_same]; exact ⟨h0, h1⟩
    · rw [s.set_ne _ hx] at hv ⊢; exact hk.f _ _ hv
  · intro l1 d1 l2 d2 a1 a2 o1 o2 e
    by_cases hx : l1 = l + 1 ∧ d1 = 16 * d + p
    · by_cases hy : l2 = l + 1 ∧ d2 = 16 * d + p
      · exact ⟨hx.1.trans hy.1.symm, hx.2.trans hy.2.symm⟩
      · exfalso
        rw [s.set_on _ hy] at o2
        rw [s.set_fr _ hy, hx.1, hx.2, Sp.set_fr_same] at e
        exact hfr _ _ a2 o2 e.symm
    · by_cases hy : l2 = l + 1 ∧ d2 = 16 * d + p
      · exfalso
        rw [s.set_on _ hx] at o1
        rw [s.set_fr _ hx, hy.1, hy.2, Sp.set_fr_same] at e
        exact hfr _ _ a1 o1 e
      · rw [s.set_on _ hx] at o1
        rw [s.set_on _ hy] at o2
        rw [s.set_fr _ hx, s.set_fr _ hy] at e
        exact hk.inj _ _ _ _ a1 a2 o1 o2 e
/-- a page -/
theorem Sp.Ok.page {s : Sp} {n : Nat} (hk : s.Ok n) {d p : Nat} (ho : s.on 2 d = true) (hp : p < 16) (e : En) (hv : e.v = true) (ht : e.t = false) (h0 : 0 ≤ e.f) (h1 : e.f < n) :
    (s.set 3 (16 * d + p) e).Ok n := by
  have hd := hk.ond (by omega) ho
  have hon : ∀ l' d', l' ≤ 2 → (s.set 3 (16 * d + p) e).on l' d' = s.on l' d' := fun l' d' h => s.set_on e (by omega)
  refine ⟨hk.rlo, hk.rhi, ?_, ?_, ?_, ?_, ?_, ?_⟩
  · intro l' d' hv'
    by_cases hx : l' = 3 ∧ d' = 16 * d + p
    · rw [hx.1, hx.2, Sp.set_same, hv] at hv'; cases hv'
    · rw [s.set_ne _ hx] at hv' ⊢; exact hk.none _ _ hv'
  · intro l' d' hv'
    by_cases hx : l' = 3 ∧ d' = 16 * d + p
    · obtain ⟨rfl, rfl⟩ := hx
      refine ⟨by omega, by omega, ?_, ?_⟩
      · rw [Nat.pow_succ]; omega
      · rw [hon _ _ (by omega), show (16 * d + p) / 16 = d from by omega]
        exact ho
    · rw [s.set_ne _ hx] at hv'
      obtain ⟨a, b, c', e'⟩ := hk.lv _ _ hv'
      exact ⟨a, b, c', by rw [hon _ _ (by omega)]; exact e'⟩
  · intro l' d' hv' h2
    rw [s.set_ne _ (by omega)] at hv' ⊢
    exact hk.tb _ _ hv' h2
  · intro d' hv'
    by_cases hx : 3 = 3 ∧ d' = 16 * d + p
    · rw [hx.2, Sp.set_same]; exact ht
    · rw [s.set_ne _ hx] at hv' ⊢; exact hk.pg _ hv'
  · intro l' d' hv'
    by_cases hx : l' = 3 ∧ d' = 16 * d + p
    · rw [hx.1, hx.2, Sp.set_same]; exact ⟨h0, h1⟩
    · rw [s.set_ne _ hx] at hv' ⊢; exact hk.f _ _ hv'
  · intro l1 d1 l2 d2 a1 a2 o1 o2 e'
    rw [hon _ _ a1] at o1
    rw [hon _ _ a2] at o2
    rw [s.set_fr _ (by omega), s.set_fr _ (by omega)] at e'
    exact hk.inj _ _ _ _ a1 a2 o1 o2 e'
/-- an entry that goes -/
theorem Sp.Ok.drop {s : Sp} {n : Nat} (hk : s.Ok n) {l d : Nat} (hch : l + 1 ≤ 2 → ∀ p, p < 16 → (s.E (l + 2) (16 * d + p)).v = false) : (s.set (l + 1) d En.zero).Ok n := by
  have hv0 : ∀ l' d', ((s.set (l + 1) d En.zero).E l' d').v = true → ¬ (l' = l + 1 ∧ d' = d) ∧ (s.E l' d').v = true := by
    intro l' d' hv
    by_cases hx : l' = l + 1 ∧ d' = d
    · rw [hx.1, hx.2, Sp.set_same] at hv; cases hv
    · rw [s.set_ne _ hx] at hv; exact ⟨hx, hv⟩
  have hon0 : ∀ l' d', (s.set (l + 1) d En.zero).on l' d' = true → ¬ (l' = l + 1 ∧ d' = d) ∧ s.on l' d' = true := by
    intro l' d' hv
    by_cases hx : l' = l + 1 ∧ d' = d
    · rw [hx.1, hx.2, Sp.set_on_same] at hv; cases hv
    · rw [s.set_on _ hx] at hv; exact ⟨hx, hv⟩
  refine ⟨hk.rlo, hk.rhi, ?_, ?_, ?_, ?_, ?_, ?_⟩
  · intro l' d' hv
    by_cases hx : l' = l + 1 ∧ d' = d
    · rw [hx.1, hx.2, Sp.set_same]
    · rw [s.set_ne _ hx] at hv ⊢; exact hk.none _ _ hv
  · intro l' d' hv
    obtain ⟨hx, hv'⟩ := hv0 _ _ hv
    obtain ⟨a, b, c', e'⟩ := hk.lv _ _ hv'
    refine ⟨a, b, c', ?_⟩
    rw [s.set_on _ ?_]
    · exact e'
    · rintro ⟨h1, h2⟩
      obtain rfl : l' = l + 2 := by omega
      have := hch (by omega) (d' % 16) (Nat.mod_lt _ (by decide))
      rw [show 16 * d + d' % 16 = d' from by omega, hv'] at this
      cases this
  · intro l' d' hv h2
    obtain ⟨hx, hv'⟩ := hv0 _ _ hv
    rw [s.set_ne _ hx]; exact hk.tb _ _ hv' h2
  · intro d' hv
    obtain ⟨hx, hv'⟩ := hv0 _ _ hv
    rw [s.set_ne _ hx]; exact hk.pg _ hv'
  · intro l' d' hv
    obtain ⟨hx, hv'⟩ := hv0 _ _ hv
    rw [s.set_ne _ hx]; exact hk.f _ _ hv'
  · intro l1 d1 l2 d2 a1 a2 o1 o2 e
    obtain ⟨x1, o1'⟩ := hon0 _ _ o1
    obtain ⟨x2, o2'⟩ := hon0 _ _ o2
    rw [s.set_fr _ x1, s.set_fr _ x2] at e
    exact hk.inj _ _ _ _ a1 a2 o1' o2' e
end Go.Proofs.YtfdnfllefednjaaDoor

/-
  Package tables: where a space lies; contracts of its small functions, of each, and of the library's search.
-/
namespace Go.Proofs.YtfdnfllefednjaaDoor
open Go.ChangeShapes Go.WideShapes Go.ChangeAt Go.RowKit Go.Shelf

/-- a space in memory: its memory, its allocator, its root -/
def SpAt (w : World) (S MA A : Nat) (root : Int) : Prop := w.heap[S]? = some (.cells #[.pointer (some ⟨MA, 0, none⟩), .pointer (some ⟨A, 0, none⟩), .int .i64 root] 123 (0, 0))
theorem SpAt.c0 {w : World} {S MA A : Nat} {root : Int} (h : SpAt w S MA A root) : w.cell? ⟨S, 0, none⟩ = some (.pointer (some ⟨MA, 0, none⟩)) := by rw [cell_of_row w S 0 _ _ _ h]; rfl
theorem SpAt.c1 {w : World} {S MA A : Nat} {root : Int} (h : SpAt w S MA A root) : w.cell? ⟨S, 1, none⟩ = some (.pointer (some ⟨A, 0, none⟩)) := by rw [cell_of_row w S 1 _ _ _ h]; rfl
theorem SpAt.c2 {w : World} {S MA A : Nat} {root : Int} (h : SpAt w S MA A root) : w.cell? ⟨S, 2, none⟩ = some (.int .i64 root) := by rw [cell_of_row w S 2 _ _ _ h]; rfl
theorem SpAt.kept {T : Nat → Prop} {w w' : World} {S MA A : Nat} {root : Int} (h : SpAt w S MA A root) (u : Upd T w w') (hs : ¬ T S) : SpAt w' S MA A root := u.at h hs

set_option maxHeartbeats 400000 in
theorem lacks_any (S MA A : Nat) (root : Int) (m : Mem) (f : Int) (w : World) (h : SpAt w S MA A root) (hm : MemAt w MA m) :
    Calls Tryd.prog 66 #[.pointer (some ⟨S, 0, none⟩), .int .i64 f] w fun e w' => e = .returned (.bool (!m.ex f 1)) ∧ w = w' := by
  have hc := h.c0
  have hn := hm.hi
  by_cases h0 : f < 0
  · have hv := Lib.hid (show (!m.ex f 1) = true from by unfold Mem.ex; simp; omega)
    go_enter Tryd.func66, Tryd.ntmps66
    go_wp2_with (go_at_call 74; refine (frames_any MA m _ hm).mono ?_; rintro e w' ⟨rfl, rfl⟩)
    go_ret
    exact ⟨by rw [hv.out]; rfl, rfl⟩
  · have hv := Lib.hid (show (!m.ex f 1) = decide ((m.n : Int) ≤ f) from by unfold Mem.ex; rw [Bool.eq_iff_iff]; simp; omega)
    go_enter Tryd.func66, Tryd.ntmps66
    go_wp2_with (go_at_call 74; refine (frames_any MA m _ hm).mono ?_; rintro e w' ⟨rfl, rfl⟩)
    go_ret
    exact ⟨by rw [hv.out]; rfl, rfl⟩

set_option maxHeartbeats 400000 in
theorem sroot_any (S MA A : Nat) (root : Int) (w : World) (h : SpAt w S MA A root) :
    Calls Tryd.prog 41 #[.pointer (some ⟨S, 0, none⟩)] w fun e w' => e = .returned (.int .i64 root) ∧ w = w' := by
  have hc := h.c2
  go_enter Tryd.func41, Tryd.ntmps41
  go_wp2
  go_ret
  exact ⟨rfl, rfl⟩

set_option maxHeartbeats 400000 in
theorem sclear_any (S MA A : Nat) (root : Int) (m : Mem) (f : Int) (w : World) (h : SpAt w S MA A root) (hm : MemAt w MA m) :
    Calls Tryd.prog 89 #[.pointer (some ⟨S, 0, none⟩), .int .i64 f] w fun e w' => e = .returned (.tuple #[]) ∧ MemAt w' MA (m.scrub f 1) ∧ Upd (· = m.B) w w' := by
  have hc := h.c0
  go_enter Tryd.func89, Tryd.ntmps89
  go_wp2_with (go_at_call 99; refine (scrub_any MA m f 1 _ hm (by omega)).mono ?_; rintro e w' ⟨rfl, hm', u⟩)
  go_end0
  exact ⟨rfl, hm', u⟩

set_option maxHeartbeats 400000 in
theorem sfree_any (S MA A GB : Nat) (root : Int) (m : Mem) (b : Bud) (f : Int) (w : World) (h : SpAt w S MA A root) (hd : Duo w A MA GB m b) (h0 : 0 ≤ f) (hf : ((f.toNat, 0) : Nat × Nat) ∈ b.gave) :
    Calls Tryd.prog 71 #[.pointer (some ⟨S, 0, none⟩), .int .i64 f] w fun e w' => e = .returned (.tuple #[]) ∧ Duo w' A MA GB (m.scrub f 1) (b.take (f.toNat, 0)) ∧ Upd (fun k => k = GB ∨ k = m.B) w w' := by
  have hc := h.c1
  obtain ⟨j, rfl⟩ := Int.eq_ofNat_of_zero_le h0
  have hb := bfree_yes A MA GB m b (j, 0) w hd hf
  go_enter Tryd.func71, Tryd.ntmps71
  go_wp2_with (go_at_call 92; refine hb.mono ?_; rintro e w' ⟨rfl, hd', u⟩)
  go_end0
  exact ⟨rfl, hd', u⟩

set_option maxHeartbeats 400000 in
/-- each does the same to all of the frames -/
theorem each_any (g : Nat) (eg : Enters Tryd.prog g) (S : Nat) (o : Option Addr) (L cap : Nat) (c : Nat → Int) (J : Nat → World → Prop) (w : World) (hL : L ≤ 1000) (h0 : J 0 w)
    (hcell : ∀ k W, J k W → k < L → ∃ b, o = some ⟨b, 0, none⟩ ∧ W.cell? ⟨b, k, none⟩ = some (.int .i64 (c k)))
    (hstep : ∀ k W, J k W → k < L → Calls Tryd.prog g #[.pointer (some ⟨S, 0, none⟩), .int .i64 (c k)] W fun e W' => e = .returned (.tuple #[]) ∧ J (k + 1) W') :
    Calls Tryd.prog 88 #[.slice o L cap, .func (.func g) #[.pointer (some ⟨S, 0, none⟩)] #[]] w fun e W' => e = .returned (.tuple #[]) ∧ J L W' := by
  have eg2 : ∀ args w, Sem.run Tryd.prog (callFunc g args) w = .ok (.enter g args) w := eg
  go_enter Tryd.func88, Tryd.ntmps88
  go_wp2_with fail
  go_loopw [8] (fun t wr => ∃ k : Nat, k ≤ L ∧ t = .int .i64 k ∧ J k wr) (fun t _ => L - (intOf t).toNat)
  case atStart => exact ⟨0, by omega, rfl, h0⟩
  case round =>
    obtain ⟨k, hk, rfl, hJ⟩ := hrel
    by_cases hlt : k < L
    · obtain ⟨b, rfl, hc⟩ := hcell k wr hJ hlt
      have hs := hstep k wr hJ hlt
      go_wp2_with (go_at_fn g; refine hs.mono ?_; rintro e W' ⟨rfl, hJ'⟩)
      go_roundw
      case rel => exact ⟨k + 1, by omega, by go_num, hJ'⟩
      case measure => simp [intOf]; omega
    · obtain rfl : k = L := by omega
      go_wp2
      go_end0
      exact ⟨rfl, hJ⟩

set_option maxHeartbeats 400000 in
/-- a search that finds none -/
theorem idxf_any (g : Nat) (eg : Enters Tryd.prog g) (S : Nat) (o : Option Addr) (L cap : Nat) (c : Nat → Int) (w : World) (hL : L ≤ 1000)
    (hcell : ∀ k, k < L → ∃ b, o = some ⟨b, 0, none⟩ ∧ w.cell? ⟨b, k, none⟩ = some (.int .i64 (c k)))
    (hstep : ∀ k, k < L → Calls Tryd.prog g #[.pointer (some ⟨S, 0, none⟩), .int .i64 (c k)] w fun e W' => e = .returned (.bool false) ∧ w = W') :
    Calls Tryd.prog 98 #[.slice o L cap, .func (.func g) #[.pointer (some ⟨S, 0, none⟩)] #[]] w fun e W' => e = .returned (.int .i64 (-1)) ∧ w = W' := by
  have eg2 : ∀ args w, Sem.run Tryd.prog (callFunc g args) w = .ok (.enter g args) w := eg
  go_enter Tryd.func98, Tryd.ntmps98
  go_wp2_with fail
  go_loopw [8] (fun t wr => ∃ k : Nat, k ≤ L ∧ t = .int .i64 k ∧ w = wr) (fun t _ => L - (intOf t).toNat)
  case atStart => exact ⟨0, by omega, rfl, rfl⟩
  case round =>
    obtain ⟨k, hk, rfl, rfl⟩ := hrel
    by_cases hlt : k < L
    · obtain ⟨b, rfl, hc⟩ := hcell k hlt
      have hs := hstep k hlt
      go_wp2_with (go_at_fn g; refine hs.mono ?_; rintro e W' ⟨rfl, rfl⟩)
      go_roundw
      case rel => exact ⟨k + 1, by omega, by go_num, trivial⟩
      case measure => simp [intOf]; omega
    · obtain rfl : k = L := by omega
      go_wp2
      go_ret
      exact ⟨rfl, rfl⟩
set_option maxHeartbeats 400000 in
theorem contf_any (g : Nat) (eg : Enters Tryd.prog g) (S : Nat) (o : Option Addr) (L cap : Nat) (c : Nat → Int) (w : World) (hL : L ≤ 1000)
    (hcell : ∀ k, k < L → ∃ b, o = some ⟨b, 0, none⟩ ∧ w.cell? ⟨b, k, none⟩ = some (.int .i64 (c k)))
    (hstep : ∀ k, k < L → Calls Tryd.prog g #[.pointer (some ⟨S, 0, none⟩), .int .i64 (c k)] w fun e W' => e = .returned (.bool false) ∧ w = W') :
    Calls Tryd.prog 87 #[.slice o L cap, .func (.func g) #[.pointer (some ⟨S, 0, none⟩)] #[]] w fun e W' => e = .returned (.bool false) ∧ w = W' := by
  have hi := idxf_any g eg S o L cap c w hL hcell hstep
  clear hcell hstep
  go_enter Tryd.func87, Tryd.ntmps87
  go_wp2_with (go_at_call 98; refine hi.mono ?_; rintro e W' ⟨rfl, rfl⟩)
  go_ret
  exact ⟨rfl, rfl⟩
end Go.Proofs.YtfdnfllefednjaaDoor

/-
  Package tables: Find and Protect, over the words of the memory.
-/
namespace Go.Proofs.YtfdnfllefednjaaDoor
open Go.ChangeShapes Go.WideShapes Go.ChangeAt Go.RowKit Go.Shelf

theorem Mem.wX_three (m : Mem) (root q : Int) (h : m.wX root q = 0) : m.wN root q = 3 := by
  unfold Mem.wX at h
  unfold Mem.wN
  cases hb : m.wB root q
  · rw [hb] at h; simp at h
  · rw [hb] at h
    simp only [if_true] at h ⊢
    split at h
    · rename_i h0; exact absurd h h0
    · rename_i h0
      split at h
      · rename_i h1; exact absurd h h1
      · rename_i h1; rw [if_neg h0, if_neg h1]
theorem row_mono {w : World} {base b' sz k : Nat} {e : TypeId} {v : Value} {xs : List Value} (h : w.ownsRow base e sz v k xs) (hb : b' ≤ base) : w.ownsRow b' e sz v k xs := by
  refine ⟨h.1, ?_⟩
  rcases h.2 with hn | ⟨g, cap, cur, rfl, hbg, rest⟩
  · exact .inl hn
  · exact .inr ⟨g, cap, cur, rfl, Nat.le_trans hb hbg, rest⟩
/-- what a walk hands on, wherever its row of steps lies -/
theorem walk_row {A : Nat} {m : Mem} {root q : Int} {w : World} (N : Nat) (hN : N ≤ w.heap.size) (h : MemAt w A m) (T : Tab w) (hg : m.good) :
    Calls Tryd.prog 65 #[.pointer (some ⟨A, 0, none⟩), .int .i64 root, .int .i64 q] w fun e w' => ∃ o cap, e = .returned (.tuple #[(m.wE root q).val, .slice o (m.wN root q) cap, .int .i64 (m.wX root q)]) ∧
      Hid (w'.ownsRow N 128 2 (.slice o (m.wN root q) cap) (m.wN root q) (m.wS root q (m.wN root q))) ∧ Upd (fun _ => False) w w' := by
  refine (wwalk_any A m root q w h T hg).mono ?_
  rintro e w' ⟨v, rfl, hr, u⟩
  obtain ⟨o, cap, rfl⟩ := wk_slice hr
  exact ⟨o, cap, rfl, Lib.hid (row_mono hr hN), u⟩

set_option maxRecDepth 100000 in
set_option maxHeartbeats 2000000 in
theorem sfind_any (S MA A : Nat) (root : Int) (m : Mem) (q : Int) (w : World) (h : SpAt w S MA A root) (hm : MemAt w MA m) (T : Tab w) (hg : m.good) :
    Calls Tryd.prog 34 #[.pointer (some ⟨S, 0, none⟩), .int .i64 q] w fun e w' => e = .returned (.tuple #[(m.wE root q).val, .int .i64 (m.wX root q)]) ∧ Upd (fun _ => False) w w' := by
  have cW := Lib.hid (fun (W : World) (hW : w.heap.size ≤ W.heap.size) (h : MemAt W MA m) (T : Tab W) => walk_row (root := root) (q := q) w.heap.size hW h T hg)
  clear hg
  generalize m.wN root q = n at cW
  generalize m.wX root q = X at cW ⊢
  generalize m.wE root q = E at cW ⊢
  generalize m.wS root q n = xs at cW
  obtain ⟨ev, er, et, ef⟩ := E
  have k0 : Hid (EntAt (w.alloc (.cells #[.bool false, .bool false, .bool false, .int .i64 0] 34)) w.heap.size false false false 0) := Lib.hid (heap_alloc_last w _)
  have U0 := (Upd.refl (fun _ => False) w).alloc (.cells #[.bool false, .bool false, .bool false, .int .i64 0] 34)
  have h1 := h.kept U0 id
  have M1 := hm.kept U0 id id
  have T1 := T.kept U0
  go_enter Tryd.func34, Tryd.ntmps34
  go_upto_region 1 with fail
  generalize w.alloc (.cells #[.bool false, .bool false, .bool false, .int .i64 0] 34) = wr at k0 U0 h1 M1 T1 ⊢
  have hsz := Lib.hid U0.size
  generalize eN : w.heap.size = N at k0 cW hsz ⊢
  have hR := Lib.hid (Nat.le_of_eq eN)
  clear eN
  have c0 := h1.c0
  have c2 := h1.c2
  have hS := Lib.hid (show ∀ (W' : World), Upd (fun _ => False) wr W' → W'.cell? ⟨S, 0, none⟩ = some (.pointer (some ⟨MA, 0, none⟩)) ∧ W'.cell? ⟨S, 2, none⟩ = some (.int .i64 root) ∧ Upd (fun _ => False) wr W' from fun W' u => ⟨u.cell c0 id, u.cell c2 id, u⟩)
  go_cut [6, 7, 8] (fun s6 s7 s8 wx => ∃ (D : Nat) (o : Option Addr) (cap : Nat), s6 = .pointer (some ⟨D, 0, none⟩) ∧ s7 = .slice o n cap ∧ s8 = .int .i64 X ∧ Hid (EntAt wx D ev er et ef) ∧ Upd (fun _ => False) wr wx)
  case first =>
    go_region_held3 (fun w' => w'.cell? ⟨S, 0, none⟩ = some (.pointer (some ⟨MA, 0, none⟩)) ∧ w'.cell? ⟨S, 2, none⟩ = some (.int .i64 root) ∧ Upd (fun _ => False) wr w')
      (first
        | assumption
        | exact hS.out _ (Upd.refl _ _).drew
        | exact hS.out _ ((Upd.refl _ _).drew.alloc _)
        | exact hS.out _ u7
        | exact hS.out _ (u7.alloc _)
        | exact hS.out _ ((((u7.setCell (.inr (Nat.le_refl _)) _).setCell (.inr (Nat.le_refl _)) _).setCell (.inr (Nat.le_refl _)) _).setCell (.inr (Nat.le_refl _)) _)
        | exact hS.out _ (((((u7.alloc _).setCell (.inr u7.size) _).setCell (.inr u7.size) _).setCell (.inr u7.size) _).setCell (.inr u7.size) _))
      (first
        | (go_at_call 65; go_split_ands; rename_i s1 s2 s3; refine (cW.out (wr.alloc (.cells #[.bool false, .bool false, .bool false, .int .i64 0] 34)).drew (Nat.le_trans hsz.out s3.size) (M1.kept s3 id id) (T1.kept s3)).mono ?_; rintro e w6 ⟨o, cap, rfl, -, u6⟩; have u7 := s3.trans u6; have e7 : Hid (EntAt w6 wr.heap.size false false false 0) := Lib.hid (u6.at (heap_alloc_last wr _) id); obtain ⟨e0, e1, e2, e3, z0, z1, z2, z3⟩ := e7.out.eight)
        | (go_at_call 65; go_split_ands; rename_i s1 s2 s3; refine (cW.out _ (Nat.le_trans hsz.out s3.size) (M1.kept s3 id id) (T1.kept s3)).mono ?_; rintro e w6 ⟨o, cap, rfl, -, u6⟩; have u7 := s3.trans u6))
    all_goals (go_wp2_with fail)
    all_goals go_meet
    all_goals
      first
        | exact ⟨wr.heap.size, o, cap, rfl, rfl, rfl, Lib.hid (e7.out.set ev er et ef), (((u7.setCell (.inr (Nat.le_refl _)) _).setCell (.inr (Nat.le_refl _)) _).setCell (.inr (Nat.le_refl _)) _).setCell (.inr (Nat.le_refl _)) _⟩
        | exact ⟨w6.heap.size, o, cap, rfl, rfl, rfl, Lib.hid (heap_alloc_last w6 _), u7.alloc _⟩
  case rest =>
    obtain ⟨D, o, cap, rfl, rfl, rfl, hD, u8⟩ := hcut
    have k1 := Lib.hid (k0.out.kept u8 id)
    have U := Lib.hid (U0.trans u8)
    clear hS c0 c2 h1 M1 T1 cW k0 u8 U0
    go_wp2_with first
      | (with_reducible refine wpList_load_sz rfl 34 (.tmp 6) rfl D 0 rfl [.bool ev, .bool er, .bool et, .int .i64 ef] _ hD.out.range Tryd.underlying34 rfl 4 (ent_len _ _ _ _) size_ent ?_)
      | (with_reducible refine wpList_store_sz rfl 34 (.tmp 4) (.tmp 23) rfl N 0 #[.bool ev, .bool er, .bool et, .int .i64 ef] rfl rfl 4 (ent_sz _ _ _ _) k1.out.there size_ent (ent_one _ _ _ _) [.bool ev, .bool er, .bool et, .int .i64 ef] (ent_ls _ _ _ _) ?_)
    (try simp only [Exit.inBlock, Exit.then])
    refine bodyPost_ret (ret_ent rfl _ _ N ev er et ef rfl (k1.out.set ev er et ef)) rfl ⟨rfl, ?_⟩
    exact Upd.setCells (.inr hR.out) _ _ U.out

theorem size_step : (Tryd.prog.info? 128).map (·.size) = some 2 := by kernel_rfl
end Go.Proofs.YtfdnfllefednjaaDoor

/-
  Package tables: a visit of all valid entries, for whatever function it calls.
-/
namespace Go.Proofs.YtfdnfllefednjaaDoor
open Go.ChangeShapes Go.WideShapes Go.ChangeAt Go.RowKit Go.Shelf

/-- what a visit of k levels from the table d of level l on tells -/
def Sp.vis (s : Sp) : Nat → Nat → Nat → List (Nat × En)
  | 0, _, _ => []
  | k + 1, l, d => (List.range 16).flatMap fun p => if (s.E (l + 1) (16 * d + p)).v = true then (16 * d + p, s.E (l + 1) (16 * d + p)) :: s.vis k (l + 1) (16 * d + p) else []
/-- .. of the first places -/
def Sp.visTo (s : Sp) (k l d P : Nat) : List (Nat × En) := (List.range P).flatMap fun p => if (s.E (l + 1) (16 * d + p)).v = true then (16 * d + p, s.E (l + 1) (16 * d + p)) :: s.vis k (l + 1) (16 * d + p) else []
theorem Sp.visTo_all (s : Sp) (k l d : Nat) : s.visTo k l d 16 = s.vis (k + 1) l d := rfl
theorem Sp.visTo_no (s : Sp) (k l d P : Nat) (h : (s.E (l + 1) (16 * d + P)).v = false) : s.visTo k l d (P + 1) = s.visTo k l d P := by
  unfold Sp.visTo
  rw [List.range_succ, List.flatMap_append]
  simp [h]
theorem Sp.visTo_yes (s : Sp) (k l d P : Nat) (h : (s.E (l + 1) (16 * d + P)).v = true) : s.visTo k l d (P + 1) = s.visTo k l d P ++ [(16 * d + P, s.E (l + 1) (16 * d + P))] ++ s.vis k (l + 1) (16 * d + P) := by
  unfold Sp.visTo
  rw [List.range_succ, List.flatMap_append]
  simp [h]

theorem Sp.visTo_mono (s : Sp) (k l d P : Nat) : (s.visTo k l d P).length ≤ (s.visTo k l d (P + 1)).length := by
  cases h : (s.E (l + 1) (16 * d + P)).v
  · rw [s.visTo_no k l d P h]; exact Nat.le_refl _
  · rw [s.visTo_yes k l d P h]; simp
theorem Sp.visTo_le (s : Sp) (k l d : Nat) : ∀ j P, P + j = 16 → (s.visTo k l d P).length ≤ (s.vis (k + 1) l d).length
  | 0, P, h => by rw [show P = 16 from by omega, s.visTo_all]; exact Nat.le_refl _
  | j + 1, P, h => Nat.le_trans (s.visTo_mono k l d P) (s.visTo_le k l d j (P + 1) (by omega))
theorem Sp.visTo_bd (s : Sp) (k l d c : Nat) (hc : ∀ d', (s.vis k (l + 1) d').length ≤ c) : ∀ P, (s.visTo k l d P).length ≤ P * (c + 1)
  | 0 => by simp [Sp.visTo]
  | P + 1 => by
    have ih := s.visTo_bd k l d c hc P
    have h1 := hc (16 * d + P)
    rw [Nat.add_mul]
    cases h : (s.E (l + 1) (16 * d + P)).v
    · rw [s.visTo_no k l d P h]; omega
    · rw [s.visTo_yes k l d P h]; simp; omega
theorem Sp.vis_bd (s : Sp) : (s.vis 3 0 0).length ≤ 4368 := by
  have h1 : ∀ d, (s.vis 1 2 d).length ≤ 16 := fun d => by have := s.visTo_bd 0 2 d 0 (fun _ => by simp [Sp.vis]) 16; rwa [s.visTo_all] at this
  have h2 : ∀ d, (s.vis 2 1 d).length ≤ 272 := fun d => by have := s.visTo_bd 1 1 d 16 h1 16; rwa [s.visTo_all] at this
  have := s.visTo_bd 2 0 0 272 h2 16
  rwa [s.visTo_all] at this

/-- what is asked of the function that is called with each entry -/
structure Sees (g B MA A S : Nat) (root : Int) (m : Mem) (J : List (Nat × En) → World → Prop) : Prop where
  has : ∀ pre W, J pre W → MemAt W MA m ∧ Tab W ∧ SpAt W S MA A root
  keep : ∀ pre W W', J pre W → Upd (fun _ => False) W W' → J pre W'
  see : ∀ pre (x : Nat × En) W, pre.length < 5000 → J pre W → Calls Tryd.prog g #[.int .i64 (x.1 : Nat), x.2.val, .pointer (some ⟨B, 0, none⟩)] W fun e W' => e = .returned (.tuple #[]) ∧ J (pre ++ [x]) W' ∧ ∀ D v r t f, EntAt W D v r t f → EntAt W' D v r t f

end Go.Proofs.YtfdnfllefednjaaDoor

/-
  Package tables: tables created: the frames that are allocated, one by one, and cleared.
-/
namespace Go.Proofs.YtfdnfllefednjaaDoor
open Go.ChangeShapes Go.WideShapes Go.ChangeAt Go.RowKit Go.Shelf

/-- so many frames allocated one by one -/
def Bud.al (b : Bud) : Nat → List Nat × Bud
  | 0 => ([], b)
  | k + 1 => match (b.al k).2.sel 0 with
    | some x => ((b.al k).1 ++ [x.1], (b.al k).2.give (x.1, 0))
    | none => b.al k
theorem sel0_some {b : Bud} (h : 1 ≤ b.left) : ∃ x, b.sel 0 = some x := by
  unfold Bud.left cnt at h
  obtain ⟨j, hj⟩ := List.exists_mem_of_length_pos (l := (List.range b.n).filter b.F) (by omega)
  rw [List.mem_filter, List.mem_range] at hj
  obtain ⟨k, hk⟩ := exists_mx hj.2 hj.1
  have hm : (st j k, k) ∈ blocks b.F b.n := mem_blocks.2 hk
  cases hs : b.sel 0 with
  | some x => exact ⟨x, rfl⟩
  | none => have := pick_none hs _ hm; simp at this
structure AlOk (b : Bud) (k : Nat) (c : List Nat) (b' : Bud) : Prop where
  len : c.length = k
  ok : b'.Ok
  n : b'.n = b.n
  res : b'.res = b.res
  left : b'.left + k = b.left
  gave : b'.gave = b.gave ++ c.map fun f => (f, 0)
  fr : ∀ f, f ∈ c → f < b.n ∧ b.F f = true
  nd : c.Nodup
  F : ∀ j, b'.F j = true ↔ b.F j = true ∧ j ∉ c
theorem al_ok {b : Bud} (h : b.Ok) : ∀ k, k ≤ b.left → AlOk b k (b.al k).1 (b.al k).2
  | 0, _ => ⟨rfl, h, rfl, rfl, rfl, by simp [Bud.al], by simp [Bud.al], by simp [Bud.al], by simp [Bud.al]⟩
  | k + 1, hk => by
    have ih := al_ok h k (by omega)
    obtain ⟨x, hx⟩ := sel0_some (b := (b.al k).2) (by have := ih.left; omega)
    have e : b.al (k + 1) = ((b.al k).1 ++ [x.1], (b.al k).2.give (x.1, 0)) := by rw [Bud.al, hx]
    rw [e]
    obtain ⟨g1, g2⟩ := sel_give ih.ok (by omega) hx
    have hF : (b.al k).2.F x.1 = true := g2.fr x.1 (Nat.le_refl _) (by simp)
    have hF' := (ih.F x.1).1 hF
    have hle := g2.le
    have hl := left_give g2
    have := ih.left
    have := ih.n
    simp at hle hl
    refine ⟨by simp [ih.len], g1, ih.n, ih.res, by simp; omega, ?_, ?_, ?_, ?_⟩
    · show (b.al k).2.gave ++ [(x.1, 0)] = _
      rw [ih.gave]; simp
    · intro f hf
      rcases List.mem_append.1 hf with hf | hf
      · exact ih.fr f hf
      · simp at hf; subst hf; exact ⟨by omega, hF'.1⟩
    · rw [List.nodup_append]
      refine ⟨ih.nd, by simp, fun a ha y hy => ?_⟩
      simp at hy; subst hy
      rintro rfl
      exact hF'.2 ha
    · intro j
      show (cutF (b.al k).2.F (x.1, 0)) j = true ↔ _
      unfold cutF
      rw [Bool.and_eq_true, ih.F j]
      have : (!inBlk (x.1, 0) j) = true ↔ j ≠ x.1 := by
        rw [Bool.not_eq_true', inBlk_no]; simp; omega
      rw [this]
      simp [and_assoc]
/-- frames cleared one by one -/
def Mem.clears (m : Mem) (c : List Nat) : Mem := c.foldl (fun (m : Mem) (f : Nat) => m.scrub (f : Int) 1) m
theorem Mem.clears_snoc (m : Mem) (c : List Nat) (f : Nat) : m.clears (c ++ [f]) = (m.clears c).scrub (f : Int) 1 := by simp [Mem.clears]
theorem Mem.clears_n (m : Mem) (c : List Nat) : (m.clears c).n = m.n := by
  induction c using snoc_induction with
  | h0 => rfl
  | h1 l x ih => rw [m.clears_snoc, Mem.scrub_n, ih]
theorem Mem.clears_B (m : Mem) (c : List Nat) : (m.clears c).B = m.B := by
  induction c using snoc_induction with
  | h0 => rfl
  | h1 l x ih => rw [m.clears_snoc, Mem.scrub_B, ih]
theorem Mem.clears_ok (m : Mem) (h : m.ok) (c : List Nat) : (m.clears c).ok := by
  induction c using snoc_induction with
  | h0 => exact h
  | h1 l x ih => rw [m.clears_snoc]; exact Mem.ok_scrub _ ih _ _
theorem Mem.word_scrub (m : Mem) (h : m.ok) (f g p : Int) (hf : m.ex f 1 = true) (hs : m.slot g p = true) : (m.scrub f 1).word g p = if g = f then 0 else m.word g p := by
  have hs' : (m.scrub f 1).slot g p = true := by unfold Mem.slot; rw [Mem.scrub_ex]; exact hs
  rw [← Mem.slot_rd _ _ _ hs', ← Mem.slot_rd _ _ _ hs, m.scrub_rd h f 1 _ hf (m.slot_has _ _ hs)]
  rw [Mem.slot_iff] at hs
  by_cases e : g = f
  · rw [if_pos (by omega), if_pos e]
  · rw [if_neg (by omega), if_neg e]
theorem Mem.scrub_good (m : Mem) (h : m.ok) (hg : m.good) (f : Int) : (m.scrub f 1).good := by
  intro i
  cases hf : m.ex f 1
  · unfold Mem.scrub; rw [hf]; exact hg i
  · by_cases hi : i < 16 * m.n
    · have hh : m.has (i : Int) = true := decide_eq_true (by omega)
      have hh' : (m.scrub f 1).has (i : Int) = true := by rw [Mem.scrub_has]; exact hh
      have e1 : (m.scrub f 1).rd (i : Int) = (m.scrub f 1).at i := by unfold Mem.rd; rw [if_pos hh']; rfl
      have e2 : m.rd (i : Int) = m.at i := by unfold Mem.rd; rw [if_pos hh]; rfl
      rw [← e1, m.scrub_rd h f 1 _ hf hh, e2]
      split
      · omega
      · exact hg i
    · have : (m.scrub f 1).at i = 0 := by
        have := Mem.ok_scrub m h f 1
        unfold Mem.ok at this
        rw [Mem.scrub_n] at this
        unfold Mem.at
        rw [List.getD_eq_getElem?_getD, List.getElem?_eq_none (by omega)]; rfl
      rw [this]; omega
theorem Mem.clears_good (m : Mem) (h : m.ok) (hg : m.good) (c : List Nat) : (m.clears c).good := by
  induction c using snoc_induction with
  | h0 => exact hg
  | h1 l x ih => rw [m.clears_snoc]; exact Mem.scrub_good _ (m.clears_ok h l) ih _
theorem Mem.slot_of_n {m m' : Mem} (h : m'.n = m.n) (f p : Int) : m'.slot f p = m.slot f p := by unfold Mem.slot Mem.ex; rw [h]
theorem Mem.clears_word (m : Mem) (h : m.ok) (c : List Nat) (hc : ∀ f, f ∈ c → f < m.n) (g p : Nat) (hg : g < m.n) (hp : p < 16) : (m.clears c).word (g : Nat) (p : Nat) = if g ∈ c then 0 else m.word (g : Nat) (p : Nat) := by
  induction c using snoc_induction with
  | h0 => simp [Mem.clears]
  | h1 l x ih =>
    have hs : (m.clears l).slot g p = true := by rw [Mem.slot_iff, m.clears_n]; omega
    have hx := hc x (by simp)
    rw [m.clears_snoc, Mem.word_scrub _ (m.clears_ok h l) _ _ _ (decide_eq_true (by rw [m.clears_n]; omega)) hs, ih fun f hf => hc f (by simp [hf])]
    by_cases e : g = x
    · subst e; simp
    · rw [if_neg (by omega)]
      simp [e]

theorem SpAt.apart {w : World} {S MA A GB : Nat} {root : Int} {m : Mem} {b : Bud} (h : SpAt w S MA A root) (hd : Duo w A MA GB m b) : ¬ (S = GB ∨ S = m.B) := by
  rintro (rfl | rfl)
  · obtain ⟨D, ⟨es, clock, hb, _⟩, _⟩ := hd.B.mp
    have h' : w.heap[S]? = _ := h
    rw [h'] at hb
    cases hb
  · have h' : w.heap[m.B]? = _ := h
    rw [hd.M.body] at h'
    simp at h'
def nat1 (c : List Nat) : List Value := c.map fun f => .int .i64 (f : Nat)
theorem nat1_at (c : List Nat) (k : Nat) (h : k < c.length) : (nat1 c)[k]? = some (.int .i64 (c.getD k 0 : Nat)) := by
  simp [nat1, List.getD_eq_getElem?_getD, List.getElem?_eq_getElem h]
theorem info_int8 : (Tryd.prog.info? 3).map (fun i => (i.zero, i.size, i.bytes)) = some (some (.int .i64 0), 1, 8) := by kernel_rfl
theorem take_snocN (l : List Nat) (k : Nat) (h : k < l.length) : l.take (k + 1) = l.take k ++ [l.getD k 0] := by
  rw [List.take_add_one, List.getElem?_eq_getElem h]
  simp [List.getD_eq_getElem?_getD, List.getElem?_eq_getElem h]
theorem Duo.cleared {w w' : World} {A MA GB : Nat} {m m' : Mem} {b : Bud} (h : Duo w A MA GB m b) (hm : MemAt w' MA m') (u : Upd (· = m.B) w w') (hn : m'.n = m.n) : Duo w' A MA GB m' b := by
  have := h.ne
  exact ⟨h.B.kept u (by omega) (by omega), hm, by rw [hn]; exact h.n⟩

theorem upd_own {W w4 : World} {X : Obj} {N sz k : Nat} {e : TypeId} {v : Value} {xs : List Value} (hrow : W.ownsRow N e sz v k xs) (hgr : (W.alloc X).grownBy w4 v.ownBlock) : Upd (N ≤ ·) W w4 :=
  ⟨hgr.os, hgr.tape, hgr.output, by have h1 := hgr.size; simp at h1; omega, fun k hk hs => by
    rw [hgr.block k (by simp; omega) (fun e => by have := (hrow.lt k e.symm).1; omega), Below.heap_alloc _ _ _ (by omega)]⟩

set_option maxRecDepth 100000 in
set_option maxHeartbeats 2000000 in
theorem create_any (S MA A GB : Nat) (root : Int) (m : Mem) (b : Bud) (k : Nat) (w : World) (h : SpAt w S MA A root) (hd : Duo w A MA GB m b) (hk : k ≤ 3) :
    Calls Tryd.prog 67 #[.pointer (some ⟨S, 0, none⟩), .int .i64 k] w fun e w' =>
      (b.left < k ∧ e = .returned (.tuple #[.slice none 0 0, .int .i64 6]) ∧ Upd (fun _ => False) w w') ∨
      (k ≤ b.left ∧ ∃ v, e = .returned (.tuple #[v, .int .i64 0]) ∧ w'.ownsRow w.heap.size 3 1 v k (nat1 (b.al k).1) ∧ Duo w' A MA GB (m.clears (b.al k).1) (b.al k).2 ∧ Upd (fun j => j = GB ∨ j = m.B) w w') := by
  have hc := h.c1
  have hleft := hd.B.ok
  by_cases hlt : b.left < k
  · go_enter Tryd.func67, Tryd.ntmps67
    go_wp2_with (go_at_call 85; refine (bLeft_any A MA GB m b _ hd.B hd.M hd.n).mono ?_; rintro e w' ⟨rfl, u⟩)
    go_ret2
    exact .inl ⟨hlt, rfl, u⟩
  · have ha := al_ok hd.B.ok k (by omega)
    obtain ⟨i0, hi, hz0, hz1, hz2⟩ := info_parts info_int8
    obtain ⟨N, hN⟩ : ∃ N, w.heap.size = N := ⟨_, rfl⟩
    have hap := h.apart hd
    have hlts := hd.B.lts
    have hBlt := lt_of_heap hd.M.body
    have hMlt := lt_of_heap hd.M.head
    have hSlt := lt_of_heap h
    go_enter Tryd.func67, Tryd.ntmps67
    go_wp2_with (go_at_call 85; refine (bLeft_any A MA GB m b _ hd.B hd.M hd.n).mono ?_; rintro e w' ⟨rfl, u⟩)
    have h' := h.kept u id
    have hd' := hd.still u
    have hNu := u.size
    go_loopw [6, 17] (fun v t wr => ∃ j : Nat, j ≤ k ∧ t = .int .i64 j ∧ wr.ownsRow N 3 1 v j (nat1 (b.al j).1) ∧ Duo wr A MA GB m (b.al j).2 ∧ SpAt wr S MA A root ∧ Upd (fun j => j = GB ∨ j = m.B) w wr) (fun _ t _ => k - (intOf t).toNat)
    case atStart => exact ⟨0, by omega, rfl, World.ownsRow_nil _ _ _ _, hd', h', u.mono (fun _ _ x => x.elim)⟩
    case round =>
      rename_i v _ _
      clear h' hd' u
      obtain ⟨j, hj, rfl, hrow, hdr, hsr, hU⟩ := hrel
      obtain ⟨o, cap, rfl⟩ := wk_slice hrow
      have hsz := hU.size
      by_cases hjk : j < k
      · have hcr := hsr.c1
        have aj := al_ok hd.B.ok j (by omega)
        obtain ⟨x, hx⟩ := sel0_some (b := (b.al j).2) (by have := aj.left; omega)
        have hnext := Lib.hid (show b.al (j + 1) = ((b.al j).1 ++ [x.1], (b.al j).2.give (x.1, 0)) from by rw [Bud.al, hx])
        go_wp2_with first
          | (go_at_call 86
             refine (bAlloc_any A MA GB m (b.al j).2 0 _ hdr.B hdr.M hdr.n (by omega)).mono ?_
             rintro e w1 (⟨hno, _⟩ | ⟨x', hx', rfl, hB1, u1⟩)
             · rw [hx] at hno; cases hno
             obtain rfl : x' = x := by rw [hx] at hx'; exact (Option.some.inj hx').symm
             have hd1 := hdr.gb hB1 u1 rfl
             have hs1 := hsr.kept u1 (fun e => hap (.inl e))
             have hrow1 := wk_kept hrow u1 (fun q hq => by have := (hrow.lt q hq).1; omega)
             have hU1 := hU.trans (u1.mono (T := fun j => j = GB ∨ j = m.B) (fun _ _ e => .inl e)))
          | (at_builtin; refine wpList_append_own _ rfl _ _ 124 rfl N 3 i0 (.int .i64 0) 1 8 Tryd.underlying124 hi hz0 hz1 hz2 rfl (by decide) _ _ _ rfl (hrow1.alloc _) ⟨w1.heap.size, 0, none⟩ 1 1 [.int .i64 x'.1] rfl rfl (cell_one_new _ _ _) (by simp [Value.oneCell']) (by simp [maxLen]; omega) (by omega) (by have := hU1.size; simp; omega) ?_; intro v' w2 hown' hgrow _; obtain ⟨g', cap', rfl⟩ := ownsRow_succ hown')
        go_roundw
        case rel =>
          refine ⟨j + 1, by omega, by go_num, ?_, ?_, ?_, ?_⟩
          · rw [hnext.out]
            unfold nat1 at hown' ⊢
            rw [List.map_append]
            exact hown'
          · rw [hnext.out]
            exact hd1.kept (upd_own hrow1 hgrow) (by omega) (by omega) (by omega) (by omega)
          · exact hs1.kept (upd_own hrow1 hgrow) (by omega)
          · exact upd_app hU1 hrow1 (by omega) hgrow
        case measure => simp [intOf]; omega
      · obtain rfl : j = k := by omega
        have hR := slice1 hrow
        obtain ⟨o', cap', e1, hcell⟩ := hR
        cases e1
        have hlenc := ha.len
        go_wp2_with first
          | (go_at_call 87
             refine (contf_any 66 (enters_of Tryd.func66 (by kernel_rfl) rfl) S o j cap (fun i => ((b.al j).1.getD i 0 : Nat)) _ (by omega) ?_ ?_).mono ?_
             · exact fun i hi => hcell i _ (nat1_at _ _ (by omega))
             · intro i hi
               refine (lacks_any S MA A root m _ _ hsr hdr.M).mono ?_
               rintro e w1 ⟨rfl, rfl⟩
               refine ⟨?_, rfl⟩
               have hm := ha.fr ((b.al j).1.getD i 0) (by rw [List.getD_eq_getElem?_getD, List.getElem?_eq_getElem (by omega)]; simp)
               have : m.ex ((b.al j).1.getD i 0 : Nat) 1 = true := decide_eq_true (by have := hd.n; omega)
               rw [this]; rfl
             rintro e w1 ⟨rfl, rfl⟩)
          | (go_at_call 88
             refine (each_any 89 (enters_of Tryd.func89 (by kernel_rfl) rfl) S o j cap (fun i => ((b.al j).1.getD i 0 : Nat)) (fun i W => Duo W A MA GB (m.clears ((b.al j).1.take i)) (b.al j).2 ∧ SpAt W S MA A root ∧ W.ownsRow N 3 1 (.slice o j cap) j (nat1 (b.al j).1) ∧ Upd (fun q => q = GB ∨ q = m.B) w W) _ (by omega) ⟨by simpa [Mem.clears] using hdr, hsr, hrow, hU⟩ ?_ ?_).mono ?_
             · rintro i W ⟨-, -, hrW, -⟩ hi
               obtain ⟨o2, cap2, e2, hc2⟩ := slice1 hrW
               cases e2
               exact hc2 i _ (nat1_at _ _ (by omega))
             · rintro i W ⟨hdW, hsW, hrW, hUW⟩ hi
               refine (sclear_any S MA A root _ _ W hsW hdW.M).mono ?_
               rintro e W' ⟨rfl, hmW, uW⟩
               rw [Mem.clears_B] at uW
               refine ⟨rfl, ?_, hsW.kept uW (fun e => hap (.inr e)), wk_kept hrW uW (fun q hq => by have := (hrW.lt q hq).1; omega), hUW.trans (uW.mono (fun _ _ e => .inr e))⟩
               rw [take_snocN _ _ (by omega), Mem.clears_snoc]
               exact hdW.cleared hmW (by rw [Mem.clears_B]; exact uW) (by rw [Mem.scrub_n])
             rintro e w1 ⟨rfl, hd1, hs1, hrow1, hU1⟩)
        go_ret2
        rw [List.take_of_length_le (by omega)] at hd1
        exact .inr ⟨by omega, _, rfl, hN ▸ hrow1, hd1, hU1⟩
end Go.Proofs.YtfdnfllefednjaaDoor

/-
  Package tables: what the visits collect: Pages, Tables, Close.
-/
namespace Go.Proofs.YtfdnfllefednjaaDoor
open Go.ChangeShapes Go.WideShapes Go.ChangeAt Go.RowKit Go.Shelf

/-- what Pages, Tables and Close take of an entry -/
def selP (x : Nat × En) : Option Int := if x.2.t = true then none else some (x.1 : Nat)
def selT (x : Nat × En) : Option Int := if x.2.t = true then some x.2.f else none
def selC (x : Nat × En) : Option Int := if x.2.t = true then none else some x.2.f
def i64s (l : List Int) : List Value := l.map fun f => .int .i64 f
/-- what is held while a visit collects -/
structure Coll (w : World) (N B MA A S : Nat) (root : Int) (m : Mem) (L0 : List Int) (sel : Nat × En → Option Int) (pre : List (Nat × En)) (W : World) : Prop where
  box : ∃ o cap, Boxed W B 124 (.slice o (L0 ++ pre.filterMap sel).length cap) ∧ W.ownsRow N 3 1 (.slice o (L0 ++ pre.filterMap sel).length cap) (L0 ++ pre.filterMap sel).length (i64s (L0 ++ pre.filterMap sel))
  M : MemAt W MA m
  T : Tab W
  S : SpAt W S MA A root
  U : Upd (fun _ => False) w W
theorem Coll.keep {w : World} {N B MA A S : Nat} {root : Int} {m : Mem} {L0 : List Int} {sel : Nat × En → Option Int} {pre : List (Nat × En)} {W W' : World} (h : Coll w N B MA A S root m L0 sel pre W) (u : Upd (fun _ => False) W W') : Coll w N B MA A S root m L0 sel pre W' := by
  obtain ⟨⟨o, cap, hb, hr⟩, M, T, hS, U⟩ := h
  exact ⟨⟨o, cap, u.at hb id, wk_kept hr u (fun _ _ => id)⟩, M.kept u id id, T.kept u, hS.kept u id, U.trans u⟩
theorem collN (L0 : List Int) (sel : Nat × En → Option Int) (pre : List (Nat × En)) (h : pre.length < 5000) (h0 : L0.length ≤ 1) : (L0 ++ pre.filterMap sel).length ≤ 5000 := by
  have := List.length_filterMap_le sel pre
  rw [List.length_append]; omega
/-- one number more -/
theorem Coll.push {w : World} {N B MA A S : Nat} {root : Int} {m : Mem} {L0 : List Int} {sel : Nat × En → Option Int} {pre : List (Nat × En)} {W w1 : World} {o : Option Addr} {cap : Nat} {x : Nat × En} {y : Int} {X : Obj} {v' : Value}
    (hwN : w.heap.size = N) (hB : N ≤ B) (hTw : Tab w) (h : Coll w N B MA A S root m L0 sel pre W) (hbox : Boxed W B 124 (.slice o (L0 ++ pre.filterMap sel).length cap)) (hrow : W.ownsRow N 3 1 (.slice o (L0 ++ pre.filterMap sel).length cap) (L0 ++ pre.filterMap sel).length (i64s (L0 ++ pre.filterMap sel)))
    (hs : sel x = some y) (hown : w1.ownsRow N 3 1 v' ((L0 ++ pre.filterMap sel).length + 1) (i64s (L0 ++ pre.filterMap sel) ++ [.int .i64 y])) (hgrow : (W.alloc X).grownBy w1 (Value.slice o (L0 ++ pre.filterMap sel).length cap).ownBlock) :
    Boxed w1 B 124 (.slice o (L0 ++ pre.filterMap sel).length cap) ∧ Coll w N B MA A S root m L0 sel (pre ++ [x]) (w1.setCell ⟨B, 0, none⟩ v') ∧ (∀ (D : Nat) (c : Array Value), W.heap[D]? = some (Obj.cells c 34 (0, 0)) → (w1.setCell ⟨B, 0, none⟩ v').heap[D]? = some (Obj.cells c 34 (0, 0))) := by
  have hsz := h.U.size
  obtain ⟨hv1, hv2, hr2, hk2, hb2⟩ := hbox.appended (by decide) hrow (by omega) hB hown hgrow
  have heq : L0 ++ (pre ++ [x]).filterMap sel = (L0 ++ pre.filterMap sel) ++ [y] := by simp [hs]
  have U0 : Upd (N ≤ ·) W (w1.setCell ⟨B, 0, none⟩ v') := (upd_own hrow hgrow).setCell (.inl hB) _
  have hMA := lt_of_heap h.M.head
  have keepOld : ∀ (k : Nat) (t : Nat) (c : Array Value), t ≠ 3 → t ≠ 124 → W.heap[k]? = some (.cells c t (0, 0)) → (w1.setCell ⟨B, 0, none⟩ v').heap[k]? = some (.cells c t (0, 0)) := by
    intro k t c h1 h2 hk
    have n1 : ∀ j, (Value.slice o (L0 ++ pre.filterMap sel).length cap).ownBlock = some j → ¬ j = k := wk_ne hrow hk h1
    have n2 : ¬ k = B := by
      rintro rfl
      have hb : W.heap[k]? = _ := hbox
      rw [hb] at hk
      simp at hk
      exact h2 hk.2.symm
    have hkl := lt_of_heap hk
    rw [Below.heap_setCell _ _ _ _ n2, hgrow.block k (by simp; omega) (fun e => n1 k e.symm rfl), Below.heap_alloc _ _ _ hkl]
    exact hk
  refine ⟨hv1, ⟨?_, ?_, ?_, ?_, ?_⟩, fun D c hD => keepOld D _ c (by decide) (by decide) hD⟩
  · obtain ⟨g', cap', rfl⟩ := ownsRow_succ hown
    rw [heq]
    refine ⟨some ⟨g', 0, none⟩, cap', ?_, ?_⟩
    · rw [show ((L0 ++ pre.filterMap sel) ++ [y]).length = (L0 ++ pre.filterMap sel).length + 1 from by rw [List.length_append]; rfl]; exact hv2
    · rw [show ((L0 ++ pre.filterMap sel) ++ [y]).length = (L0 ++ pre.filterMap sel).length + 1 from by rw [List.length_append]; rfl]
      unfold i64s at hr2 ⊢
      rw [List.map_append]
      exact hr2
  · exact ⟨keepOld _ _ _ (by decide) (by decide) h.M.head, keepOld _ _ _ (by decide) (by decide) h.M.body, h.M.len, h.M.lo, h.M.hi⟩
  · exact h.T.keptS U0 (by have := World.block_lt_of_cell? w _ (hTw 0 (by omega)).1; simp at this; omega)
  · exact keepOld _ _ _ (by decide) (by decide) h.S
  · exact h.U.new (U0.mono (fun _ _ e => by omega))

theorem Coll.skip {w : World} {N B MA A S : Nat} {root : Int} {m : Mem} {L0 : List Int} {sel : Nat × En → Option Int} {pre : List (Nat × En)} {W : World} {x : Nat × En} (h : Coll w N B MA A S root m L0 sel pre W) (hs : sel x = none) : Coll w N B MA A S root m L0 sel (pre ++ [x]) W := by
  have e : (pre ++ [x]).filterMap sel = pre.filterMap sel := by simp [hs]
  exact ⟨by rw [e]; exact h.box, h.M, h.T, h.S, h.U⟩

end Go.Proofs.YtfdnfllefednjaaDoor

/-
  Package tables: Pages and Tables.
-/
namespace Go.Proofs.YtfdnfllefednjaaDoor
open Go.ChangeShapes Go.WideShapes Go.ChangeAt Go.RowKit Go.Shelf Go.Sort

theorem Coll.start {w : World} {MA A S : Nat} {root : Int} {m : Mem} (hm : MemAt w MA m) (T : Tab w) (h : SpAt w S MA A root) (sel : Nat × En → Option Int) :
    Coll w w.heap.size w.heap.size MA A S root m [] sel [] (w.alloc (.cells #[.slice none 0 0] 124)) := by
  have u := (Upd.refl (fun _ => False) w).alloc (.cells #[.slice none 0 0] 124)
  exact ⟨⟨none, 0, Boxed.new w _ _, World.ownsRow_nil _ _ _ _⟩, hm.kept u id id, T.kept u, h.kept u id, u⟩
def leI (x y : Int) : Bool := decide (x ≤ y)
theorem Coll.start1 {w : World} {MA A S : Nat} {root : Int} {m : Mem} (hm : MemAt w MA m) (T : Tab w) (h : SpAt w S MA A root) (r : Int) (sel : Nat × En → Option Int) :
    Coll w w.heap.size (w.heap.size + 1) MA A S root m [r] sel [] ((w.alloc (.cells #[.int .i64 r] 3)).alloc (.cells #[.slice (some ⟨w.heap.size, 0, none⟩) 1 1] 124)) := by
  have u1 := (Upd.refl (fun _ => False) w).alloc (.cells #[.int .i64 r] 3)
  have u := u1.alloc (.cells #[.slice (some ⟨w.heap.size, 0, none⟩) 1 1] 124)
  have b1 := heap_alloc_last w (.cells #[.int .i64 r] 3)
  have b2 : Boxed ((w.alloc (.cells #[.int .i64 r] 3)).alloc (.cells #[.slice (some ⟨w.heap.size, 0, none⟩) 1 1] 124)) (w.heap.size + 1) 124 (.slice (some ⟨w.heap.size, 0, none⟩) 1 1) := by
    have := Boxed.new (w.alloc (.cells #[.int .i64 r] 3)) 124 (.slice (some ⟨w.heap.size, 0, none⟩) 1 1)
    rwa [World.size_alloc] at this
  have b1' := ((Upd.refl (fun _ => False) (w.alloc (.cells #[.int .i64 r] 3))).alloc (.cells #[.slice (some ⟨w.heap.size, 0, none⟩) 1 1] 124)).at b1 id
  exact ⟨⟨some ⟨w.heap.size, 0, none⟩, 1, b2, rfl, .inr ⟨w.heap.size, 1, _, rfl, Nat.le_refl _, b1', by simp, by simp [maxLen], by simp, by simp [i64s]⟩⟩, hm.kept u id id, T.kept u, h.kept u id, u⟩
def Sp.tabs (s : Sp) : List Int := s.root :: (s.vis 3 0 0).filterMap selT
end Go.Proofs.YtfdnfllefednjaaDoor

/-
  Package tables, in plain numbers: the lists that the visits tell, page by page and table by table.
-/
namespace Go.Proofs.YtfdnfllefednjaaDoor

/-- the pages, and the tables of a level -/
def Sp.pgs (s : Sp) : List Nat := (List.range 4096).filter fun q => (s.E 3 q).v
def Sp.lev (s : Sp) (l : Nat) : List Nat := (List.range (16 ^ l)).filter fun d => (s.E l d).v

theorem range_flat {α : Type} (g : Nat → List α) (k : Nat) : ∀ a, (List.range a).flatMap (fun p => (List.range k).flatMap fun q => g (k * p + q)) = (List.range (k * a)).flatMap g
  | 0 => by simp
  | a + 1 => by
    rw [List.range_succ, List.flatMap_append, range_flat g k a, Nat.mul_succ, List.range_add, List.flatMap_append]
    simp [List.flatMap_map]
theorem flat_perm {α β : Type} (A B : α → List β) : ∀ l : List α, (l.flatMap fun x => A x ++ B x).Perm (l.flatMap A ++ l.flatMap B)
  | [] => by simp
  | x :: l => by
    simp only [List.flatMap_cons]
    refine (List.Perm.append_left _ (flat_perm A B l)).trans ?_
    simp only [List.append_assoc]
    refine List.Perm.append_left _ ?_
    rw [← List.append_assoc, ← List.append_assoc]
    exact List.Perm.append_right _ List.perm_append_comm
theorem flat_if {α β : Type} (p : α → Bool) (f : α → β) : ∀ l : List α, (l.flatMap fun x => if p x = true then [f x] else []) = (l.filter p).map f
  | [] => rfl
  | x :: l => by
    rw [List.flatMap_cons, flat_if p f l, List.filter_cons]
    split <;> simp
theorem flat_congr {α β : Type} {f g : α → List β} : ∀ {l : List α}, (∀ x, x ∈ l → f x = g x) → l.flatMap f = l.flatMap g
  | [], _ => rfl
  | x :: l, h => by
    rw [List.flatMap_cons, List.flatMap_cons, h x (by simp), flat_congr (l := l) fun y hy => h y (by simp [hy])]
theorem flat_nil {α β : Type} {f : α → List β} {l : List α} (h : ∀ x, x ∈ l → f x = []) : l.flatMap f = [] := by
  rw [flat_congr h]; induction l with
  | nil => rfl
  | cons x l ih => rw [List.flatMap_cons, ih fun y hy => h y (by simp [hy])]; rfl

theorem Sp.vis_fm (s : Sp) {β : Type} (sel : Nat × En → Option β) (k l d : Nat) : (s.vis (k + 1) l d).filterMap sel = (List.range 16).flatMap fun p => if (s.E (l + 1) (16 * d + p)).v = true then (sel (16 * d + p, s.E (l + 1) (16 * d + p))).toList ++ (s.vis k (l + 1) (16 * d + p)).filterMap sel else [] := by
  rw [Sp.vis, List.filterMap_flatMap]
  refine flat_congr fun p _ => ?_
  split
  · rw [List.filterMap_cons]
    split <;> rename_i h <;> rw [h] <;> rfl
  · rfl
theorem Sp.Ok.low {s : Sp} {n : Nat} (h : s.Ok n) {l d p : Nat} (hv : (s.E (l + 1) d).v = false) (hp : p < 16) : (s.E (l + 2) (16 * d + p)).v = false := by
  cases hc : (s.E (l + 2) (16 * d + p)).v
  · rfl
  · have := (h.lv _ _ hc).2.2.2
    rw [show l + 2 - 1 = l + 1 from rfl, show (16 * d + p) / 16 = d from by omega, s.onS, hv] at this
    cases this
/-- a list of the pages -/
theorem Sp.Ok.vis_pages {s : Sp} {n : Nat} (h : s.Ok n) {β : Type} (sel : Nat × En → Option β) (f : Nat → β) (hn : ∀ q e, e.t = true → sel (q, e) = Option.none) (hs : ∀ q, (s.E 3 q).v = true → sel (q, s.E 3 q) = some (f q)) :
    (s.vis 3 0 0).filterMap sel = s.pgs.map f := by
  have h1 : ∀ d, (s.vis 1 2 d).filterMap sel = (List.range 16).flatMap fun p => if (s.E 3 (16 * d + p)).v = true then [f (16 * d + p)] else [] := by
    intro d
    rw [s.vis_fm]
    refine flat_congr fun p _ => ?_
    split
    · rename_i hv
      rw [hs _ hv]
      rfl
    · rfl
  have h2 : ∀ d, (s.vis 2 1 d).filterMap sel = (List.range 16).flatMap fun p => (List.range 16).flatMap fun q => if (s.E 3 (16 * (16 * d + p) + q)).v = true then [f (16 * (16 * d + p) + q)] else [] := by
    intro d
    rw [s.vis_fm]
    refine flat_congr fun p _ => ?_
    split
    · rename_i hv
      rw [hn _ _ (h.tb _ _ hv (by omega)).1, h1]
      rfl
    · rename_i hv
      refine (flat_nil fun q hq => ?_).symm
      rw [List.mem_range] at hq
      rw [h.low (by simpa using hv) hq]
      rfl
  rw [s.vis_fm]
  have e : ∀ p, p ∈ List.range 16 → (if (s.E (0 + 1) (16 * 0 + p)).v = true then (sel (16 * 0 + p, s.E (0 + 1) (16 * 0 + p))).toList ++ (s.vis 2 (0 + 1) (16 * 0 + p)).filterMap sel else []) = (List.range 16).flatMap fun p2 => (fun x => (List.range 16).flatMap fun q => (fun y => if (s.E 3 y).v = true then [f y] else []) (16 * x + q)) (16 * p + p2) := by
    intro p hp
    simp only [Nat.mul_zero, Nat.zero_add]
    split
    · rename_i hv
      rw [hn _ _ (h.tb _ _ hv (by omega)).1, h2]
      rfl
    · rename_i hv
      refine (flat_nil fun q hq => flat_nil fun r hr => ?_).symm
      rw [List.mem_range] at hq hr
      dsimp only
      rw [h.low (h.low (by simpa using hv) hq) hr]
      rfl
  rw [flat_congr e, range_flat (fun x => (List.range 16).flatMap fun q => (fun y => if (s.E 3 y).v = true then [f y] else []) (16 * x + q)) 16 16, range_flat (fun y => if (s.E 3 y).v = true then [f y] else []) 16]
  exact flat_if (fun y => (s.E 3 y).v) f _
theorem Sp.Ok.vis_selP {s : Sp} {n : Nat} (h : s.Ok n) : (s.vis 3 0 0).filterMap selP = s.pgs.map fun q => ((q : Nat) : Int) :=
  h.vis_pages selP _ (fun q e hx => by unfold selP; rw [hx]; rfl) (fun q hv => by unfold selP; rw [h.pg _ hv]; rfl)
theorem Sp.Ok.vis_selC {s : Sp} {n : Nat} (h : s.Ok n) : (s.vis 3 0 0).filterMap selC = s.pgs.map fun q => (s.E 3 q).f :=
  h.vis_pages selC _ (fun q e hx => by unfold selC; rw [hx]; rfl) (fun q hv => by unfold selC; rw [h.pg _ hv]; rfl)
/-- the tables -/
theorem Sp.Ok.tabs_perm {s : Sp} {n : Nat} (h : s.Ok n) : s.tabs.Perm (s.root :: ((s.lev 1).map (fun d => (s.E 1 d).f) ++ (s.lev 2).map fun d => (s.E 2 d).f)) := by
  refine List.Perm.cons _ ?_
  have h1 : ∀ d, (s.vis 1 2 d).filterMap selT = [] := by
    intro d
    rw [s.vis_fm]
    refine flat_nil fun p _ => ?_
    split
    · rename_i hv
      have : selT (16 * d + p, s.E (2 + 1) (16 * d + p)) = Option.none := by unfold selT; rw [h.pg _ hv]; rfl
      rw [this]
      rfl
    · rfl
  have h2 : ∀ d, (s.vis 2 1 d).filterMap selT = (List.range 16).flatMap fun p => (fun x => if (s.E 2 x).v = true then [(s.E 2 x).f] else []) (16 * d + p) := by
    intro d
    rw [s.vis_fm]
    refine flat_congr fun p _ => ?_
    dsimp only
    split
    · rename_i hv
      have : selT (16 * d + p, s.E (1 + 1) (16 * d + p)) = some (s.E 2 (16 * d + p)).f := by unfold selT; rw [(h.tb _ _ hv (by omega)).1]; rfl
      rw [this, h1]
      rfl
    · rfl
  rw [s.vis_fm]
  have e : ∀ p, p ∈ List.range 16 → (if (s.E (0 + 1) (16 * 0 + p)).v = true then (selT (16 * 0 + p, s.E (0 + 1) (16 * 0 + p))).toList ++ (s.vis 2 (0 + 1) (16 * 0 + p)).filterMap selT else []) = (if (s.E 1 p).v = true then [(s.E 1 p).f] else []) ++ (List.range 16).flatMap fun p2 => (fun x => if (s.E 2 x).v = true then [(s.E 2 x).f] else []) (16 * p + p2) := by
    intro p hp
    simp only [Nat.mul_zero, Nat.zero_add]
    split
    · rename_i hv
      have : selT (p, s.E (0 + 1) p) = some (s.E 1 p).f := by unfold selT; rw [(h.tb _ _ hv (by omega)).1]; rfl
      rw [this, h2]
      rfl
    · rename_i hv
      rw [List.nil_append]
      refine (flat_nil fun q hq => ?_).symm
      rw [List.mem_range] at hq
      rw [h.low (by simpa using hv) hq]
      rfl
  rw [flat_congr e]
  refine (flat_perm _ _ _).trans ?_
  rw [range_flat (fun x => if (s.E 2 x).v = true then [(s.E 2 x).f] else []) 16 16]
  rw [flat_if (fun p => (s.E 1 p).v) (fun p => (s.E 1 p).f), flat_if (fun p => (s.E 2 p).v) (fun p => (s.E 2 p).f)]
  exact List.Perm.refl _
theorem Sp.Ok.tabs_len {s : Sp} {n : Nat} (h : s.Ok n) : s.tabs.length = 1 + (s.lev 1).length + (s.lev 2).length := by
  rw [h.tabs_perm.length_eq]
  simp; omega
theorem Sp.mem_lev {s : Sp} {l d : Nat} : d ∈ s.lev l ↔ d < 16 ^ l ∧ (s.E l d).v = true := by
  unfold Sp.lev
  rw [List.mem_filter, List.mem_range]
theorem Sp.mem_pgs {s : Sp} {q : Nat} : q ∈ s.pgs ↔ q < 4096 ∧ (s.E 3 q).v = true := by
  unfold Sp.pgs
  rw [List.mem_filter, List.mem_range]
theorem Sp.Ok.mem_tabs {s : Sp} {n : Nat} (h : s.Ok n) {f : Int} : f ∈ s.tabs ↔ ∃ l d, l ≤ 2 ∧ s.on l d = true ∧ f = s.fr l d := by
  rw [h.tabs_perm.mem_iff]
  simp only [List.mem_cons, List.mem_append, List.mem_map, Sp.mem_lev]
  constructor
  · rintro (rfl | ⟨d, ⟨_, hv⟩, rfl⟩ | ⟨d, ⟨_, hv⟩, rfl⟩)
    · exact ⟨0, 0, by omega, rfl, rfl⟩
    · exact ⟨1, d, by omega, by rw [s.onS]; exact hv, by rw [s.frS]⟩
    · exact ⟨2, d, by omega, by rw [s.onS]; exact hv, by rw [s.frS]⟩
  · rintro ⟨l, d, hl, ho, rfl⟩
    match l, hl with
    | 0, _ => exact .inl rfl
    | 1, _ => rw [s.onS] at ho; exact .inr (.inl ⟨d, ⟨(h.lv _ _ ho).2.2.1, ho⟩, by rw [s.frS]⟩)
    | 2, _ => rw [s.onS] at ho; exact .inr (.inr ⟨d, ⟨(h.lv _ _ ho).2.2.1, ho⟩, by rw [s.frS]⟩)
theorem nodup_mapF {l : List Nat} {f : Nat → Int} (hl : l.Nodup) (hf : ∀ a b, a ∈ l → b ∈ l → f a = f b → a = b) : (l.map f).Nodup := by
  induction l with
  | nil => simp
  | cons x l ih =>
    rw [List.nodup_cons] at hl
    rw [List.map_cons, List.nodup_cons]
    refine ⟨fun hm => ?_, ih hl.2 fun a b ha hb => hf a b (by simp [ha]) (by simp [hb])⟩
    obtain ⟨y, hy, e⟩ := List.mem_map.1 hm
    have := hf y x (by simp [hy]) (by simp) e
    subst this
    exact hl.1 hy
theorem Sp.Ok.tabs_nodup {s : Sp} {n : Nat} (h : s.Ok n) : s.tabs.Nodup := by
  rw [h.tabs_perm.nodup_iff]
  have onE : ∀ l d, d ∈ s.lev (l + 1) → s.on (l + 1) d = true := fun l d hd => by rw [s.onS]; exact (Sp.mem_lev.1 hd).2
  have lv : ∀ l, l + 1 ≤ 2 → ((s.lev (l + 1)).map fun d => (s.E (l + 1) d).f).Nodup := fun l hl =>
    nodup_mapF ((List.nodup_range).filter _) fun a b ha hb e => (h.inj _ _ _ _ hl hl (onE l a ha) (onE l b hb) (by rw [s.frS, s.frS]; exact e)).2
  rw [List.nodup_cons, List.nodup_append]
  refine ⟨?_, lv 0 (by omega), lv 1 (by omega), ?_⟩
  · intro hm
    rcases List.mem_append.1 hm with hm | hm <;> obtain ⟨d, hd, e⟩ := List.mem_map.1 hm
    · have := (h.inj 1 d 0 0 (by omega) (by omega) (onE 0 d hd) rfl (by rw [s.frS, s.fr0]; exact e)).1; omega
    · have := (h.inj 2 d 0 0 (by omega) (by omega) (onE 1 d hd) rfl (by rw [s.frS, s.fr0]; exact e)).1; omega
  · rintro a ha b hb rfl
    obtain ⟨d, hd, e⟩ := List.mem_map.1 ha
    obtain ⟨d', hd', e'⟩ := List.mem_map.1 hb
    have := (h.inj 1 d 2 d' (by omega) (by omega) (onE 0 d hd) (onE 1 d' hd') (by rw [s.frS, s.frS]; exact e.trans e'.symm)).1
    omega
theorem Sp.pgs_rises (s : Sp) : s.pgs.Pairwise (· < ·) := (List.pairwise_lt_range).filter _
/-- all frames that are not free are given, one by one -/
theorem left_len : ∀ (k : Nat) {b : Bud}, b.gave.length = k → b.Ok → (∀ x, x ∈ b.gave → x.2 = 0) → b.left + b.gave.length + b.res = b.n
  | 0, b, hl, h, h0 => by
    have hn : b.gave = [] := List.eq_nil_of_length_eq_zero hl
    have hF : ∀ k, k ≤ b.n → cnt b.F k = k - b.res := by
      intro k
      induction k with
      | zero => intro _; simp [cnt]
      | succ k ih =>
        intro hk
        rw [cnt_succ, ih (by omega)]
        by_cases hr : b.res ≤ k
        · have : b.F k = true := (h.fr k).2 ⟨hr, by omega, by rw [hn]; simp⟩
          rw [this]; simp; omega
        · have : b.F k = false := by
            cases hf : b.F k
            · rfl
            · have := (h.fr k).1 hf; omega
          rw [this]; simp; omega
    have := hF b.n (Nat.le_refl _)
    have := h.rs
    unfold Bud.left
    omega
  | k + 1, b, hl, h, h0 => by
    obtain ⟨x, hx⟩ := List.exists_mem_of_length_pos (l := b.gave) (by omega)
    have e : (b.take x).gave = b.gave.erase x := rfl
    have hle : (b.gave.erase x).length = k := by rw [List.length_erase_of_mem hx]; omega
    have ih := left_len k (b := b.take x) (by rw [e]; exact hle) (h.take hx) (fun y hy => h0 y (List.mem_of_mem_erase hy))
    have hlt := left_take h hx
    rw [h0 x hx] at hlt
    rw [e, hle] at ih
    have : (b.take x).res = b.res := rfl
    have : (b.take x).n = b.n := rfl
    simp at hlt
    omega
end Go.Proofs.YtfdnfllefednjaaDoor

/-
  Package tables: Protect, over the words of the memory.
-/
namespace Go.Proofs.YtfdnfllefednjaaDoor
open Go.ChangeShapes Go.WideShapes Go.ChangeAt Go.RowKit Go.Shelf

theorem row2_at {w : World} {base : Nat} {e : TypeId} {o : Option Addr} {k cap : Nat} {xs : List Value} (h : w.ownsRow base e 2 (.slice o k cap) k xs) (hk : 0 < k) : ∃ g, o = some ⟨g, 0, none⟩ ∧ base ≤ g ∧ ∀ (j : Nat) (u : Value), xs[j]? = some u → w.cell? ⟨g, j, none⟩ = some u := by
  rcases h.2 with ⟨e1, e2⟩ | ⟨g, cap', cur, e1, hb, _⟩
  · omega
  · cases e1
    exact ⟨g, rfl, hb, fun j u hu => by have := h.cells (g := g) rfl j u hu; rwa [add_mid0, Nat.zero_add] at this⟩
theorem EntAt.setW {w : World} {D : Nat} {v r t : Bool} {f : Int} (h : EntAt w D v r t f) (r' : Bool) : EntAt (w.setCell ⟨D, 1, none⟩ (.bool r')) D v r' t f := by
  unfold EntAt
  have := heap_setCell_same (C := [.bool v, .bool r, .bool t, .int .i64 f]) h 1 (.bool r')
  rw [this]
  rfl
/-- a row of steps is not an entry's box -/
theorem wk_set {w : World} {base k : Nat} {v : Value} {xs : List Value} {D : Nat} {a b c : Bool} {f : Int} (h : w.ownsRow base 128 2 v k xs) (hD : EntAt w D a b c f) (vs : List Value) : (w.setCells D 0 vs).ownsRow base 128 2 v k xs :=
  wk_kept h (Upd.setCells (S := (· = D)) (.inl rfl) vs 0 (Upd.refl _ w)) (wk_ne h hD (by decide))
set_option maxRecDepth 100000 in
set_option maxHeartbeats 1000000 in
theorem sprotect_any (S MA A : Nat) (root : Int) (m : Mem) (q : Int) (wb : Bool) (w : World) (h : SpAt w S MA A root) (hm : MemAt w MA m) (T : Tab w) (hg : m.good) :
    Calls Tryd.prog 32 #[.pointer (some ⟨S, 0, none⟩), .int .i64 q, .bool wb] w fun e w' =>
      (m.wX root q ≠ 0 ∧ e = .returned (.int .i64 (m.wX root q)) ∧ Upd (fun _ => False) w w') ∨
      (m.wX root q = 0 ∧ e = .returned (.int .i64 (errB (m.putB (m.wF root q 2) (idxI q 2) { m.wE root q with r := wb }))) ∧ MemAt w' MA (m.put (m.wF root q 2) (idxI q 2) { m.wE root q with r := wb }) ∧ Upd (· = m.B) w w') := by
  have cW := Lib.hid (fun (W : World) (hW : w.heap.size ≤ W.heap.size) (h : MemAt W MA m) (T : Tab W) => walk_row (root := root) (q := q) w.heap.size hW h T hg)
  have h3 := m.wX_three root q
  have hS2 := m.wS_at root q 2
  have hwf : (Lit.int .i64 (m.wE root q).f).wf = true := by
    have : 0 ≤ (m.wE root q).f ∧ (m.wE root q).f ≤ 255 := by
      unfold Mem.wE
      split
      · unfold Mem.getE; split
        · unfold enOf ofF; simp only; split
          · rename_i h0; unfold pF; omega
          · omega
        · exact ⟨by decide, by decide⟩
      · exact ⟨by decide, by decide⟩
    obtain ⟨j, hj⟩ := Int.eq_ofNat_of_zero_le this.1
    rw [hj]
    exact wf_frame (by omega)
  clear hg
  generalize m.wF root q 2 = a at hS2 ⊢
  generalize idxI q 2 = p at hS2 ⊢
  generalize m.wN root q = n at cW h3
  have hS3 := fun e => hS2 n (by rw [h3 e]; omega)
  clear hS2
  generalize m.wX root q = X at cW h3 hS3 ⊢
  generalize m.wE root q = E at cW hwf ⊢
  generalize m.wS root q n = xs at cW hS3
  obtain ⟨ev, er, et, ef⟩ := E
  have H3 := Lib.hid h3
  have HS := Lib.hid hS3
  have Hw := Lib.hid hwf
  clear h3 hS3 hwf
  have c0 := h.c0
  have c2 := h.c2
  go_enter Tryd.func32, Tryd.ntmps32
  go_upto_region 1 with fail
  have hS := Lib.hid (show ∀ (W' : World), Upd (fun _ => False) w W' → W'.cell? ⟨S, 0, none⟩ = some (.pointer (some ⟨MA, 0, none⟩)) ∧ W'.cell? ⟨S, 2, none⟩ = some (.int .i64 root) ∧ Upd (fun _ => False) w W' from fun W' u => ⟨u.cell c0 id, u.cell c2 id, u⟩)
  go_cut [7, 8, 9] (fun s6 s7 s8 wx => ∃ (D : Nat) (o : Option Addr) (cap : Nat), s6 = .pointer (some ⟨D, 0, none⟩) ∧ s7 = .slice o n cap ∧ s8 = .int .i64 X ∧ Hid (EntAt wx D ev er et ef) ∧ Hid (wx.ownsRow w.heap.size 128 2 (.slice o n cap) n xs) ∧ Hid (w.heap.size ≤ D) ∧ Upd (fun _ => False) w wx)
  case first =>
    go_region_held3 (fun w' => w'.cell? ⟨S, 0, none⟩ = some (.pointer (some ⟨MA, 0, none⟩)) ∧ w'.cell? ⟨S, 2, none⟩ = some (.int .i64 root) ∧ Upd (fun _ => False) w w')
      (first
        | assumption
        | exact hS.out _ (Upd.refl _ _).drew
        | exact hS.out _ ((Upd.refl _ _).drew.alloc _)
        | exact hS.out _ u7
        | exact hS.out _ (u7.alloc _)
        | exact hS.out _ ((((u7.setCell (.inr (Nat.le_refl _)) _).setCell (.inr (Nat.le_refl _)) _).setCell (.inr (Nat.le_refl _)) _).setCell (.inr (Nat.le_refl _)) _)
        | exact hS.out _ (((((u7.alloc _).setCell (.inr u7.size) _).setCell (.inr u7.size) _).setCell (.inr u7.size) _).setCell (.inr u7.size) _))
      (first
        | (go_at_call 65; go_split_ands; rename_i s1 s2 s3; refine (cW.out (w.alloc (.cells #[.bool false, .bool false, .bool false, .int .i64 0] 34)).drew s3.size (hm.kept s3 id id) (T.kept s3)).mono ?_; rintro e w6 ⟨o, cap, rfl, r6, u6⟩; have u7 := s3.trans u6; have e7 : Hid (EntAt w6 w.heap.size false false false 0) := Lib.hid (u6.at (heap_alloc_last w _) id); obtain ⟨e0, e1, e2, e3, z0, z1, z2, z3⟩ := e7.out.eight)
        | (go_at_call 65; go_split_ands; rename_i s1 s2 s3; refine (cW.out _ s3.size (hm.kept s3 id id) (T.kept s3)).mono ?_; rintro e w6 ⟨o, cap, rfl, r6, u6⟩; have u7 := s3.trans u6))
    all_goals (go_wp2_with fail)
    all_goals go_meet
    all_goals
      first
        | exact ⟨w.heap.size, o, cap, rfl, rfl, rfl, Lib.hid (e7.out.set ev er et ef), Lib.hid (wk_kept r6.out (((((Upd.refl (· = w.heap.size) w6).setCell (.inl rfl) _).setCell (.inl rfl) _).setCell (.inl rfl) _).setCell (.inl rfl) _) (wk_ne r6.out e7.out (by decide))), Lib.hid (Nat.le_refl _), (((u7.setCell (.inr (Nat.le_refl _)) _).setCell (.inr (Nat.le_refl _)) _).setCell (.inr (Nat.le_refl _)) _).setCell (.inr (Nat.le_refl _)) _⟩
        | exact ⟨w6.heap.size, o, cap, rfl, rfl, rfl, Lib.hid (heap_alloc_last w6 _), Lib.hid (wk_kept r6.out ((Upd.refl (fun _ => False) w6).alloc _) (fun _ _ => id)), Lib.hid u7.size, u7.alloc _⟩
  case rest =>
    obtain ⟨D, o, cap, rfl, rfl, rfl, hD, hrow, hDN, u8⟩ := hcut
    clear hS cW c0 c2
    by_cases hX : X = 0
    · obtain rfl := H3.out hX
      obtain ⟨s0, s1⟩ := HS.out hX
      subst hX
      obtain ⟨g, rfl, hgN, hcs⟩ := row2_at hrow.out (by omega)
      have gD : ¬ g = D := wk_ne hrow.out hD.out (by decide) g rfl
      have d0 := hcs _ _ s0
      have d1 := hcs _ _ s1
      obtain ⟨e0, e1, e2, e3, z0, z1, z2, z3⟩ := hD.out.eight
      have hD2 := Lib.hid (hD.out.setW wb)
      have u9 := u8.setCell (p := ⟨D, 1, none⟩) (.inr hDN.out) (.bool wb)
      have u9' := (Upd.refl (· = D) wc).setCell (p := ⟨D, 1, none⟩) (.inl rfl) (.bool wb)
      have d0' := u9'.cell d0 gD
      have d1' := u9'.cell d1 gD
      clear s0 s1 hcs hrow H3 HS
      go_upto_region 5 with fail
      clear e0 e1 e2 e3 z0 z1 z2 z3 hD d0 d1 u9' u8
      generalize wc.setCell ⟨D, 1, none⟩ (.bool wb) = w1 at hD2 u9 d0' d1' ⊢
      have a1 := heap_alloc_last w1 (.cells #[.int .i64 a, .int .i64 p] 128)
      have a2 := (Upd.refl (fun _ => False) w1).alloc (.cells #[.int .i64 a, .int .i64 p] 128)
      go_upto_region 6 with fail
      have U := u9.trans a2
      have hD3 := Lib.hid (hD2.out.kept a2 id)
      clear hD2 d0' d1' u9 a2
      generalize w1.alloc (.cells #[.int .i64 a, .int .i64 p] 128) = w2 at a1 U hD3 ⊢
      generalize w1.heap.size = st' at a1 ⊢
      have h2 := h.kept U id
      have M2 := hm.kept U id id
      have T2 := T.kept U
      clear h hm T
      refine wp_region_tail 9 (by kernel_rfl) (by kernel_rfl) ?_
      simp only [List.take_succ_cons, List.take_zero, List.drop_succ_cons, List.drop_zero]
      intro w3 hw3
      have U3 : Upd (fun _ => False) w w3 := by rw [hw3]; exact U.drew
      have h3 : SpAt w3 S MA A root := by rw [hw3]; exact h2
      have M3 : MemAt w3 MA m := by rw [hw3]; exact M2.drew
      have T3 : Tab w3 := by rw [hw3]; exact T2.drew 1
      have a3 : w3.heap[st']? = some (.cells #[.int .i64 a, .int .i64 p] 128 (0, 0)) := by rw [hw3]; exact a1
      have D3 : Hid (EntAt w3 D ev wb et ef) := by rw [hw3]; exact hD3
      clear hw3 U h2 M2 T2 a1 hD3
      have c0 := h3.c0
      obtain ⟨b0, b1⟩ := box2 a3
      repeat (first | (with_reducible refine wpStill_load_sz rfl 34 (.tmp 7) rfl D 0 rfl [.bool ev, .bool wb, .bool et, .int .i64 ef] _ D3.out.range Tryd.underlying34 rfl 4 (ent_len _ _ _ _) size_ent ?_) | still_step)
      refine wpStill_nil ?_
      go_wp2_with fail
      refine (wput_any MA m a p ⟨ev, wb, et, ef⟩ _ M3 T3 Hw.out).mono ?_
      rintro z w4 ⟨rfl, M4, u4⟩
      go_wp2
      go_ret
      have := (U3.mono (T := (· = m.B)) (fun _ _ x => x.elim)).trans u4
      first | exact .inr ⟨rfl, rfl, M4, this⟩ | exact ⟨rfl, rfl, M4, this⟩ | exact ⟨rfl, M4, this⟩
    · go_wp2
      go_ret
      first | exact .inl ⟨hX, rfl, u8⟩ | exact ⟨hX, rfl, u8⟩ | exact ⟨rfl, u8⟩
end Go.Proofs.YtfdnfllefednjaaDoor

/-
  Package tables: link, over the words of the memory.
-/
namespace Go.Proofs.YtfdnfllefednjaaDoor
open Go.ChangeShapes Go.WideShapes Go.ChangeAt Go.RowKit Go.Shelf

/-- the first j tables linked: the memory behind it, and in which frame the next entry is put -/
def Mem.lk (m : Mem) (a q : Int) (n0 : Nat) (c : List Nat) : Nat → Mem × Int
  | 0 => (m, a)
  | j + 1 => ((m.lk a q n0 c j).1.put (m.lk a q n0 c j).2 (idxI q ((n0 + j : Nat) : Int)) (tbE (c.getD j 0 : Nat)), (c.getD j 0 : Nat))
theorem Mem.lk_B (m : Mem) (a q : Int) (n0 : Nat) (c : List Nat) : ∀ j, (m.lk a q n0 c j).1.B = m.B
  | 0 => rfl
  | j + 1 => by rw [Mem.lk, Mem.put_B, m.lk_B a q n0 c j]
theorem two_set {w : World} {b t : Nat} {x y : Value} (h : w.heap[b]? = some (.cells #[x, y] t (0, 0))) (x' y' : Value) : (w.setCells b 0 [x', y']).heap[b]? = some (.cells #[x', y'] t (0, 0)) := by
  have := heap_setCells_same b _ [x', y'] 0 w [x, y] h (by simp)
  rw [this, splice_all _ _ (by simp)]
theorem Tab.ne2 {w : World} (T : Tab w) {b t : Nat} {x y : Value} (h : w.heap[b]? = some (.cells #[x, y] t (0, 0))) : ¬ 0 = b := by
  intro e
  have h1 := (T 8 (by omega)).1
  rw [e, cell_of_row w b _ _ _ _ h] at h1
  simp at h1
theorem two_there {w : World} {b t : Nat} {x y : Value} (h : w.heap[b]? = some (.cells #[x, y] t (0, 0))) : w.there b 0 2 := fun j hj => by
  obtain ⟨a1, a2⟩ := box2 h
  match j, hj with
  | 0, _ => exact ⟨by rw [a1]; rfl, by unfold World.frozen?; rw [h]; simp⟩
  | 1, _ => exact ⟨by rw [a2]; rfl, by unfold World.frozen?; rw [h]; simp⟩
theorem ret_two {fn : Func} {p : Tmp} (h : fn.results = #[.cell p 128]) (tmps : Array Value) (w : World) (b : Nat) (x y : Int) (hp : tmps.getD p undef = .pointer (some ⟨b, 0, none⟩)) (he : w.heap[b]? = some (.cells #[.int .i64 x, .int .i64 y] 128 (0, 0))) :
    (results fn tmps).run Tryd.prog w = .ok (.agg #[.int .i64 x, .int .i64 y]) w :=
  results_cell_row h tmps w b _ _ _ _ hp he Tryd.underlying128 rfl (by kernel_rfl)

set_option maxRecDepth 100000 in
set_option maxHeartbeats 1000000 in
theorem link_any (S MA A : Nat) (root : Int) (m : Mem) (q a : Int) (n0 k cap capc g : Nat) (oc : Option Addr) (c : List Nat) (w : World) (h : SpAt w S MA A root) (hm : MemAt w MA m) (T : Tab w)
    (d0 : w.cell? ⟨g, n0 * 2, none⟩ = some (.int .i64 a)) (d1 : w.cell? ⟨g, n0 * 2 + 1, none⟩ = some (.int .i64 (idxI q n0))) (hS : S ≠ m.B)
    (hc : ∀ i, i < k → ∃ b, oc = some ⟨b, 0, none⟩ ∧ ¬ b = m.B ∧ w.cell? ⟨b, i, none⟩ = some (.int .i64 (c.getD i 0 : Nat))) (hk : n0 + k ≤ 2) (hcb : ∀ i, c.getD i 0 ≤ 256) :
    Calls Tryd.prog 68 #[.pointer (some ⟨S, 0, none⟩), .int .i64 q, .slice (some ⟨g, 0, none⟩) (n0 + 1) cap, .slice oc k capc] w fun e w' =>
      e = .returned (.agg #[.int .i64 (m.lk a q n0 c k).2, .int .i64 (idxI q ((n0 + k : Nat) : Int))]) ∧ MemAt w' MA (m.lk a q n0 c k).1 ∧ Upd (· = m.B) w w' := by
  have hkk : (n0 : Int) + 1 - 1 = n0 := by omega
  have hw1 : IntKind.i64.wrap ((n0 : Int) + 1 - 1) = n0 := by rw [hkk, IntWalk.i64_in _ (by omega)]
  have hw2 : IntKind.i64.wrap (n0 : Int) = n0 := IntWalk.i64_in _ (by omega)
  have hBw := lt_of_heap hm.body
  have i0 : (n0 : Int) < (n0 : Int) + 1 := by omega
  have i1 : (0 : Int) ≤ n0 := by omega
  have hcc := Lib.hid hc
  have U1 := (Upd.refl (fun _ => False) w).alloc (.cells #[.int .i64 0, .int .i64 0] 128)
  have d0' := U1.cell d0 id
  have d1' := U1.cell d1 id
  have r0 := heap_alloc_last w (.cells #[.int .i64 0, .int .i64 0] 128)
  clear hc d0 d1
  go_enter Tryd.func68, Tryd.ntmps68
  go_upto_region 1 with fail
  generalize w.alloc (.cells #[.int .i64 0, .int .i64 0] 128) = w1 at U1 d0' d1' r0 ⊢
  have hs1 := U1.size
  generalize eR : w.heap.size = R at r0 hs1 hBw ⊢
  have hR := Lib.hid (Nat.le_of_eq eR)
  clear eR
  go_upto_region 2 with fail
  have a1 := heap_alloc_last w1 (.cells #[.int .i64 a, .int .i64 (idxI q n0)] 128)
  have a2 := (Upd.refl (fun _ => False) w1).alloc (.cells #[.int .i64 a, .int .i64 (idxI q n0)] 128)
  have U2 := (U1.trans a2).mono (T := (· = m.B)) (fun _ _ x => x.elim)
  have r2 := a2.at r0 id
  have hM2 := hm.kept (U1.trans a2) id id
  have T2 := T.kept (U1.trans a2)
  have h2 := h.kept (U1.trans a2) id
  have hrl := lt_of_heap r0
  have hX := Lib.hid (show ¬ w1.heap.size = m.B ∧ ¬ R = m.B ∧ ¬ R = w1.heap.size ∧ R ≤ w1.heap.size from by omega)
  clear a2 U1 d0' d1' r0 hm T h hs1 hrl
  generalize w1.alloc (.cells #[.int .i64 a, .int .i64 (idxI q n0)] 128) = w2 at a1 U2 r2 hM2 T2 h2 ⊢
  generalize w1.heap.size = X at a1 hX ⊢
  clear w1
  go_wp2_with fail
  go_loopw [22] (fun t wr => ∃ j : Nat, j ≤ k ∧ t = .int .i64 j ∧ MemAt wr MA (m.lk a q n0 c j).1 ∧ wr.heap[X]? = some (.cells #[.int .i64 (m.lk a q n0 c j).2, .int .i64 (idxI q ((n0 + j : Nat) : Int))] 128 (0, 0)) ∧ wr.heap[R]? = some (.cells #[.int .i64 0, .int .i64 0] 128 (0, 0)) ∧ Tab wr ∧ SpAt wr S MA A root ∧ Upd (· = m.B) w wr) (fun t _ => k - (intOf t).toNat)
  case atStart => exact ⟨0, by omega, rfl, hM2, a1, r2, T2, h2, U2⟩
  case round =>
    obtain ⟨j, hj, rfl, hM, ha, hr, hT, hs, hU⟩ := hrel
    clear hM2 a1 r2 T2 h2 U2
    by_cases hlt : j < k
    · obtain ⟨b, rfl, hb, hcell⟩ := hcc.out j hlt
      have hcell' := hU.cell hcell hb
      have hlk := Lib.hid (m.lk_B a q n0 c j)
      have hstep : Hid (m.lk a q n0 c (j + 1) = ((m.lk a q n0 c j).1.put (m.lk a q n0 c j).2 (idxI q ((n0 + j : Nat) : Int)) (tbE (c.getD j 0 : Nat)), ((c.getD j 0 : Nat) : Int))) := Lib.hid rfl
      have hcb' := Lib.hid (hcb j)
      clear hcell hcb
      generalize c.getD j 0 = f at hcell' hstep hcb' ⊢
      generalize m.lk a q n0 c j = L at hM ha hlk hstep ⊢
      obtain ⟨M, y⟩ := L
      dsimp only at hM ha hlk hstep ⊢
      generalize hpl : idxI q ((n0 + j : Nat) : Int) = pl at ha hstep ⊢
      have Hpl := Lib.hid hpl
      clear hpl
      go_upto_region 5 with fail
      refine wp_region_tail 10 (by kernel_rfl) (by kernel_rfl) ?_
      simp only [List.take_succ_cons, List.take_zero, List.drop_succ_cons, List.drop_zero]
      intro w3 hw3
      have U3 : Upd (· = m.B) w w3 := by rw [hw3]; exact hU.drew
      have h3 : SpAt w3 S MA A root := by rw [hw3]; exact hs
      have M3 : MemAt w3 MA M := by rw [hw3]; exact hM.drew
      have T3 : Tab w3 := by rw [hw3]; exact hT.drew 1
      have a3 : w3.heap[X]? = some (.cells #[.int .i64 y, .int .i64 pl] 128 (0, 0)) := by rw [hw3]; exact ha
      have r3 : w3.heap[R]? = some (.cells #[.int .i64 0, .int .i64 0] 128 (0, 0)) := by rw [hw3]; exact hr
      clear hw3 hU hs hM hT ha hr
      have c0 := h3.c0
      obtain ⟨b0, b1⟩ := box2 a3
      repeat still_step
      refine wpStill_nil ?_
      go_wp2_with fail
      refine (wput_any MA M y pl ⟨true, false, true, f⟩ _ M3 T3 (wf_frame hcb'.out)).mono ?_
      rintro z w4 ⟨rfl, M4, u4⟩
      rw [hlk.out] at u4
      have T4 := T3.keptS u4 (by rw [← hlk.out]; exact T3.apart M3)
      have h4 := h3.kept u4 hS
      have a4 := u4.at a3 hX.out.1
      have r4 := u4.at r3 hX.out.2.1
      have U4 := U3.trans u4
      clear u4 a3 r3 h3 T3 M3 U3 c0 b0 b1
      go_wp2_with fail
      refine (eindex_any q ((n0 : Int) + 1 + (j : Int)) w4 T4).mono ?_
      rintro z w5 ⟨rfl, n5, rfl⟩
      have ei : Hid (idxI q ((n0 : Int) + 1 + (j : Int)) = idxI q ((n0 + (j + 1) : Nat) : Int)) := Lib.hid (by rw [show (n0 : Int) + 1 + (j : Int) = ((n0 + (j + 1) : Nat) : Int) from by omega])
      generalize idxI q ((n0 : Int) + 1 + (j : Int)) = i5 at ei ⊢
      have a5 : (w4.drewN n5).heap[X]? = _ := a4
      go_wp2_with (with_reducible refine wpList_store_sz rfl 128 (.tmp 9) (.tmp 49) rfl X 0 #[.int .i64 f, .int .i64 i5] rfl rfl 2 rfl (two_there a5) size_step (two_one _ _) [.int .i64 f, .int .i64 i5] rfl ?_)
      have u6 := Upd.setCells (S := (· = X)) (.inl rfl) [.int .i64 f, .int .i64 i5] 0 (Upd.refl (· = X) (w4.drewN n5))
      go_roundw
      case rel =>
        refine ⟨j + 1, by omega, by go_num, ?_, ?_, ?_, ?_, ?_, ?_⟩
        · rw [hstep.out]
          exact MemAt.kept (S := (· = X)) (M4.kept ((Upd.refl (fun _ => False) w4).drewN n5) id id) u6 (by rintro rfl; rw [M4.head] at a4; simp at a4) (by rw [Mem.put_B, hlk.out]; exact fun e => hX.out.1 e.symm)
        · rw [hstep.out, ← ei.out]
          exact two_set a5 _ _
        · exact u6.at r4 hX.out.2.2.1
        · exact Tab.keptS (T4.kept ((Upd.refl (fun _ => False) w4).drewN n5)) u6 (T4.ne2 a4)
        · exact SpAt.kept (h4.kept ((Upd.refl (fun _ => False) w4).drewN n5) id) u6 (by rintro rfl; have h4' : w4.heap[S]? = _ := h4; rw [h4'] at a4; simp at a4)
        · exact Upd.setCells (.inr (Nat.le_trans hR.out hX.out.2.2.2)) _ _ (U4.drewN n5)
      case measure => simp [intOf]; omega
    · obtain rfl : j = k := by omega
      go_wp2_with first
        | (with_reducible refine wpList_load_sz rfl 128 (.tmp 9) rfl X 0 rfl [.int .i64 (m.lk a q n0 c j).2, .int .i64 (idxI q ((n0 + j : Nat) : Int))] _ (row_range ha) Tryd.underlying128 rfl 2 rfl size_step ?_)
        | (with_reducible refine wpList_store_sz rfl 128 (.tmp 8) (.tmp 51) rfl R 0 #[.int .i64 (m.lk a q n0 c j).2, .int .i64 (idxI q ((n0 + j : Nat) : Int))] rfl rfl 2 rfl (two_there hr) size_step (two_one _ _) [.int .i64 (m.lk a q n0 c j).2, .int .i64 (idxI q ((n0 + j : Nat) : Int))] rfl ?_)
      (try simp only [Exit.inBlock, Exit.then])
      have u6 := Upd.setCells (S := (· = R)) (.inl rfl) [.int .i64 (m.lk a q n0 c j).2, .int .i64 (idxI q ((n0 + j : Nat) : Int))] 0 (Upd.refl (· = R) wr)
      refine bodyPost_ret (ret_two rfl _ _ R _ _ rfl (two_set hr _ _)) rfl ⟨rfl, ?_, Upd.setCells (.inr hR.out) _ _ hU⟩
      exact hM.kept u6 (by rintro rfl; rw [hM.head] at hr; simp at hr) (by rw [m.lk_B]; exact fun e => hX.out.2.1 e.symm)
end Go.Proofs.YtfdnfllefednjaaDoor
