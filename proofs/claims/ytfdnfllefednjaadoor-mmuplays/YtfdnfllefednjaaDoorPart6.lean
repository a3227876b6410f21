/-
  Texts that the laws stand on, joined: MmE, MmF, TlR, TlS, TlU, TlTn, TlT, WkR, WkS, WkT, WkU.
-/
import Derived.Test.YtfdnfllefednjaaDoorPart5

/-
  Package mmu: a unit with its memory and its buffer; the laws' own beginning.
-/
namespace Go.Proofs.YtfdnfllefednjaaDoor
open Go.ChangeShapes Go.WideShapes Go.ChangeAt Go.RowKit Go.Shelf

theorem uM_good {m : Mem} (hk : m.ok) (h : m.good) (B : Buf) (root asid addr v at' : Int) (h0 : 0 ≤ v) (h1 : v < 18446744073709551616) : (uM m B root asid addr v at').good := by
  unfold uM
  split
  · exact m.wr_good hk h _ _ h0 h1
  · exact h
/-- which blocks are which -/
structure UNe (U MA BA MB : Nat) : Prop where
  ub : U ≠ BA
  mb : MA ≠ BA
  wb : MB ≠ BA
  uw : U ≠ MB
  um : U ≠ MA
  fb : ¬ 0 = BA
  fu : ¬ 0 = U
/-- a unit, its memory and its buffer -/
structure Mmu (w : World) (U MA BA MB : Nat) (root asid : Int) (m : Mem) (B : Buf) : Prop where
  un : UnAt w U MA BA root asid
  me : MemAt w MA m
  bu : BufAt w BA B
  T : Tab w
  g : m.good
  bo : B.Ok
  e : m.B = MB
  ne : UNe U MA BA MB
theorem Mmu.kept {S : Nat → Prop} {w w' : World} {U MA BA MB : Nat} {root asid : Int} {m : Mem} {B : Buf} (h : Mmu w U MA BA MB root asid m B) (u : Upd S w w') (h1 : ¬ S U) (h2 : ¬ S MA) (h3 : ¬ S BA) (h4 : ¬ S MB) (h5 : ¬ S 0) : Mmu w' U MA BA MB root asid m B :=
  ⟨h.un.kept u h1, h.me.kept u h2 (by rw [h.e]; exact h4), h.bu.kept u h3, h.T.keptS u h5, h.g, h.bo, h.e, h.ne⟩
theorem Mmu.still {w w' : World} {U MA BA MB : Nat} {root asid : Int} {m : Mem} {B : Buf} (h : Mmu w U MA BA MB root asid m B) (u : Upd (fun _ => False) w w') : Mmu w' U MA BA MB root asid m B := h.kept u id id id id id
/-- what a unit's calls turn -/
def MmS (U BA MB : Nat) : Nat → Prop := fun k => k = U ∨ k = BA ∨ k = MB
theorem Mmu.lts {w : World} {U MA BA MB : Nat} {root asid : Int} {m : Mem} {B : Buf} (h : Mmu w U MA BA MB root asid m B) : ∀ k, MmS U BA MB k → k < w.heap.size := by
  have l1 := h.un.lt
  have l2 := h.bu.lt
  have l3 := lt_of_heap h.me.body
  rw [h.e] at l3
  unfold MmS
  rintro k (rfl | rfl | rfl) <;> omega
theorem Mmu.mne {w : World} {U MA BA MB : Nat} {root asid : Int} {m : Mem} {B : Buf} (h : Mmu w U MA BA MB root asid m B) : MA ≠ MB ∧ ¬ 0 = MB := ⟨by rw [← h.e]; exact h.me.ne, by rw [← h.e]; exact h.T.apart h.me⟩
theorem Mmu.find {w : World} {U MA BA MB : Nat} {root asid : Int} {m : Mem} {B : Buf} (h : Mmu w U MA BA MB root asid m B) (addr : Int) (wr : Bool) (at' : Int) :
    Calls Tryd.prog 23 #[.pointer (some ⟨U, 0, none⟩), .int .i64 addr, .bool wr, .int .i64 at'] w fun e w' => e = .returned (.tuple #[.int .i64 (uF m B root asid addr wr at'), .int .i64 (uO m B root asid addr wr at'), .int .i64 (uX m B root asid addr wr at')]) ∧ Mmu w' U MA BA MB root asid m (uB m B root asid addr at') ∧ Upd (MmS U BA MB) w w' := by
  have n := h.ne
  refine (ufind_any U MA BA root asid addr wr at' m B h.bo w h.un h.me h.bu h.T h.g n.ub n.mb (by rw [h.e]; exact n.wb)).mono ?_
  rintro e w' ⟨rfl, b, u⟩
  exact ⟨rfl, ⟨h.un.kept u n.ub, h.me.kept u n.mb (by rw [h.e]; exact n.wb), b, h.T.keptS u n.fb, h.g, uB_ok h.bo _ _ _ _, h.e, n⟩, u.mono fun _ _ e => .inr (.inl e)⟩
theorem Mmu.load {w : World} {U MA BA MB : Nat} {root asid : Int} {m : Mem} {B : Buf} (h : Mmu w U MA BA MB root asid m B) (addr at' : Int) :
    Calls Tryd.prog 13 #[.pointer (some ⟨U, 0, none⟩), .int .i64 addr, .int .i64 at'] w fun e w' => e = .returned (.tuple #[.int .u64 (uW m B root asid addr at'), .int .i64 (uX m B root asid addr false at')]) ∧ Mmu w' U MA BA MB root asid m (uB m B root asid addr at') ∧ Upd (MmS U BA MB) w w' := by
  have n := h.ne
  refine (uload_any U MA BA root asid addr at' m B h.bo w h.un h.me h.bu h.T h.g n.ub n.mb (by rw [h.e]; exact n.wb)).mono ?_
  rintro e w' ⟨rfl, b, u⟩
  exact ⟨rfl, ⟨h.un.kept u n.ub, h.me.kept u n.mb (by rw [h.e]; exact n.wb), b, h.T.keptS u n.fb, h.g, uB_ok h.bo _ _ _ _, h.e, n⟩, u.mono fun _ _ e => .inr (.inl e)⟩
theorem Mmu.store {w : World} {U MA BA MB : Nat} {root asid : Int} {m : Mem} {B : Buf} (h : Mmu w U MA BA MB root asid m B) (addr v at' : Int) (h0 : 0 ≤ v) (h1 : v < 18446744073709551616) :
    Calls Tryd.prog 15 #[.pointer (some ⟨U, 0, none⟩), .int .i64 addr, .int .u64 v, .int .i64 at'] w fun e w' => e = .returned (.int .i64 (uX m B root asid addr true at')) ∧ Mmu w' U MA BA MB root asid (uM m B root asid addr v at') (uB m B root asid addr at') ∧ Upd (MmS U BA MB) w w' := by
  have n := h.ne
  have hk := h.me.okm
  have he := h.e
  refine (ustore_any U MA BA root asid addr v at' m B h.bo w h.un h.me h.bu h.T h.g n.ub n.mb (by rw [h.e]; exact n.wb) (by rw [h.e]; exact n.uw)).mono ?_
  rintro e w' ⟨rfl, b, mm, u⟩
  exact ⟨rfl, ⟨h.un.kept u (by rw [he]; have := n.ub; have := n.uw; omega), mm, b, h.T.keptS u (by have := n.fb; have := h.mne.2; rw [he]; omega), uM_good hk h.g B root asid addr v at' h0 h1, uB_ok h.bo _ _ _ _, by rw [uM_B]; exact he, n⟩, u.mono fun _ _ e => by unfold MmS; rw [he] at e; omega⟩
theorem Mmu.use {w : World} {U MA BA MB : Nat} {root asid : Int} {m : Mem} {B : Buf} (h : Mmu w U MA BA MB root asid m B) (r a : Int) :
    Calls Tryd.prog 18 #[.pointer (some ⟨U, 0, none⟩), .int .i64 r, .int .i64 a] w fun e w' => e = .returned (.int .i64 (if useB m r a = true then 0 else 1)) ∧ Mmu w' U MA BA MB (if useB m r a = true then r else root) (if useB m r a = true then a else asid) m B ∧ Upd (MmS U BA MB) w w' := by
  have n := h.ne
  refine (uuse_any U MA BA root asid r a m w h.un h.me).mono ?_
  rintro e w' ⟨rfl, x, u⟩
  exact ⟨rfl, ⟨x, h.me.kept u (Ne.symm n.um) (by rw [h.e]; exact Ne.symm n.uw), h.bu.kept u (Ne.symm n.ub), h.T.keptS u n.fu, h.g, h.bo, h.e, n⟩, u.mono fun _ _ e => .inl e⟩
/-- the laws' own tables -/
def Mem.parts (m : Mem) : Mem := (((m.put 0 0 ⟨true, false, true, 1⟩).put 1 0 ⟨true, false, true, 2⟩).put 2 0 ⟨true, true, false, 4⟩).put 2 1 ⟨true, false, false, 5⟩
theorem Mem.parts_B (m : Mem) : m.parts.B = m.B := by unfold Mem.parts; rw [Mem.put_B, Mem.put_B, Mem.put_B, Mem.put_B]
theorem Mem.parts_n (m : Mem) : m.parts.n = m.n := by unfold Mem.parts; rw [Mem.put_n, Mem.put_n, Mem.put_n, Mem.put_n]
theorem Mem.parts_ok (m : Mem) (h : m.ok) : m.parts.ok := Mem.put_ok _ (Mem.put_ok _ (Mem.put_ok _ (Mem.put_ok _ h ..) ..) ..) ..
theorem Mem.parts_good (m : Mem) (h : m.ok) (hg : m.good) : m.parts.good := by
  have h1 := m.put_good h hg 0 0 ⟨true, false, true, 1⟩
  have k1 := m.put_ok h 0 0 ⟨true, false, true, 1⟩
  have h2 := Mem.put_good _ k1 h1 1 0 ⟨true, false, true, 2⟩
  have k2 := Mem.put_ok _ k1 1 0 ⟨true, false, true, 2⟩
  have h3 := Mem.put_good _ k2 h2 2 0 ⟨true, true, false, 4⟩
  have k3 := Mem.put_ok _ k2 2 0 ⟨true, true, false, 4⟩
  exact Mem.put_good _ k3 h3 2 1 ⟨true, false, false, 5⟩
set_option maxHeartbeats 1000000 in
theorem uparts_any (A : Nat) (m : Mem) (w : World) (h : MemAt w A m) (T : Tab w) :
    Calls Tryd.prog 42 #[.pointer (some ⟨A, 0, none⟩)] w fun e w' => e = .returned (.tuple #[]) ∧ MemAt w' A m.parts ∧ Tab w' ∧ Upd (· = m.B) w w' := by
  have c1 := Lib.hid (fun m W (h : MemAt W A m) T => wput_any A m 0 0 ⟨true, false, true, 1⟩ W h T (by decide))
  have c2 := Lib.hid (fun m W (h : MemAt W A m) T => wput_any A m 1 0 ⟨true, false, true, 2⟩ W h T (by decide))
  have c3 := Lib.hid (fun m W (h : MemAt W A m) T => wput_any A m 2 0 ⟨true, true, false, 4⟩ W h T (by decide))
  have c4 := Lib.hid (fun m W (h : MemAt W A m) T => wput_any A m 2 1 ⟨true, false, false, 5⟩ W h T (by decide))
  go_enter Tryd.func42, Tryd.ntmps42
  go_wp2_with fail
  refine (c1.out _ _ h T).mono ?_
  rintro e w1 ⟨rfl, h1, u1⟩
  have T1 := T.keptS u1 (T.apart h)
  go_wp2_with fail
  refine (c2.out _ _ h1 T1).mono ?_
  rintro e w2 ⟨rfl, h2, u2⟩
  have T2 := T1.keptS u2 (T1.apart h1)
  rw [Mem.put_B] at u2
  go_wp2_with fail
  refine (c3.out _ _ h2 T2).mono ?_
  rintro e w3 ⟨rfl, h3, u3⟩
  have T3 := T2.keptS u3 (T2.apart h2)
  rw [Mem.put_B, Mem.put_B] at u3
  go_wp2_with fail
  refine (c4.out _ _ h3 T3).mono ?_
  rintro e w4 ⟨rfl, h4, u4⟩
  have T4 := T3.keptS u4 (T3.apart h3)
  rw [Mem.put_B, Mem.put_B, Mem.put_B] at u4
  go_wp2
  go_end0
  exact ⟨rfl, h4, T4, ((u1.trans u2).trans u3).trans u4⟩
/-- blocks that are new -/
structure UNew (N U MA BA MB : Nat) : Prop where
  u : N ≤ U
  m : N ≤ MA
  b : N ≤ BA
  w : N ≤ MB
set_option maxHeartbeats 2000000 in
theorem ubegun_any (w : World) (T : Tab w) :
    Calls Tryd.prog 8 #[] w fun e w' => ∃ U MA BA MB, e = .returned (.tuple #[.pointer (some ⟨MA, 0, none⟩), .pointer (some ⟨BA, 0, none⟩), .pointer (some ⟨U, 0, none⟩)]) ∧ Mmu w' U MA BA MB 0 1 (memNew MB 8).parts buf0 ∧ UNew w.heap.size U MA BA MB ∧ Upd (fun _ => False) w w' := by
  go_enter Tryd.func8, Tryd.ntmps8
  go_wp2_with fail
  refine (new_yes 8 _ (by omega) (by omega)).mono ?_
  rintro e w1 ⟨rfl, h1, u1, s1⟩
  have H1 := Lib.hid h1
  have V1 := Lib.hid u1
  have S1 := Lib.hid s1
  clear h1 u1 s1
  go_wp2_with fail
  refine (tnew_any w1).mono ?_
  rintro e w2 ⟨BA, rfl, hBA, b2, u2⟩
  have HB := Lib.hid hBA
  have B2 := Lib.hid b2
  have V2 := Lib.hid u2
  clear hBA b2 u2
  generalize hMA : w.heap.size + 1 = MA at H1 ⊢
  have HMA := Lib.hid hMA
  clear hMA
  go_wp2_with fail
  refine (unew_any MA BA w2).mono ?_
  rintro e w3 ⟨rfl, x3, u3⟩
  have X3 := Lib.hid x3
  have V3 := Lib.hid u3
  have HU := Lib.hid (show w2.heap.size ≤ w2.heap.size from Nat.le_refl _)
  have W3 := Lib.hid ((V1.out.trans V2.out).trans u3)
  have M3 := Lib.hid (H1.out.kept (V2.out.trans u3) id id)
  have T3 := Lib.hid (T.kept W3.out)
  have hlt := Lib.hid (show MA < w2.heap.size ∧ BA < w2.heap.size ∧ w.heap.size < w2.heap.size ∧ 0 < w.heap.size from ⟨by have := HMA.out; have := S1.out; have := V2.out.size; omega, B2.out.lt, by have := S1.out; have := V2.out.size; omega, World.block_lt_of_cell? w _ (T 0 (by omega)).1⟩)
  have hNe : Hid (UNe w2.heap.size MA BA w.heap.size ∧ UNew w.heap.size w2.heap.size MA BA w.heap.size) := Lib.hid (by
    have := hlt.out
    have := HB.out
    have := S1.out
    have := HMA.out
    exact ⟨⟨by omega, by omega, by omega, by omega, by omega, by omega, by omega⟩, ⟨by omega, by omega, by omega, by omega⟩⟩)
  have B3 := Lib.hid (B2.out.kept V3.out id)
  generalize w2.heap.size = U at X3 hNe ⊢
  clear x3 u3 V1 V2 V3 H1 B2 hlt HU HB S1 HMA
  go_wp2_with fail
  refine (uparts_any MA _ w3 M3.out T3.out).mono ?_
  rintro e w4 ⟨rfl, m4, t4, u4⟩
  have hk := Mem.new_ok w.heap.size 8
  have M4 : Mmu w4 U MA BA w.heap.size 0 0 (memNew w.heap.size 8).parts buf0 := ⟨X3.out.kept u4 hNe.out.1.uw, m4, B3.out.kept u4 (Ne.symm hNe.out.1.wb), t4, Mem.parts_good _ hk (Mem.new_good _ _), buf0_ok, Mem.parts_B _, hNe.out.1⟩
  have W4 := Lib.hid (W3.out.fresh u4 (Nat.le_refl _))
  have H4 := Lib.hid M4
  clear M4 m4 t4 u4 hk X3 B3 W3 M3 T3
  go_wp2_with fail
  refine (H4.out.use 0 1).mono ?_
  rintro e w5 ⟨rfl, h5, u5⟩
  have hu : useB (memNew w.heap.size 8).parts 0 1 = true := by kernel_rfl
  rw [hu, if_pos rfl, if_pos rfl] at h5
  go_wp2
  go_ret3
  exact ⟨U, MA, BA, w.heap.size, rfl, h5, hNe.out.2, W4.out.since u5 (by
    have := hNe.out.2
    unfold MmS
    rintro k (rfl | rfl | rfl)
    · exact this.u
    · exact this.b
    · exact this.w)⟩
end Go.Proofs.YtfdnfllefednjaaDoor

/-
  Package mmu: the laws' awake.
-/
namespace Go.Proofs.YtfdnfllefednjaaDoor
open Go.ChangeShapes Go.WideShapes Go.ChangeAt Go.RowKit Go.Shelf

/-- the memory and the buffers of awake -/
def awm (B : Nat) : Mem := (memNew B 8).parts
def awm1 (B : Nat) : Mem := uM (awm B) buf0 0 1 3 7 0
def awb1 (B : Nat) : Buf := uB (awm B) buf0 0 1 3 0
def awb2 (B : Nat) : Buf := uB (awm1 B) (awb1 B) 0 1 3 0
def awm2 (B : Nat) : Mem := uM (awm1 B) (awb2 B) 0 1 20 7 0
def awb3 (B : Nat) : Buf := uB (awm1 B) (awb2 B) 0 1 20 0
def awb4 (B : Nat) : Buf := uB (awm2 B) (awb3 B) 0 1 40 0
theorem aw_1 (B : Nat) : uX (awm B) buf0 0 1 3 true 0 = 0 := by kernel_rfl
theorem aw_2 (B : Nat) : uW (awm1 B) (awb1 B) 0 1 3 0 = 7 := by kernel_rfl
theorem aw_3 (B : Nat) : uX (awm1 B) (awb1 B) 0 1 3 false 0 = 0 := by kernel_rfl
theorem aw_4 (B : Nat) : (awm1 B).rd 67 = 7 := by kernel_rfl
theorem aw_5 (B : Nat) : uX (awm1 B) (awb2 B) 0 1 20 true 0 = 9 := by kernel_rfl
theorem aw_6 (B : Nat) : uX (awm2 B) (awb3 B) 0 1 40 false 0 = 10 := by kernel_rfl
theorem aw_7 (B : Nat) : (awb4 B).lines.length = 2 := by kernel_rfl
theorem MmS.new {N U MA BA MB : Nat} (h : UNew N U MA BA MB) : ∀ k, MmS U BA MB k → N ≤ k := by
  have := h.u
  have := h.b
  have := h.w
  unfold MmS
  rintro k (rfl | rfl | rfl) <;> omega
set_option maxHeartbeats 2000000 in
theorem uawake_any (w : World) (T : Tab w) : Calls Tryd.prog 7 #[] w fun e w' => e = .returned (.bool true) ∧ Upd (fun _ => False) w w' := by
  go_enter Tryd.func7, Tryd.ntmps7
  go_wp2_with fail
  refine (ubegun_any w T).mono ?_
  rintro e w1 ⟨U, MA, BA, MB, rfl, h1, n1, u1⟩
  have hS := Lib.hid (MmS.new n1)
  have H1 := Lib.hid (show Mmu w1 U MA BA MB 0 1 (awm MB) buf0 from h1)
  have V1 := Lib.hid u1
  clear h1 n1 u1 T
  go_wp2_with fail
  refine (H1.out.store 3 7 0 (by omega) (by omega)).mono ?_
  rintro e w2 ⟨rfl, h2, u2⟩
  have V2 := Lib.hid (V1.out.since u2 hS.out)
  have H2 := Lib.hid (show Mmu w2 U MA BA MB 0 1 (awm1 MB) (awb1 MB) from h2)
  rw [aw_1]
  clear h2 u2 H1 V1
  go_wp2_with fail
  refine (H2.out.load 3 0).mono ?_
  rintro e w3 ⟨rfl, h3, u3⟩
  have V3 := Lib.hid (V2.out.since u3 hS.out)
  have H3 := Lib.hid (show Mmu w3 U MA BA MB 0 1 (awm1 MB) (awb2 MB) from h3)
  rw [aw_2, aw_3]
  clear h3 u3 H2 V2
  go_wp2_with fail
  refine (read_any MA (awm1 MB) 67 w3 H3.out.me).mono ?_
  rintro e w4 ⟨rfl, rfl⟩
  rw [aw_4]
  go_wp2_with fail
  refine (H3.out.store 20 7 0 (by omega) (by omega)).mono ?_
  rintro e w5 ⟨rfl, h5, u5⟩
  have V5 := Lib.hid (V3.out.since u5 hS.out)
  have H5 := Lib.hid (show Mmu w5 U MA BA MB 0 1 (awm2 MB) (awb3 MB) from h5)
  rw [aw_5]
  clear h5 u5 H3 V3
  go_wp2_with fail
  refine (H5.out.load 40 0).mono ?_
  rintro e w6 ⟨rfl, h6, u6⟩
  have V6 := Lib.hid (V5.out.since u6 hS.out)
  have H6 := Lib.hid (show Mmu w6 U MA BA MB 0 1 (awm2 MB) (awb4 MB) from h6)
  rw [aw_6]
  clear h6 u6 H5 V5
  go_wp2_with fail
  refine (tlines_any BA (awb4 MB) H6.out.bo w6 H6.out.bu).mono ?_
  rintro e w7 ⟨v, rfl, r7, u7⟩
  obtain ⟨o7, c7, rfl⟩ := wk_slice r7
  rw [aw_7]
  have V7 := Lib.hid (V6.out.trans u7)
  clear r7 u7 H6 V6
  go_wp2
  go_ret
  exact ⟨rfl, V7.out⟩
end Go.Proofs.YtfdnfllefednjaaDoor

/-
  The document's own buffer (trunnionref09): where it lies; at, Find, Drop, Flush.
-/
namespace Go.Proofs.YtfdnfllefednjaaDoor
open Go.ChangeShapes Go.WideShapes Go.ChangeAt Go.RowKit Go.Shelf

def bitC (b : Bool) : List Value := [.bool b]
theorem bitC_len (b : Bool) : (bitC b).length = 1 := rfl
def rcells (L : Nat → Ln) (I : Nat → Bool) : List Value := rowC Ln.c L 8 ++ rowC bitC I 8
theorem rcells_len (L : Nat → Ln) (I : Nat → Bool) : (rcells L I).length = 40 := by
  unfold rcells; rw [List.length_append, rowC_len Ln.c_len, rowC_len bitC_len]
/-- what the cells say -/
def Rsay (L : Nat → Ln) (I : Nat → Bool) (B : Buf) : Prop := ∀ i, i < 8 → B i = if I i = true then some (L i) else none
def RBufAt (w : World) (A : Nat) (L : Nat → Ln) (I : Nat → Bool) : Prop := w.heap[A]? = some (.cells (rcells L I).toArray 45 (0, 0))
theorem RBufAt.kept {S : Nat → Prop} {w w' : World} {A : Nat} {L : Nat → Ln} {I : Nat → Bool} (h : RBufAt w A L I) (u : Upd S w w') (hs : ¬ S A) : RBufAt w' A L I := u.at h hs
theorem RBufAt.range {w : World} {A : Nat} {L : Nat → Ln} {I : Nat → Bool} (h : RBufAt w A L I) (i : Nat) (hi : i < 8) : w.rangeAt A (i * 4) [.int .i64 (L i).a, .int .i64 (L i).p, .int .i64 (L i).f, .bool (L i).w] :=
  rangeAt_of h _ (L i).c fun j hj => by
    have hj : j < 4 := hj
    unfold rcells
    rw [List.getElem?_append_left (by rw [rowC_len Ln.c_len]; omega)]
    exact rowC_at Ln.c_len L 8 i j hi hj
theorem RBufAt.bit {w : World} {A : Nat} {L : Nat → Ln} {I : Nat → Bool} (h : RBufAt w A L I) (i : Nat) (hi : i < 8) : w.cell? ⟨A, 32 + i, none⟩ = some (.bool (I i)) := by
  rw [cell_of_row w A _ _ _ _ h, List.getElem?_toArray]
  unfold rcells
  rw [List.getElem?_append_right (by rw [rowC_len Ln.c_len]; omega), rowC_len Ln.c_len]
  have := rowC_at bitC_len I 8 i 0 hi (by omega)
  rw [show 32 + i - 8 * 4 = i * 1 + 0 from by omega, this]
  rfl
theorem RBufAt.there {w : World} {A : Nat} {L : Nat → Ln} {I : Nat → Bool} (h : RBufAt w A L I) (i : Nat) (hi : i < 8) : w.there A (i * 4) 4 := there_of h _ _ (by rw [rcells_len]; omega)
theorem RBufAt.frozen {w : World} {A : Nat} {L : Nat → Ln} {I : Nat → Bool} (h : RBufAt w A L I) (i : Nat) : w.frozen? ⟨A, i, none⟩ = false := frozen_block h _
theorem RBufAt.setL {w : World} {A : Nat} {L : Nat → Ln} {I : Nat → Bool} (h : RBufAt w A L I) (i : Nat) (hi : i < 8) (a p f : Int) (r : Bool) :
    RBufAt (w.setCells A (i * 4) [.int .i64 a, .int .i64 p, .int .i64 f, .bool r]) A (fun j => if j = i then ⟨a, p, f, r⟩ else L j) I := by
  unfold RBufAt
  rw [heap_setCells_same A _ [.int .i64 a, .int .i64 p, .int .i64 f, .bool r] (i * 4) w _ h (by rw [rcells_len]; simp; omega), show [Value.int .i64 a, .int .i64 p, .int .i64 f, .bool r] = (⟨a, p, f, r⟩ : Ln).c from rfl]
  unfold rcells
  rw [← rowC_set Ln.c_len (by omega) L 8 i ⟨a, p, f, r⟩ hi]
  unfold splice
  rw [List.take_append_of_le_length (by rw [rowC_len Ln.c_len]; omega), List.drop_append_of_le_length (by rw [rowC_len Ln.c_len, Ln.c_len]; omega)]
  simp
theorem RBufAt.setI {w : World} {A : Nat} {L : Nat → Ln} {I : Nat → Bool} (h : RBufAt w A L I) (i : Nat) (hi : i < 8) (b : Bool) :
    RBufAt (w.setCell ⟨A, 32 + i, none⟩ (.bool b)) A L (fun j => if j = i then b else I j) := by
  unfold RBufAt
  rw [heap_setCell_same h]
  unfold rcells
  rw [List.set_append_right _ _ (by rw [rowC_len Ln.c_len]; omega), rowC_len Ln.c_len]
  have e : (rowC bitC I 8).set (32 + i - 8 * 4) (.bool b) = rowC bitC (fun j => if j = i then b else I j) 8 := by
    rw [← rowC_set bitC_len (by omega) I 8 i b hi, show 32 + i - 8 * 4 = i from by omega]
    apply List.ext_getElem?
    intro m
    rw [splice_at _ _ _ _ (by rw [rowC_len bitC_len, bitC_len]; omega), bitC_len, List.getElem?_set, rowC_len bitC_len]
    by_cases e : m = i
    · subst e; rw [if_pos rfl, if_pos (by omega), if_neg (by omega), if_pos (by omega), show m - m * 1 = 0 from by omega]; rfl
    · rw [if_neg (fun c => e c.symm)]
      by_cases c : m < i
      · rw [if_pos (by omega)]
      · rw [if_neg (by omega), if_neg (by omega)]
  rw [e]
theorem Rsay.hit {L : Nat → Ln} {I : Nat → Bool} {B : Buf} (h : Rsay L I B) (a p : Int) (i : Nat) (hi : i < 8) : B.hit a p i = (I i && decide ((L i).a = a) && decide ((L i).p = p)) := by
  unfold Buf.hit
  rw [h i hi]
  cases I i <;> simp
theorem Rsay.set {L : Nat → Ln} {I : Nat → Bool} {B : Buf} (h : Rsay L I B) (i : Nat) (l : Ln) : Rsay (fun j => if j = i then l else L j) (fun j => if j = i then true else I j) (B.set i (some l)) := by
  intro j hj
  unfold Buf.set
  by_cases e : j = i
  · simp [e]
  · simp [e, h j hj]
theorem Rsay.unset {L : Nat → Ln} {I : Nat → Bool} {B : Buf} (h : Rsay L I B) (i : Nat) : Rsay L (fun j => if j = i then false else I j) (B.set i none) := by
  intro j hj
  unfold Buf.set
  by_cases e : j = i
  · simp [e]
  · simp [e, h j hj]
set_option maxRecDepth 100000 in
set_option maxHeartbeats 1000000 in
theorem rat_any (A : Nat) (L : Nat → Ln) (I : Nat → Bool) (B : Buf) (hS : Rsay L I B) (a p : Int) (w : World) (hA : RBufAt w A L I) :
    Calls Tryd.prog 58 #[.pointer (some ⟨A, 0, none⟩), .int .i64 a, .int .i64 p] w fun e w' => e = .returned (.int .i64 (ixI (B.at a p))) ∧ w = w' := by
  go_enter Tryd.func58, Tryd.ntmps58
  go_wp2_with fail
  go_loopw [7] (fun t wr => ∃ k : Nat, k ≤ 8 ∧ t = .int .i64 k ∧ w = wr ∧ Hid (∀ j, j < k → B.hit a p j = false)) (fun t _ => 8 - (intOf t).toNat)
  case atStart => exact ⟨0, by omega, rfl, rfl, Lib.hid (by omega)⟩
  case round =>
    obtain ⟨k, hk, rfl, rfl, hno⟩ := hrel
    by_cases hlt : k < 8
    · have b0 := hA.bit k hlt
      have r0 := hA.range k hlt 0 _ rfl
      have r1 := hA.range k hlt 1 _ rfl
      rw [Nat.add_zero] at r0
      have hh := Lib.hid (hS.hit a p k hlt)
      generalize hIk : I k = Ik at b0 hh
      clear hIk
      generalize (L k).a = la at r0 hh
      generalize (L k).p = lp at r1 hh
      have hyes : Hid (B.hit a p k = true → B.at a p = k) := Lib.hid (fun h => first_of hlt h hno.out)
      have hnoX : Hid (B.hit a p k = false → ∀ j, j < k + 1 → B.hit a p j = false) := Lib.hid (fun h j hj => by
        by_cases e : j = k
        · rw [e]; exact h
        · exact hno.out j (by omega))
      generalize B.hit a p k = H at hh hyes hnoX
      clear hno hS
      cases Ik
      · obtain rfl : H = false := by rw [hh.out]; rfl
        go_wp2
        go_roundw
        case rel => exact ⟨k + 1, by omega, by go_num, trivial, Lib.hid (hnoX.out rfl)⟩
        case measure => simp [intOf]; omega
      · by_cases h1 : la = a
        · by_cases h2 : lp = p
          · obtain rfl : H = true := by rw [hh.out]; simp [h1, h2]
            have hx := hyes.out rfl
            have hix : Hid (ixI (B.at a p) = k) := Lib.hid (by rw [hx]; unfold ixI; rw [if_pos hlt])
            subst h1 h2
            clear hh hyes hnoX hx
            go_wp2
            go_ret
            exact ⟨by rw [hix.out]; rfl, rfl⟩
          · obtain rfl : H = false := by rw [hh.out]; simp [h2]
            go_wp2
            go_roundw
            case rel => exact ⟨k + 1, by omega, by go_num, trivial, Lib.hid (hnoX.out rfl)⟩
            case measure => simp [intOf]; omega
        · obtain rfl : H = false := by rw [hh.out]; simp [h1]
          go_wp2
          go_roundw
          case rel => exact ⟨k + 1, by omega, by go_num, trivial, Lib.hid (hnoX.out rfl)⟩
          case measure => simp [intOf]; omega
    · obtain rfl : k = 8 := by omega
      have hx : Hid (ixI (B.at a p) = -1) := Lib.hid (by
        have : B.at a p = 8 := first_all hno.out
        rw [this]; rfl)
      clear hno
      go_wp2
      go_ret
      exact ⟨by rw [hx.out]; rfl, rfl⟩
end Go.Proofs.YtfdnfllefednjaaDoor

/-
  The document's own buffer (trunnionref09): Find, Drop, Flush, Put.
-/
namespace Go.Proofs.YtfdnfllefednjaaDoor
open Go.ChangeShapes Go.WideShapes Go.ChangeAt Go.RowKit Go.Shelf

/-- the document's own buffer says B -/
def RB (w : World) (A : Nat) (B : Buf) : Prop := ∃ L I, Rsay L I B ∧ RBufAt w A L I
theorem RB.kept {S : Nat → Prop} {w w' : World} {A : Nat} {B : Buf} (h : RB w A B) (u : Upd S w w') (hs : ¬ S A) : RB w' A B := by
  obtain ⟨L, I, h1, h2⟩ := h
  exact ⟨L, I, h1, h2.kept u hs⟩
theorem RB.lt {w : World} {A : Nat} {B : Buf} (h : RB w A B) : A < w.heap.size := by
  obtain ⟨L, I, _, h2⟩ := h
  exact lt_of_heap h2
theorem Rsay.zero : Rsay (fun _ => ln0) (fun _ => false) buf0 := fun i _ => rfl
set_option maxRecDepth 100000 in
set_option maxHeartbeats 1000000 in
theorem rfind_any (A : Nat) (B : Buf) (a p : Int) (w : World) (hA : RB w A B) :
    Calls Tryd.prog 61 #[.pointer (some ⟨A, 0, none⟩), .int .i64 a, .int .i64 p] w fun e w' => e = .returned (.tuple #[(lnOf (B.find a p)).val, .bool (B.find a p).isSome]) ∧ Upd (fun _ => False) w w' := by
  obtain ⟨L, I, hS, hA⟩ := hA
  have hfd : Hid (B.find a p = if B.at a p < 8 then B (B.at a p) else none) := Lib.hid rfl
  have hno : Hid (B.at a p < 8 → B (B.at a p) = some (L (B.at a p))) := Lib.hid (fun h => by
    obtain ⟨l, e, _⟩ := Buf.hit_iff.1 (first_lt (q := B.hit a p) h).1
    have e : B (B.at a p) = some l := e
    rw [hS _ h] at e ⊢
    cases hI : I (B.at a p)
    · rw [hI] at e; cases e
    · rfl)
  have k0 : Hid (LnAt (w.alloc (.cells #[.int .i64 0, .int .i64 0, .int .i64 0, .bool false] 41)) w.heap.size 0 0 0 false) := Lib.hid (heap_alloc_last w _)
  have U0 := Lib.hid ((Upd.refl (fun _ => False) w).alloc (.cells #[.int .i64 0, .int .i64 0, .int .i64 0, .bool false] 41))
  have HA := Lib.hid (hA.kept U0.out id)
  have cA := Lib.hid (fun W hA => rat_any A L I B hS a p W hA)
  clear hA hS
  generalize B.find a p = F at hfd ⊢
  generalize B.at a p = X at hfd hno cA
  go_enter Tryd.func61, Tryd.ntmps61
  go_upto_region 1 with fail
  generalize w.alloc (.cells #[.int .i64 0, .int .i64 0, .int .i64 0, .bool false] 41) = w0 at k0 U0 HA ⊢
  obtain ⟨C, hCe⟩ : ∃ C, C = w.heap.size := ⟨_, rfl⟩
  rw [← hCe] at k0 ⊢
  have hC : Hid (w.heap.size ≤ C) := Lib.hid (Nat.le_of_eq hCe.symm)
  clear hCe
  have K := k0.out.there
  go_wp2_with fail
  refine (cA.out _ HA.out).mono ?_
  rintro e w1 ⟨rfl, rfl⟩
  by_cases hI : X < 8
  · have hx : ixI X = (X : Int) := by unfold ixI; rw [if_pos hI]
    rw [hx]
    have hr := HA.out.range X hI
    have hF := Lib.hid (show F = some (L X) from by rw [hfd.out, if_pos hI, hno.out hI])
    clear hfd hx hno cA
    generalize L X = l at hF hr
    obtain ⟨la, lp, lf, lw⟩ := l
    simp only at hr
    go_wp2_with (first
      | (with_reducible refine wpList_load_sz rfl 41 (.tmp 20) rfl A (X * 4) rfl [.int .i64 la, .int .i64 lp, .int .i64 lf, .bool lw] _ hr Tryd.underlying41 rfl 4 (ln_len _ _ _ _) size_ln ?_)
      | (with_reducible refine wpList_store_sz rfl 41 (.tmp 6) (.tmp 21) rfl C 0 #[.int .i64 la, .int .i64 lp, .int .i64 lf, .bool lw] rfl rfl 4 (ln_sz _ _ _ _) K size_ln (ln_one _ _ _ _) [.int .i64 la, .int .i64 lp, .int .i64 lf, .bool lw] (ln_ls _ _ _ _) ?_))
    (try simp only [Exit.inBlock, Exit.then])
    refine bodyPost_ret (ret_ln rfl _ _ C la lp lf lw rfl (k0.out.set la lp lf lw)) rfl ⟨?_, ?_⟩
    · rw [hF.out]; rfl
    · exact Upd.setCells (.inr hC.out) _ _ U0.out
  · have hx : ixI X = -1 := by unfold ixI; rw [if_neg hI]
    rw [hx]
    have hF := Lib.hid (show F = none from by rw [hfd.out, if_neg hI])
    clear hfd hx hno cA
    go_wp2_with (with_reducible refine wpList_store_sz rfl 41 (.tmp 6) (.tmp 15) rfl C 0 #[.int .i64 0, .int .i64 0, .int .i64 0, .bool false] rfl rfl 4 (ln_sz _ _ _ _) K size_ln (ln_one _ _ _ _) [.int .i64 0, .int .i64 0, .int .i64 0, .bool false] (ln_ls _ _ _ _) ?_)
    (try simp only [Exit.inBlock, Exit.then])
    refine bodyPost_ret (ret_ln rfl _ _ C 0 0 0 false rfl (k0.out.set 0 0 0 false)) rfl ⟨?_, ?_⟩
    · rw [hF.out]; rfl
    · exact Upd.setCells (.inr hC.out) _ _ U0.out
/-- flushed as far as k -/
def Buf.flushTo (B : Buf) (a : Int) (k : Nat) : Buf := fun j => if j < k then B.flush a j else B j
theorem Buf.flushTo_zero (B : Buf) (a : Int) : B.flushTo a 0 = B := by funext j; unfold Buf.flushTo; rw [if_neg (by omega)]
theorem Buf.Ok.flushTo_all {B : Buf} (h : B.Ok) (a : Int) : B.flushTo a 8 = B.flush a := by
  funext j
  unfold Buf.flushTo
  by_cases e : j < 8
  · rw [if_pos e]
  · rw [if_neg e]
    have : B j = none := by
      cases hj : B j with
      | none => rfl
      | some l => exact absurd (h.lt j l hj) e
    unfold Buf.flush
    rw [this]
theorem Buf.flushTo_no {B : Buf} {a : Int} {k : Nat} (h : ∀ l, B k = some l → l.a ≠ a) : B.flushTo a (k + 1) = B.flushTo a k := by
  funext j
  unfold Buf.flushTo
  by_cases e : j = k
  · subst e
    rw [if_pos (by omega), if_neg (by omega)]
    unfold Buf.flush
    cases hj : B j with
    | none => rfl
    | some l => simp [h l hj]
  · by_cases c : j < k
    · rw [if_pos (by omega), if_pos c]
    · rw [if_neg (by omega), if_neg c]
theorem Buf.flushTo_yes {B : Buf} {a : Int} {k : Nat} {l : Ln} (h : B k = some l) (ha : l.a = a) : B.flushTo a (k + 1) = (B.flushTo a k).set k none := by
  funext j
  show (if j < k + 1 then B.flush a j else B j) = if j = k then none else if j < k then B.flush a j else B j
  by_cases e : j = k
  · subst e
    rw [if_pos (by omega), if_pos rfl]
    unfold Buf.flush
    rw [h]
    simp [ha]
  · rw [if_neg e]
    by_cases c : j < k
    · rw [if_pos (by omega), if_pos c]
    · rw [if_neg (by omega), if_neg c]
theorem Buf.many_no {B : Buf} {a : Int} {k : Nat} (h : ∀ l, B k = some l → l.a ≠ a) : B.many a (k + 1) = B.many a k := by
  unfold Buf.many
  rw [List.range_succ, List.filter_append]
  cases hk : B k with
  | none => simp [hk]
  | some l => simp [hk, h l hk]
theorem Buf.many_yes {B : Buf} {a : Int} {k : Nat} {l : Ln} (h : B k = some l) (ha : l.a = a) : B.many a (k + 1) = B.many a k + 1 := by
  unfold Buf.many
  rw [List.range_succ, List.filter_append]
  simp [h, ha]
theorem Buf.many_le (B : Buf) (a : Int) (k : Nat) : B.many a k ≤ k := by
  unfold Buf.many; exact Nat.le_trans (List.length_filter_le _ _) (by simp)
set_option maxRecDepth 100000 in
set_option maxHeartbeats 1000000 in
theorem rflush_any (A : Nat) (B : Buf) (hB : B.Ok) (a : Int) (w : World) (hA : RB w A B) :
    Calls Tryd.prog 20 #[.pointer (some ⟨A, 0, none⟩), .int .i64 a] w fun e w' => e = .returned (.int .i64 (B.many a 8 : Nat)) ∧ RB w' A (B.flush a) ∧ Upd (· = A) w w' := by
  have h0 : RB w A (B.flushTo a 0) := by rw [B.flushTo_zero]; exact hA
  have hall := Lib.hid (hB.flushTo_all a)
  clear hA
  go_enter Tryd.func20, Tryd.ntmps20
  go_wp2_with fail
  go_loopw [6, 5] (fun t u wr => ∃ k : Nat, k ≤ 8 ∧ t = .int .i64 k ∧ u = .int .i64 (B.many a k : Nat) ∧ RB wr A (B.flushTo a k) ∧ Upd (· = A) w wr) (fun t _ _ => 8 - (intOf t).toNat)
  case atStart => exact ⟨0, by omega, rfl, rfl, h0, Upd.refl _ _⟩
  case round =>
    obtain ⟨k, hk, rfl, rfl, hA, u⟩ := hrel
    by_cases hlt : k < 8
    · obtain ⟨L, I, hS, hA⟩ := hA
      have b0 := hA.bit k hlt
      have r0 := hA.range k hlt 0 _ rfl
      rw [Nat.add_zero] at r0
      have z0 := hA.frozen (32 + k)
      have hml := B.many_le a k
      have hBk : Hid (B k = if I k = true then some (L k) else none) := Lib.hid (by
        rw [← hS k hlt]; unfold Buf.flushTo; rw [if_neg (by omega)])
      have hm0 := Lib.hid (fun h => Buf.many_no (B := B) (a := a) (k := k) h)
      have hf0 := Lib.hid (fun h => Buf.flushTo_no (B := B) (a := a) (k := k) h)
      have hm1 := Lib.hid (fun l h ha => Buf.many_yes (B := B) (a := a) (k := k) (l := l) h ha)
      have hf1 := Lib.hid (fun l h ha => Buf.flushTo_yes (B := B) (a := a) (k := k) (l := l) h ha)
      have HA := Lib.hid hA
      have HS := Lib.hid hS
      have hun := Lib.hid (hS.unset k)
      have h2 := Lib.hid (hA.setI k hlt false)
      have U2 : Hid (Upd (· = A) w (wr.setCell ⟨A, 32 + k, none⟩ (.bool false))) := Lib.hid (u.setCell (.inl rfl) _)
      clear hA hS h0
      generalize hIk : I k = Ik at b0 hBk
      clear hIk
      generalize L k = l at r0 hBk
      cases Ik
      · have hno : ∀ l, B k = some l → l.a ≠ a := fun l h => by rw [hBk.out] at h; simp at h
        have e1 := Lib.hid (hm0.out hno)
        have e2 := Lib.hid (hf0.out hno)
        clear hno hm0 hf0 hm1 hf1 hBk
        go_wp2
        go_roundw
        case rel => exact ⟨k + 1, by omega, by go_num, by rw [e1.out], by rw [e2.out]; exact ⟨_, _, HS.out, HA.out⟩, u⟩
        case measure => simp [intOf]; omega
      · have hBk2 : B k = some l := by rw [hBk.out, if_pos rfl]
        by_cases h1 : l.a = a
        · have e1 := Lib.hid (hm1.out l hBk2 h1)
          have e2 := Lib.hid (hf1.out l hBk2 h1)
          clear hm0 hf0 hm1 hf1 hBk hBk2
          generalize l.a = la at r0 h1
          subst h1
          go_wp2
          go_roundw
          case rel => exact ⟨k + 1, by omega, by go_num, by rw [e1.out]; go_num, by rw [e2.out]; exact ⟨_, _, hun.out, h2.out⟩, U2.out⟩
          case measure => simp [intOf]; omega
        · have hno : ∀ l, B k = some l → l.a ≠ a := fun l' h => by
            rw [hBk2] at h
            obtain rfl := Option.some.inj h
            exact h1
          have e1 := Lib.hid (hm0.out hno)
          have e2 := Lib.hid (hf0.out hno)
          clear hno hm0 hf0 hm1 hf1 hBk hBk2
          generalize l.a = la at r0 h1
          go_wp2
          go_roundw
          case rel => exact ⟨k + 1, by omega, by go_num, by rw [e1.out], by rw [e2.out]; exact ⟨_, _, HS.out, HA.out⟩, u⟩
          case measure => simp [intOf]; omega
    · obtain rfl : k = 8 := by omega
      go_wp2
      go_ret
      exact ⟨rfl, by rw [← hall.out]; exact hA, u⟩
end Go.Proofs.YtfdnfllefednjaaDoor

/-
  The document's own buffer (trunnionref09): Lines; two lists of lines compared.
-/
namespace Go.Proofs.YtfdnfllefednjaaDoor
open Go.ChangeShapes Go.WideShapes Go.ChangeAt Go.RowKit Go.Shelf

set_option maxRecDepth 100000 in
set_option maxHeartbeats 1000000 in
theorem rlines_any (A : Nat) (B : Buf) (w : World) (hA : RB w A B) :
    Calls Tryd.prog 27 #[.pointer (some ⟨A, 0, none⟩)] w fun e w' => ∃ v, e = .returned v ∧ w'.ownsRow w.heap.size 41 4 v B.lines.length (lnsC B.lines) ∧ Upd (fun _ => False) w w' := by
  obtain ⟨i0, hi, hz0, hz1, hz2⟩ := info_parts info_ln
  obtain ⟨L, I, hS, hA⟩ := hA
  have HS := Lib.hid hS
  clear hS
  have h0 : w.ownsRow w.heap.size 41 4 (.slice none 0 0) (B.linesTo 0).length (lnsC (B.linesTo 0)) := rows_new w _ _ _
  go_enter Tryd.func27, Tryd.ntmps27
  go_wp2_with fail
  go_loopw [4, 3] (fun t u wr => ∃ k : Nat, k ≤ 8 ∧ t = .int .i64 k ∧ Hid (wr.ownsRow w.heap.size 41 4 u (B.linesTo k).length (lnsC (B.linesTo k))) ∧ Upd (fun _ => False) w wr) (fun t _ _ => 8 - (intOf t).toNat)
  case atStart => exact ⟨0, by omega, rfl, Lib.hid h0, Upd.refl _ _⟩
  case round =>
    obtain ⟨k, hk, rfl, hrow, hU⟩ := hrel
    clear h0
    by_cases hlt : k < 8
    · have hA1 := hA.kept hU id
      have b0 := hA1.bit k hlt
      have r0 := hA1.range k hlt
      have hln := Lib.hid (B.linesTo_len k)
      have hsz := hU.size
      obtain ⟨o, cap, rfl⟩ := rows_slice hrow.out
      have hBk := Lib.hid (HS.out k hlt)
      have hn := Lib.hid (B.linesTo_succ k)
      rw [hBk.out] at hn
      generalize hIk : I k = Ik at b0 hn
      clear hIk hBk hA1
      generalize L k = l at r0 hn
      obtain ⟨la, lp, lf, lw⟩ := l
      simp only at r0
      cases Ik
      · have hs := Lib.hid (show B.linesTo (k + 1) = B.linesTo k from by rw [hn.out]; simp)
        clear hn
        go_wp2
        go_roundw
        case rel => exact ⟨k + 1, by omega, by go_num, by rw [hs.out]; exact hrow, hU⟩
        case measure => simp [intOf]; omega
      · have hs := Lib.hid (show B.linesTo (k + 1) = B.linesTo k ++ [⟨la, lp, lf, lw⟩] from by rw [hn.out]; rfl)
        clear hn
        have hle := hln.out
        generalize hN : w.heap.size = N at hrow hsz
        generalize B.linesTo k = LK at hs hle hrow
        generalize hLn : LK.length = n at hle hrow
        generalize hLc : lnsC LK = xs at hrow
        have HU := Lib.hid hU
        clear hU
        go_wp2_with (first
          | (with_reducible refine wpList_load_sz rfl 41 (.tmp 20) rfl A (k * 4) rfl [.int .i64 la, .int .i64 lp, .int .i64 lf, .bool lw] _ r0 Tryd.underlying41 rfl 4 (ln_len _ _ _ _) size_ln ?_)
          | (at_builtin; refine wpList_append_own _ rfl _ _ 61 rfl N 41 i0 (.agg #[.int .i64 0, .int .i64 0, .int .i64 0, .bool false]) 4 32 Tryd.underlying61 hi hz0 hz1 hz2 rfl (by decide) _ _ _ rfl (rows_still hrow.out ((Upd.refl _ _).alloc _)) ⟨wr.heap.size, 0, none⟩ 1 1 [.int .i64 la, .int .i64 lp, .int .i64 lf, .bool lw] rfl rfl (rows_src _ _ _) (by simp [Value.oneCell']) (by simp [maxLen]; omega) (by omega) (by simp; omega) ?_; intro v' w4 hown' hgrow _))
        have U4 := rows_grown hrow.out hgrow HU.out (Nat.le_of_eq hN)
        refine ⟨⟨k + 1, by omega, by go_num, Lib.hid ?_, U4⟩, by simp [intOf]; omega⟩
        rw [hs.out, List.length_append, lnsC_app, hLn, hLc]
        exact hown'
    · obtain rfl : k = 8 := by omega
      go_wp2
      go_ret
      exact ⟨_, rfl, hrow.out, hU⟩
set_option maxRecDepth 100000 in
set_option maxHeartbeats 1000000 in
/-- two rows of the same lines -/
theorem lsame_any (N N' : Nat) (o o' : Option Addr) (c c' : Nat) (WL : List Ln) (n : Nat) (hn : WL.length = n) (h8 : n ≤ 8) (w : World) (h1 : w.ownsRow N 41 4 (.slice o n c) n (lnsC WL)) (h2 : w.ownsRow N' 41 4 (.slice o' n c') n (lnsC WL)) :
    Calls Tryd.prog 25 #[.slice o n c, .slice o' n c'] w fun e w' => e = .returned (.bool true) ∧ ∃ k, w' = w.drewN k := by
  have HN := Lib.hid hn
  have H1 := Lib.hid (fun (W : World) (u : Upd (fun _ => False) w W) i l hi => lns_row (L := WL) (by rw [hn]; exact rows_still h1 u) i l hi)
  have H2 := Lib.hid (fun (W : World) (u : Upd (fun _ => False) w W) i l hi => lns_row (L := WL) (by rw [hn]; exact rows_still h2 u) i l hi)
  have h9 : (n : Int) ≤ 8 := by omega
  clear h1 h2 hn
  go_enter Tryd.func25, Tryd.ntmps25
  go_wp2_with fail
  go_loopw [5] (fun t wr => ∃ k : Nat, k ≤ n ∧ t = .int .i64 k ∧ Hid (∃ q, wr = w.drewN q)) (fun t _ => n - (intOf t).toNat)
  case atStart => exact ⟨0, by omega, rfl, Lib.hid ⟨0, rfl⟩⟩
  case round =>
    obtain ⟨k, hk, rfl, hw⟩ := hrel
    by_cases hlt : k < n
    · obtain ⟨l, hl⟩ : ∃ l, WL[k]? = some l := ⟨_, List.getElem?_eq_getElem (by have := HN.out; omega)⟩
      have u : Upd (fun _ => False) w wr := by obtain ⟨q, rfl⟩ := hw.out; exact (Upd.refl _ _).drewN q
      obtain ⟨g, rfl, hr⟩ := H1.out wr.drew u.drew k l hl
      obtain ⟨g', rfl, hr'⟩ := H2.out wr.drew u.drew k l hl
      clear hl u
      obtain ⟨la, lp, lf, lw⟩ := l
      simp only at hr hr'
      have he := run_eqL la lp lf lw la lp lf lw true (by simp)
      have k0 : (0 : Int) ≤ (k : Int) := by omega
      have k1 : (k : Int) < (n : Int) := by omega
      go_upto_region 6 with fail
      refine wp_region_tail 8 (by kernel_rfl) (by kernel_rfl) ?_
      simp only [List.take_succ_cons, List.take_zero, List.drop_succ_cons, List.drop_zero]
      intro w9 hw9
      rw [← hw9] at hr hr'
      have hw10 : Hid (∃ q, w9 = w.drewN q) := Lib.hid (by obtain ⟨q, rfl⟩ := hw.out; exact ⟨q + 1, by rw [hw9]; rfl⟩)
      clear hw9 hw
      iterate 3 still_step
      with_reducible refine wpStill_load_sz rfl 41 (.tmp 19) rfl g (k * 4) rfl [.int .i64 la, .int .i64 lp, .int .i64 lf, .bool lw] _ hr Tryd.underlying41 rfl 4 (ln_len _ _ _ _) size_ln ?_
      simp only [Act.put, List.setIfInBounds_toArray, List.set_cons_succ, List.set_cons_zero]
      iterate 3 still_step
      with_reducible refine wpStill_load_sz rfl 41 (.tmp 23) rfl g' (k * 4) rfl [.int .i64 la, .int .i64 lp, .int .i64 lf, .bool lw] _ hr' Tryd.underlying41 rfl 4 (ln_len _ _ _ _) size_ln ?_
      simp only [Act.put, List.setIfInBounds_toArray, List.set_cons_succ, List.set_cons_zero]
      refine wpStill_nil ?_
      go_wp2
      go_roundw
      case rel => exact ⟨k + 1, by omega, by go_num, hw10⟩
      case measure => simp [intOf]; omega
    · obtain rfl : k = n := by omega
      go_wp2
      go_ret
      exact ⟨rfl, hw.out⟩
end Go.Proofs.YtfdnfllefednjaaDoor

/-
  The document's own buffer (trunnionref09): a Put that is refused.
-/
namespace Go.Proofs.YtfdnfllefednjaaDoor
open Go.ChangeShapes Go.WideShapes Go.ChangeAt Go.RowKit Go.Shelf

set_option maxRecDepth 100000 in
set_option maxHeartbeats 2000000 in
theorem rput_no (A : Nat) (B : Buf) (la lp lf : Int) (lw : Bool) (at' : Int) (w : World) (hA : RB w A B) (hp : ¬ (1 ≤ la ∧ la ≤ 8 ∧ 0 ≤ lp ∧ lp ≤ 4095 ∧ 0 ≤ lf ∧ lf ≤ 255 ∧ 0 ≤ at' ∧ at' ≤ 7)) :
    Calls Tryd.prog 22 #[.pointer (some ⟨A, 0, none⟩), .agg #[.int .i64 la, .int .i64 lp, .int .i64 lf, .bool lw], .int .i64 at'] w fun e w' => e = .returned (.int .i64 (errP (putOk ⟨la, lp, lf, lw⟩ at'))) ∧ RB w' A (B.put ⟨la, lp, lf, lw⟩ at') ∧ Upd (· = A) w w' := by
  have hok : putOk ⟨la, lp, lf, lw⟩ at' = false := decide_eq_false hp
  have hB2 : B.put ⟨la, lp, lf, lw⟩ at' = B := by unfold Buf.put; rw [if_neg (by rw [hok]; decide)]
  rw [hok, hB2]
  have U0 := Lib.hid ((Upd.refl (fun _ => False) w).alloc (.cells #[.int .i64 la, .int .i64 lp, .int .i64 lf, .bool lw] 41))
  have HA := Lib.hid (hA.kept U0.out id)
  clear hok hB2 hA
  have hbad : la < 1 ∨ (1 ≤ la ∧ 8 < la) ∨ (1 ≤ la ∧ la ≤ 8 ∧ lp < 0) ∨ (1 ≤ la ∧ la ≤ 8 ∧ 0 ≤ lp ∧ 4095 < lp) ∨ (1 ≤ la ∧ la ≤ 8 ∧ 0 ≤ lp ∧ lp ≤ 4095 ∧ lf < 0) ∨ (1 ≤ la ∧ la ≤ 8 ∧ 0 ≤ lp ∧ lp ≤ 4095 ∧ 0 ≤ lf ∧ 255 < lf) ∨
      (1 ≤ la ∧ la ≤ 8 ∧ 0 ≤ lp ∧ lp ≤ 4095 ∧ 0 ≤ lf ∧ lf ≤ 255 ∧ at' < 0) ∨ (1 ≤ la ∧ la ≤ 8 ∧ 0 ≤ lp ∧ lp ≤ 4095 ∧ 0 ≤ lf ∧ lf ≤ 255 ∧ 0 ≤ at' ∧ 7 < at') := by omega
  clear hp
  rcases hbad with h1 | ⟨h1, h2⟩ | ⟨h1, h2, h3⟩ | ⟨h1, h2, h3, h4⟩ | ⟨h1, h2, h3, h4, h5⟩ | ⟨h1, h2, h3, h4, h5, h6⟩ | ⟨h1, h2, h3, h4, h5, h6, h7⟩ | ⟨h1, h2, h3, h4, h5, h6, h7, h8⟩
  all_goals
    go_enter Tryd.func22, Tryd.ntmps22
    go_wp2
    go_ret
    exact ⟨rfl, HA.out, U0.out.sub⟩
end Go.Proofs.YtfdnfllefednjaaDoor

/-
  The document's own buffer (trunnionref09): Put, Lines; two lists of lines compared.
-/
namespace Go.Proofs.YtfdnfllefednjaaDoor
open Go.ChangeShapes Go.WideShapes Go.ChangeAt Go.RowKit Go.Shelf

theorem RBufAt.alloc {w : World} {A : Nat} {L : Nat → Ln} {I : Nat → Bool} (h : RBufAt w A L I) (o : Obj) : RBufAt (w.alloc o) A L I := h.kept ((Upd.refl (fun _ => False) w).alloc o) id
theorem gap_of {L : Nat → Ln} {I : Nat → Bool} {B : Buf} (h : Rsay L I B) (i : Nat) (hi : i < 8) : (B i).isNone = !I i := by
  rw [h i hi]; cases I i <;> rfl
set_option maxRecDepth 100000 in
set_option maxHeartbeats 8000000 in
theorem rput_yes (A : Nat) (B : Buf) (la lp lf : Int) (lw : Bool) (at' : Int) (w : World) (hA : RB w A B) (hp : 1 ≤ la ∧ la ≤ 8 ∧ 0 ≤ lp ∧ lp ≤ 4095 ∧ 0 ≤ lf ∧ lf ≤ 255 ∧ 0 ≤ at' ∧ at' ≤ 7) :
    Calls Tryd.prog 22 #[.pointer (some ⟨A, 0, none⟩), .agg #[.int .i64 la, .int .i64 lp, .int .i64 lf, .bool lw], .int .i64 at'] w fun e w' => e = .returned (.int .i64 (errP (putOk ⟨la, lp, lf, lw⟩ at'))) ∧ RB w' A (B.put ⟨la, lp, lf, lw⟩ at') ∧ Upd (· = A) w w' := by
  have hput : Hid (B.put ⟨la, lp, lf, lw⟩ at' = if putOk ⟨la, lp, lf, lw⟩ at' = true then B.set (B.place ⟨la, lp, lf, lw⟩ at') (some ⟨la, lp, lf, lw⟩) else B) := Lib.hid rfl
  have hpl : Hid (B.place ⟨la, lp, lf, lw⟩ at' = if B.at la lp < 8 then B.at la lp else if B.gap < 8 then B.gap else at'.toNat) := Lib.hid rfl
  have hok : Hid (putOk ⟨la, lp, lf, lw⟩ at' = decide (1 ≤ la ∧ la ≤ 8 ∧ 0 ≤ lp ∧ lp ≤ 4095 ∧ 0 ≤ lf ∧ lf ≤ 255 ∧ 0 ≤ at' ∧ at' ≤ 7)) := Lib.hid rfl
  have U0 := Lib.hid ((Upd.refl (fun _ => False) w).alloc (.cells #[.int .i64 la, .int .i64 lp, .int .i64 lf, .bool lw] 41))
  have k0 : Hid (LnAt (w.alloc (.cells #[.int .i64 la, .int .i64 lp, .int .i64 lf, .bool lw] 41)) w.heap.size la lp lf lw) := Lib.hid (heap_alloc_last w _)
  have hlt := hA.lt
  generalize B.put ⟨la, lp, lf, lw⟩ at' = B2 at hput ⊢
  generalize B.place ⟨la, lp, lf, lw⟩ at' = R at hpl hput
  generalize putOk ⟨la, lp, lf, lw⟩ at' = P at hok hput ⊢
  obtain rfl : P = true := by rw [hok.out]; exact decide_eq_true hp
  obtain ⟨a1, a2, p1, p2, f1, f2, t1, t2⟩ := hp
  have hB2 : Hid (B2 = B.set R (some ⟨la, lp, lf, lw⟩)) := Lib.hid (by rw [hput.out, if_pos rfl])
  obtain ⟨L, I, hS, hA⟩ := hA
  have cA := Lib.hid (fun W hA => rat_any A L I B hS la lp W hA)
  have hgp := Lib.hid (fun i hi => gap_of hS i hi)
  have hgo : Hid (∀ k, k < 8 → I k = false → (∀ j, j < k → I j = true) → B.gap = k) := Lib.hid (fun k hk hI hj => by
    unfold Buf.gap
    exact first_of hk (by rw [gap_of hS k hk, hI]; rfl) (fun j hjk => by rw [gap_of hS j (by omega), hj j hjk]; rfl))
  have hga : Hid ((∀ j, j < 8 → I j = true) → B.gap = 8) := Lib.hid (fun h => by
    unfold Buf.gap
    exact first_all (fun j hj => by rw [gap_of hS j hj, h j hj]; rfl))
  have hst := Lib.hid (fun i => hS.set i ⟨la, lp, lf, lw⟩)
  have HA := Lib.hid (hA.kept U0.out id)
  clear hput hok hA hS
  generalize hX : B.at la lp = X at hpl cA
  generalize hG : B.gap = G at hpl hgo hga
  clear hX hG
  have hne : w.heap.size ≠ A := Nat.ne_of_gt hlt
  go_enter Tryd.func22, Tryd.ntmps22
  go_upto_region 1 with fail
  have hsz : Hid (w.heap.size ≤ w.heap.size) := Lib.hid (Nat.le_refl _)
  generalize w.alloc (.cells #[.int .i64 la, .int .i64 lp, .int .i64 lf, .bool lw] 41) = w0 at k0 U0 HA ⊢
  generalize w.heap.size = C at k0 hne ⊢
  clear hsz
  have q0 := k0.out.range 0 _ rfl
  have q1 := k0.out.range 1 _ rfl
  have q2 := k0.out.range 2 _ rfl
  go_upto_region 4 with (go_at_call 58; refine (cA.out _ HA.out).mono ?_; rintro e w1 ⟨rfl, rfl⟩)
  clear q0 q1 q2 cA
  have fin : Hid (∀ (T : Nat) (W : World), T < 8 → T = R → Upd (fun _ => False) w0 W → RB ((W.setCells A (T * 4) [.int .i64 la, .int .i64 lp, .int .i64 lf, .bool lw]).setCell ⟨A, 32 + T, none⟩ (.bool true)) A B2 ∧ Upd (· = A) w ((W.setCells A (T * 4) [.int .i64 la, .int .i64 lp, .int .i64 lf, .bool lw]).setCell ⟨A, 32 + T, none⟩ (.bool true)) ∧
      W.there A (T * 4) 4 ∧ (W.setCells A (T * 4) [.int .i64 la, .int .i64 lp, .int .i64 lf, .bool lw]).cell? ⟨A, 32 + T, none⟩ = some (.bool (I T)) ∧ (W.setCells A (T * 4) [.int .i64 la, .int .i64 lp, .int .i64 lf, .bool lw]).frozen? ⟨A, 32 + T, none⟩ = false ∧ W.rangeAt C 0 [.int .i64 la, .int .i64 lp, .int .i64 lf, .bool lw]) := Lib.hid (fun T W hT e u => by
    subst e
    have HW := HA.out.kept u id
    refine ⟨⟨_, _, ?_, (HW.setL T hT la lp lf lw).setI T hT true⟩, (Upd.setCells (S := (· = A)) (.inl rfl) _ _ (U0.out.trans u).sub).setCell (.inl rfl) _, HW.there T hT, (HW.setL T hT la lp lf lw).bit T hT, (HW.setL T hT la lp lf lw).frozen (32 + T), (k0.out.kept u id).range⟩
    rw [hB2.out]
    exact hst.out T)
  clear hst hB2 k0
  by_cases hX8 : X < 8
  · have hx : ixI X = (X : Int) := by unfold ixI; rw [if_pos hX8]
    rw [hx]
    have HR := Lib.hid (show X = R from by rw [hpl.out, if_pos hX8])
    have hX0 : (0 : Int) ≤ (X : Int) := by omega
    have hX9 : (X : Int) < 8 := by omega
    clear hpl hgo hga hgp hx
    go_wp2_with fail
    go_loopw [8, 7] (fun t u wr => t = .int .i64 0 ∧ u = .int .i64 X ∧ wr = w0) (fun t _ _ => 0)
    case atStart => exact ⟨rfl, rfl, rfl⟩
    case round =>
      obtain ⟨rfl, rfl, rfl⟩ := hrel
      go_upto_region 11 with fail
      refine wp_region_tail 6 (by kernel_rfl) (by kernel_rfl) ?_
      simp only [List.take_succ_cons, List.take_zero, List.drop_succ_cons, List.drop_zero]
      intro w9 hw9
      obtain ⟨f1, f2, TH, Y, Z, kr⟩ := fin.out X w9 hX8 HR.out (by rw [hw9]; exact (Upd.refl _ _).drew)
      have F1 := Lib.hid f1
      have F2 := Lib.hid f2
      clear f1 f2 fin hw9 HR
      iterate 2 still_step
      with_reducible refine wpStill_load_sz rfl 41 (.tmp 4) rfl C 0 rfl [.int .i64 la, .int .i64 lp, .int .i64 lf, .bool lw] _ kr Tryd.underlying41 rfl 4 (ln_len _ _ _ _) size_ln ?_
      simp only [Act.put, List.setIfInBounds_toArray, List.set_cons_succ, List.set_cons_zero]
      iterate 3 still_step
      refine wpStill_nil ?_
      go_wp2_with (with_reducible refine wpList_store_sz rfl 41 (.tmp 75) (.tmp 72) rfl A (X * 4) #[.int .i64 la, .int .i64 lp, .int .i64 lf, .bool lw] rfl rfl 4 (ln_sz _ _ _ _) TH size_ln (ln_one _ _ _ _) [.int .i64 la, .int .i64 lp, .int .i64 lf, .bool lw] (ln_ls _ _ _ _) ?_)
      go_ret
      exact ⟨rfl, F1.out, F2.out⟩
  · have hx : ixI X = -1 := by unfold ixI; rw [if_neg hX8]
    rw [hx]
    have hpl2 : Hid (R = if G < 8 then G else at'.toNat) := Lib.hid (by rw [hpl.out, if_neg hX8])
    clear hpl hgp hx
    go_wp2_with fail
    go_loopw [8, 7] (fun t u wr => (∃ k : Nat, k ≤ 8 ∧ t = .int .i64 k ∧ u = .int .i64 (-1) ∧ Hid (∀ j, j < k → I j = true) ∧ wr = w0) ∨ (∃ k : Nat, k < 8 ∧ t = .int .i64 ((k : Int) + 1) ∧ u = .int .i64 k ∧ Hid (k = R) ∧ wr = w0)) (fun t _ _ => 8 - (intOf t).toNat)
    case atStart => exact .inl ⟨0, by omega, rfl, rfl, Lib.hid (by omega), rfl⟩
    case round =>
      rcases hrel with ⟨k, hk, rfl, rfl, hno, rfl⟩ | ⟨k, hk8, rfl, rfl, hR', rfl⟩
      · by_cases hlt : k < 8
        · have b0 := HA.out.bit k hlt
          generalize hI : I k = Ik at b0
          cases Ik
          · have hR := Lib.hid (show k = R from by rw [hpl2.out, hgo.out k hlt hI hno.out, if_pos hlt])
            clear hI hno hpl2 hgo hga fin
            go_wp2
            go_roundw
            case rel => exact .inr ⟨k, hlt, rfl, rfl, hR, trivial⟩
            case measure => simp [intOf]; omega
          · have hno2 := Lib.hid (show ∀ j, j < k + 1 → I j = true from fun j hj => by
              by_cases e : j = k
              · rw [e]; exact hI
              · exact hno.out j (by omega))
            clear hI hno
            go_wp2
            go_roundw
            case rel => exact .inl ⟨k + 1, by omega, by go_num, rfl, hno2, trivial⟩
            case measure => simp [intOf]; omega
        · obtain rfl : k = 8 := by omega
          obtain ⟨T, rfl⟩ := Int.eq_ofNat_of_zero_le t1
          have HR := Lib.hid (show T = R from by rw [hpl2.out, hga.out hno.out, if_neg (by omega)]; omega)
          have hT8 : T < 8 := by omega
          have hT0 : (0 : Int) ≤ (T : Int) := by omega
          have hT9 : (T : Int) < 8 := by omega
          clear hpl2 hgo hga hno
          go_upto_region 11 with fail
          refine wp_region_tail 6 (by kernel_rfl) (by kernel_rfl) ?_
          simp only [List.take_succ_cons, List.take_zero, List.drop_succ_cons, List.drop_zero]
          intro w9 hw9
          obtain ⟨f1, f2, TH, Y, Z, kr⟩ := fin.out T w9 hT8 HR.out (by rw [hw9]; exact (Upd.refl _ _).drew)
          have F1 := Lib.hid f1
          have F2 := Lib.hid f2
          clear f1 f2 fin hw9 HR
          iterate 2 still_step
          with_reducible refine wpStill_load_sz rfl 41 (.tmp 4) rfl C 0 rfl [.int .i64 la, .int .i64 lp, .int .i64 lf, .bool lw] _ kr Tryd.underlying41 rfl 4 (ln_len _ _ _ _) size_ln ?_
          simp only [Act.put, List.setIfInBounds_toArray, List.set_cons_succ, List.set_cons_zero]
          iterate 3 still_step
          refine wpStill_nil ?_
          go_wp2_with (with_reducible refine wpList_store_sz rfl 41 (.tmp 75) (.tmp 72) rfl A (T * 4) #[.int .i64 la, .int .i64 lp, .int .i64 lf, .bool lw] rfl rfl 4 (ln_sz _ _ _ _) TH size_ln (ln_one _ _ _ _) [.int .i64 la, .int .i64 lp, .int .i64 lf, .bool lw] (ln_ls _ _ _ _) ?_)
          go_ret
          exact ⟨rfl, F1.out, F2.out⟩
      · have hk9 : (k : Int) < 8 := by omega
        have hk0 : (0 : Int) ≤ (k : Int) := by omega
        have HR := hR'
        clear hpl2 hgo hga hR'
        by_cases hk7 : (k : Int) + 1 < 8
        · skip
          go_upto_region 11 with fail
          refine wp_region_tail 6 (by kernel_rfl) (by kernel_rfl) ?_
          simp only [List.take_succ_cons, List.take_zero, List.drop_succ_cons, List.drop_zero]
          intro w9 hw9
          obtain ⟨f1, f2, TH, Y, Z, kr⟩ := fin.out k w9 hk8 HR.out (by rw [hw9]; exact (Upd.refl _ _).drew)
          have F1 := Lib.hid f1
          have F2 := Lib.hid f2
          clear f1 f2 fin hw9 HR
          iterate 2 still_step
          with_reducible refine wpStill_load_sz rfl 41 (.tmp 4) rfl C 0 rfl [.int .i64 la, .int .i64 lp, .int .i64 lf, .bool lw] _ kr Tryd.underlying41 rfl 4 (ln_len _ _ _ _) size_ln ?_
          simp only [Act.put, List.setIfInBounds_toArray, List.set_cons_succ, List.set_cons_zero]
          iterate 3 still_step
          refine wpStill_nil ?_
          go_wp2_with (with_reducible refine wpList_store_sz rfl 41 (.tmp 75) (.tmp 72) rfl A (k * 4) #[.int .i64 la, .int .i64 lp, .int .i64 lf, .bool lw] rfl rfl 4 (ln_sz _ _ _ _) TH size_ln (ln_one _ _ _ _) [.int .i64 la, .int .i64 lp, .int .i64 lf, .bool lw] (ln_ls _ _ _ _) ?_)
          go_ret
          exact ⟨rfl, F1.out, F2.out⟩
        · skip
          go_upto_region 11 with fail
          refine wp_region_tail 6 (by kernel_rfl) (by kernel_rfl) ?_
          simp only [List.take_succ_cons, List.take_zero, List.drop_succ_cons, List.drop_zero]
          intro w9 hw9
          obtain ⟨f1, f2, TH, Y, Z, kr⟩ := fin.out k w9 hk8 HR.out (by rw [hw9]; exact (Upd.refl _ _).drew)
          have F1 := Lib.hid f1
          have F2 := Lib.hid f2
          clear f1 f2 fin hw9 HR
          iterate 2 still_step
          with_reducible refine wpStill_load_sz rfl 41 (.tmp 4) rfl C 0 rfl [.int .i64 la, .int .i64 lp, .int .i64 lf, .bool lw] _ kr Tryd.underlying41 rfl 4 (ln_len _ _ _ _) size_ln ?_
          simp only [Act.put, List.setIfInBounds_toArray, List.set_cons_succ, List.set_cons_zero]
          iterate 3 still_step
          refine wpStill_nil ?_
          go_wp2_with (with_reducible refine wpList_store_sz rfl 41 (.tmp 75) (.tmp 72) rfl A (k * 4) #[.int .i64 la, .int .i64 lp, .int .i64 lf, .bool lw] rfl rfl 4 (ln_sz _ _ _ _) TH size_ln (ln_one _ _ _ _) [.int .i64 la, .int .i64 lp, .int .i64 lf, .bool lw] (ln_ls _ _ _ _) ?_)
          go_ret
          exact ⟨rfl, F1.out, F2.out⟩
theorem rput_any (A : Nat) (B : Buf) (la lp lf : Int) (lw : Bool) (at' : Int) (w : World) (hA : RB w A B) :
    Calls Tryd.prog 22 #[.pointer (some ⟨A, 0, none⟩), .agg #[.int .i64 la, .int .i64 lp, .int .i64 lf, .bool lw], .int .i64 at'] w fun e w' => e = .returned (.int .i64 (errP (putOk ⟨la, lp, lf, lw⟩ at'))) ∧ RB w' A (B.put ⟨la, lp, lf, lw⟩ at') ∧ Upd (· = A) w w' := by
  by_cases hp : 1 ≤ la ∧ la ≤ 8 ∧ 0 ≤ lp ∧ lp ≤ 4095 ∧ 0 ≤ lf ∧ lf ≤ 255 ∧ 0 ≤ at' ∧ at' ≤ 7
  · exact rput_yes A B la lp lf lw at' w hA hp
  · exact rput_no A B la lp lf lw at' w hA hp
end Go.Proofs.YtfdnfllefednjaaDoor

/-
  Contracts of the document's own answers for walk: Get, Put, Blank.
-/
namespace Go.Proofs.YtfdnfllefednjaaDoor
open Go.ChangeShapes Go.WideShapes Go.ChangeAt Go.RowKit
theorem Tab.apartR {w : World} {A : Nat} {m : Mem} (T : Tab w) (h : RefAt w A m) : ¬ 0 = m.B := by
  intro e
  have h1 := (T 0 (by omega)).1
  have h2 := h.cellB 0 (by have := h.lo; omega)
  rw [← e] at h2
  rw [Nat.zero_mul, h2] at h1
  simp at h1

theorem Mem.word_nat (m : Mem) (F P : Nat) : m.word (F : Int) (P : Int) = m.at (16 * F + P) := by
  unfold Mem.word
  rw [show ((F : Int) * 16 + (P : Int)).toNat = 16 * F + P from by omega]
theorem RefAt.allocd {w : World} {A : Nat} {m : Mem} (h : RefAt w A m) (o : Obj) : RefAt (w.alloc o) A m := h.kept ((Upd.refl (fun _ => False) w).alloc o) id id
set_option maxHeartbeats 1000000 in
theorem kget_no (C : Nat) (m : Mem) (f p : Int) (w : World) (h : RefAt w C m) (hs : m.slot f p = false) :
    Calls Tryd.prog 83 #[.pointer (some ⟨C, 0, none⟩), .int .i64 f, .int .i64 p] w fun e w' => e = .returned (.tuple #[En.zero.val, .int .i64 1]) ∧ Upd (fun _ => False) w w' := by
  have c1 := Lib.hid (fun W (h : RefAt W C m) => rHas_any C m f W h)
  have k0 : Hid (EntAt (w.alloc (.cells #[.bool false, .bool false, .bool false, .int .i64 0] 34)) w.heap.size false false false 0) := Lib.hid (heap_alloc_last w _)
  have hb := Lib.hid hs
  unfold Mem.slot at hb
  clear hs
  cases he : m.ex f 1
  · rw [he] at c1
    clear hb
    go_enter Tryd.func83, Tryd.ntmps83
    go_wp2_with fail
    refine (c1.out _ (h.allocd _)).mono ?_
    rintro e w1 ⟨rfl, rfl⟩
    go_wp2_with (with_reducible refine wpList_store_sz rfl 34 (.tmp 6) (.tmp 22) rfl w.heap.size 0 #[.bool false, .bool false, .bool false, .int .i64 0] rfl rfl 4 (ent_sz _ _ _ _) k0.out.there size_ent (ent_one _ _ _ _) [.bool false, .bool false, .bool false, .int .i64 0] (ent_ls _ _ _ _) ?_)
    (try simp only [Exit.inBlock, Exit.then])
    refine bodyPost_ret (ret_ent rfl _ _ w.heap.size false false false 0 rfl (k0.out.set false false false 0)) rfl ⟨rfl, ?_⟩
    exact Upd.setCells (.inr (Nat.le_refl _)) _ _ ((Upd.refl _ _).alloc _)
  · have hb' : plB p = false := by have := hb.out; rw [he] at this; simpa using this
    have hb2 := of_decide_eq_false hb'
    rw [he] at c1
    clear hb hb'
    by_cases p0 : p < 0
    · clear hb2
      go_enter Tryd.func83, Tryd.ntmps83
      go_wp2_with fail
      refine (c1.out _ (h.allocd _)).mono ?_
      rintro e w1 ⟨rfl, rfl⟩
      go_wp2_with (with_reducible refine wpList_store_sz rfl 34 (.tmp 6) (.tmp 22) rfl w.heap.size 0 #[.bool false, .bool false, .bool false, .int .i64 0] rfl rfl 4 (ent_sz _ _ _ _) k0.out.there size_ent (ent_one _ _ _ _) [.bool false, .bool false, .bool false, .int .i64 0] (ent_ls _ _ _ _) ?_)
      (try simp only [Exit.inBlock, Exit.then])
      refine bodyPost_ret (ret_ent rfl _ _ w.heap.size false false false 0 rfl (k0.out.set false false false 0)) rfl ⟨rfl, ?_⟩
      exact Upd.setCells (.inr (Nat.le_refl _)) _ _ ((Upd.refl _ _).alloc _)
    · have p1 : 15 < p := by omega
      clear hb2
      go_enter Tryd.func83, Tryd.ntmps83
      go_wp2_with fail
      refine (c1.out _ (h.allocd _)).mono ?_
      rintro e w1 ⟨rfl, rfl⟩
      go_wp2_with (with_reducible refine wpList_store_sz rfl 34 (.tmp 6) (.tmp 22) rfl w.heap.size 0 #[.bool false, .bool false, .bool false, .int .i64 0] rfl rfl 4 (ent_sz _ _ _ _) k0.out.there size_ent (ent_one _ _ _ _) [.bool false, .bool false, .bool false, .int .i64 0] (ent_ls _ _ _ _) ?_)
      (try simp only [Exit.inBlock, Exit.then])
      refine bodyPost_ret (ret_ent rfl _ _ w.heap.size false false false 0 rfl (k0.out.set false false false 0)) rfl ⟨rfl, ?_⟩
      exact Upd.setCells (.inr (Nat.le_refl _)) _ _ ((Upd.refl _ _).alloc _)
set_option maxHeartbeats 1000000 in
theorem kget_any (C : Nat) (m : Mem) (f p : Int) (w : World) (h : RefAt w C m) (hg : m.good) :
    Calls Tryd.prog 83 #[.pointer (some ⟨C, 0, none⟩), .int .i64 f, .int .i64 p] w fun e w' => e = .returned (.tuple #[(m.getE f p).val, .int .i64 (m.getX f p)]) ∧ Upd (fun _ => False) w w' := by
  cases hs : m.slot f p
  · have hE : m.getE f p = En.zero := by unfold Mem.getE; rw [hs]; rfl
    have hX : m.getX f p = 1 := by unfold Mem.getX; rw [hs]; rfl
    rw [hE, hX]
    exact kget_no C m f p w h hs
  · have c1 := Lib.hid (fun W (h : RefAt W C m) => rHas_any C m f W h)
    have k0 : Hid (EntAt (w.alloc (.cells #[.bool false, .bool false, .bool false, .int .i64 0] 34)) w.heap.size false false false 0) := Lib.hid (heap_alloc_last w _)
    have hi := (m.slot_iff f p).1 hs
    have hx : m.ex f 1 = true ∧ plB p = true := by simpa [Mem.slot] using hs
    have hn := h.hi
    rw [hx.1] at c1
    have hE : Hid (m.getE f p = enOf (m.word f p)) := Lib.hid (by unfold Mem.getE; rw [hs]; rfl)
    have hX : Hid (m.getX f p = if ofB (m.word f p) = true then 0 else 11) := Lib.hid (by unfold Mem.getX; rw [hs]; rfl)
    obtain ⟨⟨i1, i2⟩, i3, i4⟩ := hi
    obtain ⟨F, rfl⟩ := Int.eq_ofNat_of_zero_le i1
    obtain ⟨P, rfl⟩ := Int.eq_ofNat_of_zero_le i3
    have hF : F < m.n := by omega
    have hP : P ≤ 15 := by omega
    rw [m.word_nat] at hE hX
    have c5 : Hid (∀ W, Calls Tryd.prog 96 #[.int .u64 (m.at (16 * F + P))] W fun e w' => e = .returned (.tuple #[(enOf (m.at (16 * F + P))).val, .int .i64 (errB (ofB (m.at (16 * F + P))))]) ∧ Upd (fun _ => False) W w') := Lib.hid (fun W => rof_any (m.at (16 * F + P)) W (hg _).1 (hg _).2)
    have hc := (h.allocd (.cells #[.bool false, .bool false, .bool false, .int .i64 0] 34)).cellA
    have hcell := (h.allocd (.cells #[.bool false, .bool false, .bool false, .int .i64 0] 34)).cellB (16 * F + P) (by omega)
    have ht : (16 * (F : Int) + (P : Int)).toNat = 16 * F + P := by omega
    clear hx hn hs hg i1 i2 i3 i4
    generalize m.at (16 * F + P) = x at c5 hE hX hcell
    obtain ⟨E, hEq⟩ : ∃ E, E = enOf x := ⟨_, rfl⟩
    have hno := Lib.hid (fun hB : ofB x = false => hEq.trans (enOf_no hB))
    rw [← hEq] at c5 hE
    clear hEq
    obtain ⟨v, r, t, g⟩ := E
    have hmn := h.hi
    cases hB : ofB x
    · obtain ⟨rfl, rfl, rfl, rfl⟩ := En.mk.inj (hno.out hB)
      rw [hB] at c5 hX
      clear hB hno
      go_enter Tryd.func83, Tryd.ntmps83
      go_wp2_with fail
      refine (c1.out _ (h.allocd _)).mono ?_
      rintro e w1 ⟨rfl, rfl⟩
      go_wp2_with fail
      refine (c5.out _).mono ?_
      rintro e w1 ⟨rfl, u⟩
      rw [show errB false = 1 from rfl]
      have k1 : Hid (EntAt w1 w.heap.size false false false 0) := Lib.hid (k0.out.kept u id)
      have U := Lib.hid (((Upd.refl (fun _ => False) w).alloc _).trans u)
      clear u k0 c1 c5 h hc hcell
      obtain ⟨B, hB⟩ : ∃ B, B = w.heap.size := ⟨_, rfl⟩
      rw [← hB] at k1 ⊢
      have hB' := Lib.hid hB
      clear hB
      obtain ⟨a1, a2, a3, a4⟩ := ent_box w1 false false false 0
      have A1 := Lib.hid a1
      have A2 := Lib.hid a2
      have A3 := Lib.hid a3
      have A4 := Lib.hid (k1.out.kept a2 id)
      clear a1 a2 a3 a4 k1
      go_upto_region 4 with ((with_reducible refine wpList_store_sz rfl 34 (.tmp 8) (.tmp 35) rfl w1.heap.size 0 #[.bool false, .bool false, .bool false, .int .i64 0] rfl rfl 4 (ent_sz _ _ _ _) A3.out size_ent (ent_one _ _ _ _) [.bool false, .bool false, .bool false, .int .i64 0] (ent_ls _ _ _ _) ?_))
      generalize (w1.alloc (.cells #[.bool false, .bool false, .bool false, .int .i64 0] 34)).setCells w1.heap.size 0 [.bool false, .bool false, .bool false, .int .i64 0] = w2 at A1 A2 A4 ⊢
      clear A3
      go_wp2_with (with_reducible refine wpList_store_sz rfl 34 (.tmp 6) (.tmp 39) rfl B 0 #[.bool false, .bool false, .bool false, .int .i64 0] rfl rfl 4 (ent_sz _ _ _ _) A4.out.there size_ent (ent_one _ _ _ _) [.bool false, .bool false, .bool false, .int .i64 0] (ent_ls _ _ _ _) ?_)
      (try simp only [Exit.inBlock, Exit.then])
      refine bodyPost_ret (ret_ent rfl _ _ B false false false 0 rfl (A4.out.set false false false 0)) rfl ⟨?_, ?_⟩
      · rw [hE.out, hX.out]; rfl
      · exact Upd.setCells (.inr (Nat.le_of_eq hB'.out.symm)) _ _ (U.out.trans A2.out)
    · rw [hB] at c5 hX
      clear hB hno
      go_enter Tryd.func83, Tryd.ntmps83
      go_wp2_with fail
      refine (c1.out _ (h.allocd _)).mono ?_
      rintro e w1 ⟨rfl, rfl⟩
      go_wp2_with fail
      refine (c5.out _).mono ?_
      rintro e w1 ⟨rfl, u⟩
      rw [show errB true = 0 from rfl]
      have k1 : Hid (EntAt w1 w.heap.size false false false 0) := Lib.hid (k0.out.kept u id)
      have U := Lib.hid (((Upd.refl (fun _ => False) w).alloc _).trans u)
      clear u k0 c1 c5 h hc hcell
      obtain ⟨B, hB⟩ : ∃ B, B = w.heap.size := ⟨_, rfl⟩
      rw [← hB] at k1 ⊢
      have hB' := Lib.hid hB
      clear hB
      obtain ⟨a1, a2, a3, a4⟩ := ent_box w1 v r t g
      have A1 := Lib.hid a1
      have A2 := Lib.hid a2
      have A3 := Lib.hid a3
      have A4 := Lib.hid (k1.out.kept a2 id)
      clear a1 a2 a3 a4 k1
      go_upto_region 4 with ((with_reducible refine wpList_store_sz rfl 34 (.tmp 8) (.tmp 35) rfl w1.heap.size 0 #[.bool v, .bool r, .bool t, .int .i64 g] rfl rfl 4 (ent_sz _ _ _ _) A3.out size_ent (ent_one _ _ _ _) [.bool v, .bool r, .bool t, .int .i64 g] (ent_ls _ _ _ _) ?_))
      generalize (w1.alloc (.cells #[.bool false, .bool false, .bool false, .int .i64 0] 34)).setCells w1.heap.size 0 [.bool v, .bool r, .bool t, .int .i64 g] = w2 at A1 A2 A4 ⊢
      generalize w1.heap.size = D at A1 ⊢
      clear A3
      go_wp2_with (first
        | (with_reducible refine wpList_load_sz rfl 34 (.tmp 8) rfl D 0 rfl [.bool v, .bool r, .bool t, .int .i64 g] _ A1.out.range Tryd.underlying34 rfl 4 (ent_len _ _ _ _) size_ent ?_)
        | (with_reducible refine wpList_store_sz rfl 34 (.tmp 6) (.tmp 40) rfl B 0 #[.bool v, .bool r, .bool t, .int .i64 g] rfl rfl 4 (ent_sz _ _ _ _) A4.out.there size_ent (ent_one _ _ _ _) [.bool v, .bool r, .bool t, .int .i64 g] (ent_ls _ _ _ _) ?_))
      (try simp only [Exit.inBlock, Exit.then])
      refine bodyPost_ret (ret_ent rfl _ _ B v r t g rfl (A4.out.set v r t g)) rfl ⟨?_, ?_⟩
      · rw [hE.out, hX.out]; rfl
      · exact Upd.setCells (.inr (Nat.le_of_eq hB'.out.symm)) _ _ (U.out.trans A2.out)
set_option maxHeartbeats 1000000 in
theorem kput_any (C : Nat) (m : Mem) (f p : Int) (E : En) (w : World) (h : RefAt w C m) :
    Calls Tryd.prog 11 #[.pointer (some ⟨C, 0, none⟩), .int .i64 f, .int .i64 p, E.val] w fun e w' => e = .returned (.int .i64 (errB (m.putB f p E))) ∧ RefAt w' C (m.put f p E) ∧ Upd (· = m.B) w w' := by
  have c0 := Lib.hid (fun W => rword_any E.v E.r E.t E.f W)
  have c1 := Lib.hid (fun W (h : RefAt W C m) => rHas_any C m f W h)
  have hP : Hid (m.put f p E = if m.putB f p E = true then m.wr (f * 16 + p) (wordI E.v E.r E.t E.f) else m) := Lib.hid rfl
  have hQ : Hid (m.putB f p E = (m.ex f 1 && plB p && rightB E.v E.r E.t E.f)) := Lib.hid rfl
  unfold wordE at c0
  obtain ⟨v, r, t, g⟩ := E
  simp only at c0 hP hQ
  generalize wordI v r t g = x at c0 hP
  cases he : m.ex f 1
  · rw [he, Bool.false_and, Bool.false_and] at hQ
    rw [hQ.out] at hP
    rw [he] at c1
    rw [hQ.out]
    clear hQ he
    generalize errB (rightB v r t g) = eb at c0
    go_enter Tryd.func11, Tryd.ntmps11
    go_wp2_with fail
    refine (c0.out _).mono ?_
    rintro e w1 ⟨rfl, u⟩
    have U := Lib.hid (((Upd.refl (fun _ => False) w).alloc _).trans u)
    clear u
    go_wp2_with fail
    refine (c1.out _ (h.kept U.out id id)).mono ?_
    rintro e w2 ⟨rfl, rfl⟩
    go_wp2
    go_ret
    exact ⟨rfl, by rw [hP.out]; exact h.kept U.out id id, U.out.none⟩
  · rw [he, Bool.true_and] at hQ
    rw [he] at c1
    by_cases p0 : p < 0
    · have hp : plB p = false := decide_eq_false (by omega)
      rw [hp, Bool.false_and] at hQ
      rw [hQ.out] at hP
      rw [hQ.out]
      clear hQ he hp
      generalize errB (rightB v r t g) = eb at c0
      go_enter Tryd.func11, Tryd.ntmps11
      go_wp2_with fail
      refine (c0.out _).mono ?_
      rintro e w1 ⟨rfl, u⟩
      have U := Lib.hid (((Upd.refl (fun _ => False) w).alloc _).trans u)
      clear u
      go_wp2_with fail
      refine (c1.out _ (h.kept U.out id id)).mono ?_
      rintro e w2 ⟨rfl, rfl⟩
      go_wp2
      go_ret
      exact ⟨rfl, by rw [hP.out]; exact h.kept U.out id id, U.out.none⟩
    · by_cases p1 : 15 < p
      · have hp : plB p = false := decide_eq_false (by omega)
        rw [hp, Bool.false_and] at hQ
        rw [hQ.out] at hP
        rw [hQ.out]
        clear hQ he hp
        generalize errB (rightB v r t g) = eb at c0
        go_enter Tryd.func11, Tryd.ntmps11
        go_wp2_with fail
        refine (c0.out _).mono ?_
        rintro e w1 ⟨rfl, u⟩
        have U := Lib.hid (((Upd.refl (fun _ => False) w).alloc _).trans u)
        clear u
        go_wp2_with fail
        refine (c1.out _ (h.kept U.out id id)).mono ?_
        rintro e w2 ⟨rfl, rfl⟩
        go_wp2
        go_ret
        exact ⟨rfl, by rw [hP.out]; exact h.kept U.out id id, U.out.none⟩
      · have hp : plB p = true := decide_eq_true (by omega)
        rw [hp, Bool.true_and] at hQ
        cases hr : rightB v r t g
        · rw [hr] at hQ c0
          rw [hQ.out] at hP
          rw [hQ.out]
          clear hQ he hp hr
          go_enter Tryd.func11, Tryd.ntmps11
          go_wp2_with fail
          refine (c0.out _).mono ?_
          rintro e w1 ⟨rfl, u⟩
          have U := Lib.hid (((Upd.refl (fun _ => False) w).alloc _).trans u)
          clear u
          rw [show errB false = 1 from rfl]
          go_wp2_with fail
          refine (c1.out _ (h.kept U.out id id)).mono ?_
          rintro e w2 ⟨rfl, rfl⟩
          go_wp2
          go_ret
          exact ⟨rfl, by rw [hP.out]; exact h.kept U.out id id, U.out.none⟩
        · rw [hr] at hQ c0
          rw [hQ.out, if_pos rfl] at hP
          rw [hQ.out]
          have hs : m.slot f p = true := by unfold Mem.slot; rw [he, hp]; rfl
          obtain ⟨⟨i1, i2⟩, i3, i4⟩ := (m.slot_iff f p).1 hs
          obtain ⟨F, rfl⟩ := Int.eq_ofNat_of_zero_le i1
          obtain ⟨P, rfl⟩ := Int.eq_ofNat_of_zero_le i3
          have hmn := h.hi
          have hF : F < m.n := by omega
          have hPl : P ≤ 15 := by omega
          have hl : Hid (m.wr ((F : Int) * 16 + (P : Int)) x = m.lay (16 * F + P) [x]) := Lib.hid (by
            unfold Mem.wr
            rw [if_pos (m.slot_has _ _ hs), show ((F : Int) * 16 + (P : Int)).toNat = 16 * F + P from by omega])
          have ht : (16 * (F : Int) + (P : Int)).toNat = 16 * F + P := by omega
          clear hQ he hp hr hs i1 i2 i3 i4 p0 p1
          go_enter Tryd.func11, Tryd.ntmps11
          go_wp2_with fail
          refine (c0.out _).mono ?_
          rintro e w1 ⟨rfl, u⟩
          have U := Lib.hid (((Upd.refl (fun _ => False) w).alloc _).trans u)
          clear u
          have h1 := h.kept U.out id id
          have hc := h1.cellA
          have hcell := h1.cellB (16 * F + P) (by omega)
          have hfr := h1.freeB (16 * F + P)
          rw [show errB true = 0 from rfl]
          go_wp2_with fail
          refine (c1.out _ h1).mono ?_
          rintro e w2 ⟨rfl, rfl⟩
          go_wp2
          go_ret
          exact ⟨rfl, by rw [hP.out, hl.out]; exact h1.lay1 _ x (by omega), U.out.none.trans ((Upd.refl _ _).setCell (by left; rfl) _)⟩
end Go.Proofs.YtfdnfllefednjaaDoor

/-
  Steps compared; two memories in which a walk goes alike.
-/
namespace Go.Proofs.YtfdnfllefednjaaDoor
open Go.ChangeShapes Go.WideShapes Go.ChangeAt Go.RowKit

/-- the walk of a page goes alike in two memories: at its own places they are the same -/
def Alike (m m' : Mem) (q : Int) : Prop := m'.n = m.n ∧ ∀ k, k < m.wN 0 q → m'.getE (m.wF 0 q k) (idxI q k) = m.getE (m.wF 0 q k) (idxI q k) ∧ m'.getX (m.wF 0 q k) (idxI q k) = m.getX (m.wF 0 q k) (idxI q k)
theorem Alike.refl (m : Mem) (q : Int) : Alike m m q := ⟨rfl, fun _ _ => ⟨rfl, rfl⟩⟩
theorem Alike.put {m m' : Mem} {q : Int} (h : Alike m m' q) (hk : m'.ok) (x y : Int) (e : En) (hn : ∀ k, k < m.wN 0 q → ¬ (m.wF 0 q k = x ∧ idxI q k = y)) : Alike m (m'.put x y e) q :=
  ⟨by rw [Mem.put_n]; exact h.1, fun k hk' => by
    rw [m'.put_getE hk, m'.put_getX hk, if_neg (fun c => hn k hk' c.2), if_neg (fun c => hn k hk' c.2)]
    exact h.2 k hk'⟩
theorem Alike.step {m m' : Mem} {q : Int} (h : Alike m m' q) : ∀ k, k < m.wN 0 q → m'.wF 0 q k = m.wF 0 q k ∧ m'.wC 0 q k = m.wC 0 q k
  | 0, hk => by
    have e : m'.wF 0 q 0 = m.wF 0 q 0 := rfl
    refine ⟨e, ?_⟩
    unfold Mem.wC
    rw [e, (h.2 0 hk).1, (h.2 0 hk).2]
  | k + 1, hk => by
    have ih := (h.step k (by omega)).1
    have e : m'.wF 0 q (k + 1) = m.wF 0 q (k + 1) := by
      show (m'.getE (m'.wF 0 q k) (idxI q k)).f = (m.getE (m.wF 0 q k) (idxI q k)).f
      rw [ih, (h.2 k (by omega)).1]
    refine ⟨e, ?_⟩
    unfold Mem.wC
    rw [e, (h.2 (k + 1) hk).1, (h.2 (k + 1) hk).2]
theorem Mem.wS_same {m m' : Mem} {q : Int} : ∀ n, (∀ k, k < n → m'.wF 0 q k = m.wF 0 q k) → m'.wS 0 q n = m.wS 0 q n
  | 0, _ => rfl
  | n + 1, h => by rw [Mem.wS, Mem.wS, Mem.wS_same n (fun k hk => h k (by omega)), h n (by omega)]
theorem Alike.walk {m m' : Mem} {q : Int} (h : Alike m m' q) : m'.wN 0 q = m.wN 0 q ∧ m'.wX 0 q = m.wX 0 q ∧ m'.wE 0 q = m.wE 0 q ∧ m'.wS 0 q (m.wN 0 q) = m.wS 0 q (m.wN 0 q) := by
  have hB : m'.wB 0 q = m.wB 0 q := by unfold Mem.wB Mem.ex; rw [h.1]
  cases hb : m.wB 0 q
  · rw [hb] at hB
    obtain ⟨a1, a2, a3⟩ := m.walk_no 0 q hb
    obtain ⟨b1, b2, b3⟩ := m'.walk_no 0 q hB
    rw [a1, a2, a3, b1, b2, b3]
    exact ⟨rfl, rfl, rfl, rfl⟩
  · rw [hb] at hB
    have hs := h.step
    have hbd := m.wN_bd 0 q hb
    obtain ⟨k, hk⟩ : ∃ k, m.wN 0 q = k + 1 := ⟨m.wN 0 q - 1, by omega⟩
    have hon : ∀ j, j < k → m.wC 0 q j = 0 := fun j hj => m.wN_on 0 q j (by omega)
    have hon' : ∀ j, j < k → m'.wC 0 q j = 0 := fun j hj => by rw [(hs j (by omega)).2]; exact hon j hj
    have hS : m'.wS 0 q (m.wN 0 q) = m.wS 0 q (m.wN 0 q) := Mem.wS_same _ fun j hj => (hs j hj).1
    by_cases hc : m.wC 0 q k = 0
    · have hk2 : k = 2 := by
        rcases Nat.lt_or_ge k 2 with h2 | h2
        · exfalso
          unfold Mem.wN at hk
          rw [if_pos hb] at hk
          match k, h2, hc, hon, hk with
          | 0, _, hc, _, hk => rw [hc] at hk; simp at hk; split at hk <;> omega
          | 1, _, hc, hon, hk => rw [hon 0 (by omega), hc] at hk; simp at hk
        · omega
      subst hk2
      have all : ∀ j, j < 3 → m.wC 0 q j = 0 := fun j hj => by
        by_cases e : j = 2
        · rw [e]; exact hc
        · exact hon j (by omega)
      have all' : ∀ j, j < 3 → m'.wC 0 q j = 0 := fun j hj => by rw [(hs j (by omega)).2]; exact all j hj
      obtain ⟨a1, a2, a3⟩ := m.walk_end 0 q hb all
      obtain ⟨b1, b2, b3⟩ := m'.walk_end 0 q hB all'
      refine ⟨by rw [a1, b1], by rw [a2, b2], ?_, hS⟩
      rw [a3, b3, (hs 2 (by omega)).1]
      exact (h.2 2 (by omega)).1
    · have hc' : m'.wC 0 q k ≠ 0 := by rw [(hs k (by omega)).2]; exact hc
      obtain ⟨a1, a2, a3⟩ := m.walk_stop 0 q hb k (by omega) hon hc
      obtain ⟨b1, b2, b3⟩ := m'.walk_stop 0 q hB k (by omega) hon' hc'
      refine ⟨by rw [a1, b1], by rw [a2, b2, (hs k (by omega)).2], by rw [a3, b3], hS⟩
/-- the cells of a walk's steps, also of none -/
theorem steps_cells0 {w : World} {base : Nat} {v : Value} {m : Mem} {root q : Int} {n : Nat} (h : w.ownsRow base 128 2 v n (m.wS root q n)) : ∃ so g cap, v = .slice so n cap ∧ (0 < n → so = some ⟨g, 0, none⟩) ∧
    ∀ j, j < n → w.cell? ⟨g, j * 2, none⟩ = some (.int .i64 (m.wF root q j)) ∧ w.cell? ⟨g, j * 2 + 1, none⟩ = some (.int .i64 (idxI q j)) := by
  by_cases hn : 0 < n
  · obtain ⟨g, cap, rfl, _, hc⟩ := steps_cells h hn
    exact ⟨_, g, cap, rfl, fun _ => rfl, hc⟩
  · obtain ⟨o, cap, rfl⟩ := wk_slice h
    exact ⟨o, 0, cap, rfl, fun h => absurd h hn, fun j hj => absurd hj (by omega)⟩
theorem steps_cells1 {w : World} {base : Nat} {so : Option Addr} {g cap : Nat} {m : Mem} {root q : Int} {n : Nat} (h : w.ownsRow base 128 2 (.slice so n cap) n (m.wS root q n)) (hs : 0 < n → so = some ⟨g, 0, none⟩) :
    ∀ j, j < n → w.cell? ⟨g, j * 2, none⟩ = some (.int .i64 (m.wF root q j)) ∧ w.cell? ⟨g, j * 2 + 1, none⟩ = some (.int .i64 (idxI q j)) := by
  intro j hj
  obtain rfl := hs (by omega)
  obtain ⟨g', cap', e, _, hc⟩ := steps_cells h (by omega)
  simp only [Value.slice.injEq, Option.some.injEq, Addr.mk.injEq] at e
  rw [e.1.1]
  exact hc j hj
/-- two steps compared -/
theorem run_eqSd (d : Nat) (a b a' b' : Int) (w : World) :
    (Op.equalIn (d + 2) 128 (.agg #[.int .i64 a, .int .i64 b]) (.agg #[.int .i64 a', .int .i64 b'])).run Tryd.prog w = .ok (decide (a = a' ∧ b = b')) w := by
  have hF : (Tryd.prog.fieldsOf 128).toList.map (fun f => (f.name == "_", f.type, f.offset)) = [(false, 3, 0), (false, 3, 1)] := by kernel_rfl
  rw [run_equalIn_struct w (d + 1) _ _ _ (by kernel_rfl) (by kernel_rfl)]
  have hag : ∀ (e : TypeId) (d : TypeDesc), Tryd.prog.underlying e = some d → d.isRow = false → (isAgg e).run Tryd.prog w = .ok false w := by
    intro e d he hd
    unfold isAgg
    rw [Sem.run_bind, run_underlying he w]
    cases d <;> first | rfl | cases hd
  have hpart : ∀ (e : TypeId) (d : TypeDesc), Tryd.prog.underlying e = some d → d.isRow = false → ∀ (cs : Array Value) (i : Nat) (x : Value), cs[i]? = some x → (part e cs i).run Tryd.prog w = .ok x w := by
    intro e d he hd cs i x hx
    unfold part
    rw [Sem.run_bind, hag e d he hd]
    simp only [Result.andThen_ok, Bool.false_eq_true, if_false, hx]
    rfl
  have hlen := congrArg List.length hF
  rw [List.length_map] at hlen
  generalize (Tryd.prog.fieldsOf 128).toList = L at hF hlen ⊢
  match L, hlen with
  | [g0, g1], _ =>
    simp only [List.map_cons, List.map_nil, List.cons.injEq, Prod.mk.injEq, and_true] at hF
    obtain ⟨⟨n0, t0, o0⟩, n1, t1, o1⟩ := hF
    have n0 : g0.name ≠ "_" := by simpa using n0
    have n1 : g1.name ≠ "_" := by simpa using n1
    have ui : Tryd.prog.underlying 3 = some (.int .i64) := Tryd.underlying3
    have step : ∀ (X Y : Array Value) (g : Field) (fs : List Field) (x y : Value) (q : Bool), g.name ≠ "_" → (part g.type X g.offset).run Tryd.prog w = .ok x w → (part g.type Y g.offset).run Tryd.prog w = .ok y w →
        (Op.equalIn (d + 1) g.type x y).run Tryd.prog w = .ok q w → (Op.eqFields (d + 1) X Y (g :: fs)).run Tryd.prog w = if q = true then (Op.eqFields (d + 1) X Y fs).run Tryd.prog w else .ok false w := by
      intro X Y g fs x y q hn hx hy hq
      rw [Op.eqFields, if_pos hn, Sem.run_bind, hx, Result.andThen_ok, Sem.run_bind, hy, Result.andThen_ok, Sem.run_bind, hq, Result.andThen_ok]
      cases q
      · rfl
      · rfl
    rw [step _ _ g0 _ (.int .i64 a) (.int .i64 a') (a == a') n0 (by rw [t0, o0]; exact hpart _ _ ui rfl _ _ _ rfl) (by rw [t0, o0]; exact hpart _ _ ui rfl _ _ _ rfl) (by rw [t0]; exact run_equalIn_int w d _ .i64 .i64 _ _ ui),
      step _ _ g1 _ (.int .i64 b) (.int .i64 b') (b == b') n1 (by rw [t1, o1]; exact hpart _ _ ui rfl _ _ _ rfl) (by rw [t1, o1]; exact hpart _ _ ui rfl _ _ _ rfl) (by rw [t1]; exact run_equalIn_int w d _ .i64 .i64 _ _ ui)]
    by_cases e1 : a = a'
    · by_cases e2 : b = b'
      · simp [e1, e2, Op.eqFields]
      · simp [e1, e2]
    · simp [e1]
theorem run_eqS (a b a' b' : Int) (c : Bool) (hc : decide (a = a' ∧ b = b') = c) (w : World) :
    (Op.equalIn 10000 128 (.agg #[.int .i64 a, .int .i64 b]) (.agg #[.int .i64 a', .int .i64 b'])).run Tryd.prog w = .ok c w := by
  subst hc
  exact run_eqSd 9998 a b a' b' w
theorem wk_base {w : World} {base base' sz k : Nat} {e : TypeId} {v : Value} {xs : List Value} (h : w.ownsRow base e sz v k xs) (hb : base' ≤ base) : w.ownsRow base' e sz v k xs := by
  refine ⟨h.1, ?_⟩
  rcases h.2 with hn | ⟨g, cap, cur, rfl, hg, rest⟩
  · exact .inl hn
  · exact .inr ⟨g, cap, cur, rfl, Nat.le_trans hb hg, rest⟩
theorem own_step {Q : Nat → Prop} {c c' : Bool} {j : Nat} (hc : c = true ↔ ∃ p, p < j ∧ Q p) (h : c' = true ↔ (c = true ∨ Q j)) : c' = true ↔ ∃ p, p < j + 1 ∧ Q p := by
  rw [h, hc]
  constructor
  · rintro (⟨p, hp, hq⟩ | hq)
    · exact ⟨p, by omega, hq⟩
    · exact ⟨j, by omega, hq⟩
  · rintro ⟨p, hp, hq⟩
    by_cases e : p = j
    · exact .inr (e ▸ hq)
    · exact .inl ⟨p, by omega, hq⟩
/-- is a place among the first j steps' -/
def OwnIs (m : Mem) (q x y : Int) (j : Nat) (c : Bool) : Prop := c = true ↔ ∃ p, p < j ∧ m.wF 0 q p = x ∧ idxI q p = y
theorem OwnIs.zero (m : Mem) (q x y : Int) : OwnIs m q x y 0 false := ⟨fun h => absurd h (by decide), fun ⟨p, hp, _⟩ => absurd hp (by omega)⟩
theorem OwnIs.on {m : Mem} {q x y : Int} {j : Nat} {c c' : Bool} (h : OwnIs m q x y j c) (h' : c' = true ↔ (c = true ∨ m.wF 0 q j = x ∧ idxI q j = y)) : OwnIs m q x y (j + 1) c' :=
  own_step (Q := fun p => m.wF 0 q p = x ∧ idxI q p = y) h h'
end Go.Proofs.YtfdnfllefednjaaDoor

/-
  Contracts of the document's own answers for walk: Walk; the laws' steps.
-/
namespace Go.Proofs.YtfdnfllefednjaaDoor
open Go.ChangeShapes Go.WideShapes Go.ChangeAt Go.RowKit

theorem info_kstep : (Tryd.prog.info? 146).map (fun i => (i.zero, i.size, i.bytes)) = some (some (.agg #[.int .i64 0, .int .i64 0]), 2, 16) := by kernel_rfl
set_option maxRecDepth 100000 in
set_option maxHeartbeats 2000000 in
theorem kwalk_any (C : Nat) (m : Mem) (root q : Int) (w : World) (h : RefAt w C m) (hg : m.good) :
    Calls Tryd.prog 62 #[.pointer (some ⟨C, 0, none⟩), .int .i64 root, .int .i64 q] w fun e w' => ∃ v, e = .returned (.tuple #[(m.wE root q).val, v, .int .i64 (m.wX root q)]) ∧
      w'.ownsRow w.heap.size 146 2 v (m.wN root q) (m.wS root q (m.wN root q)) ∧ Upd (fun _ => False) w w' := by
  obtain ⟨i0, hi, hz0, hz1, hz2⟩ := info_parts info_kstep
  have cX := Lib.hid (fun W (h : RefAt W C m) => rHas_any C m root W h)
  have cI := Lib.hid (fun (l : Int) W => rindex_any q l W)
  have cG := Lib.hid (fun f p W (h : RefAt W C m) => kget_any C m f p W h hg)
  have k0 : Hid (EntAt (w.alloc (.cells #[.bool false, .bool false, .bool false, .int .i64 0] 34)) w.heap.size false false false 0) := Lib.hid (heap_alloc_last w _)
  clear hg
  cases hw : m.wB root q
  · obtain ⟨n1, n2, n3⟩ := m.walk_no root q hw
    rw [n1, n2, n3]
    clear n1 n2 n3 cG cI
    cases hr : m.ex root 1
    · rw [hr] at cX
      clear hr hw
      go_enter Tryd.func62, Tryd.ntmps62
      go_wp2_with fail
      refine (cX.out _ (h.allocd _)).mono ?_
      rintro e w1 ⟨rfl, rfl⟩
      go_wp2_with (with_reducible refine wpList_store_sz rfl 34 (.tmp 6) (.tmp 28) rfl w.heap.size 0 #[.bool false, .bool false, .bool false, .int .i64 0] rfl rfl 4 (ent_sz _ _ _ _) k0.out.there size_ent (ent_one _ _ _ _) [.bool false, .bool false, .bool false, .int .i64 0] (ent_ls _ _ _ _) ?_)
      (try simp only [Exit.inBlock, Exit.then])
      refine bodyPost_ret (ret_ent2 rfl _ _ w.heap.size false false false 0 rfl (k0.out.set false false false 0)) rfl ⟨_, rfl, World.ownsRow_nil _ _ _ _, ?_⟩
      exact Upd.setCells (.inr (Nat.le_refl _)) _ _ ((Upd.refl _ _).alloc _)
    · rw [hr] at cX
      have hq : pageB q = false := by unfold Mem.wB at hw; rw [hr, Bool.true_and] at hw; exact hw
      have hq' := of_decide_eq_false hq
      clear hq hw hr
      by_cases q0 : q < 0
      · clear hq'
        go_enter Tryd.func62, Tryd.ntmps62
        go_wp2_with fail
        refine (cX.out _ (h.allocd _)).mono ?_
        rintro e w1 ⟨rfl, rfl⟩
        go_wp2_with (with_reducible refine wpList_store_sz rfl 34 (.tmp 6) (.tmp 28) rfl w.heap.size 0 #[.bool false, .bool false, .bool false, .int .i64 0] rfl rfl 4 (ent_sz _ _ _ _) k0.out.there size_ent (ent_one _ _ _ _) [.bool false, .bool false, .bool false, .int .i64 0] (ent_ls _ _ _ _) ?_)
        (try simp only [Exit.inBlock, Exit.then])
        refine bodyPost_ret (ret_ent2 rfl _ _ w.heap.size false false false 0 rfl (k0.out.set false false false 0)) rfl ⟨_, rfl, World.ownsRow_nil _ _ _ _, ?_⟩
        exact Upd.setCells (.inr (Nat.le_refl _)) _ _ ((Upd.refl _ _).alloc _)
      · have q1 : 4095 < q := by omega
        clear hq'
        go_enter Tryd.func62, Tryd.ntmps62
        go_wp2_with fail
        refine (cX.out _ (h.allocd _)).mono ?_
        rintro e w1 ⟨rfl, rfl⟩
        go_wp2_with (with_reducible refine wpList_store_sz rfl 34 (.tmp 6) (.tmp 28) rfl w.heap.size 0 #[.bool false, .bool false, .bool false, .int .i64 0] rfl rfl 4 (ent_sz _ _ _ _) k0.out.there size_ent (ent_one _ _ _ _) [.bool false, .bool false, .bool false, .int .i64 0] (ent_ls _ _ _ _) ?_)
        (try simp only [Exit.inBlock, Exit.then])
        refine bodyPost_ret (ret_ent2 rfl _ _ w.heap.size false false false 0 rfl (k0.out.set false false false 0)) rfl ⟨_, rfl, World.ownsRow_nil _ _ _ _, ?_⟩
        exact Upd.setCells (.inr (Nat.le_refl _)) _ _ ((Upd.refl _ _).alloc _)
  · obtain ⟨hr, hq⟩ : m.ex root 1 = true ∧ pageB q = true := by simpa [Mem.wB] using hw
    rw [hr] at cX
    have hq' := of_decide_eq_true hq
    obtain ⟨q0, q1⟩ := hq'
    have hw' := Lib.hid hw
    clear hq hr hw
    go_enter Tryd.func62, Tryd.ntmps62
    go_wp2_with fail
    refine (cX.out _ (h.allocd _)).mono ?_
    rintro e w1 ⟨rfl, rfl⟩
    have U3 := (Upd.refl (fun _ => False) w).alloc (.cells #[.bool false, .bool false, .bool false, .int .i64 0] 34)
    obtain ⟨R, hR⟩ : ∃ R, R = w.heap.size := ⟨_, rfl⟩
    rw [← hR] at k0 ⊢
    have hRN := Lib.hid (Nat.le_of_eq hR.symm)
    clear hR cX
    go_wp2
    generalize w.alloc (.cells #[.bool false, .bool false, .bool false, .int .i64 0] 34) = W at k0 U3 ⊢
    go_loopw [9, 10, 11] (fun s t c wr => ∃ k : Nat, k ≤ 2 ∧ c = .int .i64 k ∧ (∃ z, t = .int .i64 z ∧ Hid (z = m.wF root q k)) ∧ Hid (wr.ownsRow w.heap.size 146 2 s k (m.wS root q k)) ∧ Upd (fun _ => False) w wr ∧ Hid (EntAt wr R false false false 0) ∧ Hid (∀ j, j < k → m.wC root q j = 0)) (fun _ _ c _ => 3 - (intOf c).toNat)
    case atStart => exact ⟨0, by omega, rfl, ⟨root, rfl, Lib.hid rfl⟩, Lib.hid (World.ownsRow_nil _ _ _ _), U3, k0, Lib.hid fun j hj => absurd hj (by omega)⟩
    case round =>
      obtain ⟨k, hk, rfl, ⟨z, rfl, hz'⟩, hrow, hU, KR, hC⟩ := hrel
      clear k0 U3
      have hlt : k < 3 := by omega
      have cIk := Lib.hid (fun W => cI.out k W)
      have hy' : Hid (idxI q k = idxI q k) := Lib.hid rfl
      have ck := Lib.hid (fun W hM => cG.out z (idxI q k) W hM)
      have hcd : Hid (m.wC root q k = codeI (m.getE z (idxI q k)) (m.getX z (idxI q k)) k) := Lib.hid (by rw [hz'.out]; rfl)
      have hFn : Hid (m.wF root q (k + 1) = (m.getE z (idxI q k)).f) := Lib.hid (by rw [hz'.out]; rfl)
      have hE2 : Hid (k = 2 → m.getE (m.wF root q 2) (idxI q 2) = m.getE z (idxI q k)) := Lib.hid (by rw [hz'.out]; rintro rfl; rfl)
      have hSn : Hid (m.wS root q (k + 1) = m.wS root q k ++ [.int .i64 z, .int .i64 (idxI q k)]) := Lib.hid (by rw [hz'.out]; rfl)
      generalize m.getE z (idxI q k) = G at ck hcd hFn hE2
      generalize m.getX z (idxI q k) = X at ck hcd
      generalize idxI q k = y at ck cIk hSn
      obtain ⟨v, r, t, f⟩ := G
      obtain ⟨o, cap, rfl⟩ := wk_slice hrow.out
      have hsz := hU.size
      clear cG hz' cI hy'
      generalize errB (idxB q k) = eb at cIk
      go_wp2_with fail
      refine (cIk.out _).mono ?_
      rintro e w2 ⟨rfl, rfl⟩
      clear cIk
      go_upto_region 10 with ((at_builtin; refine wpList_append_own _ rfl _ _ 112 rfl w.heap.size 146 i0 (.agg #[.int .i64 0, .int .i64 0]) 2 16 Tryd.underlying112 hi hz0 hz1 hz2 rfl (by decide) _ _ _ rfl (hrow.out.alloc _) ⟨wr.heap.size, 0, none⟩ 1 1 [.int .i64 z, .int .i64 y] rfl rfl (wk_two _ _ _ _) (by simp [Value.oneCell']) (by simp [maxLen]; omega) (by omega) (by simp; omega) ?_; intro v' w4 hown' hgrow _; obtain ⟨g', cap', rfl⟩ := ownsRow_succ hown'))
      obtain ⟨U4, hat⟩ := wk_grown hrow.out hgrow hU (Nat.le_refl _)
      have KR4 : Hid (EntAt w4 R false false false 0) := Lib.hid (hat R _ _ KR.out (by decide))
      rw [← hSn.out] at hown'
      have hrow4 := Lib.hid hown'
      have ck4 := Lib.hid (ck.out w4 (h.kept U4 id id))
      clear hown' hgrow hat hrow hU KR hSn hsz ck
      go_wp2_with fail
      refine ck4.out.mono ?_
      rintro e w5 ⟨rfl, u⟩
      clear ck4
      obtain ⟨a1, a2, a3, a4⟩ := ent_box w5 v r t f
      have u5 := u.trans a2
      have hU5 := U4.trans u5
      have KR5 := Lib.hid (KR4.out.kept u5 id)
      have hrow5 := Lib.hid (wk_kept hrow4.out u5 (fun _ _ => id))
      have A1 := Lib.hid a1
      have A3 := Lib.hid a3
      have b0 := a1.range 0 _ rfl
      have b2 := a1.range 2 _ rfl
      have b3 := a1.range 3 _ rfl
      clear a1 a2 a3 a4 u u5 U4 KR4 hrow4
      go_upto_region 11 with ((with_reducible refine wpList_store_sz rfl 34 (.tmp 14) (.tmp 51) rfl w5.heap.size 0 #[.bool v, .bool r, .bool t, .int .i64 f] rfl rfl 4 (ent_sz _ _ _ _) A3.out size_ent (ent_one _ _ _ _) [.bool v, .bool r, .bool t, .int .i64 f] (ent_ls _ _ _ _) ?_))
      generalize (w5.alloc (.cells #[.bool false, .bool false, .bool false, .int .i64 0] 34)).setCells w5.heap.size 0 [.bool v, .bool r, .bool t, .int .i64 f] = w6 at A1 b0 b2 b3 hU5 KR5 hrow5 ⊢
      generalize w5.heap.size = Eb at A1 b0 b2 b3 ⊢
      clear A3
      by_cases hX : X = 0
      · subst hX
        cases v
        · have hc : m.wC root q k = 10 := by rw [hcd.out]; simp [codeI]
          have hS0 := m.walk_stop root q hw'.out k hlt hC.out (by rw [hc]; decide)
          rw [hc] at hS0
          have hS := Lib.hid hS0
          clear hc hS0 hcd hFn hE2 hC A1 hw'
          go_wp2_with (with_reducible refine wpList_store_sz rfl 34 (.tmp 6) (.tmp 60) rfl R 0 #[.bool false, .bool false, .bool false, .int .i64 0] rfl rfl 4 (ent_sz _ _ _ _) KR5.out.there size_ent (ent_one _ _ _ _) [.bool false, .bool false, .bool false, .int .i64 0] (ent_ls _ _ _ _) ?_)
          (try simp only [Exit.inBlock, Exit.then])
          refine bodyPost_ret (ret_ent2 rfl _ _ R false false false 0 rfl (KR5.out.set false false false 0)) rfl ⟨_, by rw [hS.out.2.1, hS.out.2.2]; rfl, ?_, ?_⟩
          · rw [hS.out.1]
            exact wk_kept hrow5.out (Upd.setCells (S := (· = R)) (.inl rfl) _ _ (Upd.refl _ _)) (fun j hj e => wk_ne hrow5.out KR5.out (by decide) j hj e)
          · exact Upd.setCells (.inr hRN.out) _ _ hU5
        · by_cases ht : t = decide (k < 2)
          · have hc : m.wC root q k = 0 := by rw [hcd.out]; simp [codeI, ht]
            have hC' : Hid (∀ j, j < k + 1 → m.wC root q j = 0) := Lib.hid (fun j hj => by
              by_cases e : j = k
              · rw [e]; exact hc
              · exact hC.out j (by omega))
            clear hc hcd hC
            by_cases h2 : k < 2
            · obtain rfl : t = true := by rw [ht]; exact decide_eq_true h2
              have hdec : decide ((k : Int) < 2) = true := decide_eq_true (by omega)
              clear ht A1 hE2
              go_wp2
              exact ⟨⟨k + 1, by omega, by go_num, ⟨f, rfl, Lib.hid hFn.out.symm⟩, hrow5, hU5, KR5, hC'⟩, by simp [intOf]; omega⟩
            · obtain rfl : t = false := by rw [ht]; exact decide_eq_false h2
              obtain rfl : k = 2 := by omega
              have hE2' := hE2.out rfl
              have hS0 := m.walk_end root q hw'.out (fun j hj => hC'.out j hj)
              rw [hE2'] at hS0
              have hS := Lib.hid hS0
              clear ht hE2 hE2' hS0 hC' hw' hFn
              go_wp2_with (first
                | (with_reducible refine wpList_load_sz rfl 34 (.tmp 14) rfl Eb 0 rfl [.bool true, .bool r, .bool false, .int .i64 f] _ A1.out.range Tryd.underlying34 rfl 4 (ent_len _ _ _ _) size_ent ?_)
                | (with_reducible refine wpList_store_sz rfl 34 (.tmp 6) (.tmp 71) rfl R 0 #[.bool true, .bool r, .bool false, .int .i64 f] rfl rfl 4 (ent_sz _ _ _ _) KR5.out.there size_ent (ent_one _ _ _ _) [.bool true, .bool r, .bool false, .int .i64 f] (ent_ls _ _ _ _) ?_))
              (try simp only [Exit.inBlock, Exit.then])
              refine bodyPost_ret (ret_ent2 rfl _ _ R true r false f rfl (KR5.out.set true r false f)) rfl ⟨_, by rw [hS.out.2.1, hS.out.2.2]; rfl, ?_, ?_⟩
              · rw [hS.out.1]
                exact wk_kept hrow5.out (Upd.setCells (S := (· = R)) (.inl rfl) _ _ (Upd.refl _ _)) (fun j hj e => wk_ne hrow5.out KR5.out (by decide) j hj e)
              · exact Upd.setCells (.inr hRN.out) _ _ hU5
          · have hc : m.wC root q k = 11 := by rw [hcd.out]; simp [codeI, ht]
            have hS0 := m.walk_stop root q hw'.out k hlt hC.out (by rw [hc]; decide)
            rw [hc] at hS0
            have hS := Lib.hid hS0
            clear hc hS0 hcd hFn hE2 hC A1 hw'
            by_cases h2 : k < 2
            · obtain rfl : t = false := by simpa [h2] using ht
              have hdec : decide ((k : Int) < 2) = true := decide_eq_true (by omega)
              clear ht
              go_wp2_with (with_reducible refine wpList_store_sz rfl 34 (.tmp 6) (.tmp 67) rfl R 0 #[.bool false, .bool false, .bool false, .int .i64 0] rfl rfl 4 (ent_sz _ _ _ _) KR5.out.there size_ent (ent_one _ _ _ _) [.bool false, .bool false, .bool false, .int .i64 0] (ent_ls _ _ _ _) ?_)
              (try simp only [Exit.inBlock, Exit.then])
              refine bodyPost_ret (ret_ent2 rfl _ _ R false false false 0 rfl (KR5.out.set false false false 0)) rfl ⟨_, by rw [hS.out.2.1, hS.out.2.2]; rfl, ?_, ?_⟩
              · rw [hS.out.1]
                exact wk_kept hrow5.out (Upd.setCells (S := (· = R)) (.inl rfl) _ _ (Upd.refl _ _)) (fun j hj e => wk_ne hrow5.out KR5.out (by decide) j hj e)
              · exact Upd.setCells (.inr hRN.out) _ _ hU5
            · obtain rfl : t = true := by simpa [h2] using ht
              have hdec : decide ((k : Int) < 2) = false := decide_eq_false (by omega)
              clear ht
              go_wp2_with (with_reducible refine wpList_store_sz rfl 34 (.tmp 6) (.tmp 67) rfl R 0 #[.bool false, .bool false, .bool false, .int .i64 0] rfl rfl 4 (ent_sz _ _ _ _) KR5.out.there size_ent (ent_one _ _ _ _) [.bool false, .bool false, .bool false, .int .i64 0] (ent_ls _ _ _ _) ?_)
              (try simp only [Exit.inBlock, Exit.then])
              refine bodyPost_ret (ret_ent2 rfl _ _ R false false false 0 rfl (KR5.out.set false false false 0)) rfl ⟨_, by rw [hS.out.2.1, hS.out.2.2]; rfl, ?_, ?_⟩
              · rw [hS.out.1]
                exact wk_kept hrow5.out (Upd.setCells (S := (· = R)) (.inl rfl) _ _ (Upd.refl _ _)) (fun j hj e => wk_ne hrow5.out KR5.out (by decide) j hj e)
              · exact Upd.setCells (.inr hRN.out) _ _ hU5
      · have hc : m.wC root q k = 11 := by rw [hcd.out]; simp [codeI, hX]
        have hS0 := m.walk_stop root q hw'.out k hlt hC.out (by rw [hc]; decide)
        rw [hc] at hS0
        have hS := Lib.hid hS0
        clear hc hS0 hcd hFn hE2 hC A1 hw'
        go_wp2_with (with_reducible refine wpList_store_sz rfl 34 (.tmp 6) (.tmp 55) rfl R 0 #[.bool false, .bool false, .bool false, .int .i64 0] rfl rfl 4 (ent_sz _ _ _ _) KR5.out.there size_ent (ent_one _ _ _ _) [.bool false, .bool false, .bool false, .int .i64 0] (ent_ls _ _ _ _) ?_)
        (try simp only [Exit.inBlock, Exit.then])
        refine bodyPost_ret (ret_ent2 rfl _ _ R false false false 0 rfl (KR5.out.set false false false 0)) rfl ⟨_, by rw [hS.out.2.1, hS.out.2.2]; rfl, ?_, ?_⟩
        · rw [hS.out.1]
          exact wk_kept hrow5.out (Upd.setCells (S := (· = R)) (.inl rfl) _ _ (Upd.refl _ _)) (fun j hj e => wk_ne hrow5.out KR5.out (by decide) j hj e)
        · exact Upd.setCells (.inr hRN.out) _ _ hU5
end Go.Proofs.YtfdnfllefednjaaDoor

/-
  The memory and the document's own one side by side, with the same words.
-/
namespace Go.Proofs.YtfdnfllefednjaaDoor
open Go.ChangeShapes Go.WideShapes Go.ChangeAt Go.RowKit

/-- the same memory elsewhere -/
def Mem.re (m : Mem) (B : Nat) : Mem := { m with B := B }
theorem Mem.re_wr (m : Mem) (B : Nat) (a v : Int) : (m.re B).wr a v = (m.wr a v).re B := by
  unfold Mem.wr
  show (if m.has a then _ else _) = _
  split <;> rfl
theorem Mem.re_put (m : Mem) (B : Nat) (f p : Int) (e : En) : (m.re B).put f p e = (m.put f p e).re B := by
  unfold Mem.put
  show (if m.putB f p e = true then _ else _) = _
  split
  · exact m.re_wr B _ _
  · rfl
theorem Mem.re_wF (m : Mem) (B : Nat) (root q : Int) : ∀ k, (m.re B).wF root q k = m.wF root q k
  | 0 => rfl
  | k + 1 => by
    show ((m.re B).getE ((m.re B).wF root q k) (idxI q k)).f = (m.getE (m.wF root q k) (idxI q k)).f
    rw [m.re_wF B root q k]
    rfl
theorem Mem.re_wC (m : Mem) (B : Nat) (root q : Int) (k : Nat) : (m.re B).wC root q k = m.wC root q k := by
  unfold Mem.wC
  rw [m.re_wF B root q k]
  rfl
theorem Mem.re_wN (m : Mem) (B : Nat) (root q : Int) : (m.re B).wN root q = m.wN root q := by
  unfold Mem.wN
  rw [Mem.re_wC, Mem.re_wC]
  rfl
theorem Mem.re_wX (m : Mem) (B : Nat) (root q : Int) : (m.re B).wX root q = m.wX root q := by
  unfold Mem.wX
  rw [Mem.re_wC, Mem.re_wC, Mem.re_wC]
  rfl
theorem Mem.re_wE (m : Mem) (B : Nat) (root q : Int) : (m.re B).wE root q = m.wE root q := by
  unfold Mem.wE
  rw [Mem.re_wC, Mem.re_wC, Mem.re_wC, Mem.re_wF]
  rfl
theorem Mem.re_wS (m : Mem) (B : Nat) (root q : Int) : ∀ k, (m.re B).wS root q k = m.wS root q k
  | 0 => rfl
  | k + 1 => by rw [Mem.wS, Mem.wS, m.re_wS B root q k, m.re_wF]
theorem wk_and15 (n : Int) : bits .and .i64 n 15 = n % 16 := by
  have h : (BitVec.ofInt 64 15).toNat = 2 ^ 4 - 1 := by decide
  have key : (BitVec.ofInt 64 n &&& BitVec.ofInt 64 15).toNat = (n % ((2 ^ 64 : Nat) : Int)).toNat % 2 ^ 4 := by
    rw [BitVec.toNat_and, BitVec.toNat_ofInt, h, Nat.and_two_pow_sub_one_eq_mod]
  show IntKind.i64.wrap ((BitVec.ofInt 64 n &&& BitVec.ofInt 64 15).toNat : Nat) = n % 16
  rw [key, IntKind.wrap_i64]
  omega
theorem wk_and255 (n : Int) : bits .and .i64 n 255 = n % 256 := by
  have h : (BitVec.ofInt 64 255).toNat = 2 ^ 8 - 1 := by decide
  have key : (BitVec.ofInt 64 n &&& BitVec.ofInt 64 255).toNat = (n % ((2 ^ 64 : Nat) : Int)).toNat % 2 ^ 8 := by
    rw [BitVec.toNat_and, BitVec.toNat_ofInt, h, Nat.and_two_pow_sub_one_eq_mod]
  show IntKind.i64.wrap ((BitVec.ofInt 64 n &&& BitVec.ofInt 64 255).toNat : Nat) = n % 256
  rw [key, IntKind.wrap_i64]
  omega
/-- both memories, the same words in both -/
structure Both (w wr : World) (A C B1 B2 : Nat) (m : Mem) : Prop where
  M : MemAt wr A m
  R : RefAt wr C (m.re B2)
  T : Tab wr
  U : Upd (fun _ => False) w wr
  b : m.B = B1
  ok : m.ok
  good : m.good
  l0 : w.heap.size ≤ B1
  l1 : B1 < A
  l2 : A < B2
  l3 : B2 < C
theorem Both.kept {w wr w' : World} {A C B1 B2 : Nat} {m : Mem} (h : Both w wr A C B1 B2 m) (u : Upd (fun _ => False) wr w') : Both w w' A C B1 B2 m :=
  ⟨h.M.kept u id id, h.R.kept u id id, h.T.kept u, h.U.trans u, h.b, h.ok, h.good, h.l0, h.l1, h.l2, h.l3⟩
/-- a call on the one -/
theorem Both.one {w wr w' : World} {A C B1 B2 : Nat} {m m' : Mem} (h : Both w wr A C B1 B2 m) (hM : MemAt w' A m') (u : Upd (· = m.B) wr w') : RefAt w' C (m.re B2) ∧ Tab w' ∧ Upd (fun _ => False) w w' := by
  have hb := h.b
  have h1 := h.l1
  have h2 := h.l2
  have h3 := h.l3
  exact ⟨h.R.kept u (by rw [hb]; omega) (by show ¬ B2 = m.B; rw [hb]; omega), h.T.keptS u (h.T.apart h.M), h.U.fresh u (by rw [hb]; exact h.l0)⟩
/-- and on the other -/
theorem Both.two {w wr w1 w2 : World} {A C B1 B2 : Nat} {m m' : Mem} (h : Both w wr A C B1 B2 m) (hM : MemAt w1 A m') (u : Upd (· = m.B) wr w1) (hR : RefAt w2 C (m'.re B2)) (u' : Upd (· = B2) w1 w2) (hb : m'.B = m.B) (hk : m'.ok) (hg : m'.good) : Both w w2 A C B1 B2 m' := by
  obtain ⟨r1, t1, U1⟩ := h.one hM u
  have hb0 := h.b
  have h0 := h.l0
  have h1 := h.l1
  have h2 := h.l2
  have h3 := h.l3
  exact ⟨hM.kept u' (by omega) (by rw [hb, hb0]; omega), hR, t1.keptS u' (t1.apartR r1), U1.fresh u' (by omega), hb.trans hb0, hk, hg, h0, h1, h2, h3⟩
/-- the contracts over both -/
theorem Both.get {w wr : World} {A C B1 B2 : Nat} {m : Mem} (h : Both w wr A C B1 B2 m) (x y : Int) :
    Calls Tryd.prog 10 #[.pointer (some ⟨A, 0, none⟩), .int .i64 x, .int .i64 y] wr fun e w' => e = .returned (.tuple #[(m.getE x y).val, .int .i64 (m.getX x y)]) ∧ Upd (fun _ => False) wr w' := wget_any A m x y wr h.M h.T h.good
theorem Both.kget {w wr : World} {A C B1 B2 : Nat} {m : Mem} (h : Both w wr A C B1 B2 m) (x y : Int) :
    Calls Tryd.prog 83 #[.pointer (some ⟨C, 0, none⟩), .int .i64 x, .int .i64 y] wr fun e w' => e = .returned (.tuple #[(m.getE x y).val, .int .i64 (m.getX x y)]) ∧ Upd (fun _ => False) wr w' := kget_any C (m.re B2) x y wr h.R h.good
theorem Both.blank {w wr : World} {A C B1 B2 : Nat} {m : Mem} (h : Both w wr A C B1 B2 m) (x : Int) :
    Calls Tryd.prog 70 #[.pointer (some ⟨A, 0, none⟩), .int .i64 x] wr fun e w' => e = .returned (.bool (m.zero x)) ∧ Upd (fun _ => False) wr w' := wblank_any A m x wr h.M h.T h.good
theorem Both.walk {w wr : World} {A C B1 B2 : Nat} {m : Mem} (h : Both w wr A C B1 B2 m) (root q : Int) :
    Calls Tryd.prog 65 #[.pointer (some ⟨A, 0, none⟩), .int .i64 root, .int .i64 q] wr fun e w' => ∃ v, e = .returned (.tuple #[(m.wE root q).val, v, .int .i64 (m.wX root q)]) ∧
      w'.ownsRow wr.heap.size 128 2 v (m.wN root q) (m.wS root q (m.wN root q)) ∧ Upd (fun _ => False) wr w' := wwalk_any A m root q wr h.M h.T h.good
theorem Both.kwalk {w wr : World} {A C B1 B2 : Nat} {m : Mem} (h : Both w wr A C B1 B2 m) (root q : Int) :
    Calls Tryd.prog 62 #[.pointer (some ⟨C, 0, none⟩), .int .i64 root, .int .i64 q] wr fun e w' => ∃ v, e = .returned (.tuple #[(m.wE root q).val, v, .int .i64 (m.wX root q)]) ∧
      w'.ownsRow wr.heap.size 146 2 v (m.wN root q) (m.wS root q (m.wN root q)) ∧ Upd (fun _ => False) wr w' := by
  have := kwalk_any C (m.re B2) root q wr h.R h.good
  rwa [Mem.re_wE, Mem.re_wX, Mem.re_wN, Mem.re_wS] at this
/-- the steps of the document's walk -/
theorem ksteps_cells0 {w : World} {base : Nat} {v : Value} {m : Mem} {root q : Int} {n : Nat} (h : w.ownsRow base 146 2 v n (m.wS root q n)) : ∃ so g cap, v = .slice so n cap ∧ (0 < n → so = some ⟨g, 0, none⟩) ∧
    ∀ j, j < n → w.cell? ⟨g, j * 2, none⟩ = some (.int .i64 (m.wF root q j)) ∧ w.cell? ⟨g, j * 2 + 1, none⟩ = some (.int .i64 (idxI q j)) := by
  rcases h.2 with ⟨rfl, rfl⟩ | ⟨g, cap, cur, rfl, hb, _⟩
  · exact ⟨none, 0, 0, rfl, fun h => absurd h (by omega), fun j hj => absurd hj (by omega)⟩
  · refine ⟨_, g, cap, rfl, fun _ => rfl, fun j hj => ?_⟩
    obtain ⟨a, b⟩ := m.wS_at root q j n hj
    have c0 := h.cells (g := g) rfl (j * 2) _ a
    have c1 := h.cells (g := g) rfl (j * 2 + 1) _ b
    rw [add_mid0, Nat.zero_add] at c0 c1
    exact ⟨c0, c1⟩
/-- the first k of the three tables -/
def Mem.tabsN (m : Mem) : Nat → Mem
  | 0 => m
  | 1 => m.put 0 1 ⟨true, false, true, 1⟩
  | 2 => (m.put 0 1 ⟨true, false, true, 1⟩).put 1 2 ⟨true, false, true, 2⟩
  | _ => m.tabs
theorem Mem.wN_le (m : Mem) (root q : Int) : m.wN root q ≤ 3 := by
  cases hb : m.wB root q
  · rw [(m.walk_no root q hb).1]; omega
  · exact (m.wN_bd root q hb).2
end Go.Proofs.YtfdnfllefednjaaDoor
