/-
  The laws' tables and awake over package walk.
-/
import Derived.Test.YtbakhipabeaojaaDoorWkE
namespace Go.Proofs.YtbakhipabeaojaaDoor
open Go.ChangeShapes Go.WideShapes Go.ChangeAt Go.RowKit

/-- three tables -/
def Mem.tabs (m : Mem) : Mem := ((m.put 0 1 ⟨true, false, true, 1⟩).put 1 2 ⟨true, false, true, 2⟩).put 2 3 ⟨true, true, false, 7⟩
theorem Mem.tabs_B (m : Mem) : m.tabs.B = m.B := by unfold Mem.tabs; rw [Mem.put_B, Mem.put_B, Mem.put_B]
theorem Mem.tabs_n (m : Mem) : m.tabs.n = m.n := by unfold Mem.tabs; rw [Mem.put_n, Mem.put_n, Mem.put_n]
theorem Mem.tabs_ok (m : Mem) (h : m.ok) : m.tabs.ok := Mem.put_ok _ (Mem.put_ok _ (Mem.put_ok _ h ..) ..) ..
theorem Mem.tabs_good (m : Mem) (h : m.ok) (hg : m.good) : m.tabs.good := by
  have h1 := m.put_good h hg 0 1 ⟨true, false, true, 1⟩
  have k1 := m.put_ok h 0 1 ⟨true, false, true, 1⟩
  have h2 := Mem.put_good _ k1 h1 1 2 ⟨true, false, true, 2⟩
  have k2 := Mem.put_ok _ k1 1 2 ⟨true, false, true, 2⟩
  exact Mem.put_good _ k2 h2 2 3 ⟨true, true, false, 7⟩
set_option maxHeartbeats 1000000 in
theorem wtables_any (A : Nat) (m : Mem) (w : World) (h : MemAt w A m) (T : Tab w) :
    Calls Tryd.prog 10 #[.pointer (some ⟨A, 0, none⟩)] w fun e w' => e = .returned (.tuple #[]) ∧ MemAt w' A m.tabs ∧ Upd (· = m.B) w w' := by
  have c1 := Lib.hid (fun m W (h : MemAt W A m) T => wput_any A m 0 1 ⟨true, false, true, 1⟩ W h T (by decide))
  have c2 := Lib.hid (fun m W (h : MemAt W A m) T => wput_any A m 1 2 ⟨true, false, true, 2⟩ W h T (by decide))
  have c3 := Lib.hid (fun m W (h : MemAt W A m) T => wput_any A m 2 3 ⟨true, true, false, 7⟩ W h T (by decide))
  go_enter Tryd.func10, Tryd.ntmps10
  go_wp2_with fail
  refine (c1.out _ _ h T).mono ?_
  rintro e w1 ⟨rfl, h1, u1⟩
  have T1 := T.keptS u1 (T.apart h)
  go_wp2_with fail
  refine (c2.out _ _ h1 T1).mono ?_
  rintro e w2 ⟨rfl, h2, u2⟩
  have T2 := T1.keptS u2 (T1.apart h1)
  rw [Mem.put_B] at u2
  go_wp2_with fail
  refine (c3.out _ _ h2 T2).mono ?_
  rintro e w3 ⟨rfl, h3, u3⟩
  rw [Mem.put_B, Mem.put_B] at u3
  go_wp2
  go_end0
  exact ⟨rfl, h3, (u1.trans u2).trans u3⟩
theorem wk_aw (B : Nat) : (memNew B 4).tabs.wE 0 291 = ⟨true, true, false, 7⟩ ∧ (memNew B 4).tabs.wX 0 291 = 0 ∧ (memNew B 4).tabs.wN 0 291 = 3 ∧ (memNew B 4).tabs.wX 0 547 = 10 ∧ (memNew B 4).tabs.wN 0 547 = 1 ∧
    (memNew B 4).tabs.zero 3 = true ∧ (memNew B 4).tabs.zero 1 = false := ⟨by kernel_rfl, by kernel_rfl, by kernel_rfl, by kernel_rfl, by kernel_rfl, by kernel_rfl, by kernel_rfl⟩
/-- a memory that the call itself made -/
theorem Upd.fresh {a b c : World} {B : Nat} (h : Upd (fun _ => False) a b) (u : Upd (· = B) b c) (hB : a.heap.size ≤ B) : Upd (fun _ => False) a c :=
  ⟨u.os.trans h.os, u.tape.trans h.tape, u.output.trans h.output, Nat.le_trans h.size u.size, fun k hk hs => (u.block k (Nat.lt_of_lt_of_le hk h.size) (by omega)).trans (h.block k hk hs)⟩
set_option maxHeartbeats 1000000 in
theorem wawake_any (w : World) (T : Tab w) : Calls Tryd.prog 7 #[] w fun e w' => e = .returned (.bool true) ∧ Upd (fun _ => False) w w' := by
  go_enter Tryd.func7, Tryd.ntmps7
  go_wp2_with fail
  refine (new_yes 4 _ (by omega) (by omega)).mono ?_
  rintro e w1 ⟨rfl, h1, u1, s1⟩
  obtain ⟨n1, n2, n3, n4, n5, n6, n7⟩ := wk_aw w.heap.size
  have T1 := T.kept u1
  have ct := Lib.hid (wtables_any _ _ w1 h1 T1)
  have hok := Mem.new_ok w.heap.size 4
  have hg := Mem.tabs_good _ hok (Mem.new_good w.heap.size 4)
  have hA := T1.apart h1
  have hB : (memNew w.heap.size 4).B = w.heap.size := rfl
  rw [hB] at ct hA
  clear s1 h1 T hok hB
  generalize hm : (memNew w.heap.size 4).tabs = M at n1 n2 n3 n4 n5 n6 n7 ct hg
  clear hm
  generalize w.heap.size + 1 = A at ct ⊢
  go_wp2_with fail
  refine ct.out.mono ?_
  rintro e w2 ⟨rfl, h2, u2⟩
  have T2 := T1.keptS u2 hA
  have U2 := u1.fresh u2 (Nat.le_refl _)
  have c1 := Lib.hid (fun W (h : MemAt W A M) T => wwalk_any A M 0 291 W h T hg)
  have c2 := Lib.hid (fun W (h : MemAt W A M) T => wwalk_any A M 0 547 W h T hg)
  have c3 := Lib.hid (fun W (h : MemAt W A M) T => wblank_any A M 3 W h T hg)
  have c4 := Lib.hid (fun W (h : MemAt W A M) T => wblank_any A M 1 W h T hg)
  rw [n1, n2, n3] at c1
  rw [n4, n5] at c2
  rw [n6] at c3
  rw [n7] at c4
  generalize M.wE 0 547 = G at c2
  obtain ⟨gv, gr, gt, gf⟩ := G
  clear n1 n2 n3 n4 n5 n6 n7 u1 u2 ct T1 hA hg
  go_wp2_with fail
  refine (c1.out _ h2 T2).mono ?_
  rintro e w3 ⟨v3, rfl, r3, u3⟩
  obtain ⟨o3, cap3, rfl⟩ := wk_slice r3
  clear r3
  obtain ⟨a1, a2, a3, a4⟩ := ent_box w3 true true false 7
  have A3 := Lib.hid a3
  have u4 := u3.trans a2
  have h4 := h2.kept u4 id id
  have T4 := T2.kept u4
  have U4 := U2.trans u4
  clear a3 a4 a2 u3 u4 h2 T2 U2 c1
  go_upto_region 6 with ((with_reducible refine wpList_store_sz rfl 35 (.tmp 3) (.tmp 20) rfl w3.heap.size 0 #[.bool true, .bool true, .bool false, .int .i64 7] rfl rfl 4 (ent_sz _ _ _ _) A3.out size_ent (ent_one _ _ _ _) [.bool true, .bool true, .bool false, .int .i64 7] (ent_ls _ _ _ _) ?_))
  generalize (w3.alloc (.cells #[.bool false, .bool false, .bool false, .int .i64 0] 35)).setCells w3.heap.size 0 [.bool true, .bool true, .bool false, .int .i64 7] = w4 at a1 h4 T4 U4 ⊢
  generalize w3.heap.size = C at a1 ⊢
  clear A3
  go_wp2_with fail
  refine (c2.out _ h4 T4).mono ?_
  rintro e w5 ⟨v5, rfl, r5, u5⟩
  obtain ⟨o5, cap5, rfl⟩ := wk_slice r5
  clear r5
  obtain ⟨b1, b2, b3, b4⟩ := ent_box w5 gv gr gt gf
  have B3 := Lib.hid b3
  have u6 := u5.trans b2
  have h6 := h4.kept u6 id id
  have T6 := T4.kept u6
  have U6 := U4.trans u6
  have a6 := a1.kept u6 id
  have q1 := a6.range 1 _ rfl
  have q3 := a6.range 3 _ rfl
  clear b1 b3 b4 b2 u5 u6 h4 T4 U4 a1 a6 c2
  go_upto_region 7 with ((with_reducible refine wpList_store_sz rfl 35 (.tmp 6) (.tmp 26) rfl w5.heap.size 0 #[.bool gv, .bool gr, .bool gt, .int .i64 gf] rfl rfl 4 (ent_sz _ _ _ _) B3.out size_ent (ent_one _ _ _ _) [.bool gv, .bool gr, .bool gt, .int .i64 gf] (ent_ls _ _ _ _) ?_))
  generalize (w5.alloc (.cells #[.bool false, .bool false, .bool false, .int .i64 0] 35)).setCells w5.heap.size 0 [.bool gv, .bool gr, .bool gt, .int .i64 gf] = w6 at q1 q3 h6 T6 U6 ⊢
  generalize w5.heap.size = D
  clear B3
  go_wp2_with fail
  refine (c3.out _ h6 T6).mono ?_
  rintro e w7 ⟨rfl, u7⟩
  go_wp2_with fail
  refine (c4.out _ (h6.kept u7 id id) (T6.kept u7)).mono ?_
  rintro e w8 ⟨rfl, u8⟩
  go_wp2
  go_ret
  exact ⟨rfl, (U6.trans u7).trans u8⟩
end Go.Proofs.YtbakhipabeaojaaDoor
