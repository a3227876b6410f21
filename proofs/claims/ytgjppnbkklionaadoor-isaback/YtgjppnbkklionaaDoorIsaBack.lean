/-
  Proved: trunnionlaw12.IsaBack answers true for every input: instructions are read of their words, and texts, as they were; what is read has just that word, or text.
  Conditions: package isa's tables and the library's variables that the row lists start as the program's text lays them (the card ties them).
-/
import Derived.Test.YtgjppnbkklionaaDoorCards
import Derived.Test.YtgjppnbkklionaaDoorTie
import Derived.SevenTiedAt
import Derived.LaidMore
import Derived.Stop.Joined
import Derived.Test.YtgjppnbkklionaaDoorPart3
namespace Go.Proofs.YtgjppnbkklionaaDoor.isaBack
open Go.ChangeShapes Go.WideShapes Go.ChangeAt Go.RowKit

theorem in_of {o a b c m : Int} (h0 : (Lit.int .i64 o).wf = true) (h1 : (Lit.int .i64 a).wf = true) (h2 : (Lit.int .i64 b).wf = true) (h3 : (Lit.int .i64 c).wf = true) (h4 : (Lit.int .i64 m).wf = true) : Ins.In ⟨o, a, b, c, m⟩ :=
  ⟨bounds_i64 h0, bounds_i64 h1, bounds_i64 h2, bounds_i64 h3, bounds_i64 h4⟩
theorem we_yes {i : Ins} (h : i.right = true) : i.we = 0 := by unfold Ins.we; rw [h]; rfl
theorem we_no {i : Ins} (h : i.right = false) : i.we = 1 := by unfold Ins.we; rw [h]; rfl
theorem zero_in : Ins.zero.In := ⟨by decide, by decide, by decide, by decide, by decide⟩
theorem rd_in {s : ByteArray} {i : Ins} {e : Int} (h : RdIs s i e) : i.In := by
  rcases h with ⟨h, -, -⟩ | ⟨-, rfl, -⟩
  · exact h.in
  · exact zero_in
theorem rd_end {s : ByteArray} {i : Ins} {e : Int} (h : RdIs s i e) : (e = 0 ∧ i.tv = s ∧ i.we = 0) ∨ e = 11 := by
  rcases h with ⟨h, g, rfl⟩ | ⟨-, -, rfl⟩
  · have hr := (Ins.right_iff i).2 h
    exact .inl ⟨rfl, by unfold Ins.tv; rw [hr, if_pos rfl]; exact g, we_yes hr⟩
  · exact .inr rfl
theorem tv_size (i : Ins) : i.tv.size ≤ 1000 := by
  unfold Ins.tv
  split
  · rename_i h
    have ok := (Ins.right_iff i).1 h
    rw [strSz, ← tk_four]
    have := tk_len i ok.o (fun k hk => by
      obtain ⟨-, a, b, c, m, -, -, -, -⟩ := ok
      have hd : k = 0 ∨ k = 1 ∨ k = 2 ∨ k = 3 := by omega
      rcases hd with rfl | rfl | rfl | rfl <;> simp only [Ins.p] <;> omega) 4 (Nat.le_refl _)
    omega
  · decide
theorem ov_in (v : Int) (h : 0 ≤ v) : (Ins.ov v).In := by
  unfold Ins.ov
  split
  · exact of_in v h
  · exact zero_in
theorem wv_bd (i : Ins) : 0 ≤ i.wv ∧ i.wv < 18446744073709551616 := by
  unfold Ins.wv
  split
  · rename_i h
    have := Ins.word_bd ((Ins.right_iff i).1 h)
    omega
  · omega
theorem ov_word {i : Ins} (h : i.right = true) : Ins.ov i.wv = i ∧ Ins.oe i.wv = 0 := by
  have ok := (Ins.right_iff i).1 h
  have e : i.wv = i.word := by unfold Ins.wv; rw [h]; rfl
  have hh : Ins.hit i.word = true := (Ins.hit_iff _).2 ⟨i, ok, rfl⟩
  unfold Ins.ov Ins.oe
  rw [e, hh]
  exact ⟨Ins.of_word ok, rfl⟩
theorem hit_word {v : Int} (h : Ins.hit v = true) : (Ins.ov v).wv = v ∧ (Ins.ov v).we = 0 ∧ Ins.oe v = 0 := by
  have h2 := h
  unfold Ins.hit at h2
  simp only [Bool.and_eq_true, decide_eq_true_eq] at h2
  have e : Ins.ov v = Ins.of v := by unfold Ins.ov; rw [h]; rfl
  rw [e]
  refine ⟨by unfold Ins.wv; rw [h2.1, if_pos rfl]; exact h2.2, we_yes h2.1, by unfold Ins.oe; rw [h]; rfl⟩
theorem miss_word {v : Int} (h : Ins.hit v = false) : Ins.oe v = 11 := by unfold Ins.oe; rw [h]; rfl
set_option maxHeartbeats 8000000 in
theorem walk (o a b c m v : Int) (s : ByteArray) (h0 : (Lit.int .i64 o).wf = true) (h1 : (Lit.int .i64 a).wf = true) (h2 : (Lit.int .i64 b).wf = true) (h3 : (Lit.int .i64 c).wf = true) (h4 : (Lit.int .i64 m).wf = true) (h5 : (Lit.int .u64 v).wf = true) (_h6 : s.size ≤ maxLen) (w : World)
    (_T0 : Fr.VarAt w 6 (Fr.datS (Rows.laid_math_bits_deBruijn32tab (H := Unit)))) (_T1 : Fr.VarAt w 7 (Fr.datS (Rows.laid_math_bits_deBruijn64tab (H := Unit))))
    (T2 : Fr.VarAt w 5 (Fr.datS (Rows.laid_internal_strconv_uint64pow10 (H := Unit))))
    (T3 : Fr.Sent w 4) (T4 : Fr.Sent w 3) (T5 : Fr.VarAt w 1 (Fr.datS (Rows.laid_trunnion_isa_places (H := Unit)))) (T6 : Fr.VarAt w 0 (Fr.datS (Rows.laid_trunnion_isa_operations (H := Unit)))) :
    Calls Tryd.prog 5 #[.agg #[.int .i64 o, .int .i64 a, .int .i64 b, .int .i64 c, .int .i64 m], .int .u64 v, .string s] w fun e w' => e = .returned (.bool true) ∧ Below w.heap.size w w' := by
  have HT := Lib.hid (tabs_of T6 T5)
  have HL := Lib.hid (libs_of T2 T4 T3)
  obtain ⟨v0, v1⟩ := bounds_u64 h5
  obtain ⟨i, hi⟩ : ∃ i : Ins, i = ⟨o, a, b, c, m⟩ := ⟨_, rfl⟩
  have hin := Lib.hid (show i.In from by rw [hi]; exact in_of h0 h1 h2 h3 h4)
  clear _T0 _T1 T2 T3 T4 T5 T6 h0 h1 h2 h3 h4 h5 _h6
  obtain rfl : o = i.op := by rw [hi]
  obtain rfl : a = i.a := by rw [hi]
  obtain rfl : b = i.b := by rw [hi]
  obtain rfl : c = i.c := by rw [hi]
  obtain rfl : m = i.m := by rw [hi]
  clear hi
  have cA := Lib.hid (fun W (u : Upd (fun _ => False) w W) => isawake_any W (HT.out.kept u) (HL.out.kept u))
  have X0 := Lib.hid (show InsAt (w.alloc (.cells #[.int .i64 i.op, .int .i64 i.a, .int .i64 i.b, .int .i64 i.c, .int .i64 i.m] 23)) w.heap.size i from heap_alloc_last w _)
  have U0 := Lib.hid ((Upd.refl (fun _ => False) w).alloc (.cells #[.int .i64 i.op, .int .i64 i.a, .int .i64 i.b, .int .i64 i.c, .int .i64 i.m] 23))
  by_cases hsz : 200 < s.size
  · have hsz' : (200 : Int) < (s.size : Int) := by omega
    clear HT HL hin v0 v1 X0 hsz
    go_enter Tryd.func5, Tryd.ntmps5
    go_wp2_with fail
    refine (cA.out _ U0.out).mono ?_
    rintro e w1 ⟨rfl, u1⟩
    have U1 := Lib.hid (U0.out.trans u1)
    clear U0 u1
    go_wp2
    go_ret
    exact ⟨rfl, U1.out.below (Nat.le_refl _) fun _ _ => id⟩
  have hsz' : (s.size : Int) ≤ 200 := by omega
  have cS := Lib.hid (fun W (u : Upd (fun _ => False) w W) => wread_any s (by omega) W (HT.out.kept u) (HL.out.kept u))
  have cW := Lib.hid (fun W (u : Upd (fun _ => False) w W) => wword_any i hin.out W (HT.out.kept u))
  have cT := Lib.hid (fun W (u : Upd (fun _ => False) w W) => wtext_any i hin.out W (HT.out.kept u) (HL.out.kept u))
  have cO := Lib.hid (fun W (u : Upd (fun _ => False) w W) => wof_any i.wv (wv_bd i).1 (wv_bd i).2 W (HT.out.kept u))
  have cR := Lib.hid (fun W (u : Upd (fun _ => False) w W) => wread_any i.tv (tv_size i) W (HT.out.kept u) (HL.out.kept u))
  have co := Lib.hid (fun W (u : Upd (fun _ => False) w W) => wof_any v v0 (by omega) W (HT.out.kept u))
  have cw := Lib.hid (fun W (u : Upd (fun _ => False) w W) => wword_any (Ins.ov v) (ov_in v v0) W (HT.out.kept u))
  clear hin hsz v0 v1
  cases hri : i.right <;> cases hv : Ins.hit v
  · skip
    rw [we_no hri] at cW cT
    clear hri
    generalize Ins.ov i.wv = c5 at cO
    generalize Ins.oe i.wv = e5 at cO
    generalize i.wv = wv at cW cO
    generalize i.tv = tv at cT cR
    rw [miss_word hv] at co
    clear hv
    generalize Ins.ov v = xv at co cw
    generalize xv.wv = y11 at cw
    generalize xv.we = k11 at cw
    go_enter Tryd.func5, Tryd.ntmps5
    go_upto_region 1 with fail
    generalize (w.alloc (.cells #[.int .i64 i.op, .int .i64 i.a, .int .i64 i.b, .int .i64 i.c, .int .i64 i.m] 23)) = w0 at X0 U0 ⊢
    generalize w.heap.size = X at X0 ⊢
    go_wp2_with fail
    refine (cA.out _ U0.out).mono ?_
    rintro e w1 ⟨rfl, u1⟩
    have U1 := Lib.hid (U0.out.trans u1)
    have X1 := Lib.hid (X0.out.kept u1 id)
    clear U0 X0 u1
    go_wp2_with (with_reducible refine wpList_load_sz rfl 23 (.tmp 3) rfl X 0 rfl [.int .i64 i.op, .int .i64 i.a, .int .i64 i.b, .int .i64 i.c, .int .i64 i.m] _ X1.out.range Tryd.underlying23 rfl 5 (ins_len _ _ _ _ _) size_ins ?_)
    refine (cW.out _ U1.out).mono ?_
    rintro e w2 ⟨rfl, u2⟩
    have U2 := Lib.hid (U1.out.trans u2)
    have X2 := Lib.hid (X1.out.kept u2 id)
    clear U1 X1 u2
    go_wp2_with (with_reducible refine wpList_load_sz rfl 23 (.tmp 3) rfl X 0 rfl [.int .i64 i.op, .int .i64 i.a, .int .i64 i.b, .int .i64 i.c, .int .i64 i.m] _ X2.out.range Tryd.underlying23 rfl 5 (ins_len _ _ _ _ _) size_ins ?_)
    refine (cT.out _ U2.out).mono ?_
    rintro e w3 ⟨rfl, u3⟩
    have U3 := Lib.hid (U2.out.trans u3)
    have X3 := Lib.hid (X2.out.kept u3 id)
    clear U2 X2 u3
    go_wp2_with fail
    refine (cO.out _ U3.out).mono ?_
    rintro e w4 ⟨rfl, u4⟩
    have U4 := Lib.hid (U3.out.trans u4)
    have X4 := Lib.hid (X3.out.kept u4 id)
    clear U3 X3 u4
    go_upto_region 7 with fail
    have U5 := Lib.hid (U4.out.alloc (.cells #[.int .i64 c5.op, .int .i64 c5.a, .int .i64 c5.b, .int .i64 c5.c, .int .i64 c5.m] 23))
    have X5 := Lib.hid (X4.out.kept ((Upd.refl (fun _ => False) w4).alloc (.cells #[.int .i64 c5.op, .int .i64 c5.a, .int .i64 c5.b, .int .i64 c5.c, .int .i64 c5.m] 23)) id)
    have C5 := Lib.hid (show InsAt (w4.alloc (.cells #[.int .i64 c5.op, .int .i64 c5.a, .int .i64 c5.b, .int .i64 c5.c, .int .i64 c5.m] 23)) w4.heap.size c5 from heap_alloc_last w4 _)
    clear U4 X4
    generalize (w4.alloc (.cells #[.int .i64 c5.op, .int .i64 c5.a, .int .i64 c5.b, .int .i64 c5.c, .int .i64 c5.m] 23)) = w5 at X5 U5 C5 ⊢
    generalize w4.heap.size = CB at C5 ⊢
    go_wp2_with fail
    refine (cR.out _ U5.out).mono ?_
    rintro e w6 ⟨d6, n6, rfl, -, u6⟩
    have U6 := Lib.hid (U5.out.trans u6)
    have X6 := Lib.hid (X5.out.kept u6 id)
    have C6 := Lib.hid (C5.out.kept u6 id)
    clear U5 X5 C5 u6
    go_upto_region 8 with fail
    have v7 := (Upd.refl (fun _ => False) w6).alloc (.cells #[.int .i64 d6.op, .int .i64 d6.a, .int .i64 d6.b, .int .i64 d6.c, .int .i64 d6.m] 23)
    have U7 := Lib.hid (U6.out.trans v7)
    have X7 := Lib.hid (X6.out.kept v7 id)
    have C7 := Lib.hid (C6.out.kept v7 id)
    have D7 := Lib.hid (show InsAt (w6.alloc (.cells #[.int .i64 d6.op, .int .i64 d6.a, .int .i64 d6.b, .int .i64 d6.c, .int .i64 d6.m] 23)) w6.heap.size d6 from heap_alloc_last w6 _)
    clear U6 X6 C6 v7
    generalize (w6.alloc (.cells #[.int .i64 d6.op, .int .i64 d6.a, .int .i64 d6.b, .int .i64 d6.c, .int .i64 d6.m] 23)) = w7 at X7 U7 C7 D7 ⊢
    generalize w6.heap.size = DB at D7 ⊢
    go_upto_region 10 with (first
      | (with_reducible refine wpList_load_sz rfl 23 (.tmp 3) rfl X 0 rfl [.int .i64 i.op, .int .i64 i.a, .int .i64 i.b, .int .i64 i.c, .int .i64 i.m] _ X7.out.range Tryd.underlying23 rfl 5 (ins_len _ _ _ _ _) size_ins ?_)
      | (with_reducible refine wpList_load_sz rfl 23 (.tmp 12) rfl CB 0 rfl [.int .i64 c5.op, .int .i64 c5.a, .int .i64 c5.b, .int .i64 c5.c, .int .i64 c5.m] _ C7.out.range Tryd.underlying23 rfl 5 (ins_len _ _ _ _ _) size_ins ?_)
      | (with_reducible refine wpList_load_sz rfl 23 (.tmp 14) rfl DB 0 rfl [.int .i64 d6.op, .int .i64 d6.a, .int .i64 d6.b, .int .i64 d6.c, .int .i64 d6.m] _ D7.out.range Tryd.underlying23 rfl 5 (ins_len _ _ _ _ _) size_ins ?_))
    clear X7 C7 D7
    go_wp2_with fail
    refine (co.out _ U7.out).mono ?_
    rintro e w8 ⟨rfl, u8'⟩
    have U8 := Lib.hid (U7.out.trans u8')
    clear U7 u8'
    go_upto_region 11 with fail
    have U9 := Lib.hid (U8.out.alloc (.cells #[.int .i64 xv.op, .int .i64 xv.a, .int .i64 xv.b, .int .i64 xv.c, .int .i64 xv.m] 23))
    have X9 := Lib.hid (show InsAt (w8.alloc (.cells #[.int .i64 xv.op, .int .i64 xv.a, .int .i64 xv.b, .int .i64 xv.c, .int .i64 xv.m] 23)) w8.heap.size xv from heap_alloc_last w8 _)
    clear U8
    generalize (w8.alloc (.cells #[.int .i64 xv.op, .int .i64 xv.a, .int .i64 xv.b, .int .i64 xv.c, .int .i64 xv.m] 23)) = w9 at U9 X9 ⊢
    generalize w8.heap.size = XB at X9 ⊢
    go_wp2_with (with_reducible refine wpList_load_sz rfl 23 (.tmp 16) rfl XB 0 rfl [.int .i64 xv.op, .int .i64 xv.a, .int .i64 xv.b, .int .i64 xv.c, .int .i64 xv.m] _ X9.out.range Tryd.underlying23 rfl 5 (ins_len _ _ _ _ _) size_ins ?_)
    refine (cw.out _ U9.out).mono ?_
    rintro e w10 ⟨rfl, u10'⟩
    have U10 := Lib.hid (U9.out.trans u10')
    clear U9 X9 u10'
    go_upto_region 14 with fail
    go_wp2_with fail
    refine (cS.out _ U10.out).mono ?_
    rintro e w11 ⟨z, l, rfl, hz, u11'⟩
    have U11 := Lib.hid ((U10.out.trans u11').alloc (.cells #[.int .i64 z.op, .int .i64 z.a, .int .i64 z.b, .int .i64 z.c, .int .i64 z.m] 23))
    have Z11 := Lib.hid (show InsAt (w11.alloc (.cells #[.int .i64 z.op, .int .i64 z.a, .int .i64 z.b, .int .i64 z.c, .int .i64 z.m] 23)) w11.heap.size z from heap_alloc_last w11 _)
    have hzi := Lib.hid (rd_in hz)
    have hzl := Lib.hid (rd_end hz)
    clear U10 u11' hz
    go_upto_region 15 with fail
    generalize (w11.alloc (.cells #[.int .i64 z.op, .int .i64 z.a, .int .i64 z.b, .int .i64 z.c, .int .i64 z.m] 23)) = w12 at U11 Z11 ⊢
    generalize w11.heap.size = ZB at Z11 ⊢
    have cz := Lib.hid (fun W (u : Upd (fun _ => False) w W) => wtext_any z hzi.out W (HT.out.kept u) (HL.out.kept u))
    go_wp2_with (with_reducible refine wpList_load_sz rfl 23 (.tmp 20) rfl ZB 0 rfl [.int .i64 z.op, .int .i64 z.a, .int .i64 z.b, .int .i64 z.c, .int .i64 z.m] _ Z11.out.range Tryd.underlying23 rfl 5 (ins_len _ _ _ _ _) size_ins ?_)
    refine (cz.out _ U11.out).mono ?_
    rintro e w13 ⟨rfl, u13'⟩
    have U13 := Lib.hid (U11.out.trans u13')
    clear cz hzi Z11 U11 u13'
    rcases hzl.out with ⟨rfl, g1, g2⟩ | rfl
    · rw [g1, g2]
      clear g1 g2 hzl
      go_wp2
      go_ret
      exact ⟨rfl, U13.out.below (Nat.le_refl _) fun _ _ => id⟩
    · clear hzl
      generalize z.tv = tz
      generalize z.we = ez
      go_wp2
      go_ret
      exact ⟨rfl, U13.out.below (Nat.le_refl _) fun _ _ => id⟩
  · skip
    rw [we_no hri] at cW cT
    clear hri
    generalize Ins.ov i.wv = c5 at cO
    generalize Ins.oe i.wv = e5 at cO
    generalize i.wv = wv at cW cO
    generalize i.tv = tv at cT cR
    obtain ⟨q1, q2, q3⟩ := hit_word hv
    rw [q1, q2] at cw
    rw [q3] at co
    clear q1 q2 q3 hv
    generalize Ins.ov v = xv at co cw
    go_enter Tryd.func5, Tryd.ntmps5
    go_upto_region 1 with fail
    generalize (w.alloc (.cells #[.int .i64 i.op, .int .i64 i.a, .int .i64 i.b, .int .i64 i.c, .int .i64 i.m] 23)) = w0 at X0 U0 ⊢
    generalize w.heap.size = X at X0 ⊢
    go_wp2_with fail
    refine (cA.out _ U0.out).mono ?_
    rintro e w1 ⟨rfl, u1⟩
    have U1 := Lib.hid (U0.out.trans u1)
    have X1 := Lib.hid (X0.out.kept u1 id)
    clear U0 X0 u1
    go_wp2_with (with_reducible refine wpList_load_sz rfl 23 (.tmp 3) rfl X 0 rfl [.int .i64 i.op, .int .i64 i.a, .int .i64 i.b, .int .i64 i.c, .int .i64 i.m] _ X1.out.range Tryd.underlying23 rfl 5 (ins_len _ _ _ _ _) size_ins ?_)
    refine (cW.out _ U1.out).mono ?_
    rintro e w2 ⟨rfl, u2⟩
    have U2 := Lib.hid (U1.out.trans u2)
    have X2 := Lib.hid (X1.out.kept u2 id)
    clear U1 X1 u2
    go_wp2_with (with_reducible refine wpList_load_sz rfl 23 (.tmp 3) rfl X 0 rfl [.int .i64 i.op, .int .i64 i.a, .int .i64 i.b, .int .i64 i.c, .int .i64 i.m] _ X2.out.range Tryd.underlying23 rfl 5 (ins_len _ _ _ _ _) size_ins ?_)
    refine (cT.out _ U2.out).mono ?_
    rintro e w3 ⟨rfl, u3⟩
    have U3 := Lib.hid (U2.out.trans u3)
    have X3 := Lib.hid (X2.out.kept u3 id)
    clear U2 X2 u3
    go_wp2_with fail
    refine (cO.out _ U3.out).mono ?_
    rintro e w4 ⟨rfl, u4⟩
    have U4 := Lib.hid (U3.out.trans u4)
    have X4 := Lib.hid (X3.out.kept u4 id)
    clear U3 X3 u4
    go_upto_region 7 with fail
    have U5 := Lib.hid (U4.out.alloc (.cells #[.int .i64 c5.op, .int .i64 c5.a, .int .i64 c5.b, .int .i64 c5.c, .int .i64 c5.m] 23))
    have X5 := Lib.hid (X4.out.kept ((Upd.refl (fun _ => False) w4).alloc (.cells #[.int .i64 c5.op, .int .i64 c5.a, .int .i64 c5.b, .int .i64 c5.c, .int .i64 c5.m] 23)) id)
    have C5 := Lib.hid (show InsAt (w4.alloc (.cells #[.int .i64 c5.op, .int .i64 c5.a, .int .i64 c5.b, .int .i64 c5.c, .int .i64 c5.m] 23)) w4.heap.size c5 from heap_alloc_last w4 _)
    clear U4 X4
    generalize (w4.alloc (.cells #[.int .i64 c5.op, .int .i64 c5.a, .int .i64 c5.b, .int .i64 c5.c, .int .i64 c5.m] 23)) = w5 at X5 U5 C5 ⊢
    generalize w4.heap.size = CB at C5 ⊢
    go_wp2_with fail
    refine (cR.out _ U5.out).mono ?_
    rintro e w6 ⟨d6, n6, rfl, -, u6⟩
    have U6 := Lib.hid (U5.out.trans u6)
    have X6 := Lib.hid (X5.out.kept u6 id)
    have C6 := Lib.hid (C5.out.kept u6 id)
    clear U5 X5 C5 u6
    go_upto_region 8 with fail
    have v7 := (Upd.refl (fun _ => False) w6).alloc (.cells #[.int .i64 d6.op, .int .i64 d6.a, .int .i64 d6.b, .int .i64 d6.c, .int .i64 d6.m] 23)
    have U7 := Lib.hid (U6.out.trans v7)
    have X7 := Lib.hid (X6.out.kept v7 id)
    have C7 := Lib.hid (C6.out.kept v7 id)
    have D7 := Lib.hid (show InsAt (w6.alloc (.cells #[.int .i64 d6.op, .int .i64 d6.a, .int .i64 d6.b, .int .i64 d6.c, .int .i64 d6.m] 23)) w6.heap.size d6 from heap_alloc_last w6 _)
    clear U6 X6 C6 v7
    generalize (w6.alloc (.cells #[.int .i64 d6.op, .int .i64 d6.a, .int .i64 d6.b, .int .i64 d6.c, .int .i64 d6.m] 23)) = w7 at X7 U7 C7 D7 ⊢
    generalize w6.heap.size = DB at D7 ⊢
    go_upto_region 10 with (first
      | (with_reducible refine wpList_load_sz rfl 23 (.tmp 3) rfl X 0 rfl [.int .i64 i.op, .int .i64 i.a, .int .i64 i.b, .int .i64 i.c, .int .i64 i.m] _ X7.out.range Tryd.underlying23 rfl 5 (ins_len _ _ _ _ _) size_ins ?_)
      | (with_reducible refine wpList_load_sz rfl 23 (.tmp 12) rfl CB 0 rfl [.int .i64 c5.op, .int .i64 c5.a, .int .i64 c5.b, .int .i64 c5.c, .int .i64 c5.m] _ C7.out.range Tryd.underlying23 rfl 5 (ins_len _ _ _ _ _) size_ins ?_)
      | (with_reducible refine wpList_load_sz rfl 23 (.tmp 14) rfl DB 0 rfl [.int .i64 d6.op, .int .i64 d6.a, .int .i64 d6.b, .int .i64 d6.c, .int .i64 d6.m] _ D7.out.range Tryd.underlying23 rfl 5 (ins_len _ _ _ _ _) size_ins ?_))
    clear X7 C7 D7
    go_wp2_with fail
    refine (co.out _ U7.out).mono ?_
    rintro e w8 ⟨rfl, u8'⟩
    have U8 := Lib.hid (U7.out.trans u8')
    clear U7 u8'
    go_upto_region 11 with fail
    have U9 := Lib.hid (U8.out.alloc (.cells #[.int .i64 xv.op, .int .i64 xv.a, .int .i64 xv.b, .int .i64 xv.c, .int .i64 xv.m] 23))
    have X9 := Lib.hid (show InsAt (w8.alloc (.cells #[.int .i64 xv.op, .int .i64 xv.a, .int .i64 xv.b, .int .i64 xv.c, .int .i64 xv.m] 23)) w8.heap.size xv from heap_alloc_last w8 _)
    clear U8
    generalize (w8.alloc (.cells #[.int .i64 xv.op, .int .i64 xv.a, .int .i64 xv.b, .int .i64 xv.c, .int .i64 xv.m] 23)) = w9 at U9 X9 ⊢
    generalize w8.heap.size = XB at X9 ⊢
    go_wp2_with (with_reducible refine wpList_load_sz rfl 23 (.tmp 16) rfl XB 0 rfl [.int .i64 xv.op, .int .i64 xv.a, .int .i64 xv.b, .int .i64 xv.c, .int .i64 xv.m] _ X9.out.range Tryd.underlying23 rfl 5 (ins_len _ _ _ _ _) size_ins ?_)
    refine (cw.out _ U9.out).mono ?_
    rintro e w10 ⟨rfl, u10'⟩
    have U10 := Lib.hid (U9.out.trans u10')
    clear U9 X9 u10'
    go_upto_region 14 with fail
    go_wp2_with fail
    refine (cS.out _ U10.out).mono ?_
    rintro e w11 ⟨z, l, rfl, hz, u11'⟩
    have U11 := Lib.hid ((U10.out.trans u11').alloc (.cells #[.int .i64 z.op, .int .i64 z.a, .int .i64 z.b, .int .i64 z.c, .int .i64 z.m] 23))
    have Z11 := Lib.hid (show InsAt (w11.alloc (.cells #[.int .i64 z.op, .int .i64 z.a, .int .i64 z.b, .int .i64 z.c, .int .i64 z.m] 23)) w11.heap.size z from heap_alloc_last w11 _)
    have hzi := Lib.hid (rd_in hz)
    have hzl := Lib.hid (rd_end hz)
    clear U10 u11' hz
    go_upto_region 15 with fail
    generalize (w11.alloc (.cells #[.int .i64 z.op, .int .i64 z.a, .int .i64 z.b, .int .i64 z.c, .int .i64 z.m] 23)) = w12 at U11 Z11 ⊢
    generalize w11.heap.size = ZB at Z11 ⊢
    have cz := Lib.hid (fun W (u : Upd (fun _ => False) w W) => wtext_any z hzi.out W (HT.out.kept u) (HL.out.kept u))
    go_wp2_with (with_reducible refine wpList_load_sz rfl 23 (.tmp 20) rfl ZB 0 rfl [.int .i64 z.op, .int .i64 z.a, .int .i64 z.b, .int .i64 z.c, .int .i64 z.m] _ Z11.out.range Tryd.underlying23 rfl 5 (ins_len _ _ _ _ _) size_ins ?_)
    refine (cz.out _ U11.out).mono ?_
    rintro e w13 ⟨rfl, u13'⟩
    have U13 := Lib.hid (U11.out.trans u13')
    clear cz hzi Z11 U11 u13'
    rcases hzl.out with ⟨rfl, g1, g2⟩ | rfl
    · rw [g1, g2]
      clear g1 g2 hzl
      go_wp2
      go_ret
      exact ⟨rfl, U13.out.below (Nat.le_refl _) fun _ _ => id⟩
    · clear hzl
      generalize z.tv = tz
      generalize z.we = ez
      go_wp2
      go_ret
      exact ⟨rfl, U13.out.below (Nat.le_refl _) fun _ _ => id⟩
  · skip
    have he := run_eqI i i true (by simp)
    rw [we_yes hri] at cW cT
    rw [(ov_word hri).1, (ov_word hri).2] at cO
    have hrd := Lib.hid (fun (k : Ins) (n : Int) (h : RdIs i.tv k n) => h.uniq (j := i) (f := 0) (.inl ⟨(Ins.right_iff i).1 hri, by unfold Ins.tv; rw [hri]; rfl, rfl⟩))
    clear hri
    generalize i.wv = wv at cW cO
    generalize i.tv = tv at cT cR hrd
    rw [miss_word hv] at co
    clear hv
    generalize Ins.ov v = xv at co cw
    generalize xv.wv = y11 at cw
    generalize xv.we = k11 at cw
    go_enter Tryd.func5, Tryd.ntmps5
    go_upto_region 1 with fail
    generalize (w.alloc (.cells #[.int .i64 i.op, .int .i64 i.a, .int .i64 i.b, .int .i64 i.c, .int .i64 i.m] 23)) = w0 at X0 U0 ⊢
    generalize w.heap.size = X at X0 ⊢
    go_wp2_with fail
    refine (cA.out _ U0.out).mono ?_
    rintro e w1 ⟨rfl, u1⟩
    have U1 := Lib.hid (U0.out.trans u1)
    have X1 := Lib.hid (X0.out.kept u1 id)
    clear U0 X0 u1
    go_wp2_with (with_reducible refine wpList_load_sz rfl 23 (.tmp 3) rfl X 0 rfl [.int .i64 i.op, .int .i64 i.a, .int .i64 i.b, .int .i64 i.c, .int .i64 i.m] _ X1.out.range Tryd.underlying23 rfl 5 (ins_len _ _ _ _ _) size_ins ?_)
    refine (cW.out _ U1.out).mono ?_
    rintro e w2 ⟨rfl, u2⟩
    have U2 := Lib.hid (U1.out.trans u2)
    have X2 := Lib.hid (X1.out.kept u2 id)
    clear U1 X1 u2
    go_wp2_with (with_reducible refine wpList_load_sz rfl 23 (.tmp 3) rfl X 0 rfl [.int .i64 i.op, .int .i64 i.a, .int .i64 i.b, .int .i64 i.c, .int .i64 i.m] _ X2.out.range Tryd.underlying23 rfl 5 (ins_len _ _ _ _ _) size_ins ?_)
    refine (cT.out _ U2.out).mono ?_
    rintro e w3 ⟨rfl, u3⟩
    have U3 := Lib.hid (U2.out.trans u3)
    have X3 := Lib.hid (X2.out.kept u3 id)
    clear U2 X2 u3
    go_wp2_with fail
    refine (cO.out _ U3.out).mono ?_
    rintro e w4 ⟨rfl, u4⟩
    have U4 := Lib.hid (U3.out.trans u4)
    have X4 := Lib.hid (X3.out.kept u4 id)
    clear U3 X3 u4
    go_upto_region 7 with fail
    have U5 := Lib.hid (U4.out.alloc (.cells #[.int .i64 i.op, .int .i64 i.a, .int .i64 i.b, .int .i64 i.c, .int .i64 i.m] 23))
    have X5 := Lib.hid (X4.out.kept ((Upd.refl (fun _ => False) w4).alloc (.cells #[.int .i64 i.op, .int .i64 i.a, .int .i64 i.b, .int .i64 i.c, .int .i64 i.m] 23)) id)
    have C5 := Lib.hid (show InsAt (w4.alloc (.cells #[.int .i64 i.op, .int .i64 i.a, .int .i64 i.b, .int .i64 i.c, .int .i64 i.m] 23)) w4.heap.size i from heap_alloc_last w4 _)
    clear U4 X4
    generalize (w4.alloc (.cells #[.int .i64 i.op, .int .i64 i.a, .int .i64 i.b, .int .i64 i.c, .int .i64 i.m] 23)) = w5 at X5 U5 C5 ⊢
    generalize w4.heap.size = CB at C5 ⊢
    go_wp2_with fail
    refine (cR.out _ U5.out).mono ?_
    rintro e w6 ⟨d6, n6, rfl, h6, u6⟩
    obtain ⟨e6, rfl⟩ := hrd.out _ _ h6
    replace e6 := e6.symm
    subst e6
    clear h6 hrd
    have U6 := Lib.hid (U5.out.trans u6)
    have X6 := Lib.hid (X5.out.kept u6 id)
    have C6 := Lib.hid (C5.out.kept u6 id)
    clear U5 X5 C5 u6
    go_upto_region 8 with fail
    have v7 := (Upd.refl (fun _ => False) w6).alloc (.cells #[.int .i64 i.op, .int .i64 i.a, .int .i64 i.b, .int .i64 i.c, .int .i64 i.m] 23)
    have U7 := Lib.hid (U6.out.trans v7)
    have X7 := Lib.hid (X6.out.kept v7 id)
    have C7 := Lib.hid (C6.out.kept v7 id)
    have D7 := Lib.hid (show InsAt (w6.alloc (.cells #[.int .i64 i.op, .int .i64 i.a, .int .i64 i.b, .int .i64 i.c, .int .i64 i.m] 23)) w6.heap.size i from heap_alloc_last w6 _)
    clear U6 X6 C6 v7
    generalize (w6.alloc (.cells #[.int .i64 i.op, .int .i64 i.a, .int .i64 i.b, .int .i64 i.c, .int .i64 i.m] 23)) = w7 at X7 U7 C7 D7 ⊢
    generalize w6.heap.size = DB at D7 ⊢
    go_upto_region 10 with (first
      | (with_reducible refine wpList_load_sz rfl 23 (.tmp 3) rfl X 0 rfl [.int .i64 i.op, .int .i64 i.a, .int .i64 i.b, .int .i64 i.c, .int .i64 i.m] _ X7.out.range Tryd.underlying23 rfl 5 (ins_len _ _ _ _ _) size_ins ?_)
      | (with_reducible refine wpList_load_sz rfl 23 (.tmp 12) rfl CB 0 rfl [.int .i64 i.op, .int .i64 i.a, .int .i64 i.b, .int .i64 i.c, .int .i64 i.m] _ C7.out.range Tryd.underlying23 rfl 5 (ins_len _ _ _ _ _) size_ins ?_)
      | (with_reducible refine wpList_load_sz rfl 23 (.tmp 14) rfl DB 0 rfl [.int .i64 i.op, .int .i64 i.a, .int .i64 i.b, .int .i64 i.c, .int .i64 i.m] _ D7.out.range Tryd.underlying23 rfl 5 (ins_len _ _ _ _ _) size_ins ?_))
    clear X7 C7 D7
    go_wp2_with fail
    refine (co.out _ U7.out).mono ?_
    rintro e w8 ⟨rfl, u8'⟩
    have U8 := Lib.hid (U7.out.trans u8')
    clear U7 u8'
    go_upto_region 11 with fail
    have U9 := Lib.hid (U8.out.alloc (.cells #[.int .i64 xv.op, .int .i64 xv.a, .int .i64 xv.b, .int .i64 xv.c, .int .i64 xv.m] 23))
    have X9 := Lib.hid (show InsAt (w8.alloc (.cells #[.int .i64 xv.op, .int .i64 xv.a, .int .i64 xv.b, .int .i64 xv.c, .int .i64 xv.m] 23)) w8.heap.size xv from heap_alloc_last w8 _)
    clear U8
    generalize (w8.alloc (.cells #[.int .i64 xv.op, .int .i64 xv.a, .int .i64 xv.b, .int .i64 xv.c, .int .i64 xv.m] 23)) = w9 at U9 X9 ⊢
    generalize w8.heap.size = XB at X9 ⊢
    go_wp2_with (with_reducible refine wpList_load_sz rfl 23 (.tmp 16) rfl XB 0 rfl [.int .i64 xv.op, .int .i64 xv.a, .int .i64 xv.b, .int .i64 xv.c, .int .i64 xv.m] _ X9.out.range Tryd.underlying23 rfl 5 (ins_len _ _ _ _ _) size_ins ?_)
    refine (cw.out _ U9.out).mono ?_
    rintro e w10 ⟨rfl, u10'⟩
    have U10 := Lib.hid (U9.out.trans u10')
    clear U9 X9 u10'
    go_upto_region 14 with fail
    go_wp2_with fail
    refine (cS.out _ U10.out).mono ?_
    rintro e w11 ⟨z, l, rfl, hz, u11'⟩
    have U11 := Lib.hid ((U10.out.trans u11').alloc (.cells #[.int .i64 z.op, .int .i64 z.a, .int .i64 z.b, .int .i64 z.c, .int .i64 z.m] 23))
    have Z11 := Lib.hid (show InsAt (w11.alloc (.cells #[.int .i64 z.op, .int .i64 z.a, .int .i64 z.b, .int .i64 z.c, .int .i64 z.m] 23)) w11.heap.size z from heap_alloc_last w11 _)
    have hzi := Lib.hid (rd_in hz)
    have hzl := Lib.hid (rd_end hz)
    clear U10 u11' hz
    go_upto_region 15 with fail
    generalize (w11.alloc (.cells #[.int .i64 z.op, .int .i64 z.a, .int .i64 z.b, .int .i64 z.c, .int .i64 z.m] 23)) = w12 at U11 Z11 ⊢
    generalize w11.heap.size = ZB at Z11 ⊢
    have cz := Lib.hid (fun W (u : Upd (fun _ => False) w W) => wtext_any z hzi.out W (HT.out.kept u) (HL.out.kept u))
    go_wp2_with (with_reducible refine wpList_load_sz rfl 23 (.tmp 20) rfl ZB 0 rfl [.int .i64 z.op, .int .i64 z.a, .int .i64 z.b, .int .i64 z.c, .int .i64 z.m] _ Z11.out.range Tryd.underlying23 rfl 5 (ins_len _ _ _ _ _) size_ins ?_)
    refine (cz.out _ U11.out).mono ?_
    rintro e w13 ⟨rfl, u13'⟩
    have U13 := Lib.hid (U11.out.trans u13')
    clear cz hzi Z11 U11 u13'
    rcases hzl.out with ⟨rfl, g1, g2⟩ | rfl
    · rw [g1, g2]
      clear g1 g2 hzl
      go_wp2
      go_ret
      exact ⟨rfl, U13.out.below (Nat.le_refl _) fun _ _ => id⟩
    · clear hzl
      generalize z.tv = tz
      generalize z.we = ez
      go_wp2
      go_ret
      exact ⟨rfl, U13.out.below (Nat.le_refl _) fun _ _ => id⟩
  · skip
    have he := run_eqI i i true (by simp)
    rw [we_yes hri] at cW cT
    rw [(ov_word hri).1, (ov_word hri).2] at cO
    have hrd := Lib.hid (fun (k : Ins) (n : Int) (h : RdIs i.tv k n) => h.uniq (j := i) (f := 0) (.inl ⟨(Ins.right_iff i).1 hri, by unfold Ins.tv; rw [hri]; rfl, rfl⟩))
    clear hri
    generalize i.wv = wv at cW cO
    generalize i.tv = tv at cT cR hrd
    obtain ⟨q1, q2, q3⟩ := hit_word hv
    rw [q1, q2] at cw
    rw [q3] at co
    clear q1 q2 q3 hv
    generalize Ins.ov v = xv at co cw
    go_enter Tryd.func5, Tryd.ntmps5
    go_upto_region 1 with fail
    generalize (w.alloc (.cells #[.int .i64 i.op, .int .i64 i.a, .int .i64 i.b, .int .i64 i.c, .int .i64 i.m] 23)) = w0 at X0 U0 ⊢
    generalize w.heap.size = X at X0 ⊢
    go_wp2_with fail
    refine (cA.out _ U0.out).mono ?_
    rintro e w1 ⟨rfl, u1⟩
    have U1 := Lib.hid (U0.out.trans u1)
    have X1 := Lib.hid (X0.out.kept u1 id)
    clear U0 X0 u1
    go_wp2_with (with_reducible refine wpList_load_sz rfl 23 (.tmp 3) rfl X 0 rfl [.int .i64 i.op, .int .i64 i.a, .int .i64 i.b, .int .i64 i.c, .int .i64 i.m] _ X1.out.range Tryd.underlying23 rfl 5 (ins_len _ _ _ _ _) size_ins ?_)
    refine (cW.out _ U1.out).mono ?_
    rintro e w2 ⟨rfl, u2⟩
    have U2 := Lib.hid (U1.out.trans u2)
    have X2 := Lib.hid (X1.out.kept u2 id)
    clear U1 X1 u2
    go_wp2_with (with_reducible refine wpList_load_sz rfl 23 (.tmp 3) rfl X 0 rfl [.int .i64 i.op, .int .i64 i.a, .int .i64 i.b, .int .i64 i.c, .int .i64 i.m] _ X2.out.range Tryd.underlying23 rfl 5 (ins_len _ _ _ _ _) size_ins ?_)
    refine (cT.out _ U2.out).mono ?_
    rintro e w3 ⟨rfl, u3⟩
    have U3 := Lib.hid (U2.out.trans u3)
    have X3 := Lib.hid (X2.out.kept u3 id)
    clear U2 X2 u3
    go_wp2_with fail
    refine (cO.out _ U3.out).mono ?_
    rintro e w4 ⟨rfl, u4⟩
    have U4 := Lib.hid (U3.out.trans u4)
    have X4 := Lib.hid (X3.out.kept u4 id)
    clear U3 X3 u4
    go_upto_region 7 with fail
    have U5 := Lib.hid (U4.out.alloc (.cells #[.int .i64 i.op, .int .i64 i.a, .int .i64 i.b, .int .i64 i.c, .int .i64 i.m] 23))
    have X5 := Lib.hid (X4.out.kept ((Upd.refl (fun _ => False) w4).alloc (.cells #[.int .i64 i.op, .int .i64 i.a, .int .i64 i.b, .int .i64 i.c, .int .i64 i.m] 23)) id)
    have C5 := Lib.hid (show InsAt (w4.alloc (.cells #[.int .i64 i.op, .int .i64 i.a, .int .i64 i.b, .int .i64 i.c, .int .i64 i.m] 23)) w4.heap.size i from heap_alloc_last w4 _)
    clear U4 X4
    generalize (w4.alloc (.cells #[.int .i64 i.op, .int .i64 i.a, .int .i64 i.b, .int .i64 i.c, .int .i64 i.m] 23)) = w5 at X5 U5 C5 ⊢
    generalize w4.heap.size = CB at C5 ⊢
    go_wp2_with fail
    refine (cR.out _ U5.out).mono ?_
    rintro e w6 ⟨d6, n6, rfl, h6, u6⟩
    obtain ⟨e6, rfl⟩ := hrd.out _ _ h6
    replace e6 := e6.symm
    subst e6
    clear h6 hrd
    have U6 := Lib.hid (U5.out.trans u6)
    have X6 := Lib.hid (X5.out.kept u6 id)
    have C6 := Lib.hid (C5.out.kept u6 id)
    clear U5 X5 C5 u6
    go_upto_region 8 with fail
    have v7 := (Upd.refl (fun _ => False) w6).alloc (.cells #[.int .i64 i.op, .int .i64 i.a, .int .i64 i.b, .int .i64 i.c, .int .i64 i.m] 23)
    have U7 := Lib.hid (U6.out.trans v7)
    have X7 := Lib.hid (X6.out.kept v7 id)
    have C7 := Lib.hid (C6.out.kept v7 id)
    have D7 := Lib.hid (show InsAt (w6.alloc (.cells #[.int .i64 i.op, .int .i64 i.a, .int .i64 i.b, .int .i64 i.c, .int .i64 i.m] 23)) w6.heap.size i from heap_alloc_last w6 _)
    clear U6 X6 C6 v7
    generalize (w6.alloc (.cells #[.int .i64 i.op, .int .i64 i.a, .int .i64 i.b, .int .i64 i.c, .int .i64 i.m] 23)) = w7 at X7 U7 C7 D7 ⊢
    generalize w6.heap.size = DB at D7 ⊢
    go_upto_region 10 with (first
      | (with_reducible refine wpList_load_sz rfl 23 (.tmp 3) rfl X 0 rfl [.int .i64 i.op, .int .i64 i.a, .int .i64 i.b, .int .i64 i.c, .int .i64 i.m] _ X7.out.range Tryd.underlying23 rfl 5 (ins_len _ _ _ _ _) size_ins ?_)
      | (with_reducible refine wpList_load_sz rfl 23 (.tmp 12) rfl CB 0 rfl [.int .i64 i.op, .int .i64 i.a, .int .i64 i.b, .int .i64 i.c, .int .i64 i.m] _ C7.out.range Tryd.underlying23 rfl 5 (ins_len _ _ _ _ _) size_ins ?_)
      | (with_reducible refine wpList_load_sz rfl 23 (.tmp 14) rfl DB 0 rfl [.int .i64 i.op, .int .i64 i.a, .int .i64 i.b, .int .i64 i.c, .int .i64 i.m] _ D7.out.range Tryd.underlying23 rfl 5 (ins_len _ _ _ _ _) size_ins ?_))
    clear X7 C7 D7
    go_wp2_with fail
    refine (co.out _ U7.out).mono ?_
    rintro e w8 ⟨rfl, u8'⟩
    have U8 := Lib.hid (U7.out.trans u8')
    clear U7 u8'
    go_upto_region 11 with fail
    have U9 := Lib.hid (U8.out.alloc (.cells #[.int .i64 xv.op, .int .i64 xv.a, .int .i64 xv.b, .int .i64 xv.c, .int .i64 xv.m] 23))
    have X9 := Lib.hid (show InsAt (w8.alloc (.cells #[.int .i64 xv.op, .int .i64 xv.a, .int .i64 xv.b, .int .i64 xv.c, .int .i64 xv.m] 23)) w8.heap.size xv from heap_alloc_last w8 _)
    clear U8
    generalize (w8.alloc (.cells #[.int .i64 xv.op, .int .i64 xv.a, .int .i64 xv.b, .int .i64 xv.c, .int .i64 xv.m] 23)) = w9 at U9 X9 ⊢
    generalize w8.heap.size = XB at X9 ⊢
    go_wp2_with (with_reducible refine wpList_load_sz rfl 23 (.tmp 16) rfl XB 0 rfl [.int .i64 xv.op, .int .i64 xv.a, .int .i64 xv.b, .int .i64 xv.c, .int .i64 xv.m] _ X9.out.range Tryd.underlying23 rfl 5 (ins_len _ _ _ _ _) size_ins ?_)
    refine (cw.out _ U9.out).mono ?_
    rintro e w10 ⟨rfl, u10'⟩
    have U10 := Lib.hid (U9.out.trans u10')
    clear U9 X9 u10'
    go_upto_region 14 with fail
    go_wp2_with fail
    refine (cS.out _ U10.out).mono ?_
    rintro e w11 ⟨z, l, rfl, hz, u11'⟩
    have U11 := Lib.hid ((U10.out.trans u11').alloc (.cells #[.int .i64 z.op, .int .i64 z.a, .int .i64 z.b, .int .i64 z.c, .int .i64 z.m] 23))
    have Z11 := Lib.hid (show InsAt (w11.alloc (.cells #[.int .i64 z.op, .int .i64 z.a, .int .i64 z.b, .int .i64 z.c, .int .i64 z.m] 23)) w11.heap.size z from heap_alloc_last w11 _)
    have hzi := Lib.hid (rd_in hz)
    have hzl := Lib.hid (rd_end hz)
    clear U10 u11' hz
    go_upto_region 15 with fail
    generalize (w11.alloc (.cells #[.int .i64 z.op, .int .i64 z.a, .int .i64 z.b, .int .i64 z.c, .int .i64 z.m] 23)) = w12 at U11 Z11 ⊢
    generalize w11.heap.size = ZB at Z11 ⊢
    have cz := Lib.hid (fun W (u : Upd (fun _ => False) w W) => wtext_any z hzi.out W (HT.out.kept u) (HL.out.kept u))
    go_wp2_with (with_reducible refine wpList_load_sz rfl 23 (.tmp 20) rfl ZB 0 rfl [.int .i64 z.op, .int .i64 z.a, .int .i64 z.b, .int .i64 z.c, .int .i64 z.m] _ Z11.out.range Tryd.underlying23 rfl 5 (ins_len _ _ _ _ _) size_ins ?_)
    refine (cz.out _ U11.out).mono ?_
    rintro e w13 ⟨rfl, u13'⟩
    have U13 := Lib.hid (U11.out.trans u13')
    clear cz hzi Z11 U11 u13'
    rcases hzl.out with ⟨rfl, g1, g2⟩ | rfl
    · rw [g1, g2]
      clear g1 g2 hzl
      go_wp2
      go_ret
      exact ⟨rfl, U13.out.below (Nat.le_refl _) fun _ _ => id⟩
    · clear hzl
      generalize z.tv = tz
      generalize z.we = ez
      go_wp2
      go_ret
      exact ⟨rfl, U13.out.below (Nat.le_refl _) fun _ _ => id⟩
/-! ### the row's frame, and its tied card -/
theorem own : ownKnob Tryd.prog.godebug = none := by kernel_rfl
theorem laidOut : laidOutB Tryd.prog = true := by kernel_rfl
/-- the door's own heap meets the condition -/
theorem door_met (os : Os) (args : Array Value) : laidMetH Tryd.prog Rows.isaBackRow.laid ((World.doorLaid Tryd.prog 400 os).forCall (fun _ _ => 0) ⟨#[], args, []⟩).memory :=
  laidMetH_of_parts3 (fuel := 8) (laidMet_of_run' 8 (by kernel_rfl) (by kernel_rfl)) (by kernel_rfl) (by kernel_rfl)
set_option linter.unusedVariables false in
set_option maxRecDepth 100000 in
theorem lifted (os : Os) (started : os.Started) (H : Type) (enc : TypeId × Value → H) :
    ReturnsInHanded {} Tryd.checked os 5 .any (fun w args => (Rows.isaBackSpec.pre enc Tryd.prog Tryd.f5 [] false w args ∧ laidMetH Tryd.prog Rows.isaBackRow.laid w) ∧ sizedMet enc Tryd.prog Tryd.f5 (OpenSpec.ofChange Rows.isaBackSpec) false w args)
      (Rows.isaBackSpec.post enc Tryd.prog Tryd.f5 false true false false) := by
  refine returnsInHanded_of_change_and (C := Tryd.checked) (X := fun w _ => laidMetH Tryd.prog Rows.isaBackRow.laid w) (fun _ _ _ hh h => h.of_heap hh) own started (by kernel_rfl) Tryd.func5
    (ChangeSpec.witness_shaped (enc := enc) (C := Tryd.checked) (os := os) (X := fun w _ => laidMetH Tryd.prog Rows.isaBackRow.laid w) false (World.doorLaid Tryd.prog 400 os) #[.agg #[.int .i64 0, .int .i64 0, .int .i64 0, .int .i64 0, .int .i64 0], .int .u64 0, .string ⟨#[]⟩] 8 rfl (World.shaped_of_RefB (by kernel_rfl) (by kernel_rfl)) (by kernel_rfl) (by kernel_rfl) (by kernel_rfl) (door_met os _)) ?_
  intro W base args ds gs before hval0 hW _ _ hL _
  have hLd := hL
  rw [MakeChecks.laidMetH_plain _ _ _ (by kernel_rfl)] at hLd
  have T0 : Fr.VarAt W 6 (Fr.datS (Rows.laid_math_bits_deBruijn32tab (H := Unit))) := Fr.varAt_of_laid (t := 110) (k := 32) 12 (hLd : laidMet Tryd.prog Rows.isaBackRow.laid W) "math/bits.deBruijn32tab" (Rows.laid_math_bits_deBruijn32tab (H := Unit)) (by simp [Rows.isaBackRow]) (by kernel_rfl) (by kernel_rfl) (by kernel_rfl)
  have T1 : Fr.VarAt W 7 (Fr.datS (Rows.laid_math_bits_deBruijn64tab (H := Unit))) := Fr.varAt_of_laid (t := 111) (k := 64) 12 (hLd : laidMet Tryd.prog Rows.isaBackRow.laid W) "math/bits.deBruijn64tab" (Rows.laid_math_bits_deBruijn64tab (H := Unit)) (by simp [Rows.isaBackRow]) (by kernel_rfl) (by kernel_rfl) (by kernel_rfl)
  have T2 : Fr.VarAt W 5 (Fr.datS (Rows.laid_internal_strconv_uint64pow10 (H := Unit))) := Fr.varAt_of_laid (t := 96) (k := 20) 12 (hLd : laidMet Tryd.prog Rows.isaBackRow.laid W) "internal/strconv.uint64pow10" (Rows.laid_internal_strconv_uint64pow10 (H := Unit)) (by simp [Rows.isaBackRow]) (by kernel_rfl) (by kernel_rfl) (by kernel_rfl)
  have T3 : Fr.Sent W 4 := Fr.sent_of_laid (t := 60) (hLd : laidMet Tryd.prog Rows.isaBackRow.laid W) "strconv.ErrRange" _ _ (show ("strconv.ErrRange", Rows.laid_strconv_ErrRange (H := Unit)) ∈ _ from by simp [Rows.isaBackRow]) (by kernel_rfl) (by kernel_rfl) Tryd.underlying60
  have T4 : Fr.Sent W 3 := Fr.sent_of_laid (t := 60) (hLd : laidMet Tryd.prog Rows.isaBackRow.laid W) "strconv.ErrSyntax" _ _ (show ("strconv.ErrSyntax", Rows.laid_strconv_ErrSyntax (H := Unit)) ∈ _ from by simp [Rows.isaBackRow]) (by kernel_rfl) (by kernel_rfl) Tryd.underlying60
  have T5 : Fr.VarAt W 1 (Fr.datS (Rows.laid_trunnion_isa_places (H := Unit))) := Fr.varAt_of_laid (t := 48) (k := 12) 12 (hLd : laidMet Tryd.prog Rows.isaBackRow.laid W) "trunnion/isa.places" (Rows.laid_trunnion_isa_places (H := Unit)) (by simp [Rows.isaBackRow]) (by kernel_rfl) (by kernel_rfl) (by kernel_rfl)
  have T6 : Fr.VarAt W 0 (Fr.datS (Rows.laid_trunnion_isa_operations (H := Unit))) := Fr.varAt_of_laid (t := 43) (k := 60) 12 (hLd : laidMet Tryd.prog Rows.isaBackRow.laid W) "trunnion/isa.operations" (Rows.laid_trunnion_isa_operations (H := Unit)) (by simp [Rows.isaBackRow]) (by kernel_rfl) (by kernel_rfl) (by kernel_rfl)
  clear hL hLd
  have hval : ∀ (j : Nat) t v, Tryd.f5.params[j]? = some t → args[j]? = some v → Value.okWide Tryd.prog W .any base t v := hval0
  have hW' := hW
  obtain ⟨p, q, hA0, hV, rfl, hfz, hnd⟩ := hW
  have hA : DataW.TrodAll enc Tryd.prog W 0 (fun _ => true) true Tryd.f5.params.toList args.toList ds p := hA0
  rw [Tryd.params5] at hA hval
  obtain ⟨v0, vs0, d0, ds0, p0, q0, hargs, rfl, rfl, h0, r0⟩ := trodAll_cons hA
  obtain ⟨v1, vs1, d1, ds1, p1, q1, rfl, rfl, rfl, h1, r1⟩ := trodAll_cons r0
  obtain ⟨v2, vs2, d2, ds2, p2, q2, rfl, rfl, rfl, h2, r2⟩ := trodAll_cons r1
  obtain ⟨rfl, rfl, rfl⟩ := trodAll_nil r2
  obtain rfl : args = #[v0, v1, v2] := by cases args; simp_all
  obtain ⟨rfl, rfl⟩ := trodVars_none hV
  have k0 := h0
  have lt0 : ∀ x ∈ p0, x.block < W.heap.size := by obtain ⟨m, hm⟩ := k0; exact DataW.trod_lt m _ _ _ hm
  obtain ⟨cs0, rfl, o0⟩ := Fr.open_flat 12 [some .i64, some .i64, some .i64, some .i64, some .i64] Tryd.underlying23 (by kernel_rfl) (hval 0 23 v0 rfl rfl) h0
  obtain ⟨c0_0, c0_1, c0_2, c0_3, c0_4, rfl⟩ := Fr.cells5 o0.1
  obtain ⟨a0_0, rfl, w0_0⟩ := o0.2 0 _ _ rfl rfl
  obtain ⟨a0_1, rfl, w0_1⟩ := o0.2 1 _ _ rfl rfl
  obtain ⟨a0_2, rfl, w0_2⟩ := o0.2 2 _ _ rfl rfl
  obtain ⟨a0_3, rfl, w0_3⟩ := o0.2 3 _ _ rfl rfl
  obtain ⟨a0_4, rfl, w0_4⟩ := o0.2 4 _ _ rfl rfl
  have k1 := h1
  have lt1 : ∀ x ∈ p1, x.block < W.heap.size := by obtain ⟨m, hm⟩ := k1; exact DataW.trod_lt m _ _ _ hm
  obtain ⟨a1, rfl, rfl, rfl, w1⟩ := open_int Tryd.underlying24 (hval 1 24 v1 rfl rfl) h1
  have k2 := h2
  have lt2 : ∀ x ∈ p2, x.block < W.heap.size := by obtain ⟨m, hm⟩ := k2; exact DataW.trod_lt m _ _ _ hm
  obtain ⟨a2, rfl, rfl, rfl, w2⟩ := Go.ChangeMaps.open_string Tryd.underlying9 (hval 2 9 v2 rfl rfl) h2
  clear hA0 hval0
  refine (walk a0_0 a0_1 a0_2 a0_3 a0_4 a1 a2 w0_0 w0_1 w0_2 w0_3 w0_4 w1 w2 W  T0 T1 T2 T3 T4 T5 T6).mono fun e W' ⟨he, bel⟩ => ?_
  subst he
  exact ⟨_, rfl, _, _, _, [], _, [], hW', trodAll_mk1 (shut_bool Tryd.underlying4 _), (trodAll_cons_mk (Below.trod laidOut (by kernel_rfl) (of_decide_eq_true (by kernel_rfl)) k0 bel lt0) (trodAll_cons_mk (Below.trod laidOut (by kernel_rfl) (of_decide_eq_true (by kernel_rfl)) k1 bel lt1) (trodAll_cons_mk (Below.trod laidOut (by kernel_rfl) (of_decide_eq_true (by kernel_rfl)) k2 bel lt2) trodAll_mk0))), rfl, bel.frame _, fun h => by cases h⟩

theorem over : Rows.isaBackRow.holds Tryd.pinned (OpenSpec.ofChange Rows.isaBackSpec) :=
  OpenClaim.holds_of_wide 5 Tryd.f5 rfl rfl rfl rfl rfl rfl rfl ⟨rfl, rfl, rfl, rfl, rfl⟩ rfl rfl rfl rfl rfl (by kernel_rfl) Tryd.func5 (by kernel_rfl)
    (of_decide_eq_true (by kernel_rfl)) (by unfold Func.isWrapper; first | (rw [if_pos (by decide +kernel)]; kernel_rfl) | (rw [if_neg (by decide +kernel)]; exact ⟨rfl, rfl⟩))
    (fun os started H enc _ => lifted os started H enc)

theorem proved : Rows.IsaBackCardSaid :=
  Claim7.holds_tied_plain_at .later [] [.data, .data, .data, .sentinel, .sentinel, .data, .data] true (true, "4ddb2e383d5345f79bcf1ef3a8ab278f627446daa02effe3b4aa83b45206c2b1") true
    over (fun _ h => by cases h) (by kernel_rfl) (fun _ h => by cases h) isaBack_row_tie rfl ⟨rfl, rfl⟩ (by kernel_rfl) rfl
    (fun f fn hf hfn => by
      obtain rfl : f = 5 := Option.some.inj ((show Tryd.prog.funcNamed "trunnion/trunnionlaw12.IsaBack" = some 5 by kernel_rfl).symm.trans hf) |>.symm
      obtain rfl : fn = Tryd.f5 := (Option.some.inj (Tryd.func5.symm.trans hfn)).symm
      exact ⟨by kernel_rfl, fun j t ht => by
        rw [Tryd.params5] at ht
        have hm : t ∈ [23, 24, 9] := by simpa using Array.mem_of_getElem? ht
        have hall : ([23, 24, 9].all fun u => !Tryd.prog.wantsStandIn u) = true := by kernel_rfl
        exact (show Tryd.prog.wantsStandIn t = false by simpa using List.all_eq_true.1 hall t hm)⟩)
    (by kernel_rfl)
end Go.Proofs.YtgjppnbkklionaaDoor.isaBack
