/-
  Proved: trunnionlaw12.IsaOne answers true for every input: two instructions that may be have the same word just if they are the same, and the same text just then.
  Conditions: package isa's tables and the library's variables that the row lists start as the program's text lays them (the card ties them).
-/
import Derived.Test.YtgjppnbkklionaaDoorCards
import Derived.Test.YtgjppnbkklionaaDoorTie
import Derived.SevenTiedAt
import Derived.LaidMore
import Derived.Stop.Joined
import Derived.Test.YtgjppnbkklionaaDoorPart3
namespace Go.Proofs.YtgjppnbkklionaaDoor.isaOne
open Go.ChangeShapes Go.WideShapes Go.ChangeAt Go.RowKit

theorem in_of {o a b c m : Int} (h0 : (Lit.int .i64 o).wf = true) (h1 : (Lit.int .i64 a).wf = true) (h2 : (Lit.int .i64 b).wf = true) (h3 : (Lit.int .i64 c).wf = true) (h4 : (Lit.int .i64 m).wf = true) : Ins.In ⟨o, a, b, c, m⟩ :=
  ⟨bounds_i64 h0, bounds_i64 h1, bounds_i64 h2, bounds_i64 h3, bounds_i64 h4⟩
theorem tv_inj {i j : Ins} (hi : i.right = true) (hj : j.right = true) (h : i.tv = j.tv) : i = j := by
  unfold Ins.tv at h
  rw [hi, hj] at h
  have oi := (Ins.right_iff i).1 hi
  have oj := (Ins.right_iff j).1 hj
  exact Ins.text_inj oi oj (byts_inj (text_lt i oi) (text_lt j oj) (strOf_inj h))
theorem wv_inj {i j : Ins} (hi : i.right = true) (hj : j.right = true) (h : i.wv = j.wv) : i = j := by
  unfold Ins.wv at h
  rw [hi, hj] at h
  exact Ins.word_inj ((Ins.right_iff i).1 hi) ((Ins.right_iff j).1 hj) h
theorem we_yes {i : Ins} (h : i.right = true) : i.we = 0 := by unfold Ins.we; rw [h]; rfl
theorem we_no {i : Ins} (h : i.right = false) : i.we = 1 := by unfold Ins.we; rw [h]; rfl
set_option maxHeartbeats 8000000 in
theorem walk (o a b c m o' a' b' c' m' : Int) (h0 : (Lit.int .i64 o).wf = true) (h1 : (Lit.int .i64 a).wf = true) (h2 : (Lit.int .i64 b).wf = true) (h3 : (Lit.int .i64 c).wf = true) (h4 : (Lit.int .i64 m).wf = true)
    (k0 : (Lit.int .i64 o').wf = true) (k1 : (Lit.int .i64 a').wf = true) (k2 : (Lit.int .i64 b').wf = true) (k3 : (Lit.int .i64 c').wf = true) (k4 : (Lit.int .i64 m').wf = true) (w : World)
    (_T0 : Fr.VarAt w 6 (Fr.datS (Rows.laid_math_bits_deBruijn32tab (H := Unit)))) (_T1 : Fr.VarAt w 7 (Fr.datS (Rows.laid_math_bits_deBruijn64tab (H := Unit))))
    (T2 : Fr.VarAt w 5 (Fr.datS (Rows.laid_internal_strconv_uint64pow10 (H := Unit))))
    (T3 : Fr.Sent w 4) (T4 : Fr.Sent w 3) (T5 : Fr.VarAt w 1 (Fr.datS (Rows.laid_trunnion_isa_places (H := Unit)))) (T6 : Fr.VarAt w 0 (Fr.datS (Rows.laid_trunnion_isa_operations (H := Unit)))) :
    Calls Tryd.prog 6 #[.agg #[.int .i64 o, .int .i64 a, .int .i64 b, .int .i64 c, .int .i64 m], .agg #[.int .i64 o', .int .i64 a', .int .i64 b', .int .i64 c', .int .i64 m']] w fun e w' => e = .returned (.bool true) ∧ Below w.heap.size w w' := by
  have hT := Lib.hid (tabs_of T6 T5)
  have hL := Lib.hid (libs_of T2 T4 T3)
  obtain ⟨i, hi⟩ : ∃ i : Ins, i = ⟨o, a, b, c, m⟩ := ⟨_, rfl⟩
  obtain ⟨j, hj⟩ : ∃ j : Ins, j = ⟨o', a', b', c', m'⟩ := ⟨_, rfl⟩
  have hin := Lib.hid (show i.In from by rw [hi]; exact in_of h0 h1 h2 h3 h4)
  have hjn := Lib.hid (show j.In from by rw [hj]; exact in_of k0 k1 k2 k3 k4)
  clear _T0 _T1 T2 T3 T4 T5 T6 h0 h1 h2 h3 h4 k0 k1 k2 k3 k4
  obtain rfl : o = i.op := by rw [hi]
  obtain rfl : a = i.a := by rw [hi]
  obtain rfl : b = i.b := by rw [hi]
  obtain rfl : c = i.c := by rw [hi]
  obtain rfl : m = i.m := by rw [hi]
  obtain rfl : o' = j.op := by rw [hj]
  obtain rfl : a' = j.a := by rw [hj]
  obtain rfl : b' = j.b := by rw [hj]
  obtain rfl : c' = j.c := by rw [hj]
  obtain rfl : m' = j.m := by rw [hj]
  clear hi hj
  have cA := Lib.hid (fun W (u : Upd (fun _ => False) w W) => isawake_any W (hT.out.kept u) (hL.out.kept u))
  have cW := Lib.hid (fun W (u : Upd (fun _ => False) w W) => wword_any i hin.out W (hT.out.kept u))
  have cw := Lib.hid (fun W (u : Upd (fun _ => False) w W) => wword_any j hjn.out W (hT.out.kept u))
  have cT := Lib.hid (fun W (u : Upd (fun _ => False) w W) => wtext_any i hin.out W (hT.out.kept u) (hL.out.kept u))
  have ct := Lib.hid (fun W (u : Upd (fun _ => False) w W) => wtext_any j hjn.out W (hT.out.kept u) (hL.out.kept u))
  have X0 := Lib.hid (show InsAt ((w.alloc (.cells #[.int .i64 i.op, .int .i64 i.a, .int .i64 i.b, .int .i64 i.c, .int .i64 i.m] 23)).alloc (.cells #[.int .i64 j.op, .int .i64 j.a, .int .i64 j.b, .int .i64 j.c, .int .i64 j.m] 23)) w.heap.size i from ((Upd.refl (fun _ => False) _).alloc _).at (heap_alloc_last w _) id)
  have Y0 := Lib.hid (show InsAt ((w.alloc (.cells #[.int .i64 i.op, .int .i64 i.a, .int .i64 i.b, .int .i64 i.c, .int .i64 i.m] 23)).alloc (.cells #[.int .i64 j.op, .int .i64 j.a, .int .i64 j.b, .int .i64 j.c, .int .i64 j.m] 23)) (w.heap.size + 1) j from alloc_two w _ _)
  have U0 := Lib.hid (((Upd.refl (fun _ => False) w).alloc (.cells #[.int .i64 i.op, .int .i64 i.a, .int .i64 i.b, .int .i64 i.c, .int .i64 i.m] 23)).alloc (.cells #[.int .i64 j.op, .int .i64 j.a, .int .i64 j.b, .int .i64 j.c, .int .i64 j.m] 23))
  clear hin hjn hT hL
  cases hri : i.right
  · skip
    rw [we_no hri] at cW cT
    clear hri
    generalize j.we = we' at cw ct
    generalize i.wv = wv at cW
    generalize j.wv = wv' at cw
    generalize i.tv = tv at cT
    generalize j.tv = tv' at ct
    go_enter Tryd.func6, Tryd.ntmps6
    go_upto_region 1 with fail
    generalize ((w.alloc (.cells #[.int .i64 i.op, .int .i64 i.a, .int .i64 i.b, .int .i64 i.c, .int .i64 i.m] 23)).alloc (.cells #[.int .i64 j.op, .int .i64 j.a, .int .i64 j.b, .int .i64 j.c, .int .i64 j.m] 23)) = w0 at X0 Y0 U0 ⊢
    generalize w.heap.size + 1 = Y at Y0 ⊢
    generalize w.heap.size = X at X0 ⊢
    go_wp2_with fail
    refine (cA.out _ U0.out).mono ?_
    rintro e w1 ⟨rfl, u1⟩
    have U1 := Lib.hid (U0.out.trans u1)
    have X1 := Lib.hid (X0.out.kept u1 id)
    have Y1 := Lib.hid (Y0.out.kept u1 id)
    clear U0 X0 Y0 u1
    go_wp2_with (with_reducible refine wpList_load_sz rfl 23 (.tmp 2) rfl X 0 rfl [.int .i64 i.op, .int .i64 i.a, .int .i64 i.b, .int .i64 i.c, .int .i64 i.m] _ X1.out.range Tryd.underlying23 rfl 5 (ins_len _ _ _ _ _) size_ins ?_)
    refine (cW.out _ U1.out).mono ?_
    rintro e w2 ⟨rfl, u2⟩
    have U2 := Lib.hid (U1.out.trans u2)
    have X2 := Lib.hid (X1.out.kept u2 id)
    have Y2 := Lib.hid (Y1.out.kept u2 id)
    clear U1 X1 Y1 u2
    go_wp2_with (with_reducible refine wpList_load_sz rfl 23 (.tmp 3) rfl Y 0 rfl [.int .i64 j.op, .int .i64 j.a, .int .i64 j.b, .int .i64 j.c, .int .i64 j.m] _ Y2.out.range Tryd.underlying23 rfl 5 (ins_len _ _ _ _ _) size_ins ?_)
    refine (cw.out _ U2.out).mono ?_
    rintro e w3 ⟨rfl, u3⟩
    have U3 := Lib.hid (U2.out.trans u3)
    have X3 := Lib.hid (X2.out.kept u3 id)
    have Y3 := Lib.hid (Y2.out.kept u3 id)
    clear U2 X2 Y2 u3
    go_wp2_with (with_reducible refine wpList_load_sz rfl 23 (.tmp 2) rfl X 0 rfl [.int .i64 i.op, .int .i64 i.a, .int .i64 i.b, .int .i64 i.c, .int .i64 i.m] _ X3.out.range Tryd.underlying23 rfl 5 (ins_len _ _ _ _ _) size_ins ?_)
    refine (cT.out _ U3.out).mono ?_
    rintro e w4 ⟨rfl, u4⟩
    have U4 := Lib.hid (U3.out.trans u4)
    have X4 := Lib.hid (X3.out.kept u4 id)
    have Y4 := Lib.hid (Y3.out.kept u4 id)
    clear U3 X3 Y3 u4
    go_wp2_with (with_reducible refine wpList_load_sz rfl 23 (.tmp 3) rfl Y 0 rfl [.int .i64 j.op, .int .i64 j.a, .int .i64 j.b, .int .i64 j.c, .int .i64 j.m] _ Y4.out.range Tryd.underlying23 rfl 5 (ins_len _ _ _ _ _) size_ins ?_)
    refine (ct.out _ U4.out).mono ?_
    rintro e w5 ⟨rfl, u5⟩
    have U5 := Lib.hid (U4.out.trans u5)
    have X5 := Lib.hid (X4.out.kept u5 id)
    have Y5 := Lib.hid (Y4.out.kept u5 id)
    clear U4 X4 Y4 u5
    go_wp2_with (first
      | (with_reducible refine wpList_load_sz rfl 23 (.tmp 2) rfl X 0 rfl [.int .i64 i.op, .int .i64 i.a, .int .i64 i.b, .int .i64 i.c, .int .i64 i.m] _ X5.out.range Tryd.underlying23 rfl 5 (ins_len _ _ _ _ _) size_ins ?_)
      | (with_reducible refine wpList_load_sz rfl 23 (.tmp 3) rfl Y 0 rfl [.int .i64 j.op, .int .i64 j.a, .int .i64 j.b, .int .i64 j.c, .int .i64 j.m] _ Y5.out.range Tryd.underlying23 rfl 5 (ins_len _ _ _ _ _) size_ins ?_))
    go_ret
    exact ⟨rfl, U5.out.below (Nat.le_refl _) fun _ _ => id⟩
  · cases hrj : j.right
    · skip
      rw [we_yes hri] at cW cT
      rw [we_no hrj] at cw ct
      clear hri hrj
      generalize i.wv = wv at cW
      generalize j.wv = wv' at cw
      generalize i.tv = tv at cT
      generalize j.tv = tv' at ct
      go_enter Tryd.func6, Tryd.ntmps6
      go_upto_region 1 with fail
      generalize ((w.alloc (.cells #[.int .i64 i.op, .int .i64 i.a, .int .i64 i.b, .int .i64 i.c, .int .i64 i.m] 23)).alloc (.cells #[.int .i64 j.op, .int .i64 j.a, .int .i64 j.b, .int .i64 j.c, .int .i64 j.m] 23)) = w0 at X0 Y0 U0 ⊢
      generalize w.heap.size + 1 = Y at Y0 ⊢
      generalize w.heap.size = X at X0 ⊢
      go_wp2_with fail
      refine (cA.out _ U0.out).mono ?_
      rintro e w1 ⟨rfl, u1⟩
      have U1 := Lib.hid (U0.out.trans u1)
      have X1 := Lib.hid (X0.out.kept u1 id)
      have Y1 := Lib.hid (Y0.out.kept u1 id)
      clear U0 X0 Y0 u1
      go_wp2_with (with_reducible refine wpList_load_sz rfl 23 (.tmp 2) rfl X 0 rfl [.int .i64 i.op, .int .i64 i.a, .int .i64 i.b, .int .i64 i.c, .int .i64 i.m] _ X1.out.range Tryd.underlying23 rfl 5 (ins_len _ _ _ _ _) size_ins ?_)
      refine (cW.out _ U1.out).mono ?_
      rintro e w2 ⟨rfl, u2⟩
      have U2 := Lib.hid (U1.out.trans u2)
      have X2 := Lib.hid (X1.out.kept u2 id)
      have Y2 := Lib.hid (Y1.out.kept u2 id)
      clear U1 X1 Y1 u2
      go_wp2_with (with_reducible refine wpList_load_sz rfl 23 (.tmp 3) rfl Y 0 rfl [.int .i64 j.op, .int .i64 j.a, .int .i64 j.b, .int .i64 j.c, .int .i64 j.m] _ Y2.out.range Tryd.underlying23 rfl 5 (ins_len _ _ _ _ _) size_ins ?_)
      refine (cw.out _ U2.out).mono ?_
      rintro e w3 ⟨rfl, u3⟩
      have U3 := Lib.hid (U2.out.trans u3)
      have X3 := Lib.hid (X2.out.kept u3 id)
      have Y3 := Lib.hid (Y2.out.kept u3 id)
      clear U2 X2 Y2 u3
      go_wp2_with (with_reducible refine wpList_load_sz rfl 23 (.tmp 2) rfl X 0 rfl [.int .i64 i.op, .int .i64 i.a, .int .i64 i.b, .int .i64 i.c, .int .i64 i.m] _ X3.out.range Tryd.underlying23 rfl 5 (ins_len _ _ _ _ _) size_ins ?_)
      refine (cT.out _ U3.out).mono ?_
      rintro e w4 ⟨rfl, u4⟩
      have U4 := Lib.hid (U3.out.trans u4)
      have X4 := Lib.hid (X3.out.kept u4 id)
      have Y4 := Lib.hid (Y3.out.kept u4 id)
      clear U3 X3 Y3 u4
      go_wp2_with (with_reducible refine wpList_load_sz rfl 23 (.tmp 3) rfl Y 0 rfl [.int .i64 j.op, .int .i64 j.a, .int .i64 j.b, .int .i64 j.c, .int .i64 j.m] _ Y4.out.range Tryd.underlying23 rfl 5 (ins_len _ _ _ _ _) size_ins ?_)
      refine (ct.out _ U4.out).mono ?_
      rintro e w5 ⟨rfl, u5⟩
      have U5 := Lib.hid (U4.out.trans u5)
      have X5 := Lib.hid (X4.out.kept u5 id)
      have Y5 := Lib.hid (Y4.out.kept u5 id)
      clear U4 X4 Y4 u5
      go_wp2_with (first
        | (with_reducible refine wpList_load_sz rfl 23 (.tmp 2) rfl X 0 rfl [.int .i64 i.op, .int .i64 i.a, .int .i64 i.b, .int .i64 i.c, .int .i64 i.m] _ X5.out.range Tryd.underlying23 rfl 5 (ins_len _ _ _ _ _) size_ins ?_)
        | (with_reducible refine wpList_load_sz rfl 23 (.tmp 3) rfl Y 0 rfl [.int .i64 j.op, .int .i64 j.a, .int .i64 j.b, .int .i64 j.c, .int .i64 j.m] _ Y5.out.range Tryd.underlying23 rfl 5 (ins_len _ _ _ _ _) size_ins ?_))
      go_ret
      exact ⟨rfl, U5.out.below (Nat.le_refl _) fun _ _ => id⟩
    · by_cases hij : i = j
      · subst hij
        have he := run_eqI i i true (by simp)
        rw [we_yes hri] at cW cT cw ct
        clear hri hrj
        generalize i.wv = wv at cW cw
        generalize i.tv = tv at cT ct
        go_enter Tryd.func6, Tryd.ntmps6
        go_upto_region 1 with fail
        generalize ((w.alloc (.cells #[.int .i64 i.op, .int .i64 i.a, .int .i64 i.b, .int .i64 i.c, .int .i64 i.m] 23)).alloc (.cells #[.int .i64 i.op, .int .i64 i.a, .int .i64 i.b, .int .i64 i.c, .int .i64 i.m] 23)) = w0 at X0 Y0 U0 ⊢
        generalize w.heap.size + 1 = Y at Y0 ⊢
        generalize w.heap.size = X at X0 ⊢
        go_wp2_with fail
        refine (cA.out _ U0.out).mono ?_
        rintro e w1 ⟨rfl, u1⟩
        have U1 := Lib.hid (U0.out.trans u1)
        have X1 := Lib.hid (X0.out.kept u1 id)
        have Y1 := Lib.hid (Y0.out.kept u1 id)
        clear U0 X0 Y0 u1
        go_wp2_with (with_reducible refine wpList_load_sz rfl 23 (.tmp 2) rfl X 0 rfl [.int .i64 i.op, .int .i64 i.a, .int .i64 i.b, .int .i64 i.c, .int .i64 i.m] _ X1.out.range Tryd.underlying23 rfl 5 (ins_len _ _ _ _ _) size_ins ?_)
        refine (cW.out _ U1.out).mono ?_
        rintro e w2 ⟨rfl, u2⟩
        have U2 := Lib.hid (U1.out.trans u2)
        have X2 := Lib.hid (X1.out.kept u2 id)
        have Y2 := Lib.hid (Y1.out.kept u2 id)
        clear U1 X1 Y1 u2
        go_wp2_with (with_reducible refine wpList_load_sz rfl 23 (.tmp 3) rfl Y 0 rfl [.int .i64 i.op, .int .i64 i.a, .int .i64 i.b, .int .i64 i.c, .int .i64 i.m] _ Y2.out.range Tryd.underlying23 rfl 5 (ins_len _ _ _ _ _) size_ins ?_)
        refine (cw.out _ U2.out).mono ?_
        rintro e w3 ⟨rfl, u3⟩
        have U3 := Lib.hid (U2.out.trans u3)
        have X3 := Lib.hid (X2.out.kept u3 id)
        have Y3 := Lib.hid (Y2.out.kept u3 id)
        clear U2 X2 Y2 u3
        go_wp2_with (with_reducible refine wpList_load_sz rfl 23 (.tmp 2) rfl X 0 rfl [.int .i64 i.op, .int .i64 i.a, .int .i64 i.b, .int .i64 i.c, .int .i64 i.m] _ X3.out.range Tryd.underlying23 rfl 5 (ins_len _ _ _ _ _) size_ins ?_)
        refine (cT.out _ U3.out).mono ?_
        rintro e w4 ⟨rfl, u4⟩
        have U4 := Lib.hid (U3.out.trans u4)
        have X4 := Lib.hid (X3.out.kept u4 id)
        have Y4 := Lib.hid (Y3.out.kept u4 id)
        clear U3 X3 Y3 u4
        go_wp2_with (with_reducible refine wpList_load_sz rfl 23 (.tmp 3) rfl Y 0 rfl [.int .i64 i.op, .int .i64 i.a, .int .i64 i.b, .int .i64 i.c, .int .i64 i.m] _ Y4.out.range Tryd.underlying23 rfl 5 (ins_len _ _ _ _ _) size_ins ?_)
        refine (ct.out _ U4.out).mono ?_
        rintro e w5 ⟨rfl, u5⟩
        have U5 := Lib.hid (U4.out.trans u5)
        have X5 := Lib.hid (X4.out.kept u5 id)
        have Y5 := Lib.hid (Y4.out.kept u5 id)
        clear U4 X4 Y4 u5
        go_wp2_with (first
          | (with_reducible refine wpList_load_sz rfl 23 (.tmp 2) rfl X 0 rfl [.int .i64 i.op, .int .i64 i.a, .int .i64 i.b, .int .i64 i.c, .int .i64 i.m] _ X5.out.range Tryd.underlying23 rfl 5 (ins_len _ _ _ _ _) size_ins ?_)
          | (with_reducible refine wpList_load_sz rfl 23 (.tmp 3) rfl Y 0 rfl [.int .i64 i.op, .int .i64 i.a, .int .i64 i.b, .int .i64 i.c, .int .i64 i.m] _ Y5.out.range Tryd.underlying23 rfl 5 (ins_len _ _ _ _ _) size_ins ?_))
        go_ret
        exact ⟨rfl, U5.out.below (Nat.le_refl _) fun _ _ => id⟩
      · skip
        have he := run_eqI i j false (by simp [hij])
        have h1 : (i.wv == j.wv) = false := by rw [beq_eq_false_iff_ne]; exact fun h => hij (wv_inj hri hrj h)
        have h1' : ¬ i.wv = j.wv := fun h => hij (wv_inj hri hrj h)
        have h2 := str_ne fun h => hij (tv_inj hri hrj h)
        have h2' : ¬ i.tv.toList = j.tv.toList := by simpa using h2
        rw [we_yes hri] at cW cT
        rw [we_yes hrj] at cw ct
        clear hri hrj hij
        generalize i.wv = wv at cW h1 h1'
        generalize j.wv = wv' at cw h1 h1'
        generalize i.tv = tv at cT h2 h2'
        generalize j.tv = tv' at ct h2 h2'
        go_enter Tryd.func6, Tryd.ntmps6
        go_upto_region 1 with fail
        generalize ((w.alloc (.cells #[.int .i64 i.op, .int .i64 i.a, .int .i64 i.b, .int .i64 i.c, .int .i64 i.m] 23)).alloc (.cells #[.int .i64 j.op, .int .i64 j.a, .int .i64 j.b, .int .i64 j.c, .int .i64 j.m] 23)) = w0 at X0 Y0 U0 ⊢
        generalize w.heap.size + 1 = Y at Y0 ⊢
        generalize w.heap.size = X at X0 ⊢
        go_wp2_with fail
        refine (cA.out _ U0.out).mono ?_
        rintro e w1 ⟨rfl, u1⟩
        have U1 := Lib.hid (U0.out.trans u1)
        have X1 := Lib.hid (X0.out.kept u1 id)
        have Y1 := Lib.hid (Y0.out.kept u1 id)
        clear U0 X0 Y0 u1
        go_wp2_with (with_reducible refine wpList_load_sz rfl 23 (.tmp 2) rfl X 0 rfl [.int .i64 i.op, .int .i64 i.a, .int .i64 i.b, .int .i64 i.c, .int .i64 i.m] _ X1.out.range Tryd.underlying23 rfl 5 (ins_len _ _ _ _ _) size_ins ?_)
        refine (cW.out _ U1.out).mono ?_
        rintro e w2 ⟨rfl, u2⟩
        have U2 := Lib.hid (U1.out.trans u2)
        have X2 := Lib.hid (X1.out.kept u2 id)
        have Y2 := Lib.hid (Y1.out.kept u2 id)
        clear U1 X1 Y1 u2
        go_wp2_with (with_reducible refine wpList_load_sz rfl 23 (.tmp 3) rfl Y 0 rfl [.int .i64 j.op, .int .i64 j.a, .int .i64 j.b, .int .i64 j.c, .int .i64 j.m] _ Y2.out.range Tryd.underlying23 rfl 5 (ins_len _ _ _ _ _) size_ins ?_)
        refine (cw.out _ U2.out).mono ?_
        rintro e w3 ⟨rfl, u3⟩
        have U3 := Lib.hid (U2.out.trans u3)
        have X3 := Lib.hid (X2.out.kept u3 id)
        have Y3 := Lib.hid (Y2.out.kept u3 id)
        clear U2 X2 Y2 u3
        go_wp2_with (with_reducible refine wpList_load_sz rfl 23 (.tmp 2) rfl X 0 rfl [.int .i64 i.op, .int .i64 i.a, .int .i64 i.b, .int .i64 i.c, .int .i64 i.m] _ X3.out.range Tryd.underlying23 rfl 5 (ins_len _ _ _ _ _) size_ins ?_)
        refine (cT.out _ U3.out).mono ?_
        rintro e w4 ⟨rfl, u4⟩
        have U4 := Lib.hid (U3.out.trans u4)
        have X4 := Lib.hid (X3.out.kept u4 id)
        have Y4 := Lib.hid (Y3.out.kept u4 id)
        clear U3 X3 Y3 u4
        go_wp2_with (with_reducible refine wpList_load_sz rfl 23 (.tmp 3) rfl Y 0 rfl [.int .i64 j.op, .int .i64 j.a, .int .i64 j.b, .int .i64 j.c, .int .i64 j.m] _ Y4.out.range Tryd.underlying23 rfl 5 (ins_len _ _ _ _ _) size_ins ?_)
        refine (ct.out _ U4.out).mono ?_
        rintro e w5 ⟨rfl, u5⟩
        have U5 := Lib.hid (U4.out.trans u5)
        have X5 := Lib.hid (X4.out.kept u5 id)
        have Y5 := Lib.hid (Y4.out.kept u5 id)
        clear U4 X4 Y4 u5
        go_wp2_with (first
          | (with_reducible refine wpList_load_sz rfl 23 (.tmp 2) rfl X 0 rfl [.int .i64 i.op, .int .i64 i.a, .int .i64 i.b, .int .i64 i.c, .int .i64 i.m] _ X5.out.range Tryd.underlying23 rfl 5 (ins_len _ _ _ _ _) size_ins ?_)
          | (with_reducible refine wpList_load_sz rfl 23 (.tmp 3) rfl Y 0 rfl [.int .i64 j.op, .int .i64 j.a, .int .i64 j.b, .int .i64 j.c, .int .i64 j.m] _ Y5.out.range Tryd.underlying23 rfl 5 (ins_len _ _ _ _ _) size_ins ?_))
        go_ret
        exact ⟨rfl, U5.out.below (Nat.le_refl _) fun _ _ => id⟩
/-! ### the row's frame, and its tied card -/
theorem own : ownKnob Tryd.prog.godebug = none := by kernel_rfl
theorem laidOut : laidOutB Tryd.prog = true := by kernel_rfl
/-- the door's own heap meets the condition -/
theorem door_met (os : Os) (args : Array Value) : laidMetH Tryd.prog Rows.isaOneRow.laid ((World.doorLaid Tryd.prog 400 os).forCall (fun _ _ => 0) ⟨#[], args, []⟩).memory :=
  laidMetH_of_parts3 (fuel := 8) (laidMet_of_run' 8 (by kernel_rfl) (by kernel_rfl)) (by kernel_rfl) (by kernel_rfl)
set_option linter.unusedVariables false in
set_option maxRecDepth 100000 in
theorem lifted (os : Os) (started : os.Started) (H : Type) (enc : TypeId × Value → H) :
    ReturnsInHanded {} Tryd.checked os 6 .any (fun w args => (Rows.isaOneSpec.pre enc Tryd.prog Tryd.f6 [] false w args ∧ laidMetH Tryd.prog Rows.isaOneRow.laid w) ∧ sizedMet enc Tryd.prog Tryd.f6 (OpenSpec.ofChange Rows.isaOneSpec) false w args)
      (Rows.isaOneSpec.post enc Tryd.prog Tryd.f6 false true false false) := by
  refine returnsInHanded_of_change_and (C := Tryd.checked) (X := fun w _ => laidMetH Tryd.prog Rows.isaOneRow.laid w) (fun _ _ _ hh h => h.of_heap hh) own started (by kernel_rfl) Tryd.func6
    (ChangeSpec.witness_shaped (enc := enc) (C := Tryd.checked) (os := os) (X := fun w _ => laidMetH Tryd.prog Rows.isaOneRow.laid w) false (World.doorLaid Tryd.prog 400 os) #[.agg #[.int .i64 0, .int .i64 0, .int .i64 0, .int .i64 0, .int .i64 0], .agg #[.int .i64 0, .int .i64 0, .int .i64 0, .int .i64 0, .int .i64 0]] 8 rfl (World.shaped_of_RefB (by kernel_rfl) (by kernel_rfl)) (by kernel_rfl) (by kernel_rfl) (by kernel_rfl) (door_met os _)) ?_
  intro W base args ds gs before hval0 hW _ _ hL _
  have hLd := hL
  rw [MakeChecks.laidMetH_plain _ _ _ (by kernel_rfl)] at hLd
  have T0 : Fr.VarAt W 6 (Fr.datS (Rows.laid_math_bits_deBruijn32tab (H := Unit))) := Fr.varAt_of_laid (t := 110) (k := 32) 12 (hLd : laidMet Tryd.prog Rows.isaOneRow.laid W) "math/bits.deBruijn32tab" (Rows.laid_math_bits_deBruijn32tab (H := Unit)) (by simp [Rows.isaOneRow]) (by kernel_rfl) (by kernel_rfl) (by kernel_rfl)
  have T1 : Fr.VarAt W 7 (Fr.datS (Rows.laid_math_bits_deBruijn64tab (H := Unit))) := Fr.varAt_of_laid (t := 111) (k := 64) 12 (hLd : laidMet Tryd.prog Rows.isaOneRow.laid W) "math/bits.deBruijn64tab" (Rows.laid_math_bits_deBruijn64tab (H := Unit)) (by simp [Rows.isaOneRow]) (by kernel_rfl) (by kernel_rfl) (by kernel_rfl)
  have T2 : Fr.VarAt W 5 (Fr.datS (Rows.laid_internal_strconv_uint64pow10 (H := Unit))) := Fr.varAt_of_laid (t := 96) (k := 20) 12 (hLd : laidMet Tryd.prog Rows.isaOneRow.laid W) "internal/strconv.uint64pow10" (Rows.laid_internal_strconv_uint64pow10 (H := Unit)) (by simp [Rows.isaOneRow]) (by kernel_rfl) (by kernel_rfl) (by kernel_rfl)
  have T3 : Fr.Sent W 4 := Fr.sent_of_laid (t := 60) (hLd : laidMet Tryd.prog Rows.isaOneRow.laid W) "strconv.ErrRange" _ _ (show ("strconv.ErrRange", Rows.laid_strconv_ErrRange (H := Unit)) ∈ _ from by simp [Rows.isaOneRow]) (by kernel_rfl) (by kernel_rfl) Tryd.underlying60
  have T4 : Fr.Sent W 3 := Fr.sent_of_laid (t := 60) (hLd : laidMet Tryd.prog Rows.isaOneRow.laid W) "strconv.ErrSyntax" _ _ (show ("strconv.ErrSyntax", Rows.laid_strconv_ErrSyntax (H := Unit)) ∈ _ from by simp [Rows.isaOneRow]) (by kernel_rfl) (by kernel_rfl) Tryd.underlying60
  have T5 : Fr.VarAt W 1 (Fr.datS (Rows.laid_trunnion_isa_places (H := Unit))) := Fr.varAt_of_laid (t := 48) (k := 12) 12 (hLd : laidMet Tryd.prog Rows.isaOneRow.laid W) "trunnion/isa.places" (Rows.laid_trunnion_isa_places (H := Unit)) (by simp [Rows.isaOneRow]) (by kernel_rfl) (by kernel_rfl) (by kernel_rfl)
  have T6 : Fr.VarAt W 0 (Fr.datS (Rows.laid_trunnion_isa_operations (H := Unit))) := Fr.varAt_of_laid (t := 43) (k := 60) 12 (hLd : laidMet Tryd.prog Rows.isaOneRow.laid W) "trunnion/isa.operations" (Rows.laid_trunnion_isa_operations (H := Unit)) (by simp [Rows.isaOneRow]) (by kernel_rfl) (by kernel_rfl) (by kernel_rfl)
  clear hL hLd
  have hval : ∀ (j : Nat) t v, Tryd.f6.params[j]? = some t → args[j]? = some v → Value.okWide Tryd.prog W .any base t v := hval0
  have hW' := hW
  obtain ⟨p, q, hA0, hV, rfl, hfz, hnd⟩ := hW
  have hA : DataW.TrodAll enc Tryd.prog W 0 (fun _ => true) true Tryd.f6.params.toList args.toList ds p := hA0
  rw [Tryd.params6] at hA hval
  obtain ⟨v0, vs0, d0, ds0, p0, q0, hargs, rfl, rfl, h0, r0⟩ := trodAll_cons hA
  obtain ⟨v1, vs1, d1, ds1, p1, q1, rfl, rfl, rfl, h1, r1⟩ := trodAll_cons r0
  obtain ⟨rfl, rfl, rfl⟩ := trodAll_nil r1
  obtain rfl : args = #[v0, v1] := by cases args; simp_all
  obtain ⟨rfl, rfl⟩ := trodVars_none hV
  have k0 := h0
  have lt0 : ∀ x ∈ p0, x.block < W.heap.size := by obtain ⟨m, hm⟩ := k0; exact DataW.trod_lt m _ _ _ hm
  obtain ⟨cs0, rfl, o0⟩ := Fr.open_flat 12 [some .i64, some .i64, some .i64, some .i64, some .i64] Tryd.underlying23 (by kernel_rfl) (hval 0 23 v0 rfl rfl) h0
  obtain ⟨c0_0, c0_1, c0_2, c0_3, c0_4, rfl⟩ := Fr.cells5 o0.1
  obtain ⟨a0_0, rfl, w0_0⟩ := o0.2 0 _ _ rfl rfl
  obtain ⟨a0_1, rfl, w0_1⟩ := o0.2 1 _ _ rfl rfl
  obtain ⟨a0_2, rfl, w0_2⟩ := o0.2 2 _ _ rfl rfl
  obtain ⟨a0_3, rfl, w0_3⟩ := o0.2 3 _ _ rfl rfl
  obtain ⟨a0_4, rfl, w0_4⟩ := o0.2 4 _ _ rfl rfl
  have k1 := h1
  have lt1 : ∀ x ∈ p1, x.block < W.heap.size := by obtain ⟨m, hm⟩ := k1; exact DataW.trod_lt m _ _ _ hm
  obtain ⟨cs1, rfl, o1⟩ := Fr.open_flat 12 [some .i64, some .i64, some .i64, some .i64, some .i64] Tryd.underlying23 (by kernel_rfl) (hval 1 23 v1 rfl rfl) h1
  obtain ⟨c1_0, c1_1, c1_2, c1_3, c1_4, rfl⟩ := Fr.cells5 o1.1
  obtain ⟨a1_0, rfl, w1_0⟩ := o1.2 0 _ _ rfl rfl
  obtain ⟨a1_1, rfl, w1_1⟩ := o1.2 1 _ _ rfl rfl
  obtain ⟨a1_2, rfl, w1_2⟩ := o1.2 2 _ _ rfl rfl
  obtain ⟨a1_3, rfl, w1_3⟩ := o1.2 3 _ _ rfl rfl
  obtain ⟨a1_4, rfl, w1_4⟩ := o1.2 4 _ _ rfl rfl
  clear hA0 hval0
  refine (walk a0_0 a0_1 a0_2 a0_3 a0_4 a1_0 a1_1 a1_2 a1_3 a1_4 w0_0 w0_1 w0_2 w0_3 w0_4 w1_0 w1_1 w1_2 w1_3 w1_4 W  T0 T1 T2 T3 T4 T5 T6).mono fun e W' ⟨he, bel⟩ => ?_
  subst he
  exact ⟨_, rfl, _, _, _, [], _, [], hW', trodAll_mk1 (shut_bool Tryd.underlying4 _), (trodAll_cons_mk (Below.trod laidOut (by kernel_rfl) (of_decide_eq_true (by kernel_rfl)) k0 bel lt0) (trodAll_cons_mk (Below.trod laidOut (by kernel_rfl) (of_decide_eq_true (by kernel_rfl)) k1 bel lt1) trodAll_mk0)), rfl, bel.frame _, fun h => by cases h⟩

theorem over : Rows.isaOneRow.holds Tryd.pinned (OpenSpec.ofChange Rows.isaOneSpec) :=
  OpenClaim.holds_of_wide 6 Tryd.f6 rfl rfl rfl rfl rfl rfl rfl ⟨rfl, rfl, rfl, rfl, rfl⟩ rfl rfl rfl rfl rfl (by kernel_rfl) Tryd.func6 (by kernel_rfl)
    (of_decide_eq_true (by kernel_rfl)) (by unfold Func.isWrapper; first | (rw [if_pos (by decide +kernel)]; kernel_rfl) | (rw [if_neg (by decide +kernel)]; exact ⟨rfl, rfl⟩))
    (fun os started H enc _ => lifted os started H enc)

theorem proved : Rows.IsaOneCardSaid :=
  Claim7.holds_tied_plain_at .later [] [.data, .data, .data, .sentinel, .sentinel, .data, .data] true (true, "4ddb2e383d5345f79bcf1ef3a8ab278f627446daa02effe3b4aa83b45206c2b1") true
    over (fun _ h => by cases h) (by kernel_rfl) (fun _ h => by cases h) isaOne_row_tie rfl ⟨rfl, rfl⟩ (by kernel_rfl) rfl
    (fun f fn hf hfn => by
      obtain rfl : f = 6 := Option.some.inj ((show Tryd.prog.funcNamed "trunnion/trunnionlaw12.IsaOne" = some 6 by kernel_rfl).symm.trans hf) |>.symm
      obtain rfl : fn = Tryd.f6 := (Option.some.inj (Tryd.func6.symm.trans hfn)).symm
      exact ⟨by kernel_rfl, fun j t ht => by
        rw [Tryd.params6] at ht
        have hm : t ∈ [23, 23] := by simpa using Array.mem_of_getElem? ht
        have hall : ([23, 23].all fun u => !Tryd.prog.wantsStandIn u) = true := by kernel_rfl
        exact (show Tryd.prog.wantsStandIn t = false by simpa using List.all_eq_true.1 hall t hm)⟩)
    (by kernel_rfl)
end Go.Proofs.YtgjppnbkklionaaDoor.isaOne
