/-
  Proved: trunnionlaw12.IsaTexts answers true for every input: any instruction's text, and the instruction of any text, are the document's.
  Conditions: package isa's tables and the library's variables that the row lists start as the program's text lays them (the card ties them).
-/
import Derived.Test.YtgjppnbkklionaaDoorCards
import Derived.Test.YtgjppnbkklionaaDoorTie
import Derived.SevenTiedAt
import Derived.LaidMore
import Derived.Stop.Joined
import Derived.Test.YtgjppnbkklionaaDoorPart3
namespace Go.Proofs.YtgjppnbkklionaaDoor.isaTexts
open Go.ChangeShapes Go.WideShapes Go.ChangeAt Go.RowKit

theorem in_of {o a b c m : Int} (h0 : (Lit.int .i64 o).wf = true) (h1 : (Lit.int .i64 a).wf = true) (h2 : (Lit.int .i64 b).wf = true) (h3 : (Lit.int .i64 c).wf = true) (h4 : (Lit.int .i64 m).wf = true) : Ins.In ⟨o, a, b, c, m⟩ :=
  ⟨bounds_i64 h0, bounds_i64 h1, bounds_i64 h2, bounds_i64 h3, bounds_i64 h4⟩
set_option maxHeartbeats 8000000 in
theorem walk (o a b c m : Int) (s : ByteArray) (h0 : (Lit.int .i64 o).wf = true) (h1 : (Lit.int .i64 a).wf = true) (h2 : (Lit.int .i64 b).wf = true) (h3 : (Lit.int .i64 c).wf = true) (h4 : (Lit.int .i64 m).wf = true) (_h6 : s.size ≤ maxLen) (w : World)
    (_T0 : Fr.VarAt w 6 (Fr.datS (Rows.laid_math_bits_deBruijn32tab (H := Unit)))) (_T1 : Fr.VarAt w 7 (Fr.datS (Rows.laid_math_bits_deBruijn64tab (H := Unit))))
    (T2 : Fr.VarAt w 5 (Fr.datS (Rows.laid_internal_strconv_uint64pow10 (H := Unit))))
    (T3 : Fr.Sent w 4) (T4 : Fr.Sent w 3) (T5 : Fr.VarAt w 1 (Fr.datS (Rows.laid_trunnion_isa_places (H := Unit)))) (T6 : Fr.VarAt w 0 (Fr.datS (Rows.laid_trunnion_isa_operations (H := Unit)))) :
    Calls Tryd.prog 4 #[.agg #[.int .i64 o, .int .i64 a, .int .i64 b, .int .i64 c, .int .i64 m], .string s] w fun e w' => e = .returned (.bool true) ∧ Below w.heap.size w w' := by
  have HT := Lib.hid (tabs_of T6 T5)
  have HL := Lib.hid (libs_of T2 T4 T3)
  obtain ⟨i, hi⟩ : ∃ i : Ins, i = ⟨o, a, b, c, m⟩ := ⟨_, rfl⟩
  have hin := Lib.hid (show i.In from by rw [hi]; exact in_of h0 h1 h2 h3 h4)
  clear _T0 _T1 T2 T3 T4 T5 T6 h0 h1 h2 h3 h4 _h6
  obtain rfl : o = i.op := by rw [hi]
  obtain rfl : a = i.a := by rw [hi]
  obtain rfl : b = i.b := by rw [hi]
  obtain rfl : c = i.c := by rw [hi]
  obtain rfl : m = i.m := by rw [hi]
  clear hi
  have cA := Lib.hid (fun W (u : Upd (fun _ => False) w W) => isawake_any W (HT.out.kept u) (HL.out.kept u))
  have X0 := Lib.hid (show InsAt (w.alloc (.cells #[.int .i64 i.op, .int .i64 i.a, .int .i64 i.b, .int .i64 i.c, .int .i64 i.m] 23)) w.heap.size i from heap_alloc_last w _)
  have U0 := Lib.hid ((Upd.refl (fun _ => False) w).alloc (.cells #[.int .i64 i.op, .int .i64 i.a, .int .i64 i.b, .int .i64 i.c, .int .i64 i.m] 23))
  by_cases hsz : 200 < s.size
  · have hsz' : (200 : Int) < (s.size : Int) := by omega
    clear HT HL hin X0 hsz
    go_enter Tryd.func4, Tryd.ntmps4
    go_wp2_with fail
    refine (cA.out _ U0.out).mono ?_
    rintro e w1 ⟨rfl, u1⟩
    have U1 := Lib.hid (U0.out.trans u1)
    clear U0 u1
    go_wp2
    go_ret
    exact ⟨rfl, U1.out.below (Nat.le_refl _) fun _ _ => id⟩
  have hsz' : (s.size : Int) ≤ 200 := by omega
  have cS := Lib.hid (fun W (u : Upd (fun _ => False) w W) => wread_any s (by omega) W (HT.out.kept u) (HL.out.kept u))
  have cs := Lib.hid (fun W => iread_any s (by omega) W)
  have cT := Lib.hid (fun W (u : Upd (fun _ => False) w W) => wtext_any i hin.out W (HT.out.kept u) (HL.out.kept u))
  have ct := Lib.hid (fun W => itext_any i W)
  generalize i.tv = tv at cT ct
  generalize i.we = we at cT ct
  clear hin hsz HT HL
  go_enter Tryd.func4, Tryd.ntmps4
  go_upto_region 1 with fail
  generalize (w.alloc (.cells #[.int .i64 i.op, .int .i64 i.a, .int .i64 i.b, .int .i64 i.c, .int .i64 i.m] 23)) = w0 at X0 U0 ⊢
  generalize w.heap.size = X at X0 ⊢
  go_wp2_with fail
  refine (cA.out _ U0.out).mono ?_
  rintro e w1 ⟨rfl, u1⟩
  have U1 := Lib.hid (U0.out.trans u1)
  have X1 := Lib.hid (X0.out.kept u1 id)
  clear U0 X0 u1
  go_wp2_with (with_reducible refine wpList_load_sz rfl 23 (.tmp 2) rfl X 0 rfl [.int .i64 i.op, .int .i64 i.a, .int .i64 i.b, .int .i64 i.c, .int .i64 i.m] _ X1.out.range Tryd.underlying23 rfl 5 (ins_len _ _ _ _ _) size_ins ?_)
  refine (cT.out _ U1.out).mono ?_
  rintro e w2 ⟨rfl, u2⟩
  have U2 := Lib.hid (U1.out.trans u2)
  have X2 := Lib.hid (X1.out.kept u2 id)
  clear U1 X1 u2
  go_wp2_with (with_reducible refine wpList_load_sz rfl 23 (.tmp 2) rfl X 0 rfl [.int .i64 i.op, .int .i64 i.a, .int .i64 i.b, .int .i64 i.c, .int .i64 i.m] _ X2.out.range Tryd.underlying23 rfl 5 (ins_len _ _ _ _ _) size_ins ?_)
  refine (ct.out _).mono ?_
  rintro e w3 ⟨rfl, u3⟩
  have U3 := Lib.hid (U2.out.trans u3)
  clear U2 X2 u3
  go_wp2_with fail
  refine (cS.out _ U3.out).mono ?_
  rintro e w4 ⟨z, l, rfl, hz, u4⟩
  have U4 := Lib.hid ((U3.out.trans u4).alloc (.cells #[.int .i64 z.op, .int .i64 z.a, .int .i64 z.b, .int .i64 z.c, .int .i64 z.m] 23))
  have X4 := Lib.hid (show InsAt (w4.alloc (.cells #[.int .i64 z.op, .int .i64 z.a, .int .i64 z.b, .int .i64 z.c, .int .i64 z.m] 23)) w4.heap.size z from heap_alloc_last w4 _)
  clear U3 u4
  go_upto_region 7 with fail
  generalize (w4.alloc (.cells #[.int .i64 z.op, .int .i64 z.a, .int .i64 z.b, .int .i64 z.c, .int .i64 z.m] 23)) = w5 at U4 X4 ⊢
  generalize w4.heap.size = ZB at X4 ⊢
  go_wp2_with fail
  refine (cs.out _).mono ?_
  rintro e w6 ⟨z', l', rfl, hz', u6⟩
  obtain ⟨e1, e2⟩ := hz'.uniq hz
  replace e1 := e1.symm
  replace e2 := e2.symm
  subst e1 e2
  have he := run_eqI z z true (by simp)
  have U6 := Lib.hid ((U4.out.trans u6).alloc (.cells #[.int .i64 z.op, .int .i64 z.a, .int .i64 z.b, .int .i64 z.c, .int .i64 z.m] 23))
  have X6 := Lib.hid ((X4.out.kept u6 id).kept ((Upd.refl (fun _ => False) w6).alloc (.cells #[.int .i64 z.op, .int .i64 z.a, .int .i64 z.b, .int .i64 z.c, .int .i64 z.m] 23)) id)
  have Y6 := Lib.hid (show InsAt (w6.alloc (.cells #[.int .i64 z.op, .int .i64 z.a, .int .i64 z.b, .int .i64 z.c, .int .i64 z.m] 23)) w6.heap.size z from heap_alloc_last w6 _)
  clear U4 X4 u6 hz hz' cA cS cs cT ct
  go_upto_region 8 with fail
  generalize (w6.alloc (.cells #[.int .i64 z.op, .int .i64 z.a, .int .i64 z.b, .int .i64 z.c, .int .i64 z.m] 23)) = w7 at U6 X6 Y6 ⊢
  generalize w6.heap.size = YB at Y6 ⊢
  go_wp2_with (first
    | (with_reducible refine wpList_load_sz rfl 23 (.tmp 10) rfl ZB 0 rfl [.int .i64 z.op, .int .i64 z.a, .int .i64 z.b, .int .i64 z.c, .int .i64 z.m] _ X6.out.range Tryd.underlying23 rfl 5 (ins_len _ _ _ _ _) size_ins ?_)
    | (with_reducible refine wpList_load_sz rfl 23 (.tmp 12) rfl YB 0 rfl [.int .i64 z.op, .int .i64 z.a, .int .i64 z.b, .int .i64 z.c, .int .i64 z.m] _ Y6.out.range Tryd.underlying23 rfl 5 (ins_len _ _ _ _ _) size_ins ?_))
  go_ret
  exact ⟨rfl, U6.out.below (Nat.le_refl _) fun _ _ => id⟩
/-! ### the row's frame, and its tied card -/
theorem own : ownKnob Tryd.prog.godebug = none := by kernel_rfl
theorem laidOut : laidOutB Tryd.prog = true := by kernel_rfl
/-- the door's own heap meets the condition -/
theorem door_met (os : Os) (args : Array Value) : laidMetH Tryd.prog Rows.isaTextsRow.laid ((World.doorLaid Tryd.prog 400 os).forCall (fun _ _ => 0) ⟨#[], args, []⟩).memory :=
  laidMetH_of_parts3 (fuel := 8) (laidMet_of_run' 8 (by kernel_rfl) (by kernel_rfl)) (by kernel_rfl) (by kernel_rfl)
set_option linter.unusedVariables false in
set_option maxRecDepth 100000 in
theorem lifted (os : Os) (started : os.Started) (H : Type) (enc : TypeId × Value → H) :
    ReturnsInHanded {} Tryd.checked os 4 .any (fun w args => (Rows.isaTextsSpec.pre enc Tryd.prog Tryd.f4 [] false w args ∧ laidMetH Tryd.prog Rows.isaTextsRow.laid w) ∧ sizedMet enc Tryd.prog Tryd.f4 (OpenSpec.ofChange Rows.isaTextsSpec) false w args)
      (Rows.isaTextsSpec.post enc Tryd.prog Tryd.f4 false true false false) := by
  refine returnsInHanded_of_change_and (C := Tryd.checked) (X := fun w _ => laidMetH Tryd.prog Rows.isaTextsRow.laid w) (fun _ _ _ hh h => h.of_heap hh) own started (by kernel_rfl) Tryd.func4
    (ChangeSpec.witness_shaped (enc := enc) (C := Tryd.checked) (os := os) (X := fun w _ => laidMetH Tryd.prog Rows.isaTextsRow.laid w) false (World.doorLaid Tryd.prog 400 os) #[.agg #[.int .i64 0, .int .i64 0, .int .i64 0, .int .i64 0, .int .i64 0], .string ⟨#[]⟩] 8 rfl (World.shaped_of_RefB (by kernel_rfl) (by kernel_rfl)) (by kernel_rfl) (by kernel_rfl) (by kernel_rfl) (door_met os _)) ?_
  intro W base args ds gs before hval0 hW _ _ hL _
  have hLd := hL
  rw [MakeChecks.laidMetH_plain _ _ _ (by kernel_rfl)] at hLd
  have T0 : Fr.VarAt W 6 (Fr.datS (Rows.laid_math_bits_deBruijn32tab (H := Unit))) := Fr.varAt_of_laid (t := 110) (k := 32) 12 (hLd : laidMet Tryd.prog Rows.isaTextsRow.laid W) "math/bits.deBruijn32tab" (Rows.laid_math_bits_deBruijn32tab (H := Unit)) (by simp [Rows.isaTextsRow]) (by kernel_rfl) (by kernel_rfl) (by kernel_rfl)
  have T1 : Fr.VarAt W 7 (Fr.datS (Rows.laid_math_bits_deBruijn64tab (H := Unit))) := Fr.varAt_of_laid (t := 111) (k := 64) 12 (hLd : laidMet Tryd.prog Rows.isaTextsRow.laid W) "math/bits.deBruijn64tab" (Rows.laid_math_bits_deBruijn64tab (H := Unit)) (by simp [Rows.isaTextsRow]) (by kernel_rfl) (by kernel_rfl) (by kernel_rfl)
  have T2 : Fr.VarAt W 5 (Fr.datS (Rows.laid_internal_strconv_uint64pow10 (H := Unit))) := Fr.varAt_of_laid (t := 96) (k := 20) 12 (hLd : laidMet Tryd.prog Rows.isaTextsRow.laid W) "internal/strconv.uint64pow10" (Rows.laid_internal_strconv_uint64pow10 (H := Unit)) (by simp [Rows.isaTextsRow]) (by kernel_rfl) (by kernel_rfl) (by kernel_rfl)
  have T3 : Fr.Sent W 4 := Fr.sent_of_laid (t := 60) (hLd : laidMet Tryd.prog Rows.isaTextsRow.laid W) "strconv.ErrRange" _ _ (show ("strconv.ErrRange", Rows.laid_strconv_ErrRange (H := Unit)) ∈ _ from by simp [Rows.isaTextsRow]) (by kernel_rfl) (by kernel_rfl) Tryd.underlying60
  have T4 : Fr.Sent W 3 := Fr.sent_of_laid (t := 60) (hLd : laidMet Tryd.prog Rows.isaTextsRow.laid W) "strconv.ErrSyntax" _ _ (show ("strconv.ErrSyntax", Rows.laid_strconv_ErrSyntax (H := Unit)) ∈ _ from by simp [Rows.isaTextsRow]) (by kernel_rfl) (by kernel_rfl) Tryd.underlying60
  have T5 : Fr.VarAt W 1 (Fr.datS (Rows.laid_trunnion_isa_places (H := Unit))) := Fr.varAt_of_laid (t := 48) (k := 12) 12 (hLd : laidMet Tryd.prog Rows.isaTextsRow.laid W) "trunnion/isa.places" (Rows.laid_trunnion_isa_places (H := Unit)) (by simp [Rows.isaTextsRow]) (by kernel_rfl) (by kernel_rfl) (by kernel_rfl)
  have T6 : Fr.VarAt W 0 (Fr.datS (Rows.laid_trunnion_isa_operations (H := Unit))) := Fr.varAt_of_laid (t := 43) (k := 60) 12 (hLd : laidMet Tryd.prog Rows.isaTextsRow.laid W) "trunnion/isa.operations" (Rows.laid_trunnion_isa_operations (H := Unit)) (by simp [Rows.isaTextsRow]) (by kernel_rfl) (by kernel_rfl) (by kernel_rfl)
  clear hL hLd
  have hval : ∀ (j : Nat) t v, Tryd.f4.params[j]? = some t → args[j]? = some v → Value.okWide Tryd.prog W .any base t v := hval0
  have hW' := hW
  obtain ⟨p, q, hA0, hV, rfl, hfz, hnd⟩ := hW
  have hA : DataW.TrodAll enc Tryd.prog W 0 (fun _ => true) true Tryd.f4.params.toList args.toList ds p := hA0
  rw [Tryd.params4] at hA hval
  obtain ⟨v0, vs0, d0, ds0, p0, q0, hargs, rfl, rfl, h0, r0⟩ := trodAll_cons hA
  obtain ⟨v1, vs1, d1, ds1, p1, q1, rfl, rfl, rfl, h1, r1⟩ := trodAll_cons r0
  obtain ⟨rfl, rfl, rfl⟩ := trodAll_nil r1
  obtain rfl : args = #[v0, v1] := by cases args; simp_all
  obtain ⟨rfl, rfl⟩ := trodVars_none hV
  have k0 := h0
  have lt0 : ∀ x ∈ p0, x.block < W.heap.size := by obtain ⟨m, hm⟩ := k0; exact DataW.trod_lt m _ _ _ hm
  obtain ⟨cs0, rfl, o0⟩ := Fr.open_flat 12 [some .i64, some .i64, some .i64, some .i64, some .i64] Tryd.underlying23 (by kernel_rfl) (hval 0 23 v0 rfl rfl) h0
  obtain ⟨c0_0, c0_1, c0_2, c0_3, c0_4, rfl⟩ := Fr.cells5 o0.1
  obtain ⟨a0_0, rfl, w0_0⟩ := o0.2 0 _ _ rfl rfl
  obtain ⟨a0_1, rfl, w0_1⟩ := o0.2 1 _ _ rfl rfl
  obtain ⟨a0_2, rfl, w0_2⟩ := o0.2 2 _ _ rfl rfl
  obtain ⟨a0_3, rfl, w0_3⟩ := o0.2 3 _ _ rfl rfl
  obtain ⟨a0_4, rfl, w0_4⟩ := o0.2 4 _ _ rfl rfl
  have k1 := h1
  have lt1 : ∀ x ∈ p1, x.block < W.heap.size := by obtain ⟨m, hm⟩ := k1; exact DataW.trod_lt m _ _ _ hm
  obtain ⟨a1, rfl, rfl, rfl, w1⟩ := Go.ChangeMaps.open_string Tryd.underlying9 (hval 1 9 v1 rfl rfl) h1
  clear hA0 hval0
  refine (walk a0_0 a0_1 a0_2 a0_3 a0_4 a1 w0_0 w0_1 w0_2 w0_3 w0_4 w1 W  T0 T1 T2 T3 T4 T5 T6).mono fun e W' ⟨he, bel⟩ => ?_
  subst he
  exact ⟨_, rfl, _, _, _, [], _, [], hW', trodAll_mk1 (shut_bool Tryd.underlying4 _), (trodAll_cons_mk (Below.trod laidOut (by kernel_rfl) (of_decide_eq_true (by kernel_rfl)) k0 bel lt0) (trodAll_cons_mk (Below.trod laidOut (by kernel_rfl) (of_decide_eq_true (by kernel_rfl)) k1 bel lt1) trodAll_mk0)), rfl, bel.frame _, fun h => by cases h⟩

theorem over : Rows.isaTextsRow.holds Tryd.pinned (OpenSpec.ofChange Rows.isaTextsSpec) :=
  OpenClaim.holds_of_wide 4 Tryd.f4 rfl rfl rfl rfl rfl rfl rfl ⟨rfl, rfl, rfl, rfl, rfl⟩ rfl rfl rfl rfl rfl (by kernel_rfl) Tryd.func4 (by kernel_rfl)
    (of_decide_eq_true (by kernel_rfl)) (by unfold Func.isWrapper; first | (rw [if_pos (by decide +kernel)]; kernel_rfl) | (rw [if_neg (by decide +kernel)]; exact ⟨rfl, rfl⟩))
    (fun os started H enc _ => lifted os started H enc)

theorem proved : Rows.IsaTextsCardSaid :=
  Claim7.holds_tied_plain_at .later [] [.data, .data, .data, .sentinel, .sentinel, .data, .data] true (true, "4ddb2e383d5345f79bcf1ef3a8ab278f627446daa02effe3b4aa83b45206c2b1") true
    over (fun _ h => by cases h) (by kernel_rfl) (fun _ h => by cases h) isaTexts_row_tie rfl ⟨rfl, rfl⟩ (by kernel_rfl) rfl
    (fun f fn hf hfn => by
      obtain rfl : f = 4 := Option.some.inj ((show Tryd.prog.funcNamed "trunnion/trunnionlaw12.IsaTexts" = some 4 by kernel_rfl).symm.trans hf) |>.symm
      obtain rfl : fn = Tryd.f4 := (Option.some.inj (Tryd.func4.symm.trans hfn)).symm
      exact ⟨by kernel_rfl, fun j t ht => by
        rw [Tryd.params4] at ht
        have hm : t ∈ [23, 9] := by simpa using Array.mem_of_getElem? ht
        have hall : ([23, 9].all fun u => !Tryd.prog.wantsStandIn u) = true := by kernel_rfl
        exact (show Tryd.prog.wantsStandIn t = false by simpa using List.all_eq_true.1 hall t hm)⟩)
    (by kernel_rfl)
end Go.Proofs.YtgjppnbkklionaaDoor.isaTexts
