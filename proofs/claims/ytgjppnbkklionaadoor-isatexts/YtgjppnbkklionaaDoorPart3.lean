/-
  Texts that the laws stand on, joined: IsP, IsQ, IsTa, IsTb, IsTc, IsTd, App, Row, IsTe, Laid.
-/
import Derived.Deep.RegionHeld3
import Derived.FnData
import Derived.LaidHandle
import Derived.LaidLaws
import Derived.Laws.OwnMore
import Derived.Maps.AppendAt
import Derived.RangeFuncBox
import Derived.Test.YtgjppnbkklionaaDoorPart2

/-
  The program's instructions: Read.
-/
namespace Go.Proofs.YtgjppnbkklionaaDoor
open Go.ChangeShapes Go.WideShapes Go.ChangeAt Go.RowKit Go.Maps

theorem strim_any (s p : List UInt8) (w : World) : Calls Tryd.prog 28 #[.string (strOf s), .string (strOf p)] w fun e w' => e = .returned (.string (strOf (Lib.trimPrefix s p))) ∧ w' = w := by
  have h := Any.strings_TrimPrefix lays101 (strOf s) (strOf p) w
  rw [strOf_toList, strOf_toList] at h
  exact h
theorem str_toList (s : ByteArray) : s.toList = s.data.toList := ByteArray.toList_eq s
theorem str_ext {a b : ByteArray} (h : a.toList = b.toList) : a = b := by
  rw [str_toList, str_toList] at h
  rw [← strOf_of a, ← strOf_of b, h]
theorem str_ne {a b : ByteArray} (h : a ≠ b) : (a.toList == b.toList) = false := by
  rw [beq_eq_false_iff_ne]
  exact fun e => h (str_ext e)
set_option maxRecDepth 100000 in
set_option maxHeartbeats 4000000 in
theorem wread_any (s : ByteArray) (hs : s.size ≤ 1000) (w : World) (hT : Tabs w) (hL : Libs w) : Calls Tryd.prog 14 #[.string s] w fun e w' => ∃ (i : Ins) (n : Int), e = .returned (.tuple #[.agg #[.int .i64 i.op, .int .i64 i.a, .int .i64 i.b, .int .i64 i.c, .int .i64 i.m], .int .i64 n]) ∧ RdIs s i n ∧ Upd (fun _ => False) w w' := by
  have k0 := Lib.hid (show InsAt (w.alloc (.cells #[.int .i64 0, .int .i64 0, .int .i64 0, .int .i64 0, .int .i64 0] 23)) w.heap.size Ins.zero from heap_alloc_last w _)
  have U0 := Lib.hid ((Upd.refl (fun _ => False) w).alloc (.cells #[.int .i64 0, .int .i64 0, .int .i64 0, .int .i64 0, .int .i64 0] 23))
  have cC := Lib.hid (fun W => scut_any s (by omega) W)
  have hlen := Lib.hid (cutB_len s.data.toList)
  have hsz := Lib.hid (show s.data.toList.length ≤ 1000 from by cases s; exact hs)
  have hno := Lib.hid (hunch_no (s := s))
  have hbg := Lib.hid (fun o => hunch_begin (s := s) (o := o))
  have hglob := Lib.hid (show 1 < w.heap.size from by obtain ⟨t, fr, h⟩ := hT.pls; exact lt_of_heap h)
  generalize (cutB s.data.toList).1 = c1 at cC hlen hno hbg
  generalize (cutB s.data.toList).2 = c2 at cC hlen hbg
  go_enter Tryd.func14, Tryd.ntmps14
  go_upto_region 1 with fail
  obtain ⟨w1, hw1⟩ : ∃ w1, w1 = w.alloc (.cells #[.int .i64 0, .int .i64 0, .int .i64 0, .int .i64 0, .int .i64 0] 23) := ⟨_, rfl⟩
  obtain ⟨N, hN⟩ : ∃ N, N = w.heap.size := ⟨_, rfl⟩
  have HN := Lib.hid (Nat.le_of_eq hN.symm)
  rw [← hw1, ← hN] at k0
  rw [← hw1] at U0 ⊢
  rw [← hN]
  clear hw1 hN
  go_wp2_with fail
  refine (cC.out _).mono ?_
  rintro e w2 ⟨⟨fb, rfl⟩, n2, rfl⟩
  clear cC
  have T1 := Lib.hid (hT.kept (U0.out.drewN n2))
  have cM := Lib.hid (mnemonics_any (w1.drewN n2) T1.out)
  go_wp2_with fail
  refine cM.out.mono ?_
  rintro e w3 ⟨MB, D, rfl, hown, hM, u3, hMB⟩
  have k3 := Lib.hid (k0.out.kept (((Upd.refl (fun _ => False) w1).drewN n2).trans u3) id)
  have V3 := Lib.hid ((U0.out.drewN n2).trans u3)
  replace hM := Lib.hid hM
  clear k0 U0 u3 hMB cM T1
  have hz := Lib.hid (show ∀ w, (zeroValue 3).run Tryd.prog w = .ok (.int .i64 0) w from fun w => Tryd.zeroValue3 w)
  by_cases hex : ∃ o, o < 12 ∧ c1 = byts (opName o)
  case neg =>
    have hrd := Lib.hid (hno.out fun o ho e => hex ⟨o, ho, e⟩)
    have hhas : Maps.has D (.string c1) = false := hM.out.no fun o ho e => hex ⟨o, ho, e⟩
    have hkey := Lib.hid (show keyOf Tryd.prog 9 (.string (strOf c1)) = some (.string c1) from by
      rw [WideMaps.keyOf_string_mk Tryd.underlying9 (by rw [strOf_size]; have := hlen.out.1; have := hsz.out; unfold maxLen; omega), strOf_toList])
    have K := k3.out.there
    have HN' := HN.out
    clear hex hno hbg hM hlen hsz hglob hL hT
    generalize strOf c1 = s1 at hkey ⊢
    go_wp2_with (first
      | (at_lookup; refine wpList_lookup_own_ok_int _ rfl _ _ 57 rfl 9 3 .i64 keyLawS Tryd.underlying57 Tryd.underlying3 (hz.out _) MB 256 D rfl hown _ (.string c1) rfl hkey.out ?_; intro c hat hwc; clear hat hwc)
      | (with_reducible refine wpList_store_sz rfl 23 (.tmp 2) (.tmp 31) rfl N 0 #[.int .i64 0, .int .i64 0, .int .i64 0, .int .i64 0, .int .i64 0] rfl rfl 5 (ins_sz _ _ _ _ _) K size_ins (ins_one _ _ _ _ _) [.int .i64 0, .int .i64 0, .int .i64 0, .int .i64 0, .int .i64 0] (ins_ls _ _ _ _ _) ?_))
    (try simp only [Exit.inBlock, Exit.then])
    refine bodyPost_ret (ret_ins rfl _ _ N Ins.zero rfl (k3.out.set Ins.zero)) rfl ⟨Ins.zero, 11, rfl, hrd.out, ?_⟩
    exact Upd.setCells (.inr HN') _ _ V3.out
  case pos =>
    obtain ⟨o, ho, rfl⟩ := hex
    have hbeg := Lib.hid (hbg.out o ho rfl)
    have hhas : Maps.has D (ks o) = true := hM.out.yes o ho
    have hget := Lib.hid (hM.out.get o ho)
    have hkey := Lib.hid (key_name o ho)
    have T3 := Lib.hid (hT.kept V3.out)
    have L3 := Lib.hid (hL.kept V3.out)
    have hr2 := Lib.hid (show (strOf c2).size ≤ 1000 from by rw [strOf_size]; have := hlen.out.2; have := hsz.out; omega)
    have HTL := Lib.hid (And.intro hT hL)
    clear hno hbg hM hlen hsz hT hL
    obtain ⟨s1, hs1⟩ : ∃ s1, strOf (byts (opName o)) = s1 := ⟨_, rfl⟩
    rw [hs1] at hkey ⊢
    clear hs1
    generalize strOf c2 = s2 at hbeg hr2 ⊢
    have o0 : (0 : Int) ≤ (o : Int) := by omega
    have o1 : (o : Int) < 12 := by omega
    go_upto_region 6 with (at_lookup; refine wpList_lookup_own_ok_int _ rfl _ _ 57 rfl 9 3 .i64 keyLawS Tryd.underlying57 Tryd.underlying3 (hz.out _) MB 256 D rfl hown _ (ks o) rfl hkey.out ?_; intro c hat hwc; obtain rfl : (o : Int) = c := by { rw [hget.out] at hat; injection hat with hat; injection hat })
    have F4 := Lib.hid (show FourAt (w3.alloc (.cells #[.int .i64 0, .int .i64 0, .int .i64 0, .int .i64 0] 38)) w3.heap.size (fun _ => 0) from heap_alloc_last w3 _)
    have k4 := Lib.hid (k3.out.kept ((Upd.refl (fun _ => False) w3).alloc (.cells #[.int .i64 0, .int .i64 0, .int .i64 0, .int .i64 0] 38)) id)
    have V4 := Lib.hid (V3.out.alloc (.cells #[.int .i64 0, .int .i64 0, .int .i64 0, .int .i64 0] 38))
    have HA := Lib.hid (show N ≠ w3.heap.size ∧ w.heap.size ≤ w3.heap.size ∧ ¬ (1 = w3.heap.size) from ⟨Nat.ne_of_lt (lt_of_heap k3.out), V3.out.size, by have := V3.out.size; have := hglob.out; omega⟩)
    have T4 := Lib.hid (T3.out.kept ((Upd.refl (fun _ => False) w3).alloc (.cells #[.int .i64 0, .int .i64 0, .int .i64 0, .int .i64 0] 38)))
    have L4 := Lib.hid (L3.out.kept ((Upd.refl (fun _ => False) w3).alloc (.cells #[.int .i64 0, .int .i64 0, .int .i64 0, .int .i64 0] 38)))
    clear k3 V3 T3 L3 hglob hget hkey hhas hown
    generalize w3.alloc (.cells #[.int .i64 0, .int .i64 0, .int .i64 0, .int .i64 0] 38) = w4 at F4 k4 V4 T4 L4 ⊢
    generalize w3.heap.size = A at F4 HA ⊢
    have hh : Hid (∀ W, Tabs W → ∀ k, k < 4 → W.cell? ⟨0, o * 5 + 1 + k, none⟩ = some (.bool (hasK o k))) := Lib.hid (fun W h k hk => h.has o ho k hk)
    go_wp2_with fail
    go_loopw [5, 32] (fun t5 t32 wr => ∃ (k : Nat) (f : Nat → Int) (rs : ByteArray), k ≤ 4 ∧ t5 = .string rs ∧ t32 = .int .i64 k ∧ Hid (rs.size ≤ 1000) ∧ Hid (Upd (fun _ => False) w wr) ∧ Hid (FourAt wr A f) ∧ Hid (InsAt wr N Ins.zero) ∧ Hid (Tabs wr ∧ Libs wr) ∧ Hid (Hunch s o k f rs) ∧ Hid (∀ x, -9223372036854775808 ≤ f x ∧ f x ≤ 9223372036854775807) ∧ Hid (∀ x, k ≤ x → f x = 0)) (fun _ t32 _ => 4 - (intOf t32).toNat)
    case atStart => exact ⟨0, _, _, by omega, rfl, rfl, hr2, V4, F4, k4, Lib.hid ⟨T4.out, L4.out⟩, hbeg, Lib.hid (fun _ => by omega), Lib.hid (fun _ _ => rfl)⟩
    case round =>
      obtain ⟨k, f, rs, hk, rfl, rfl, hrs, hU, hF, hI, hTL, hH, hfb, hf0⟩ := hrel
      clear V4 F4 k4 T4 L4 hbeg hr2
      by_cases h4k : k < 4
      · have ha := hh.out _ hTL.out.1 k h4k
        obtain ⟨-, -, c3⟩ := hTL.out.1.pl k h4k
        have k0 : (0 : Int) ≤ (k : Int) := by omega
        have k4 : (k : Int) < 4 := by omega
        clear hh
        generalize hbe : hasK (o : Int) k = hb at ha
        cases hb
        · have hH' := Lib.hid (hunch_not hH.out h4k hbe (hf0.out k (Nat.le_refl _)))
          clear hH hbe c3
          go_wp2
          go_roundw
          case rel => exact ⟨k + 1, f, rs, by omega, rfl, by go_num, hrs, hU, hF, hI, hTL, hH', hfb, Lib.hid (fun x hx => hf0.out x (by omega))⟩
          case measure => simp [intOf]; omega
        · have hH' := Lib.hid (hunch_yes hH.out h4k hbe)
          have cC := Lib.hid (fun W => scut_any rs (by have := hrs.out; omega) W)
          have hl := Lib.hid (show (cutB rs.data.toList).1.length ≤ 1000 ∧ (cutB rs.data.toList).2.length ≤ 1000 from by
            have h1 := cutB_len rs.data.toList
            have h2 : rs.data.toList.length = rs.size := by cases rs; rfl
            have := hrs.out
            omega)
          clear hH hbe
          generalize (cutB rs.data.toList).1 = d1 at hH' cC hl
          generalize (cutB rs.data.toList).2 = d2 at hH' cC hl
          go_wp2_with fail
          refine (cC.out _).mono ?_
          rintro e w5 ⟨⟨fb5, rfl⟩, n5, rfl⟩
          have cT := Lib.hid (fun W => strim_any d1 (byts (sgK k)) W)
          have cA := Lib.hid (fun W (h : Libs W) => atoi_any (strOf (Lib.trimPrefix d1 (byts (sgK k)))) (by rw [strOf_size]; have := trim_len d1 (byts (sgK k)); have := hl.out.1; omega) W h.syn h.ran)
          have hbd := atoiV_bd (strOf (Lib.trimPrefix d1 (byts (sgK k))))
          generalize Lib.trimPrefix d1 (byts (sgK k)) = tr at cT cA hH' hbd
          generalize byts (sgK k) = sg at cT c3
          generalize atoiV (strOf tr) = z at cA hH' hbd
          replace hbd := Lib.hid hbd
          have hr5 := Lib.hid (show (strOf d2).size ≤ 1000 from by rw [strOf_size]; exact hl.out.2)
          clear hl cC
          generalize strOf d2 = rs' at hH' hr5 ⊢
          generalize strOf d1 = s5 at cT ⊢
          generalize strOf tr = s6 at cT cA
          generalize strOf sg = s7 at cT c3
          have U5 := Lib.hid (hU.out.drewN n5)
          have F5 := Lib.hid (show FourAt (wr.drewN n5) A f from hF.out)
          have I5 := Lib.hid (show InsAt (wr.drewN n5) N Ins.zero from hI.out)
          have T5 := Lib.hid (show Tabs (wr.drewN n5) ∧ Libs (wr.drewN n5) from ⟨hTL.out.1.kept ((Upd.refl _ _).drewN _), hTL.out.2.kept ((Upd.refl _ _).drewN _)⟩)
          have c5 : (wr.drewN n5).cell? ⟨1, k * 3 + 2, none⟩ = some (.string s7) := c3
          clear hU hF hI hTL c3 ha
          generalize wr.drewN n5 = w5 at U5 F5 I5 T5 c5 ⊢
          go_wp2_with fail
          refine (cT.out _).mono ?_
          rintro e w6 ⟨rfl, rfl⟩
          go_wp2_with fail
          refine (cA.out _ T5.out.2).mono ?_
          rintro e w7 ⟨er, rfl, u7⟩
          have U7 := Lib.hid (U5.out.trans u7)
          have F7 := Lib.hid (F5.out.kept u7 id)
          have I7 := Lib.hid (I5.out.kept u7 id)
          have T7 := Lib.hid (show Tabs w7 ∧ Libs w7 from ⟨T5.out.1.kept u7, T5.out.2.kept u7⟩)
          clear U5 F5 I5 T5 u7 cA cT c5
          have ce := F7.out.cell k h4k
          have fz := F7.out.free k
          have u8' := (Upd.refl (· = A) w7).setCell (p := ⟨A, k, none⟩) (.inl rfl) (.int .i64 z)
          have U8 := Lib.hid (U7.out.setCell (p := ⟨A, k, none⟩) (.inr HA.out.2.1) (.int .i64 z))
          have F8 := Lib.hid (F7.out.set k h4k z)
          have I8 := Lib.hid (I7.out.kept u8' HA.out.1)
          have T8 := Lib.hid (show Tabs (w7.setCell ⟨A, k, none⟩ (.int .i64 z)) ∧ Libs (w7.setCell ⟨A, k, none⟩ (.int .i64 z)) from ⟨HTL.out.1.kept U8.out, HTL.out.2.kept U8.out⟩)
          clear U7 I7 T7 u8'
          go_wp2
          go_roundw
          case rel => exact ⟨k + 1, _, rs', by omega, rfl, by go_num, hr5, U8, F8, I8, T8, hH', Lib.hid (fun x => by split; exact hbd.out; exact hfb.out x), Lib.hid (fun x hx => by rw [if_neg (by omega)]; exact hf0.out x (by omega))⟩
          case measure => simp [intOf]; omega
      · have e : k = 4 := by omega
        subst e
        have hend := Lib.hid (hunch_end hH.out)
        have hin := Lib.hid (show Ins.In ⟨o, f 0, f 1, f 2, f 3⟩ from ⟨by simp only; omega, hfb.out 0, hfb.out 1, hfb.out 2, hfb.out 3⟩)
        have R4 := hF.out.range
        have T4 := Lib.hid hTL.out
        clear hF hH hf0 hfb hh HTL hTL
        generalize f 0 = fa at R4 hend hin
        generalize f 1 = fbb at R4 hend hin
        generalize f 2 = fc at R4 hend hin
        generalize f 3 = fm at R4 hend hin
        have cI := Lib.hid (fun W => instr_any o fa fbb fc fm W)
        go_wp2_with (with_reducible refine wpList_load_sz rfl 38 (.tmp 9) rfl A 0 rfl [.int .i64 fa, .int .i64 fbb, .int .i64 fc, .int .i64 fm] _ R4 Tryd.underlying38 rfl 4 rfl size_i4 ?_)
        refine (cI.out _).mono ?_
        rintro e w5 ⟨rfl, u5⟩
        have k5 := Lib.hid (hI.out.kept u5 id)
        have V5 := Lib.hid (hU.out.trans u5)
        have T5 := Lib.hid (show Tabs w5 ∧ Libs w5 from ⟨T4.out.1.kept u5, T4.out.2.kept u5⟩)
        clear cI R4 hI hU u5 T4
        go_upto_region 15 with fail
        obtain ⟨u, hu⟩ : ∃ u : Ins, u = ⟨o, fa, fbb, fc, fm⟩ := ⟨_, rfl⟩
        have X6 := Lib.hid (show InsAt (w5.alloc (.cells #[.int .i64 o, .int .i64 fa, .int .i64 fbb, .int .i64 fc, .int .i64 fm] 23)) w5.heap.size u from by rw [hu]; exact heap_alloc_last w5 _)
        have u6 := (Upd.refl (fun _ => False) w5).alloc (.cells #[.int .i64 o, .int .i64 fa, .int .i64 fbb, .int .i64 fc, .int .i64 fm] 23)
        have k6 := Lib.hid (k5.out.kept u6 id)
        have V6 := Lib.hid (V5.out.trans u6)
        have T6 := Lib.hid (show Tabs _ ∧ Libs _ from ⟨T5.out.1.kept u6, T5.out.2.kept u6⟩)
        simp only [← hu] at hend hin
        clear k5 V5 u6 T5 hu
        generalize w5.alloc (.cells #[.int .i64 o, .int .i64 fa, .int .i64 fbb, .int .i64 fc, .int .i64 fm] 23) = w6 at X6 k6 V6 T6 ⊢
        generalize w5.heap.size = B at X6 ⊢
        have cW := Lib.hid (wtext_any u hin.out w6 T6.out.1 T6.out.2)
        go_wp2_with (with_reducible refine wpList_load_sz rfl 23 (.tmp 14) rfl B 0 rfl [.int .i64 u.op, .int .i64 u.a, .int .i64 u.b, .int .i64 u.c, .int .i64 u.m] _ X6.out.range Tryd.underlying23 rfl 5 (ins_len _ _ _ _ _) size_ins ?_)
        refine cW.out.mono ?_
        rintro e w7 ⟨rfl, u7⟩
        have X7 := Lib.hid (X6.out.kept u7 id)
        have k7 := Lib.hid (k6.out.kept u7 id)
        have V7 := Lib.hid (V6.out.trans u7)
        clear X6 k6 V6 u7 cW T6 hin
        have K := k7.out.there
        generalize u.tv = tv at hend ⊢
        generalize u.we = we at hend ⊢
        have HN' := HN.out
        by_cases hyes : we = 0 ∧ tv = s
        · have hr := Lib.hid (hend.out.1 hyes)
          obtain ⟨rfl, rfl⟩ := hyes
          clear hend
          go_wp2_with (first
            | (with_reducible refine wpList_load_sz rfl 23 (.tmp 14) rfl B 0 rfl [.int .i64 u.op, .int .i64 u.a, .int .i64 u.b, .int .i64 u.c, .int .i64 u.m] _ X7.out.range Tryd.underlying23 rfl 5 (ins_len _ _ _ _ _) size_ins ?_)
            | (with_reducible refine wpList_store_sz rfl 23 (.tmp 2) (.tmp 77) rfl N 0 #[.int .i64 u.op, .int .i64 u.a, .int .i64 u.b, .int .i64 u.c, .int .i64 u.m] rfl rfl 5 (ins_sz _ _ _ _ _) K size_ins (ins_one _ _ _ _ _) [.int .i64 u.op, .int .i64 u.a, .int .i64 u.b, .int .i64 u.c, .int .i64 u.m] (ins_ls _ _ _ _ _) ?_))
          (try simp only [Exit.inBlock, Exit.then])
          refine bodyPost_ret (ret_ins rfl _ _ N u rfl (k7.out.set u)) rfl ⟨u, 0, rfl, hr.out, ?_⟩
          exact Upd.setCells (.inr HN') _ _ V7.out
        · have hr := Lib.hid (hend.out.2 hyes)
          clear hend
          by_cases hw : we = 0
          · have hb : (tv.toList == s.toList) = false := str_ne fun e => hyes ⟨hw, e⟩
            have hb' : ¬ tv.toList = s.toList := by simpa using hb
            subst hw
            clear hyes
            go_wp2_with (with_reducible refine wpList_store_sz rfl 23 (.tmp 2) (.tmp 76) rfl N 0 #[.int .i64 0, .int .i64 0, .int .i64 0, .int .i64 0, .int .i64 0] rfl rfl 5 (ins_sz _ _ _ _ _) K size_ins (ins_one _ _ _ _ _) [.int .i64 0, .int .i64 0, .int .i64 0, .int .i64 0, .int .i64 0] (ins_ls _ _ _ _ _) ?_)
            (try simp only [Exit.inBlock, Exit.then])
            refine bodyPost_ret (ret_ins rfl _ _ N Ins.zero rfl (k7.out.set Ins.zero)) rfl ⟨Ins.zero, 11, rfl, hr.out, ?_⟩
            exact Upd.setCells (.inr HN') _ _ V7.out
          · have hb : (we != 0) = true := by simp [hw]
            clear hyes hw
            go_wp2_with (with_reducible refine wpList_store_sz rfl 23 (.tmp 2) (.tmp 76) rfl N 0 #[.int .i64 0, .int .i64 0, .int .i64 0, .int .i64 0, .int .i64 0] rfl rfl 5 (ins_sz _ _ _ _ _) K size_ins (ins_one _ _ _ _ _) [.int .i64 0, .int .i64 0, .int .i64 0, .int .i64 0, .int .i64 0] (ins_ls _ _ _ _ _) ?_)
            (try simp only [Exit.inBlock, Exit.then])
            refine bodyPost_ret (ret_ins rfl _ _ N Ins.zero rfl (k7.out.set Ins.zero)) rfl ⟨Ins.zero, 11, rfl, hr.out, ?_⟩
            exact Upd.setCells (.inr HN') _ _ V7.out
end Go.Proofs.YtgjppnbkklionaaDoor

/-
  Two instructions compared; the laws' awake over package isa; the tables out of what a row lists.
-/
namespace Go.Proofs.YtgjppnbkklionaaDoor
open Go.ChangeShapes Go.WideShapes Go.ChangeAt Go.RowKit

theorem run_eqId (d : Nat) (o a b c m o' a' b' c' m' : Int) (w : World) :
    (Op.equalIn (d + 2) 23 (.agg #[.int .i64 o, .int .i64 a, .int .i64 b, .int .i64 c, .int .i64 m]) (.agg #[.int .i64 o', .int .i64 a', .int .i64 b', .int .i64 c', .int .i64 m'])).run Tryd.prog w = .ok (decide (o = o' ∧ a = a' ∧ b = b' ∧ c = c' ∧ m = m')) w := by
  have hF : (Tryd.prog.fieldsOf 23).toList.map (fun f => (f.name == "_", f.type, f.offset)) = [(false, 3, 0), (false, 3, 1), (false, 3, 2), (false, 3, 3), (false, 3, 4)] := by kernel_rfl
  rw [run_equalIn_struct w (d + 1) _ _ _ (by kernel_rfl) (by kernel_rfl)]
  have hag : ∀ (e : TypeId) (d : TypeDesc), Tryd.prog.underlying e = some d → d.isRow = false → (isAgg e).run Tryd.prog w = .ok false w := by
    intro e d he hd
    unfold isAgg
    rw [Sem.run_bind, run_underlying he w]
    cases d <;> first | rfl | cases hd
  have hpart : ∀ (e : TypeId) (d : TypeDesc), Tryd.prog.underlying e = some d → d.isRow = false → ∀ (cs : Array Value) (i : Nat) (x : Value), cs[i]? = some x → (part e cs i).run Tryd.prog w = .ok x w := by
    intro e d he hd cs i x hx
    unfold part
    rw [Sem.run_bind, hag e d he hd]
    simp only [Result.andThen_ok, Bool.false_eq_true, if_false, hx]
    rfl
  have hlen := congrArg List.length hF
  rw [List.length_map] at hlen
  generalize (Tryd.prog.fieldsOf 23).toList = L at hF hlen ⊢
  match L, hlen with
  | [g0, g1, g2, g3, g4], _ =>
    simp only [List.map_cons, List.map_nil, List.cons.injEq, Prod.mk.injEq, and_true] at hF
    obtain ⟨⟨n0, t0, o0⟩, ⟨n1, t1, o1⟩, ⟨n2, t2, o2⟩, ⟨n3, t3, o3⟩, ⟨n4, t4, o4⟩⟩ := hF
    have n0 : g0.name ≠ "_" := by simpa using n0
    have n1 : g1.name ≠ "_" := by simpa using n1
    have n2 : g2.name ≠ "_" := by simpa using n2
    have n3 : g3.name ≠ "_" := by simpa using n3
    have n4 : g4.name ≠ "_" := by simpa using n4
    have ui := Tryd.underlying3
    have step : ∀ (X Y : Array Value) (g : Field) (fs : List Field) (x y : Value) (q : Bool), g.name ≠ "_" → (part g.type X g.offset).run Tryd.prog w = .ok x w → (part g.type Y g.offset).run Tryd.prog w = .ok y w →
        (Op.equalIn (d + 1) g.type x y).run Tryd.prog w = .ok q w → (Op.eqFields (d + 1) X Y (g :: fs)).run Tryd.prog w = if q = true then (Op.eqFields (d + 1) X Y fs).run Tryd.prog w else .ok false w := by
      intro X Y g fs x y q hn hx hy hq
      rw [Op.eqFields, if_pos hn, Sem.run_bind, hx, Result.andThen_ok, Sem.run_bind, hy, Result.andThen_ok, Sem.run_bind, hq, Result.andThen_ok]
      cases q
      · rfl
      · rfl
    rw [step _ _ g0 _ (.int .i64 o) (.int .i64 o') (o == o') n0 (by rw [t0, o0]; exact hpart _ _ ui rfl _ _ _ rfl) (by rw [t0, o0]; exact hpart _ _ ui rfl _ _ _ rfl) (by rw [t0]; exact run_equalIn_int w d _ .i64 .i64 _ _ ui),
      step _ _ g1 _ (.int .i64 a) (.int .i64 a') (a == a') n1 (by rw [t1, o1]; exact hpart _ _ ui rfl _ _ _ rfl) (by rw [t1, o1]; exact hpart _ _ ui rfl _ _ _ rfl) (by rw [t1]; exact run_equalIn_int w d _ .i64 .i64 _ _ ui),
      step _ _ g2 _ (.int .i64 b) (.int .i64 b') (b == b') n2 (by rw [t2, o2]; exact hpart _ _ ui rfl _ _ _ rfl) (by rw [t2, o2]; exact hpart _ _ ui rfl _ _ _ rfl) (by rw [t2]; exact run_equalIn_int w d _ .i64 .i64 _ _ ui),
      step _ _ g3 _ (.int .i64 c) (.int .i64 c') (c == c') n3 (by rw [t3, o3]; exact hpart _ _ ui rfl _ _ _ rfl) (by rw [t3, o3]; exact hpart _ _ ui rfl _ _ _ rfl) (by rw [t3]; exact run_equalIn_int w d _ .i64 .i64 _ _ ui),
      step _ _ g4 _ (.int .i64 m) (.int .i64 m') (m == m') n4 (by rw [t4, o4]; exact hpart _ _ ui rfl _ _ _ rfl) (by rw [t4, o4]; exact hpart _ _ ui rfl _ _ _ rfl) (by rw [t4]; exact run_equalIn_int w d _ .i64 .i64 _ _ ui)]
    by_cases e1 : o = o'
    · by_cases e2 : a = a'
      · by_cases e3 : b = b'
        · by_cases e4 : c = c'
          · by_cases e5 : m = m'
            · simp [e1, e2, e3, e4, e5, Op.eqFields]
            · simp [e1, e2, e3, e4, e5]
          · simp [e1, e2, e3, e4]
        · simp [e1, e2, e3]
      · simp [e1, e2]
    · simp [e1]
theorem run_eqI (i j : Ins) (b : Bool) (hb : decide (i = j) = b) (w : World) :
    (Op.equalIn 10000 23 (.agg #[.int .i64 i.op, .int .i64 i.a, .int .i64 i.b, .int .i64 i.c, .int .i64 i.m]) (.agg #[.int .i64 j.op, .int .i64 j.a, .int .i64 j.b, .int .i64 j.c, .int .i64 j.m])).run Tryd.prog w = .ok b w := by
  subst hb
  rw [run_eqId 9998 i.op i.a i.b i.c i.m j.op j.a j.b j.c j.m w]
  obtain ⟨io, ia, ib, ic, im⟩ := i
  obtain ⟨jo, ja, jb, jc, jm⟩ := j
  congr 1
  rw [decide_eq_decide]
  simp
/-- what a row of these laws lists -/
theorem tabs_of {w : World} (h1 : Fr.VarAt w 0 (Fr.datS (Rows.laid_trunnion_isa_operations (H := Unit)))) (h2 : Fr.VarAt w 1 (Fr.datS (Rows.laid_trunnion_isa_places (H := Unit)))) : Tabs w := ⟨h1, h2⟩
theorem libs_of {w : World} (h1 : Fr.VarAt w 5 (Fr.datS (Rows.laid_internal_strconv_uint64pow10 (H := Unit)))) (h2 : Fr.Sent w 3) (h3 : Fr.Sent w 4) : Libs w :=
  ⟨by
    have e : Fr.datS (Rows.laid_internal_strconv_uint64pow10 (H := Unit)) = Lib.pow10Tab.map fun z => Value.int .u64 z := by rfl
    rw [← e]; exact h1, h2, h3⟩
def iAdd : Ins := ⟨2, 1, 2, 3, 0⟩
def sAdd : ByteArray := ⟨#[97, 100, 100, 32, 114, 49, 32, 114, 50, 32, 114, 51]⟩
theorem iAdd_ok : iAdd.Ok := ⟨by decide, by decide, by decide, by decide, by decide, by decide, by decide, by decide, by decide⟩
theorem iAdd_right : iAdd.right = true := (Ins.right_iff iAdd).2 iAdd_ok
theorem iAdd_text : strOf (byts iAdd.text) = sAdd := by
  have d1 : digs 1 = [49] := digs_lt (by omega)
  have d2 : digs 2 = [50] := digs_lt (by omega)
  have d3 : digs 3 = [51] := digs_lt (by omega)
  have hp : iAdd.parts = [[114, 49], [114, 50], [114, 51]] := by
    show ([114 :: digs 1] ++ [114 :: digs 2] ++ [114 :: digs 3] ++ [] : List (List Nat)) = _
    rw [d1, d2, d3]
    rfl
  unfold Ins.text
  rw [hp]
  rfl
set_option maxHeartbeats 4000000 in
theorem isawake_any (w : World) (hT : Tabs w) (hL : Libs w) : Calls Tryd.prog 7 #[] w fun e w' => e = .returned (.bool true) ∧ Upd (fun _ => False) w w' := by
  have he := run_eqI iAdd iAdd true (by simp)
  have c1 := Lib.hid (fun W h => wword_any iAdd iAdd_ok.in W h)
  have c2 := Lib.hid (fun W h1 h2 => wtext_any iAdd iAdd_ok.in W h1 h2)
  have c3 := Lib.hid (fun W h1 h2 => wread_any sAdd (by decide) W h1 h2)
  rw [show iAdd.wv = 53506 from by unfold Ins.wv; rw [iAdd_right]; rfl, show iAdd.we = 0 from by unfold Ins.we; rw [iAdd_right]; rfl] at c1
  rw [show iAdd.tv = sAdd from by unfold Ins.tv; rw [iAdd_right, if_pos rfl, iAdd_text], show iAdd.we = 0 from by unfold Ins.we; rw [iAdd_right]; rfl] at c2
  have huq := Lib.hid (fun (i : Ins) (n : Int) (h : RdIs sAdd i n) => h.uniq (j := iAdd) (f := 0) (.inl ⟨iAdd_ok, iAdd_text, rfl⟩))
  have HT := Lib.hid hT
  have HL := Lib.hid hL
  clear hT hL
  have hX := heap_alloc_last w (.cells #[.int .i64 2, .int .i64 1, .int .i64 2, .int .i64 3, .int .i64 0] 23)
  replace hX := Lib.hid (show InsAt _ _ iAdd from hX)
  have U0 := Lib.hid ((Upd.refl (fun _ => False) w).alloc (.cells #[.int .i64 2, .int .i64 1, .int .i64 2, .int .i64 3, .int .i64 0] 23))
  go_enter Tryd.func7, Tryd.ntmps7
  go_upto_region 2 with fail
  generalize w.alloc (.cells #[.int .i64 2, .int .i64 1, .int .i64 2, .int .i64 3, .int .i64 0] 23) = w1 at hX U0 ⊢
  generalize w.heap.size = X at hX ⊢
  go_wp2_with (with_reducible refine wpList_load_sz rfl 23 (.tmp 1) rfl X 0 rfl [.int .i64 iAdd.op, .int .i64 iAdd.a, .int .i64 iAdd.b, .int .i64 iAdd.c, .int .i64 iAdd.m] _ hX.out.range Tryd.underlying23 rfl 5 (ins_len _ _ _ _ _) size_ins ?_)
  refine (c1.out _ (HT.out.kept U0.out)).mono ?_
  rintro e w2 ⟨rfl, u2⟩
  have U2 := Lib.hid (U0.out.trans u2)
  have X2 := Lib.hid (hX.out.kept u2 id)
  clear U0 hX u2
  go_wp2_with (with_reducible refine wpList_load_sz rfl 23 (.tmp 1) rfl X 0 rfl [.int .i64 iAdd.op, .int .i64 iAdd.a, .int .i64 iAdd.b, .int .i64 iAdd.c, .int .i64 iAdd.m] _ X2.out.range Tryd.underlying23 rfl 5 (ins_len _ _ _ _ _) size_ins ?_)
  refine (c2.out _ (HT.out.kept U2.out) (HL.out.kept U2.out)).mono ?_
  rintro e w3 ⟨rfl, u3⟩
  have U3 := Lib.hid (U2.out.trans u3)
  have X3 := Lib.hid (X2.out.kept u3 id)
  clear U2 X2 u3
  go_wp2_with fail
  refine (c3.out _ (HT.out.kept U3.out) (HL.out.kept U3.out)).mono ?_
  rintro e w4 ⟨i4, n4, rfl, h4, u4⟩
  obtain ⟨rfl, rfl⟩ := huq.out _ _ h4
  have U4 := Lib.hid (U3.out.trans u4)
  have X4 := Lib.hid (X3.out.kept u4 id)
  clear U3 X3 u4 h4 huq c1 c2 c3
  go_upto_region 5 with fail
  have k5 := Lib.hid (show InsAt (w4.alloc (.cells #[.int .i64 iAdd.op, .int .i64 iAdd.a, .int .i64 iAdd.b, .int .i64 iAdd.c, .int .i64 iAdd.m] 23)) w4.heap.size iAdd from heap_alloc_last w4 _)
  have u5 := (Upd.refl (fun _ => False) w4).alloc (.cells #[.int .i64 iAdd.op, .int .i64 iAdd.a, .int .i64 iAdd.b, .int .i64 iAdd.c, .int .i64 iAdd.m] 23)
  have X5 := Lib.hid (X4.out.kept u5 id)
  have U5 := Lib.hid (U4.out.trans u5)
  clear u5 X4 U4
  generalize w4.alloc (.cells #[.int .i64 iAdd.op, .int .i64 iAdd.a, .int .i64 iAdd.b, .int .i64 iAdd.c, .int .i64 iAdd.m] 23) = w5 at k5 X5 U5 ⊢
  generalize w4.heap.size = Y at k5 ⊢
  have hsa : sAdd.toList = [97, 100, 100, 32, 114, 49, 32, 114, 50, 32, 114, 51] := by rw [str_toList]; rfl
  go_wp2_with (first
    | (with_reducible refine wpList_load_sz rfl 23 (.tmp 6) rfl Y 0 rfl [.int .i64 iAdd.op, .int .i64 iAdd.a, .int .i64 iAdd.b, .int .i64 iAdd.c, .int .i64 iAdd.m] _ k5.out.range Tryd.underlying23 rfl 5 (ins_len _ _ _ _ _) size_ins ?_)
    | (with_reducible refine wpList_load_sz rfl 23 (.tmp 1) rfl X 0 rfl [.int .i64 iAdd.op, .int .i64 iAdd.a, .int .i64 iAdd.b, .int .i64 iAdd.c, .int .i64 iAdd.m] _ X5.out.range Tryd.underlying23 rfl 5 (ins_len _ _ _ _ _) size_ins ?_))
  go_ret
  exact ⟨rfl, U5.out⟩
end Go.Proofs.YtgjppnbkklionaaDoor

/-
  The document's own instructions: names, digits.
-/
namespace Go.Proofs.YtgjppnbkklionaaDoor
open Go.ChangeShapes Go.WideShapes Go.ChangeAt Go.RowKit

set_option maxRecDepth 100000 in
set_option maxHeartbeats 2000000 in
theorem iname_any (o : Nat) (ho : o < 12) (w : World) : Calls Tryd.prog 22 #[.int .i64 (o : Int)] w fun e w' => e = .returned (.string (strOf (byts (opName o)))) ∧ Upd (fun _ => False) w w' := by
  have hc : o = 0 ∨ o = 1 ∨ o = 2 ∨ o = 3 ∨ o = 4 ∨ o = 5 ∨ o = 6 ∨ o = 7 ∨ o = 8 ∨ o = 9 ∨ o = 10 ∨ o = 11 := by omega
  clear ho
  rcases hc with rfl | rfl | rfl | rfl | rfl | rfl | rfl | rfl | rfl | rfl | rfl | rfl
  all_goals
    go_enter Tryd.func22, Tryd.ntmps22
    go_wp2
    go_ret
    exact ⟨rfl, by first | exact (Upd.refl _ _).alloc _ | exact ((Upd.refl _ _).drew).alloc _ | exact ((Upd.refl _ _).alloc _).drew⟩
set_option maxRecDepth 100000 in
set_option maxHeartbeats 2000000 in
theorem idigits_small (u : Nat) (h : u < 10) (w : World) : Calls Tryd.prog 24 #[.int .i64 (u : Int)] w fun e w' => e = .returned (.string (strOf (byts (digs u)))) ∧ ∃ n, w' = w.drewN n := by
  have hc : u = 0 ∨ u = 1 ∨ u = 2 ∨ u = 3 ∨ u = 4 ∨ u = 5 ∨ u = 6 ∨ u = 7 ∨ u = 8 ∨ u = 9 := by omega
  rw [digs_lt h]
  clear h
  rcases hc with rfl | rfl | rfl | rfl | rfl | rfl | rfl | rfl | rfl | rfl
  all_goals
    go_enter Tryd.func24, Tryd.ntmps24
    go_wp2
    go_ret
    first | exact ⟨rfl, 0, rfl⟩ | exact ⟨rfl, 1, rfl⟩
set_option maxRecDepth 100000 in
set_option maxHeartbeats 2000000 in
theorem idigits_any (u : Nat) (h : u ≤ 65535) (w : World) : Calls Tryd.prog 24 #[.int .i64 (u : Int)] w fun e w' => e = .returned (.string (strOf (byts (digs u)))) ∧ ∃ n, w' = w.drewN n := by
  induction u using Nat.strongRecOn generalizing w with
  | ind u ih =>
    by_cases hu : u < 10
    · exact idigits_small u hu w
    · have h1 := Lib.hid (fun W => ih (u / 10) (by omega) (by omega) W)
      have h2 := Lib.hid (fun W => idigits_small (u % 10) (by omega) W)
      have hcat := Lib.hid (show ∀ w, (Op.stringOp .add (strOf (byts (digs (u / 10)))) (strOf (byts (digs (u % 10))))).run Tryd.prog w = .ok (.string (strOf (byts (digs u)))) w from fun w => by
        have l1 := digs_len5 (u / 10) (by omega)
        have l2 := digs_len5 (u % 10) (by omega)
        rw [run_string_add_sum w _ _ (by rw [strSz, strSz]; omega), strOf_append, ← byts_append, digs_ge hu, digs_lt (show u % 10 < 10 by omega)])
      have hge : ¬ ((u : Int) < 10) := by omega
      have hq := Lib.hid (show wrap64 ((u : Int) / 10) = ((u / 10 : Nat) : Int) from by rw [IntWalk.wrap64_in _ (by omega)]; omega)
      have hr := Lib.hid (show ((u : Int).tmod 10) = ((u % 10 : Nat) : Int) ∧ (u : Int) % 10 = ((u % 10 : Nat) : Int) from by rw [Int.tmod_eq_emod_of_nonneg (by omega)]; omega)
      clear ih h hu
      generalize strOf (byts (digs (u / 10))) = a at h1 hcat
      generalize strOf (byts (digs (u % 10))) = b at h2 hcat
      generalize strOf (byts (digs u)) = c at hcat ⊢
      replace hcat := hcat.out
      go_enter Tryd.func24, Tryd.ntmps24
      go_wp2_with fail
      rw [hq.out]
      refine (h1.out _).mono ?_
      rintro e w1 ⟨rfl, n1, rfl⟩
      go_wp2_with fail
      refine (h2.out _).mono ?_
      rintro e w2 ⟨rfl, n2, rfl⟩
      go_wp2
      go_ret
      exact ⟨rfl, _, rfl⟩
end Go.Proofs.YtgjppnbkklionaaDoor

/-
  The document's own instructions: Text.
-/
namespace Go.Proofs.YtgjppnbkklionaaDoor
open Go.ChangeShapes Go.WideShapes Go.ChangeAt Go.RowKit

def sepK (k : Nat) : List Nat := 32 :: sgK k
/-- the strings that a part's text is made of, the document's way -/
theorem icats (i : Ins) (ho : 0 ≤ i.op ∧ i.op ≤ 11) (hp : ∀ k, k < 4 → 0 ≤ i.p k ∧ i.p k ≤ 65535) (k : Nat) (hk : k < 4) (h : hasK i.op k = true) : ∃ a : ByteArray,
    (∀ w, (Op.stringOp .add (strOf (byts (i.tk k))) (strOf (byts (sepK k)))).run Tryd.prog w = .ok (.string a) w) ∧ (∀ w, (Op.stringOp .add a (strOf (byts (digs (i.p k).toNat)))).run Tryd.prog w = .ok (.string (strOf (byts (i.tk (k + 1))))) w) := by
  have hs : (sgK k).length ≤ 1 := by
    have hd : k = 0 ∨ k = 1 ∨ k = 2 ∨ k = 3 := by omega
    rcases hd with rfl | rfl | rfl | rfl <;> simp [sgK]
  have hd := digs_len5 (i.p k).toNat (by have := hp k hk; omega)
  have ht := tk_len i ho hp k (by omega)
  refine ⟨strOf (byts (i.tk k ++ sepK k)), fun w => ?_, fun w => ?_⟩
  · rw [run_string_add_sum w _ _ (by rw [strSz, strSz]; simp only [sepK, List.length_cons]; omega), strOf_append, ← byts_append]
  · rw [run_string_add_sum w _ _ (by rw [strSz, strSz]; simp only [sepK, List.length_append, List.length_cons]; omega), strOf_append, ← byts_append]
    rw [show i.tk k ++ sepK k ++ digs (i.p k).toNat = i.tk (k + 1) from by simp [Ins.tk, Ins.pt, h, sepK]]
/-- four bools in a row -/
def BoolsAt (w : World) (A : Nat) (f : Nat → Bool) : Prop := w.heap[A]? = some (.cells #[.bool (f 0), .bool (f 1), .bool (f 2), .bool (f 3)] 40 (0, 0))
theorem BoolsAt.cell {w : World} {A : Nat} {f : Nat → Bool} (h : BoolsAt w A f) (k : Nat) (hk : k < 4) : w.cell? ⟨A, k, none⟩ = some (.bool (f k)) := by
  rw [cell_of_row _ _ _ _ _ _ h]
  have hd : k = 0 ∨ k = 1 ∨ k = 2 ∨ k = 3 := by omega
  rcases hd with rfl | rfl | rfl | rfl <;> rfl
set_option maxRecDepth 100000 in
set_option maxHeartbeats 4000000 in
theorem itext_any (i : Ins) (w : World) : Calls Tryd.prog 13 #[.agg #[.int .i64 i.op, .int .i64 i.a, .int .i64 i.b, .int .i64 i.c, .int .i64 i.m]] w fun e w' => e = .returned (.tuple #[.string i.tv, .int .i64 i.we]) ∧ Upd (fun _ => False) w w' := by
  have U0 := Lib.hid ((Upd.refl (fun _ => False) w).alloc (.cells #[.int .i64 i.op, .int .i64 i.a, .int .i64 i.b, .int .i64 i.c, .int .i64 i.m] 23))
  have X := Lib.hid (show InsAt (w.alloc (.cells #[.int .i64 i.op, .int .i64 i.a, .int .i64 i.b, .int .i64 i.c, .int .i64 i.m] 23)) w.heap.size i from heap_alloc_last w _)
  have cR := Lib.hid (fun W => iright_any i W)
  have R := Lib.hid (fun W (h : InsAt W w.heap.size i) => h.range)
  cases hr : i.right
  · have h1 : i.tv = strOf [] := by unfold Ins.tv; rw [hr]; rfl
    have h2 : i.we = 1 := by unfold Ins.we; rw [hr]; rfl
    rw [h1, h2]
    rw [hr] at cR
    clear h1 h2 hr
    go_enter Tryd.func13, Tryd.ntmps13
    go_wp2_with (with_reducible refine wpList_load_sz rfl 23 (.tmp 1) rfl w.heap.size 0 rfl [.int .i64 i.op, .int .i64 i.a, .int .i64 i.b, .int .i64 i.c, .int .i64 i.m] _ (R.out _ X.out) Tryd.underlying23 rfl 5 (ins_len _ _ _ _ _) size_ins ?_)
    refine (cR.out _).mono ?_
    rintro e w2 ⟨rfl, u2⟩
    have V2 := Lib.hid (U0.out.trans u2)
    clear U0 u2 X R cR
    go_wp2
    go_ret2
    exact ⟨rfl, V2.out⟩
  · have h1 : i.tv = strOf (byts i.text) := by unfold Ins.tv; rw [hr]; rfl
    have h2 : i.we = 0 := by unfold Ins.we; rw [hr]; rfl
    have ok := (Ins.right_iff i).1 hr
    rw [h1, ← tk_four, h2]
    rw [hr] at cR
    clear h1 h2 hr
    have hpb : Hid (∀ k, k < 4 → 0 ≤ i.p k ∧ i.p k ≤ 65535) := Lib.hid (fun k hk => by
      obtain ⟨-, a, b, c, m, -, -, -, -⟩ := ok
      have hd : k = 0 ∨ k = 1 ∨ k = 2 ∨ k = 3 := by omega
      rcases hd with rfl | rfl | rfl | rfl <;> simp only [Ins.p] <;> omega)
    have hstep := Lib.hid (fun k (hk : k < 4) => And.intro (tk_step_no i k) (icats i ok.o hpb.out k hk))
    obtain ⟨o0, o1⟩ := ok.o
    obtain ⟨on, hon⟩ := Int.eq_ofNat_of_zero_le o0
    have hon2 : on < 12 := by omega
    have c1 := Lib.hid (fun W => iname_any on hon2 W)
    have c2 := Lib.hid (fun W => inames_any on hon2 W)
    have h0 := Lib.hid (show i.tk 0 = opName on from by unfold Ins.tk; rw [hon]; rfl)
    have i0 := Lib.hid (show ∀ W, InsAt W w.heap.size i → W.cell? ⟨w.heap.size, 0, none⟩ = some (.int .i64 on) ∧ W.cell? ⟨w.heap.size, 1, none⟩ = some (.int .i64 i.a) ∧ W.cell? ⟨w.heap.size, 2, none⟩ = some (.int .i64 i.b) ∧ W.cell? ⟨w.heap.size, 3, none⟩ = some (.int .i64 i.c) ∧ W.cell? ⟨w.heap.size, 4, none⟩ = some (.int .i64 i.m) from fun W h => by rw [← hon]; exact h.c)
    rw [hon] at hstep
    replace hon := Lib.hid hon
    replace ok := Lib.hid ok
    clear o0 o1
    go_enter Tryd.func13, Tryd.ntmps13
    go_wp2_with (with_reducible refine wpList_load_sz rfl 23 (.tmp 1) rfl w.heap.size 0 rfl [.int .i64 i.op, .int .i64 i.a, .int .i64 i.b, .int .i64 i.c, .int .i64 i.m] _ (R.out _ X.out) Tryd.underlying23 rfl 5 (ins_len _ _ _ _ _) size_ins ?_)
    refine (cR.out _).mono ?_
    rintro e w2 ⟨rfl, u2⟩
    have V2 := Lib.hid (U0.out.trans u2)
    have X2 := Lib.hid (X.out.kept u2 id)
    clear U0 u2 X R cR
    generalize w.heap.size = XI at i0 X2 ⊢
    have d0 := (i0.out _ X2.out).1
    go_wp2_with fail
    refine (c1.out _).mono ?_
    rintro e w3 ⟨rfl, u3⟩
    have V3 := Lib.hid (V2.out.trans u3)
    have X3 := Lib.hid (X2.out.kept u3 id)
    clear V2 X2 u3 c1 d0
    have d0 := (i0.out _ X3.out).1
    go_wp2_with fail
    refine (c2.out _).mono ?_
    rintro e w4 ⟨rfl, u4⟩
    have V4 := Lib.hid (V3.out.trans u4)
    have X4 := Lib.hid (X3.out.kept u4 id)
    clear V3 X3 u4 c2 d0
    go_upto_region 5 with fail
    have v5 := (Upd.refl (fun _ => False) w4).alloc (.cells #[.bool (hasA (on : Int)), .bool (hasB (on : Int)), .bool (hasC (on : Int)), .bool (hasM (on : Int))] 40)
    have V5 := Lib.hid (V4.out.trans v5)
    have X5 := Lib.hid (X4.out.kept v5 id)
    have B5 := Lib.hid (show BoolsAt (w4.alloc (.cells #[.bool (hasA (on : Int)), .bool (hasB (on : Int)), .bool (hasC (on : Int)), .bool (hasM (on : Int))] 40)) w4.heap.size (hasK on) from heap_alloc_last w4 _)
    clear V4 X4 v5
    generalize w4.alloc (.cells #[.bool (hasA (on : Int)), .bool (hasB (on : Int)), .bool (hasC (on : Int)), .bool (hasM (on : Int))] 40) = w5 at V5 X5 B5 ⊢
    generalize w4.heap.size = NB at B5 ⊢
    generalize hasA (on : Int) = qA
    generalize hasB (on : Int) = qB
    generalize hasC (on : Int) = qC
    generalize hasM (on : Int) = qM
    obtain ⟨d0, d1, d2, d3, d4⟩ := i0.out _ X5.out
    go_upto_region 6 with fail
    have v6 := (Upd.refl (fun _ => False) w5).alloc (.cells #[.int .i64 i.a, .int .i64 i.b, .int .i64 i.c, .int .i64 i.m] 38)
    have V6 := Lib.hid (V5.out.trans v6)
    have B6 := Lib.hid (show BoolsAt (w5.alloc (.cells #[.int .i64 i.a, .int .i64 i.b, .int .i64 i.c, .int .i64 i.m] 38)) NB (hasK on) from v6.at B5.out id)
    have F6 := Lib.hid (show FourAt (w5.alloc (.cells #[.int .i64 i.a, .int .i64 i.b, .int .i64 i.c, .int .i64 i.m] 38)) w5.heap.size i.p from heap_alloc_last w5 _)
    clear V5 X5 B5 v6 i0 d0 d1 d2 d3 d4
    generalize w5.alloc (.cells #[.int .i64 i.a, .int .i64 i.b, .int .i64 i.c, .int .i64 i.m] 38) = w6 at V6 B6 F6 ⊢
    generalize w5.heap.size = PB at F6 ⊢
    go_wp2_with fail
    go_loopw [4, 7] (fun t4 t7 wr => ∃ k : Nat, k ≤ 4 ∧ t4 = .string (strOf (byts (i.tk k))) ∧ t7 = .int .i64 k ∧ Hid (Upd (fun _ => False) w6 wr)) (fun _ t7 _ => 4 - (intOf t7).toNat)
    case atStart => exact ⟨0, by omega, by rw [h0.out], rfl, Lib.hid (Upd.refl _ _)⟩
    case round =>
      obtain ⟨k, hk, rfl, rfl, hU⟩ := hrel
      by_cases h4k : k < 4
      · have ha : wr.cell? ⟨NB, k, none⟩ = some (.bool (hasK on k)) := hU.out.cell (B6.out.cell k h4k) id
        have hp : wr.cell? ⟨PB, k, none⟩ = some (.int .i64 (i.p k)) := hU.out.cell (F6.out.cell k h4k) id
        obtain ⟨s1, s2⟩ := hstep.out k h4k
        obtain ⟨p0, p1⟩ := hpb.out k h4k
        have k0 : (0 : Int) ≤ (k : Int) := by omega
        have k4 : (k : Int) < 4 := by omega
        clear hstep hpb
        generalize hbe : hasK (on : Int) k = hb at ha s1 s2
        cases hb
        · replace s1 := Lib.hid (s1 rfl)
          clear s2 hp p0 p1 hbe
          obtain ⟨tx, htx⟩ : ∃ tx, strOf (byts (i.tk k)) = tx := ⟨_, rfl⟩
          rw [htx]
          replace htx := Lib.hid htx
          go_wp2
          go_roundw
          case rel => exact ⟨k + 1, by omega, by rw [s1.out, htx.out], by go_num, hU⟩
          case measure => simp [intOf]; omega
        · obtain ⟨sa, s3, s4⟩ := s2 rfl
          clear s1 s2 hbe
          obtain ⟨z, hz⟩ := Int.eq_ofNat_of_zero_le p0
          rw [hz] at hp p1 s4
          rw [Int.toNat_natCast] at s4
          have cI := Lib.hid (fun W => idigits_any z (by omega) W)
          clear hz p0
          obtain ⟨tx, htx⟩ : ∃ tx, strOf (byts (i.tk k)) = tx := ⟨_, rfl⟩
          rw [htx] at s3 ⊢
          clear htx
          obtain ⟨ty, hty⟩ : ∃ ty, strOf (byts (i.tk (k + 1))) = ty := ⟨_, rfl⟩
          rw [hty] at s4
          replace hty := Lib.hid hty
          generalize strOf (byts (digs z)) = ds at s4 cI
          by_cases k3 : (k : Int) < 3
          · have s5 : ∀ w, (Op.stringOp .add tx ⟨#[32, 114]⟩).run Tryd.prog w = .ok (.string sa) w := by
              have hd : k = 0 ∨ k = 1 ∨ k = 2 := by omega
              rcases hd with rfl | rfl | rfl <;> exact s3
            have k3' : ((k : Int) == 3) = false := by rw [beq_eq_false_iff_ne]; omega
            have k3'' : ¬ (k : Int) = 3 := by omega
            clear s3
            go_wp2_with fail
            refine (cI.out _).mono ?_
            rintro e w7 ⟨rfl, n7, rfl⟩
            go_wp2
            go_roundw
            case rel => exact ⟨k + 1, by omega, by rw [hty.out], by go_num, Lib.hid (hU.out.drewN _)⟩
            case measure => simp [intOf]; omega
          · obtain rfl : k = 3 := by omega
            have s5 : ∀ w, (Op.stringOp .add tx ⟨#[32]⟩).run Tryd.prog w = .ok (.string sa) w := s3
            clear s3 k3 k0 k4
            go_wp2_with fail
            refine (cI.out _).mono ?_
            rintro e w7 ⟨rfl, n7, rfl⟩
            go_wp2
            go_roundw
            case rel => exact ⟨4, by omega, by rw [hty.out], by go_num, Lib.hid (hU.out.drewN _)⟩
            case measure => simp [intOf]
      · have e : k = 4 := by omega
        subst e
        clear hstep hpb
        go_wp2
        go_ret2
        exact ⟨rfl, V6.out.trans hU.out⟩
end Go.Proofs.YtgjppnbkklionaaDoor

/-
  The document's own instructions: the number of digits.
-/
namespace Go.Proofs.YtgjppnbkklionaaDoor
open Go.ChangeShapes Go.WideShapes Go.ChangeAt Go.RowKit

/-- the number that digits make, behind n; 99999 if they are none -/
def numF : Nat → List UInt8 → Nat
  | n, [] => n
  | n, b :: l => if b.toNat < 48 ∨ 57 < b.toNat ∨ 65535 < n then 99999 else numF (n * 10 + (b.toNat - 48)) l
theorem numF_cons (n : Nat) (b : UInt8) (l : List UInt8) : numF n (b :: l) = if b.toNat < 48 ∨ 57 < b.toNat ∨ 65535 < n then 99999 else numF (n * 10 + (b.toNat - 48)) l := by rw [numF]
theorem numF_app : ∀ (l : List UInt8) (n : Nat) (d : Nat), d < 10 → numF n l ≤ 65535 → numF n (l ++ [UInt8.ofNat (48 + d)]) = numF n l * 10 + d
  | [], n, d, hd, h => by
    have hb : (UInt8.ofNat (48 + d)).toNat = 48 + d := by simp; omega
    have hn : n ≤ 65535 := h
    show numF n [UInt8.ofNat (48 + d)] = _
    unfold numF
    rw [hb, if_neg (by omega)]
    show n * 10 + (48 + d - 48) = n * 10 + d
    omega
  | b :: l, n, d, hd, h => by
    rw [List.cons_append]
    unfold numF at h ⊢
    by_cases hc : b.toNat < 48 ∨ 57 < b.toNat ∨ 65535 < n
    · rw [if_pos hc] at h; omega
    · rw [if_neg hc] at h ⊢
      rw [if_neg hc]
      exact numF_app l _ d hd h
theorem numF_digs : ∀ u : Nat, u ≤ 65535 → numF 0 (byts (digs u)) = u := by
  intro u
  induction u using Nat.strongRecOn with
  | ind n ih =>
    intro hn
    by_cases h : n < 10
    · rw [digs_lt h]
      have := numF_app [] 0 n h (by show (0 : Nat) ≤ 65535; omega)
      simpa [byts, numF] using this
    · rw [digs_ge h, byts_append]
      have e := ih (n / 10) (by omega) (by omega)
      have := numF_app (byts (digs (n / 10))) 0 (n % 10) (by omega) (by rw [e]; omega)
      rw [e] at this
      show numF 0 (byts (digs (n / 10)) ++ [UInt8.ofNat (48 + n % 10)]) = n
      rw [this]
      omega
theorem numF_le : ∀ (l : List UInt8) (n : Nat), n ≤ 655359 → numF n l ≤ 655359
  | [], n, h => h
  | b :: l, n, h => by
    unfold numF
    by_cases hc : b.toNat < 48 ∨ 57 < b.toNat ∨ 65535 < n
    · rw [if_pos hc]; omega
    · rw [if_neg hc]
      exact numF_le l _ (by omega)
theorem drop_cons {s : ByteArray} (k : Nat) (hk : k < s.size) : s.data.toList.drop k = s[k] :: s.data.toList.drop (k + 1) := by
  have hl : k < s.data.toList.length := by cases s; exact hk
  rw [List.drop_eq_getElem_cons hl]
  congr 1
set_option maxRecDepth 100000 in
set_option maxHeartbeats 4000000 in
theorem inumber_any (s : ByteArray) (hs : s.size ≤ 1000) (w : World) : Calls Tryd.prog 29 #[.string s] w fun e w' => e = .returned (.int .i64 (numF 0 s.data.toList : Nat)) ∧ ∃ n, w' = w.drewN n := by
  have hb := Lib.hid (numF_le s.data.toList 0 (by omega))
  go_enter Tryd.func29, Tryd.ntmps29
  go_wp2_with fail
  go_loopw [3, 4] (fun t3 t4 wr => ∃ k n : Nat, k ≤ s.size ∧ t3 = .int .i64 n ∧ t4 = .int .i64 k ∧ Hid (n ≤ 655359) ∧ Hid (numF n (s.data.toList.drop k) = numF 0 s.data.toList) ∧ Hid (∃ q, wr = w.drewN q)) (fun _ t4 _ => s.size - (intOf t4).toNat)
  case atStart => exact ⟨0, 0, by omega, rfl, rfl, Lib.hid (by omega), Lib.hid rfl, Lib.hid ⟨0, rfl⟩⟩
  case round =>
    obtain ⟨k, n, hk, rfl, rfl, hn, hf, hw⟩ := hrel
    by_cases hlt : k < s.size
    · have k0 : (0 : Int) ≤ (k : Int) := by omega
      have k1 : (k : Int) < (s.size : Int) := by omega
      have hd := Lib.hid (drop_cons k hlt)
      have hnb := hn.out
      go_wp2
      all_goals first
        | (go_ret
           refine ⟨?_, hw.out⟩
           have e : numF 0 s.data.toList = 99999 := by
             rw [← hf.out, hd.out]
             unfold numF
             rw [if_pos (by omega)]
           rw [e]
           rfl)
        | (refine ⟨⟨k + 1, n * 10 + (s[k].toNat - 48), by omega, ?_, by go_num, Lib.hid (by omega), Lib.hid ?_, hw⟩, by simp [intOf]; omega⟩
           · congr 1
             omega
           · rw [← hf.out, hd.out, numF_cons, if_neg (by omega)])
    · have e : k = s.size := by omega
      subst e
      have hf' := hf.out
      rw [List.drop_of_length_le (by cases s; exact Nat.le_refl _)] at hf'
      replace hf' := Lib.hid (show n = numF 0 s.data.toList from hf')
      clear hf hb
      go_wp2
      go_ret
      exact ⟨by rw [← hf'.out]; rfl, hw.out⟩
end Go.Proofs.YtgjppnbkklionaaDoor

/-
  Plain: a text's words, the document's way.
-/
namespace Go.Proofs.YtgjppnbkklionaaDoor
open Go.ChangeShapes Go.WideShapes Go.ChangeAt Go.RowKit

/-- the words of a row of bytes: the first one, and the others -/
def wordsB : List UInt8 → List (List UInt8)
  | [] => [[]]
  | b :: l => if b = 32 then [] :: wordsB l else (match wordsB l with | x :: r => (b :: x) :: r | [] => [[b]])
theorem wordsB_cons (b : UInt8) (l : List UInt8) : wordsB (b :: l) = if b = 32 then [] :: wordsB l else (match wordsB l with | x :: r => (b :: x) :: r | [] => [[b]]) := by rw [wordsB]
theorem wordsB_ne : ∀ l, wordsB l ≠ []
  | [] => by simp [wordsB]
  | b :: l => by
    unfold wordsB
    split
    · simp
    · split <;> simp
theorem wordsB_word : ∀ (a : List UInt8), (∀ x, x ∈ a → x ≠ 32) → wordsB a = [a]
  | [], _ => rfl
  | b :: a, h => by
    unfold wordsB
    rw [if_neg (h b (by simp)), wordsB_word a fun x hx => h x (by simp [hx])]
theorem wordsB_app : ∀ (a r : List UInt8), (∀ x, x ∈ a → x ≠ 32) → wordsB (a ++ 32 :: r) = a :: wordsB r
  | [], r, _ => by
    show wordsB (32 :: r) = _
    unfold wordsB
    rw [if_pos rfl]
    cases r <;> rfl
  | b :: a, r, h => by
    rw [List.cons_append]
    have := wordsB_app a r fun x hx => h x (by simp [hx])
    rw [wordsB_cons, if_neg (h b (by simp)), this]
theorem wordsB_text : ∀ (xs : List (List Nat)) (x : List Nat), (∀ p, p ∈ x :: xs → (∀ z, z ∈ p → z < 256) ∧ 32 ∉ p) → wordsB (byts (x ++ behind xs)) = byts x :: xs.map byts
  | [], x, h => by
    obtain ⟨h1, h2⟩ := h x (by simp)
    rw [show behind [] = [] from rfl, List.append_nil, wordsB_word _ (byts_mem h1 h2)]
    rfl
  | y :: xs, x, h => by
    obtain ⟨h1, h2⟩ := h x (by simp)
    rw [show behind (y :: xs) = 32 :: (y ++ behind xs) from rfl, byts_append]
    show wordsB (byts x ++ 32 :: byts (y ++ behind xs)) = _
    rw [wordsB_app _ _ (byts_mem h1 h2), wordsB_text xs y fun p hp => h p (List.mem_cons_of_mem _ hp)]
    rfl
theorem words_le : ∀ (l : List UInt8) (x : List UInt8), x ∈ wordsB l → x.length ≤ l.length
  | [], x, h => by
    have : x = [] := by simpa [wordsB] using h
    rw [this]; simp
  | b :: l, x, h => by
    rw [wordsB_cons] at h
    split at h
    · rcases List.mem_cons.1 h with rfl | h
      · simp
      · have := words_le l x h
        simp; omega
    · have ih := words_le l
      rcases hw : wordsB l with _ | ⟨y, r⟩
      · exact absurd hw (wordsB_ne l)
      · rw [hw] at h ih
        rcases List.mem_cons.1 h with rfl | h
        · have := ih y (by simp)
          simp; omega
        · have := ih x (by simp [h])
          simp; omega
/-- the words from a place on, when the word under way began at 'from' -/
theorem words_part (l : List UInt8) (f i : Nat) (hf : f ≤ i) (hi : i ≤ l.length) (hno : ∀ x, x ∈ (l.take i).drop f → x ≠ 32) :
    (i = l.length → wordsB (l.drop f) = [(l.take i).drop f]) ∧ (∀ h : i < l.length, l[i] = 32 → wordsB (l.drop f) = ((l.take i).drop f) :: wordsB (l.drop (i + 1))) := by
  refine ⟨fun e => ?_, fun h e => ?_⟩
  · subst e
    rw [List.take_length] at hno ⊢
    exact wordsB_word _ hno
  · have e1 : l.drop f = (l.take i).drop f ++ 32 :: l.drop (i + 1) := by
      have e2 : l = l.take i ++ 32 :: l.drop (i + 1) := by
        conv => lhs; rw [← List.take_append_drop i l, List.drop_eq_getElem_cons h, e]
      conv => lhs; rw [e2]
      rw [List.drop_append_of_le_length (by rw [List.length_take]; omega)]
    rw [e1]
    exact wordsB_app _ _ hno
/-- the words of the parts from the k-th one on -/
def Ins.pr (i : Ins) (k : Nat) : List (List Nat) := if hasK i.op k = true then [sgK k ++ digs (i.p k).toNat] else []
def Ins.prs (i : Ins) : Nat → List (List Nat)
  | 0 => i.pr 0 ++ (i.pr 1 ++ (i.pr 2 ++ i.pr 3))
  | 1 => i.pr 1 ++ (i.pr 2 ++ i.pr 3)
  | 2 => i.pr 2 ++ i.pr 3
  | 3 => i.pr 3
  | _ => []
theorem prs_step (i : Ins) (k : Nat) (hk : k < 4) : i.prs k = i.pr k ++ i.prs (k + 1) := by
  have hd : k = 0 ∨ k = 1 ∨ k = 2 ∨ k = 3 := by omega
  rcases hd with rfl | rfl | rfl | rfl <;> simp [Ins.prs]
theorem parts_prs (i : Ins) : i.parts = i.prs 0 := by
  unfold Ins.parts
  simp only [Ins.prs, Ins.pr, hasK, sgK, Ins.p]
  simp
theorem words_text (i : Ins) (h : i.Ok) : wordsB (byts i.text) = byts (opName i.op.toNat) :: (i.prs 0).map byts := by
  have ho : i.op.toNat < 12 := by have := h.o; omega
  rw [← parts_prs]
  refine wordsB_text _ _ fun p hp => ?_
  rcases List.mem_cons.1 hp with rfl | hp
  · exact ⟨opName_lt _ ho, opName_sp _ ho⟩
  · refine ⟨?_, i.parts_sp p hp⟩
    unfold Ins.parts at hp
    simp only [List.mem_append] at hp
    rcases hp with ((hp | hp) | hp) | hp
    all_goals
      split at hp
      · simp only [List.mem_singleton] at hp
        subst hp
        intro z hz
        first
          | exact digs_256 _ z hz
          | (rcases List.mem_cons.1 hz with rfl | hz
             · omega
             · exact digs_256 _ z hz)
      · cases hp
/-- the digits of a word: a register's without its r -/
def digK (k : Nat) (x : List UInt8) : List UInt8 := if k < 3 then x.drop 1 else x
/-- an instruction of operation o whose text s may be: what the document reads of it -/
def Guess (s : ByteArray) (o k ix : Nat) (f : Nat → Int) : Prop := ∀ j : Ins, j.Ok → strOf (byts j.text) = s → j.op = o → (wordsB s.data.toList).drop ix = (j.prs k).map byts ∧ ∀ x, x < k → f x = j.p x
theorem guess_begin (s : ByteArray) (o : Nat) : Guess s o 0 1 (fun _ => 0) := by
  intro j hj e ho
  rw [← e, strOf_toList, words_text j hj]
  exact ⟨rfl, fun x hx => by omega⟩
theorem guess_not {s : ByteArray} {o k ix : Nat} {f : Nat → Int} (h : Guess s o k ix f) (hk : k < 4) (hh : hasK o k = false) (h0 : f k = 0) : Guess s o (k + 1) ix f := by
  intro j hj e ho
  obtain ⟨h1, h2⟩ := h j hj e ho
  have hb : hasK j.op k = false := by rw [ho]; exact hh
  refine ⟨?_, fun x hx => ?_⟩
  · rw [h1, prs_step j k hk]
    unfold Ins.pr
    rw [hb]
    rfl
  · by_cases ex : x = k
    · subst ex
      rw [h0]
      obtain ⟨-, -, -, -, -, na, nb, nc, nm⟩ := hj
      have hd : x = 0 ∨ x = 1 ∨ x = 2 ∨ x = 3 := by omega
      rcases hd with rfl | rfl | rfl | rfl
      · exact (na hb).symm
      · exact (nb hb).symm
      · exact (nc hb).symm
      · exact (nm hb).symm
    · exact h2 x (by omega)
theorem guess_out {s : ByteArray} {o k ix : Nat} {f : Nat → Int} (h : Guess s o k ix f) (hk : k < 4) (hh : hasK o k = true) (hi : (wordsB s.data.toList).length ≤ ix) : Guess s o (k + 1) ix f := by
  intro j hj e ho
  obtain ⟨h1, -⟩ := h j hj e ho
  rw [List.drop_of_length_le hi, prs_step j k hk] at h1
  unfold Ins.pr at h1
  rw [ho, hh] at h1
  simp at h1
theorem guess_yes {s : ByteArray} {o k ix : Nat} {f : Nat → Int} (h : Guess s o k ix f) (hk : k < 4) (hh : hasK o k = true) (hi : ix < (wordsB s.data.toList).length) :
    Guess s o (k + 1) (ix + 1) (fun x => if x = k then ((numF 0 (digK k ((wordsB s.data.toList)[ix])) : Nat) : Int) else f x) := by
  intro j hj e ho
  obtain ⟨h1, h2⟩ := h j hj e ho
  rw [List.drop_eq_getElem_cons hi, prs_step j k hk] at h1
  have e1 : j.pr k = [sgK k ++ digs (j.p k).toNat] := by unfold Ins.pr; rw [ho, hh]; rfl
  rw [e1, List.map_append] at h1
  simp only [List.map_cons, List.map_nil, List.cons_append, List.nil_append, List.cons.injEq] at h1
  refine ⟨h1.2, fun x hx => ?_⟩
  by_cases ex : x = k
  · subst ex
    simp only [if_true]
    rw [h1.1]
    have hp : 0 ≤ j.p x ∧ j.p x ≤ 65535 := by
      obtain ⟨-, a, b, c, m, -, -, -, -⟩ := hj
      have hd : x = 0 ∨ x = 1 ∨ x = 2 ∨ x = 3 := by omega
      rcases hd with rfl | rfl | rfl | rfl <;> simp only [Ins.p] <;> omega
    have ed : digK x (byts (sgK x ++ digs (j.p x).toNat)) = byts (digs (j.p x).toNat) := by
      have hd : x = 0 ∨ x = 1 ∨ x = 2 ∨ x = 3 := by omega
      rcases hd with rfl | rfl | rfl | rfl <;> simp [digK, sgK, byts]
    rw [ed, numF_digs _ (by omega)]
    omega
  · simp only [if_neg ex]
    exact h2 x (by omega)
theorem guess_end {s : ByteArray} {o ix : Nat} {f : Nat → Int} (h : Guess s o 4 ix f) : let u : Ins := ⟨o, f 0, f 1, f 2, f 3⟩; (u.we = 0 ∧ u.tv = s → RdIs s u 0) ∧ (¬ (u.we = 0 ∧ u.tv = s) → ∀ j : Ins, j.Ok → strOf (byts j.text) = s → j.op ≠ o) := by
  intro u
  have hwe : u.we = 0 → u.right = true := fun h => by
    unfold Ins.we at h
    cases hr : u.right
    · rw [hr] at h; simp at h
    · rfl
  refine ⟨fun ⟨h1, h2⟩ => .inl ⟨(Ins.right_iff u).1 (hwe h1), ?_, rfl⟩, fun hn j hj e ho => hn ?_⟩
  · unfold Ins.tv at h2
    rw [hwe h1] at h2
    exact h2
  · obtain ⟨-, h3⟩ := h j hj e ho
    have hu : u = j := by
      obtain ⟨jo, ja, jb, jc, jm⟩ := j
      simp only at ho
      have a0 := h3 0 (by omega)
      have a1 := h3 1 (by omega)
      have a2 := h3 2 (by omega)
      have a3 := h3 3 (by omega)
      simp only [Ins.p] at a0 a1 a2 a3
      show (⟨o, f 0, f 1, f 2, f 3⟩ : Ins) = _
      rw [ho, a0, a1, a2, a3]
    rw [hu]
    have hr := (Ins.right_iff j).2 hj
    refine ⟨by unfold Ins.we; rw [hr]; rfl, by unfold Ins.tv; rw [hr]; exact e⟩
end Go.Proofs.YtgjppnbkklionaaDoor

/-
  append onto one's own slice of whatever slice, nil and empty ones too: in plain regions and in ones that draw.
-/
namespace Go.Proofs.YtgjppnbkklionaaDoor
open Go.RowKit

/-- a slice of m elements whose cells are news -/
def Src (w : World) (x : Value) (m size : Nat) (news : List Value) : Prop :=
  (x = .slice none 0 0 ∧ m = 0 ∧ news = []) ∨ ∃ b off c, x = .slice (some ⟨b, off, none⟩) m c ∧ news.length = m * size ∧ (∀ j u, news[j]? = some u → w.cell? ⟨b, off + j, none⟩ = some u)
theorem add_mid0 (b off j : Nat) : (⟨b, off, none⟩ : Addr).add j = ⟨b, off + j, none⟩ := by unfold Addr.add; split <;> simp_all
theorem Src.of_row {w : World} {base m size : Nat} {e : TypeId} {v : Value} {xs : List Value} (h : w.ownsRow base e size v m xs) : Src w v m size xs := by
  rcases h.2 with ⟨rfl, rfl⟩ | ⟨g, cap, cur, rfl, _⟩
  · exact .inl ⟨rfl, rfl, List.length_eq_zero_iff.1 (by have := h.1; omega)⟩
  · exact .inr ⟨g, 0, cap, rfl, h.1, fun j u hu => by have := h.cells (g := g) rfl j u hu; rwa [add_mid0] at this⟩
theorem Src.kept {w w' : World} {x : Value} {m size : Nat} {news : List Value} (h : Src w x m size news) (hg : ∀ b : Nat, x.ownBlock = some b → w'.heap[b]? = w.heap[b]?) : Src w' x m size news := by
  rcases h with h | ⟨b, off, c, rfl, h1, h2⟩
  · exact .inl h
  · refine .inr ⟨b, off, c, rfl, h1, fun j u hu => ?_⟩
    rw [World.cell?_of_block (w := w) (hg b rfl)]
    exact h2 j u hu
theorem run_append_src {P : Program} (w : World) (base : Nat) (t ty e : TypeId) (i : TypeInfo) (z : Value) (size bytes : Nat) (ht : P.underlying t = some (.slice e)) (hi : P.info? e = some i) (hz : i.zero = some z)
    (hsize : i.size = size) (hby : i.bytes = bytes) (hzs : z.cells.size = size) (hsz : 0 < size)
    (v : Value) (n : Nat) (xs : List Value) (hown : w.ownsRow base e size v n xs) (x : Value) (m : Nat) (news : List Value) (hx : Src w x m size news) (h1 : ∀ u ∈ news, u.oneCell' = true)
    (h63 : n + m ≤ maxLen) (hbytes : (n + m) * bytes ≤ 140737488355328) (hbase : base ≤ w.heap.size) :
    ∃ v' w', (Builtin.append_ #[t, t] ty #[v, x]).run P w = .ok v' w' ∧ w'.ownsRow base e size v' (n + m) (xs ++ news) ∧ w.grownBy w' v.ownBlock := by
  rcases hx with ⟨rfl, rfl, rfl⟩ | ⟨b, off, c, rfl, h2, h3⟩
  · exact ⟨v, w, run_append_owned_none w base t ty e i size ht hi v n xs hown, by simpa using hown, ⟨rfl, rfl, rfl, Nat.le_refl _, fun _ _ _ => rfl⟩⟩
  · obtain ⟨v', w', hr, r1, r2, _⟩ := run_append_own (P := P) w base t ty e i z size bytes ht hi hz hsize hby hzs hsz v n xs hown ⟨b, off, none⟩ m c news h2 (fun j u hu => by rw [add_mid0]; exact h3 j u hu) h1 h63 hbytes hbase
    exact ⟨v', w', hr, r1, r2⟩
theorem wp_append_src {P : Program} (w : World) {o : Oper} {a : Act} {K : Act → World → Prop} {Q : Exit → Act → World → Prop} (s x : Operand) (t : TypeId)
    (ho : o.op = .call { callee := .builtin .append, args := #[s, x], argTypes := #[t, t] })
    (base : Nat) (e : TypeId) (i : TypeInfo) (z : Value) (size bytes : Nat) (ht : P.underlying t = some (.slice e)) (hi : P.info? e = some i) (hz : i.zero = some z)
    (hsize : i.size = size) (hby : i.bytes = bytes) (hzs : z.cells.size = size) (hsz : 0 < size)
    (v : Value) (n : Nat) (xs : List Value) (hs : a.eval s = v) (hown : w.ownsRow base e size v n xs) (y : Value) (m : Nat) (news : List Value) (hy : a.eval x = y) (hx : Src w y m size news) (h1 : ∀ u ∈ news, u.oneCell' = true)
    (h63 : n + m ≤ maxLen) (hbytes : (n + m) * bytes ≤ 140737488355328) (hbase : base ≤ w.heap.size)
    (h : ∀ v' w', w'.ownsRow base e size v' (n + m) (xs ++ news) → w.grownBy w' v.ownBlock → K (a.put o.dst v') w') : o.wp P a w K Q := by
  obtain ⟨v', w', hr, h2, h3⟩ := run_append_src (P := P) w base t o.type e i z size bytes ht hi hz hsize hby hzs hsz v n xs hown y m news hx h1 h63 hbytes hbase
  unfold Oper.wp execOp
  simp only [ho, resolve, invoke, builtin, Sem.run_bind, Sem.run_pure, Result.andThen_ok, List.map_toArray, List.map_cons, List.map_nil, hs, hy, hr]
  exact h v' w' h2 h3
/-- in a plain region -/
theorem wpList_append_src {P : Program} (w : World) {ops : Array Oper} {rest : List Oper} {o : Oper} {a : Act} {Q : Exit → Act → World → Prop} (hgd : o.guard = none) (s x : Operand) (t : TypeId)
    (ho : o.op = .call { callee := .builtin .append, args := #[s, x], argTypes := #[t, t] })
    (base : Nat) (e : TypeId) (i : TypeInfo) (z : Value) (size bytes : Nat) (ht : P.underlying t = some (.slice e)) (hi : P.info? e = some i) (hz : i.zero = some z)
    (hsize : i.size = size) (hby : i.bytes = bytes) (hzs : z.cells.size = size) (hsz : 0 < size)
    (v : Value) (n : Nat) (xs : List Value) (hs : a.eval s = v) (hown : w.ownsRow base e size v n xs) (y : Value) (m : Nat) (news : List Value) (hy : a.eval x = y) (hx : Src w y m size news) (h1 : ∀ u ∈ news, u.oneCell' = true)
    (h63 : n + m ≤ maxLen) (hbytes : (n + m) * bytes ≤ 140737488355328) (hbase : base ≤ w.heap.size)
    (h : ∀ v' w', w'.ownsRow base e size v' (n + m) (xs ++ news) → w.grownBy w' v.ownBlock → wpList P ops Q rest (a.put o.dst v') w') : wpList P ops Q (o :: rest) a w :=
  wpList_plain hgd fun _ hK => wp_append_src w s x t ho base e i z size bytes ht hi hz hsize hby hzs hsz v n xs hs hown y m news hy hx h1 h63 hbytes hbase fun v' w' h2 h3 => hK _ _ (h v' w' h2 h3)
/-- at a step of a region that draws -/
theorem step_append_src {P : Program} (w : World) {ops : Array Oper} {o : Oper} {a : Act} {K : Act → World → Prop} {Q : Exit → Act → World → Prop} {E : Prop} (hgd : o.guard = none) (s x : Operand) (t : TypeId)
    (ho : o.op = .call { callee := .builtin .append, args := #[s, x], argTypes := #[t, t] })
    (base : Nat) (e : TypeId) (i : TypeInfo) (z : Value) (size bytes : Nat) (ht : P.underlying t = some (.slice e)) (hi : P.info? e = some i) (hz : i.zero = some z)
    (hsize : i.size = size) (hby : i.bytes = bytes) (hzs : z.cells.size = size) (hsz : 0 < size)
    (v : Value) (n : Nat) (xs : List Value) (hs : a.eval s = v) (hown : w.ownsRow base e size v n xs) (y : Value) (m : Nat) (news : List Value) (hy : a.eval x = y) (hx : Src w y m size news) (h1 : ∀ u ∈ news, u.oneCell' = true)
    (h63 : n + m ≤ maxLen) (hbytes : (n + m) * bytes ≤ 140737488355328) (hbase : base ≤ w.heap.size)
    (h : ∀ v' w', w'.ownsRow base e size v' (n + m) (xs ++ news) → w.grownBy w' v.ownBlock → K (a.put o.dst v') w') :
    if Region.wanted o (yielded ops a.tmps) = true then Oper.wp P o a w K Q else E := by
  have hw : Region.wanted o (yielded ops a.tmps) = true := by simp [Region.wanted, hgd]
  rw [if_pos hw]
  exact wp_append_src w s x t ho base e i z size bytes ht hi hz hsize hby hzs hsz v n xs hs hown y m news hy hx h1 h63 hbytes hbase h
end Go.Proofs.YtgjppnbkklionaaDoor

/-
  Rows of the call's own: kept, as a slice, grown by append.
-/
namespace Go.Proofs.YtgjppnbkklionaaDoor
open Go.RowKit

theorem rows_kept {S : Nat → Prop} {w w' : World} {base sz k : Nat} {e : TypeId} {v : Value} {xs : List Value} (h : w.ownsRow base e sz v k xs) (u : Upd S w w') (hg : ∀ j, v.ownBlock = some j → ¬ S j) : w'.ownsRow base e sz v k xs := by
  refine ⟨h.1, ?_⟩
  rcases h.2 with hn | ⟨g, cap, cur, rfl, hb, hgg, rest⟩
  · exact .inl hn
  · exact .inr ⟨g, cap, cur, rfl, hb, u.at hgg (hg g rfl), rest⟩
theorem rows_still {w w' : World} {base sz k : Nat} {e : TypeId} {v : Value} {xs : List Value} (h : w.ownsRow base e sz v k xs) (u : Upd (fun _ => False) w w') : w'.ownsRow base e sz v k xs := rows_kept h u fun _ _ => id
/-- blocks of before are not the row's -/
theorem rows_under {S : Nat → Prop} {w w' : World} {base sz k : Nat} {e : TypeId} {v : Value} {xs : List Value} (h : w.ownsRow base e sz v k xs) (u : Upd S w w') (hS : ∀ j, S j → j < base) : w'.ownsRow base e sz v k xs :=
  rows_kept h u fun j hj s => by have := (h.lt j hj).1; have := hS j s; omega
theorem rows_slice {w : World} {base sz : Nat} {e : TypeId} {v : Value} {k : Nat} {xs : List Value} (h : w.ownsRow base e sz v k xs) : ∃ o cap, v = .slice o k cap := by
  rcases h.2 with ⟨rfl, rfl⟩ | ⟨g, cap, cur, rfl, _⟩
  · exact ⟨none, 0, rfl⟩
  · exact ⟨_, _, rfl⟩
theorem rows_new (w : World) (base sz : Nat) (e : TypeId) : w.ownsRow base e sz (.slice none 0 0) 0 [] := ⟨by simp, .inl ⟨rfl, rfl⟩⟩
theorem rows_src (w : World) (c : List Value) (t : TypeId) : ∀ (j : Nat) (u : Value), c[j]? = some u → (w.alloc (.cells c.toArray t)).cell? ((⟨w.heap.size, 0, none⟩ : Addr).add j) = some u := by
  intro j u hj
  rw [add_mid0, cell_of_row _ _ _ _ _ _ (heap_alloc_last w (.cells c.toArray t))]
  simpa using hj
theorem rows_grown {w wr w4 : World} {N sz n : Nat} {e : TypeId} {v : Value} {xs : List Value} {o : Obj} {S : Nat → Prop} (hrow : wr.ownsRow N e sz v n xs) (hgr : (wr.alloc o).grownBy w4 v.ownBlock) (hU : Upd S w wr) (hN : w.heap.size ≤ N) : Upd S w w4 := by
  have hs := hU.size
  refine ⟨hgr.os.trans hU.os, hgr.tape.trans hU.tape, hgr.output.trans hU.output, by have := hgr.size; simp at this; omega, fun k hk hS => ?_⟩
  rw [hgr.block k (by simp; omega) (fun e => by have := (hrow.lt k e.symm).1; omega), Below.heap_alloc _ _ _ (by omega)]
  exact hU.block k hk hS
/-- the cells of a row of the call's own -/
theorem rows_at {w : World} {base sz k cap : Nat} {e : TypeId} {o : Option Addr} {xs : List Value} (h : w.ownsRow base e sz (.slice o k cap) k xs) (hk : 0 < k) : ∃ g, o = some ⟨g, 0, none⟩ ∧ ∀ (j : Nat) (u : Value), xs[j]? = some u → w.cell? ⟨g, j, none⟩ = some u := by
  rcases h.2 with ⟨e1, e2⟩ | ⟨g, cap', cur, e1, rest⟩
  · omega
  · simp only [Value.slice.injEq] at e1
    obtain ⟨rfl, _, rfl⟩ := e1
    refine ⟨g, rfl, fun j u hu => ?_⟩
    have := h.cells (g := g) rfl j u hu
    rwa [add_mid0, Nat.zero_add] at this
/-! guarded operations whose guard is decided, in a region that draws and only reads -/
theorem still_off {P : Program} {ops : Array Oper} {w : World} {Q : Act → Prop} {a : Act} {o : Oper} {rest : List Oper} (hw : Region.wanted o (yielded ops a.tmps) = false) (h : wpStill P ops w Q rest (a.put o.dst undef)) : wpStill P ops w Q (o :: rest) a :=
  wpStill_step fun K hK => by rw [hw]; exact hK _ h
theorem still_on {P : Program} {ops : Array Oper} {w : World} {Q : Act → Prop} {a : Act} {o : Oper} {rest : List Oper} (hw : Region.wanted o (yielded ops a.tmps) = true) (h : wpStill P ops w Q ({ o with guard := none } :: rest) a) : wpStill P ops w Q (o :: rest) a := by
  unfold wpStill at h ⊢
  rw [if_pos hw]
  exact h
end Go.Proofs.YtgjppnbkklionaaDoor

/-
  The document's own instructions: Read.
-/
namespace Go.Proofs.YtgjppnbkklionaaDoor
open Go.ChangeShapes Go.WideShapes Go.ChangeAt Go.RowKit

def strs (L : List (List UInt8)) : List Value := L.map fun x => Value.string (strOf x)
theorem strs_len (L : List (List UInt8)) : (strs L).length = L.length := by simp [strs]
/-- how far the words are found -/
def Cutting (l : List UInt8) (k f : Nat) (L : List (List UInt8)) : Prop :=
  (k ≤ l.length → (∀ x, x ∈ (l.take k).drop f → x ≠ 32) ∧ wordsB l = L ++ wordsB (l.drop f)) ∧ (k = l.length + 1 → wordsB l = L)
theorem cutting_begin (l : List UInt8) : Cutting l 0 0 [] := ⟨fun _ => ⟨by simp, by simp⟩, fun h => by omega⟩
theorem cutting_word {l : List UInt8} {k f : Nat} {L : List (List UInt8)} (h : Cutting l k f L) (hf : f ≤ k) (hk : k ≤ l.length) (hs : k = l.length ∨ ∃ h : k < l.length, l[k] = 32) : Cutting l (k + 1) (k + 1) (L ++ [(l.take k).drop f]) := by
  obtain ⟨h1, h2⟩ := h.1 hk
  obtain ⟨p1, p2⟩ := words_part l f k hf hk h1
  rcases hs with e | ⟨hlt, e⟩
  · exact ⟨fun h => by omega, fun _ => by rw [h2, p1 e]⟩
  · refine ⟨fun _ => ⟨fun x hx => ?_, ?_⟩, fun h => by omega⟩
    · rw [List.drop_of_length_le (by rw [List.length_take]; omega)] at hx
      cases hx
    · rw [h2, p2 hlt e, List.append_assoc]
      rfl
theorem cutting_on {l : List UInt8} {k f : Nat} {L : List (List UInt8)} (h : Cutting l k f L) (hf : f ≤ k) (hk : k < l.length) (hs : l[k] ≠ 32) : Cutting l (k + 1) f L := by
  obtain ⟨h1, h2⟩ := h.1 (by omega)
  refine ⟨fun _ => ⟨fun x hx => ?_, h2⟩, fun h => by omega⟩
  rw [List.take_succ_eq_append_getElem hk, List.drop_append_of_le_length (by rw [List.length_take]; omega)] at hx
  rcases List.mem_append.1 hx with hx | hx
  · exact h1 x hx
  · simp only [List.mem_singleton] at hx
    rw [hx]; exact hs
theorem at_str {s : ByteArray} (k : Nat) (hk : k < s.size) : ∃ h : k < s.data.toList.length, s.data.toList[k] = s[k] := ⟨by cases s; exact hk, rfl⟩
theorem len_str (s : ByteArray) : s.data.toList.length = s.size := by cases s; rfl
set_option maxRecDepth 100000 in
set_option maxHeartbeats 8000000 in
theorem iread_any (s : ByteArray) (hs : s.size ≤ 1000) (w : World) : Calls Tryd.prog 15 #[.string s] w fun e w' => ∃ (i : Ins) (n : Int), e = .returned (.tuple #[.agg #[.int .i64 i.op, .int .i64 i.a, .int .i64 i.b, .int .i64 i.c, .int .i64 i.m], .int .i64 n]) ∧ RdIs s i n ∧ Upd (fun _ => False) w w' := by
  have k0 := Lib.hid (show InsAt (w.alloc (.cells #[.int .i64 0, .int .i64 0, .int .i64 0, .int .i64 0, .int .i64 0] 23)) w.heap.size Ins.zero from heap_alloc_last w _)
  have U0 := Lib.hid ((Upd.refl (fun _ => False) w).alloc (.cells #[.int .i64 0, .int .i64 0, .int .i64 0, .int .i64 0, .int .i64 0] 23))
  have hC0 := Lib.hid (cutting_begin s.data.toList)
  have hlen := Lib.hid (len_str s)
  obtain ⟨i0, hi⟩ : ∃ i, Tryd.prog.info? 9 = some i := Option.isSome_iff_exists.1 (by kernel_rfl)
  have hz0 : i0.zero = some (.string ⟨#[]⟩) := by
    have : (Tryd.prog.info? 9).bind (·.zero) = some (.string ⟨#[]⟩) := by kernel_rfl
    rw [hi] at this; exact this
  have hz1 : i0.size = 1 := by
    have : (Tryd.prog.info? 9).map (·.size) = some 1 := by kernel_rfl
    rw [hi] at this; exact Option.some.inj this
  have hz2 : i0.bytes = 16 := by
    have : (Tryd.prog.info? 9).map (·.bytes) = some 16 := by kernel_rfl
    rw [hi] at this; exact Option.some.inj this
  go_enter Tryd.func15, Tryd.ntmps15
  go_upto_region 1 with fail
  obtain ⟨w1, hw1⟩ : ∃ w1, w1 = w.alloc (.cells #[.int .i64 0, .int .i64 0, .int .i64 0, .int .i64 0, .int .i64 0] 23) := ⟨_, rfl⟩
  obtain ⟨N, hN⟩ : ∃ N, N = w.heap.size := ⟨_, rfl⟩
  have HN := Lib.hid (Nat.le_of_eq hN.symm)
  rw [← hw1, ← hN] at k0
  rw [← hw1] at U0 ⊢
  rw [← hN]
  clear hw1 hN
  have hrow0 := Lib.hid (rows_new w1 w1.heap.size 1 9)
  go_wp2_with fail
  go_loopw [4, 5, 6] (fun t4 t5 t6 wr => ∃ (k f : Nat) (L : List (List UInt8)), k ≤ s.size + 1 ∧ f ≤ k ∧ t5 = .int .i64 f ∧ t6 = .int .i64 k ∧ Hid (Cutting s.data.toList k f L) ∧ Hid (L.length ≤ k) ∧ Hid (wr.ownsRow w1.heap.size 9 1 t4 L.length (strs L)) ∧ Hid (Upd (fun _ => False) w1 wr)) (fun _ _ t6 _ => s.size + 1 - (intOf t6).toNat)
  case atStart => exact ⟨0, 0, [], by omega, by omega, rfl, rfl, hC0, Lib.hid (by simp), hrow0, Lib.hid (Upd.refl _ _)⟩
  case round =>
    obtain ⟨k, f, L, hk, hf, rfl, rfl, hC, hL, hrow, hU⟩ := hrel
    clear hC0 hrow0
    by_cases hlt : k < s.size + 1
    · have k0' : (0 : Int) ≤ (k : Int) := by omega
      have k1 : (k : Int) ≤ (s.size : Int) := by omega
      by_cases hword : k = s.size ∨ ∃ h : k < s.size, s[k] = 32
      · have hC' := Lib.hid (cutting_word hC.out hf (by rw [hlen.out]; omega) (by
          rcases hword with e | ⟨h, e⟩
          · left; rw [hlen.out]; exact e
          · right; exact at_str k h |>.elim fun h' e' => ⟨h', e'.trans e⟩))
        have hx : s.extract f k = strOf ((s.data.toList.take k).drop f) := by rw [extract_str, List.drop_take]
        have f0 : (0 : Int) ≤ (f : Int) := by omega
        have f1 : (f : Int) ≤ (k : Int) := by omega
        rcases hword with e | ⟨h, e⟩
        · have hb1 : ((k : Int) == (s.size : Int)) = true := by rw [beq_iff_eq]; omega
          replace e := Lib.hid e
          obtain ⟨o, cap, rfl⟩ := rows_slice hrow.out
          have hLn := hL.out
          have hsz := hU.out.size
          have hU' := Lib.hid (Nat.le_refl w1.heap.size)
          generalize hX : strOf ((s.data.toList.take k).drop f) = X at hx
          replace hX := Lib.hid hX
          generalize hLs : strs L = xs at hrow
          replace hLs := Lib.hid hLs
          generalize hNB : w1.heap.size = NB at hrow hsz hU' ⊢
          replace hNB := Lib.hid hNB
          go_upto_region 5 with (at_builtin; refine wpList_append_own _ rfl _ _ 64 rfl NB 9 i0 (.string ⟨#[]⟩) 1 16 Tryd.underlying64 hi hz0 hz1 hz2 rfl (by decide) _ _ _ rfl (rows_still hrow.out ((Upd.refl _ _).alloc _)) ⟨wr.heap.size, 0, none⟩ 1 1 [.string X] rfl rfl (rows_src _ _ _) (by simp [Value.oneCell']) (by simp [maxLen]; omega) (by omega) (by simp; omega) ?_; intro v' w4 hown' hgrow _)
          have U4 := Lib.hid (rows_grown hrow.out hgrow hU.out (Nat.le_of_eq hNB.out))
          go_wp2
          refine ⟨⟨k + 1, k + 1, L ++ [(s.data.toList.take k).drop f], by omega, by omega, by go_num, by go_num, hC', Lib.hid (by simp; omega), Lib.hid ?_, U4⟩, by simp [intOf]; omega⟩
          have e : strs (L ++ [(s.data.toList.take k).drop f]) = xs ++ [.string X] := by unfold strs at hLs ⊢; rw [List.map_append, hLs.out, ← hX.out]; rfl
          rw [e, List.length_append]
          exact hown'
        · have hb1 : ((k : Int) == (s.size : Int)) = false := by rw [beq_eq_false_iff_ne]; omega
          have hb0 : ¬ (k : Int) = (s.size : Int) := by omega
          have hk1 : (k : Int) < (s.size : Int) := by omega
          have hb2 : s[k] = 32 := e
          have hb3 : s[k].toNat = 32 := by rw [e]; rfl
          obtain ⟨o, cap, rfl⟩ := rows_slice hrow.out
          have hLn := hL.out
          have hsz := hU.out.size
          have hU' := Lib.hid (Nat.le_refl w1.heap.size)
          generalize hX : strOf ((s.data.toList.take k).drop f) = X at hx
          replace hX := Lib.hid hX
          generalize hLs : strs L = xs at hrow
          replace hLs := Lib.hid hLs
          generalize hNB : w1.heap.size = NB at hrow hsz hU' ⊢
          replace hNB := Lib.hid hNB
          go_upto_region 5 with (at_builtin; refine wpList_append_own _ rfl _ _ 64 rfl NB 9 i0 (.string ⟨#[]⟩) 1 16 Tryd.underlying64 hi hz0 hz1 hz2 rfl (by decide) _ _ _ rfl (rows_still hrow.out ((Upd.refl _ _).alloc _)) ⟨wr.heap.size, 0, none⟩ 1 1 [.string X] rfl rfl (rows_src _ _ _) (by simp [Value.oneCell']) (by simp [maxLen]; omega) (by omega) (by simp; omega) ?_; intro v' w4 hown' hgrow _)
          have U4 := Lib.hid (rows_grown hrow.out hgrow hU.out (Nat.le_of_eq hNB.out))
          go_wp2
          refine ⟨⟨k + 1, k + 1, L ++ [(s.data.toList.take k).drop f], by omega, by omega, by go_num, by go_num, hC', Lib.hid (by simp; omega), Lib.hid ?_, U4⟩, by simp [intOf]; omega⟩
          have e : strs (L ++ [(s.data.toList.take k).drop f]) = xs ++ [.string X] := by unfold strs at hLs ⊢; rw [List.map_append, hLs.out, ← hX.out]; rfl
          rw [e, List.length_append]
          exact hown'
      · have hne : ¬ k = s.size := fun e => hword (.inl e)
        have hk2 : k < s.size := by omega
        have hb4 : s[k] ≠ 32 := fun e => hword (.inr ⟨hk2, e⟩)
        have hb5 : ¬ s[k].toNat = 32 := fun e => hb4 (UInt8.toNat_inj.1 e)
        have hb1 : ((k : Int) == (s.size : Int)) = false := by rw [beq_eq_false_iff_ne]; omega
        have hb0 : ¬ (k : Int) = (s.size : Int) := by omega
        have hk1 : (k : Int) < (s.size : Int) := by omega
        have hC' := Lib.hid (cutting_on hC.out hf (by rw [hlen.out]; exact hk2) (at_str k hk2 |>.elim fun h' e' => by rw [e']; exact hb4))
        clear hword
        obtain ⟨o, cap, rfl⟩ := rows_slice hrow.out
        have hb6 : (s[k].toNat == 32) = false := by rw [beq_eq_false_iff_ne]; exact hb5
        have hb7 : ((s[k].toNat : Int) == 32) = false := by rw [beq_eq_false_iff_ne]; omega
        go_wp2
        exact ⟨⟨k + 1, f, L, by omega, by omega, rfl, by go_num, hC', Lib.hid (by have := hL.out; omega), hrow, hU⟩, by simp [intOf]; omega⟩
    · have e : k = s.size + 1 := by omega
      have hW : wordsB s.data.toList = L := hC.out.2 (by rw [hlen.out]; exact e)
      have hL0 : 0 < L.length := by
        rw [← hW]
        rcases h : wordsB s.data.toList with _ | ⟨x, r⟩
        · exact absurd h (wordsB_ne _)
        · simp
      have hLn : L.length ≤ 1001 := by have := hL.out; omega
      obtain ⟨ov, cap, rfl⟩ := rows_slice hrow.out
      obtain ⟨g, rfl, hcell⟩ := rows_at hrow.out hL0
      have hat : Hid (∀ W', Upd (fun _ => False) wr W' → ∀ j (h : j < L.length), W'.cell? ⟨g, j, none⟩ = some (.string (strOf L[j]))) := Lib.hid (fun W' u j h => u.cell (hcell j _ (by unfold strs; rw [List.getElem?_map, List.getElem?_eq_getElem h]; rfl)) id)
      have hsz2 := Lib.hid hs
      have V2 := Lib.hid (U0.out.trans hU.out)
      have k2 := Lib.hid (k0.out.kept hU.out id)
      have hkc : (s.size : Int) < (k : Int) := by omega
      have hgs := Lib.hid (show ∀ o, Guess s o 0 1 (fun _ => 0) from fun o => guess_begin s o)
      have hhd : Hid (∀ j : Ins, j.Ok → strOf (byts j.text) = s → L[0] = byts (opName j.op.toNat)) := Lib.hid (fun j hj e => by
        have h1 := words_text j hj
        rw [← e, strOf_toList, h1] at hW
        subst hW
        rfl)
      replace hW := Lib.hid hW
      replace e := Lib.hid e
      clear hcell hrow hC hL hlen hs U0 k0 hU
      go_wp2_with fail
      rw [show decide (k ≤ s.size) = false from decide_eq_false (by omega)]
      generalize wr = w2 at hat V2 k2 ⊢
      go_loopw [7] (fun t7 wr => ∃ o : Nat, o ≤ 12 ∧ t7 = .int .i64 o ∧ Hid (Upd (fun _ => False) w2 wr) ∧ Hid (∀ j : Ins, j.Ok → strOf (byts j.text) = s → (o : Int) ≤ j.op)) (fun t7 _ => 12 - (intOf t7).toNat)
      case atStart => exact ⟨0, by omega, rfl, Lib.hid (Upd.refl _ _), Lib.hid (fun j hj _ => hj.o.1)⟩
      case round =>
        obtain ⟨o, ho, rfl, hU, hlow⟩ := hrel
        by_cases ho12 : o < 12
        · have o0 : (0 : Int) ≤ (o : Int) := by omega
          have o1 : (o : Int) < 12 := by omega
          have cN := Lib.hid (fun W => iname_any o ho12 W)
          have c0 := hat.out _ hU.out 0 hL0
          by_cases hnm : L[0] = byts (opName o)
          · skip
            have c0' : wr.cell? ⟨g, 0, none⟩ = some (.string (strOf (byts (opName o)))) := by rw [← hnm]; exact c0
            have cn := Lib.hid (fun W => inames_any o ho12 W)
            clear c0 hnm
            generalize strOf (byts (opName o)) = nm at cN c0'
            go_upto_region 12 with fail
            have hS := Lib.hid (show ∀ (W' : World), Upd (fun _ => False) wr W' → W'.cell? ⟨g, 0, none⟩ = some (.string nm) ∧ Upd (fun _ => False) wr W' from fun W' u => ⟨u.cell c0' id, u⟩)
            go_region_held3 (fun w' => w'.cell? ⟨g, 0, none⟩ = some (.string nm) ∧ Upd (fun _ => False) wr w')
              (first
                | assumption
                | exact hS.out _ (Upd.refl _ _).drew
                | exact hS.out _ u7)
              (first
                | (go_at_call 22; go_split_ands; rename_i g4 g5; refine (cN.out _).mono ?_; rintro e w7 ⟨rfl, u7'⟩; have u7 := g5.trans u7'))
            have U7 := Lib.hid (hU.out.trans u7)
            clear cN c0' hS hU u7
            go_wp2_with fail
            refine (cn.out _).mono ?_
            rintro e w8 ⟨rfl, u8'⟩
            have U8 := Lib.hid (U7.out.trans u8')
            clear U7 u8' cn
            go_upto_region 14 with fail
            have U9 := Lib.hid (U8.out.alloc (.cells #[.bool (hasA (o : Int)), .bool (hasB (o : Int)), .bool (hasC (o : Int)), .bool (hasM (o : Int))] 40))
            have B9 := Lib.hid (show BoolsAt (w8.alloc (.cells #[.bool (hasA (o : Int)), .bool (hasB (o : Int)), .bool (hasC (o : Int)), .bool (hasM (o : Int))] 40)) w8.heap.size (hasK o) from heap_alloc_last w8 _)
            clear U8
            generalize w8.alloc (.cells #[.bool (hasA (o : Int)), .bool (hasB (o : Int)), .bool (hasC (o : Int)), .bool (hasM (o : Int))] 40) = w9 at U9 B9 ⊢
            generalize w8.heap.size = BB at B9 ⊢
            generalize hasA (o : Int) = qA
            generalize hasB (o : Int) = qB
            generalize hasC (o : Int) = qC
            generalize hasM (o : Int) = qM
            go_upto_region 15 with fail
            have F10 := Lib.hid (show FourAt (w9.alloc (.cells #[.int .i64 0, .int .i64 0, .int .i64 0, .int .i64 0] 38)) w9.heap.size (fun _ => 0) from heap_alloc_last w9 _)
            have U10 := Lib.hid (show Upd (fun _ => False) w9 (w9.alloc (.cells #[.int .i64 0, .int .i64 0, .int .i64 0, .int .i64 0] 38)) from (Upd.refl _ _).alloc _)
            have hPB := Lib.hid (Nat.le_refl w9.heap.size)
            generalize w9.alloc (.cells #[.int .i64 0, .int .i64 0, .int .i64 0, .int .i64 0] 38) = w10 at F10 U10 ⊢
            generalize hPBe : w9.heap.size = PB at F10 hPB ⊢
            replace hPBe := Lib.hid (Nat.le_of_eq hPBe)
            go_wp2_with fail
            go_loopw [10, 11] (fun t10 t11 wr => ∃ (k ix : Nat) (f : Nat → Int), k ≤ 4 ∧ ix ≤ k + 1 ∧ t10 = .int .i64 ix ∧ t11 = .int .i64 k ∧ Hid (Upd (fun _ => False) w9 wr) ∧ Hid (FourAt wr PB f) ∧ Hid (Guess s o k ix f) ∧ Hid (∀ x, 0 ≤ f x ∧ f x ≤ 655359) ∧ Hid (∀ x, k ≤ x → f x = 0)) (fun _ t11 _ => 4 - (intOf t11).toNat)
            case atStart => exact ⟨0, 1, _, by omega, by omega, rfl, rfl, U10, F10, Lib.hid (hgs.out o), Lib.hid (fun _ => by omega), Lib.hid (fun _ _ => rfl)⟩
            case round =>
              obtain ⟨kk, ix, f, hk4, hix, rfl, rfl, hV, hF, hG, hfb, hf0⟩ := hrel
              clear F10 U10
              by_cases h4k : kk < 4
              · have hb := hV.out.cell (B9.out.cell kk h4k) id
                have x0 : (0 : Int) ≤ (ix : Int) := by omega
                have kk0 : (0 : Int) ≤ (kk : Int) := by omega
                have kk4 : (kk : Int) < 4 := by omega
                generalize hbe : hasK (o : Int) kk = hbv at hb
                cases hbv
                · have hG' := Lib.hid (guess_not hG.out h4k hbe (hf0.out kk (Nat.le_refl _)))
                  clear hG hbe
                  go_wp2
                  go_roundw
                  case rel => exact ⟨kk + 1, ix, f, by omega, by omega, rfl, by go_num, hV, hF, hG', hfb, Lib.hid (fun x hx => hf0.out x (by omega))⟩
                  case measure => simp [intOf]; omega
                · by_cases hout : L.length ≤ ix
                  · have hG' := Lib.hid (guess_out hG.out h4k hbe (by rw [hW.out]; exact hout))
                    have hout' : (L.length : Int) ≤ (ix : Int) := by omega
                    clear hG hbe
                    go_wp2
                    go_roundw
                    case rel => exact ⟨kk + 1, ix, f, by omega, by omega, rfl, by go_num, hV, hF, hG', hfb, Lib.hid (fun x hx => hf0.out x (by omega))⟩
                    case measure => simp [intOf]; omega
                  · have hin' : (ix : Int) < (L.length : Int) := by omega
                    have cx := hat.out _ (U9.out.trans hV.out) ix (by omega)
                    have hG0 := guess_yes hG.out h4k hbe (by rw [hW.out]; omega)
                    have hG1 : Guess s o (kk + 1) (ix + 1) (fun x => if x = kk then ((numF 0 (digK kk (L[ix]'(by omega))) : Nat) : Int) else f x) := by
                      have e : (wordsB s.data.toList)[ix]'(by rw [hW.out]; omega) = L[ix]'(by omega) := by congr 1
                      rw [e] at hG0
                      exact hG0
                    replace hG1 := Lib.hid hG1
                    clear hG hbe hG0
                    have hxlen : (L[ix]'(by omega)).length ≤ 1000 := by
                      have h1 := words_le s.data.toList (L[ix]'(by omega)) (by rw [hW.out]; exact List.getElem_mem _)
                      have h2 := len_str s
                      have h3 := hsz2.out
                      omega
                    generalize L[ix]'(by omega) = xl at cx hG1 hxlen
                    have hxl : xl.length ≤ 1000 := hxlen
                    have hdl : (digK kk xl).length ≤ 1000 := by unfold digK; split; (rw [List.length_drop]; omega); exact hxl
                    clear hxlen
                    by_cases hk3 : (kk : Int) < 3
                    · by_cases hxe : xl = []
                      · have hxd : strOf xl = strOf (digK kk xl) := by subst hxe; unfold digK; split <;> rfl
                        have hx0 : (strOf xl).size = 0 := by subst hxe; rfl
                        rw [hxd] at cx hx0
                        have hx0' : ((strOf (digK kk xl)).size : Int) = 0 := by omega
                        have cM := Lib.hid (fun W => inumber_any (strOf (digK kk xl)) (by rw [strOf_size]; exact hdl) W)
                        rw [strOf_toList] at cM
                        have hzb := numF_le (digK kk xl) 0 (by omega)
                        generalize numF 0 (digK kk xl) = z at cM hG1 hzb
                        clear hxd hxe hdl hxl
                        generalize strOf (digK kk xl) = xd at cM cx hx0 hx0'
                        go_wp2_with fail
                        refine (cM.out _).mono ?_
                        rintro e w11 ⟨rfl, n11, rfl⟩
                        have ce := (hF.out.kept ((Upd.refl (fun _ => False) wr).drewN n11) id).cell kk h4k
                        have fz := (hF.out.kept ((Upd.refl (fun _ => False) wr).drewN n11) id).free kk
                        have V8 := Lib.hid ((hV.out.drewN n11).setCell (p := ⟨PB, kk, none⟩) (.inr hPBe.out) (.int .i64 (z : Nat)))
                        have F8 := Lib.hid (FourAt.set (w := wr.drewN n11) (A := PB) (f := f) hF.out kk h4k (z : Nat))
                        go_wp2
                        go_roundw
                        case rel => exact ⟨kk + 1, ix + 1, _, by omega, by omega, by go_num, by go_num, V8, F8, hG1, Lib.hid (fun x => by split; omega; exact hfb.out x), Lib.hid (fun x hx => by rw [if_neg (by omega)]; exact hf0.out x (by omega))⟩
                        case measure => simp [intOf]; omega
                      · have hxd : (strOf xl).extract 1 (strOf xl).size = strOf (digK kk xl) := by
                          have e1 : digK kk xl = xl.drop 1 := by unfold digK; rw [if_pos (by omega)]
                          rw [extract_str, strOf_toList, strOf_size, e1, List.take_of_length_le (by simp)]
                        have hx0 : 0 < (strOf xl).size := by
                          rw [strOf_size]
                          rcases xl with _ | ⟨b, r⟩
                          · exact absurd rfl hxe
                          · simp
                        have hx0' : (0 : Int) < ((strOf xl).size : Int) := by omega
                        have hx1' : (1 : Int) ≤ ((strOf xl).size : Int) := by omega
                        have cM := Lib.hid (fun W => inumber_any (strOf (digK kk xl)) (by rw [strOf_size]; exact hdl) W)
                        rw [strOf_toList] at cM
                        have hzb := numF_le (digK kk xl) 0 (by omega)
                        generalize numF 0 (digK kk xl) = z at cM hG1 hzb
                        clear hxe hdl hxl hx0
                        generalize strOf (digK kk xl) = xd at cM hxd
                        generalize strOf xl = xs at cx hxd hx0' hx1'
                        go_wp2_with fail
                        refine (cM.out _).mono ?_
                        rintro e w11 ⟨rfl, n11, rfl⟩
                        have ce := (hF.out.kept ((Upd.refl (fun _ => False) wr).drewN n11) id).cell kk h4k
                        have fz := (hF.out.kept ((Upd.refl (fun _ => False) wr).drewN n11) id).free kk
                        have V8 := Lib.hid ((hV.out.drewN n11).setCell (p := ⟨PB, kk, none⟩) (.inr hPBe.out) (.int .i64 (z : Nat)))
                        have F8 := Lib.hid (FourAt.set (w := wr.drewN n11) (A := PB) (f := f) hF.out kk h4k (z : Nat))
                        go_wp2
                        go_roundw
                        case rel => exact ⟨kk + 1, ix + 1, _, by omega, by omega, by go_num, by go_num, V8, F8, hG1, Lib.hid (fun x => by split; omega; exact hfb.out x), Lib.hid (fun x hx => by rw [if_neg (by omega)]; exact hf0.out x (by omega))⟩
                        case measure => simp [intOf]; omega
                    · have hxd : strOf xl = strOf (digK kk xl) := by unfold digK; rw [if_neg (by omega)]
                      rw [hxd] at cx
                      have cM := Lib.hid (fun W => inumber_any (strOf (digK kk xl)) (by rw [strOf_size]; exact hdl) W)
                      rw [strOf_toList] at cM
                      have hzb := numF_le (digK kk xl) 0 (by omega)
                      generalize numF 0 (digK kk xl) = z at cM hG1 hzb
                      clear hxd hdl hxl
                      generalize strOf (digK kk xl) = xd at cM cx
                      go_wp2_with fail
                      refine (cM.out _).mono ?_
                      rintro e w11 ⟨rfl, n11, rfl⟩
                      have ce := (hF.out.kept ((Upd.refl (fun _ => False) wr).drewN n11) id).cell kk h4k
                      have fz := (hF.out.kept ((Upd.refl (fun _ => False) wr).drewN n11) id).free kk
                      have V8 := Lib.hid ((hV.out.drewN n11).setCell (p := ⟨PB, kk, none⟩) (.inr hPBe.out) (.int .i64 (z : Nat)))
                      have F8 := Lib.hid (FourAt.set (w := wr.drewN n11) (A := PB) (f := f) hF.out kk h4k (z : Nat))
                      go_wp2
                      go_roundw
                      case rel => exact ⟨kk + 1, ix + 1, _, by omega, by omega, by go_num, by go_num, V8, F8, hG1, Lib.hid (fun x => by split; omega; exact hfb.out x), Lib.hid (fun x hx => by rw [if_neg (by omega)]; exact hf0.out x (by omega))⟩
                      case measure => simp [intOf]; omega
              · skip
                have e4 : kk = 4 := by omega
                subst e4
                have hend := Lib.hid (guess_end hG.out)
                have hin := Lib.hid (show Ins.In ⟨o, f 0, f 1, f 2, f 3⟩ from ⟨by simp only; omega, by have := hfb.out 0; simp only; omega, by have := hfb.out 1; simp only; omega, by have := hfb.out 2; simp only; omega, by have := hfb.out 3; simp only; omega⟩)
                have q0 := hF.out.cell 0 (by omega)
                have q1 := hF.out.cell 1 (by omega)
                have q2 := hF.out.cell 2 (by omega)
                have q3 := hF.out.cell 3 (by omega)
                have V11 := Lib.hid (U9.out.trans hV.out)
                clear hF hG hf0 hfb B9 hV
                generalize f 0 = fa at q0 hend hin
                generalize f 1 = fbb at q1 hend hin
                generalize f 2 = fc at q2 hend hin
                generalize f 3 = fm at q3 hend hin
                go_upto_region 26 with fail
                obtain ⟨u, hu⟩ : ∃ u : Ins, u = ⟨o, fa, fbb, fc, fm⟩ := ⟨_, rfl⟩
                have X6 := Lib.hid (show InsAt (wr.alloc (.cells #[.int .i64 o, .int .i64 fa, .int .i64 fbb, .int .i64 fc, .int .i64 fm] 23)) wr.heap.size u from by rw [hu]; exact heap_alloc_last wr _)
                have V12 := Lib.hid (V11.out.alloc (.cells #[.int .i64 o, .int .i64 fa, .int .i64 fbb, .int .i64 fc, .int .i64 fm] 23))
                simp only [← hu] at hend hin
                clear V11 hu q0 q1 q2 q3
                generalize wr.alloc (.cells #[.int .i64 o, .int .i64 fa, .int .i64 fbb, .int .i64 fc, .int .i64 fm] 23) = w12 at X6 V12 ⊢
                generalize wr.heap.size = XB at X6 ⊢
                have cT := Lib.hid (itext_any u w12)
                go_wp2_with (with_reducible refine wpList_load_sz rfl 23 (.tmp 13) rfl XB 0 rfl [.int .i64 u.op, .int .i64 u.a, .int .i64 u.b, .int .i64 u.c, .int .i64 u.m] _ X6.out.range Tryd.underlying23 rfl 5 (ins_len _ _ _ _ _) size_ins ?_)
                refine cT.out.mono ?_
                rintro e w13 ⟨rfl, u13'⟩
                have X7 := Lib.hid (X6.out.kept u13' id)
                have V13 := Lib.hid (V12.out.trans u13')
                clear X6 u13' cT hin V12
                generalize u.tv = tv at hend ⊢
                generalize u.we = we at hend ⊢
                by_cases hyes : we = 0 ∧ tv = s
                · have hr := Lib.hid (hend.out.1 hyes)
                  obtain ⟨rfl, rfl⟩ := hyes
                  have K := (k2.out.kept V13.out id).there
                  have k13 := Lib.hid (k2.out.kept V13.out id)
                  have W13 := Lib.hid (V2.out.trans V13.out)
                  have HN' := HN.out
                  clear hend hlow hgs hhd hat
                  go_wp2_with (first
                    | (with_reducible refine wpList_load_sz rfl 23 (.tmp 13) rfl XB 0 rfl [.int .i64 u.op, .int .i64 u.a, .int .i64 u.b, .int .i64 u.c, .int .i64 u.m] _ X7.out.range Tryd.underlying23 rfl 5 (ins_len _ _ _ _ _) size_ins ?_)
                    | (with_reducible refine wpList_store_sz rfl 23 (.tmp 2) (.tmp 108) rfl N 0 #[.int .i64 u.op, .int .i64 u.a, .int .i64 u.b, .int .i64 u.c, .int .i64 u.m] rfl rfl 5 (ins_sz _ _ _ _ _) K size_ins (ins_one _ _ _ _ _) [.int .i64 u.op, .int .i64 u.a, .int .i64 u.b, .int .i64 u.c, .int .i64 u.m] (ins_ls _ _ _ _ _) ?_))
                  (try simp only [Exit.inBlock, Exit.then])
                  refine bodyPost_ret (ret_ins rfl _ _ N u rfl (k13.out.set u)) rfl ⟨u, 0, rfl, hr.out, ?_⟩
                  exact Upd.setCells (.inr HN') _ _ W13.out
                · have hr := Lib.hid (hend.out.2 hyes)
                  have hlow' := Lib.hid (show ∀ j : Ins, j.Ok → strOf (byts j.text) = s → ((o + 1 : Nat) : Int) ≤ j.op from fun j hj e => by
                    have h1 := hlow.out j hj e
                    have h2 := hr.out j hj e
                    omega)
                  clear hend hlow hr
                  by_cases hw : we = 0
                  · have hb : (tv.toList == s.toList) = false := str_ne fun e => hyes ⟨hw, e⟩
                    have hb' : ¬ tv.toList = s.toList := by simpa using hb
                    subst hw
                    clear hyes
                    go_wp2
                    go_roundw
                    case rel => exact ⟨o + 1, by omega, by go_num, V13, hlow'⟩
                    case measure => simp [intOf]; omega
                  · have hb : (we == 0) = false := by rw [beq_eq_false_iff_ne]; exact hw
                    clear hyes
                    go_wp2
                    go_roundw
                    case rel => exact ⟨o + 1, by omega, by go_num, V13, hlow'⟩
                    case measure => simp [intOf]; omega
          · have hlow' := Lib.hid (show ∀ j : Ins, j.Ok → strOf (byts j.text) = s → ((o + 1 : Nat) : Int) ≤ j.op from fun j hj e => by
              have h1 := hlow.out j hj e
              have h2 := hhd.out j hj e
              rcases Int.lt_or_eq_of_le h1 with h3 | h3
              · omega
              · exfalso
                apply hnm
                rw [h2, ← h3, Int.toNat_natCast])
            have hne := str_ne fun e : strOf (byts (opName o)) = strOf (L[0]) => hnm (strOf_inj e).symm
            clear hnm hlow
            generalize strOf (byts (opName o)) = nm at cN hne
            generalize strOf (L[0]) = x0 at c0 hne
            have hne' : ¬ nm.toList = x0.toList := by simpa using hne
            go_upto_region 12 with fail
            have hS := Lib.hid (show ∀ (W' : World), Upd (fun _ => False) wr W' → W'.cell? ⟨g, 0, none⟩ = some (.string x0) ∧ Upd (fun _ => False) wr W' from fun W' u => ⟨u.cell c0 id, u⟩)
            go_region_held3 (fun w' => w'.cell? ⟨g, 0, none⟩ = some (.string x0) ∧ Upd (fun _ => False) wr w')
              (first
                | assumption
                | exact hS.out _ (Upd.refl _ _).drew
                | exact hS.out _ u7)
              (first
                | (go_at_call 22; go_split_ands; rename_i g4 g5; refine (cN.out _).mono ?_; rintro e w7 ⟨rfl, u7'⟩; have u7 := g5.trans u7'))
            have U7 := Lib.hid (hU.out.trans u7)
            go_wp2
            go_roundw
            case rel => exact ⟨o + 1, by omega, by go_num, U7, hlow'⟩
            case measure => simp [intOf]; omega
        · have e12 : o = 12 := by omega
          subst e12
          have hr := Lib.hid (show RdIs s Ins.zero 11 from .inr ⟨fun j hj e => by have h1 := hlow.out j hj e; have h2 := hj.o.2; omega, rfl, rfl⟩)
          have K := (k2.out.kept hU.out id).there
          have k13 := Lib.hid (k2.out.kept hU.out id)
          have W13 := Lib.hid (V2.out.trans hU.out)
          have HN' := HN.out
          clear hlow hgs hhd hat
          go_wp2_with (with_reducible refine wpList_store_sz rfl 23 (.tmp 2) (.tmp 109) rfl N 0 #[.int .i64 0, .int .i64 0, .int .i64 0, .int .i64 0, .int .i64 0] rfl rfl 5 (ins_sz _ _ _ _ _) K size_ins (ins_one _ _ _ _ _) [.int .i64 0, .int .i64 0, .int .i64 0, .int .i64 0, .int .i64 0] (ins_ls _ _ _ _ _) ?_)
          (try simp only [Exit.inBlock, Exit.then])
          refine bodyPost_ret (ret_ins rfl _ _ N Ins.zero rfl (k13.out.set Ins.zero)) rfl ⟨Ins.zero, 11, rfl, hr.out, ?_⟩
          exact Upd.setCells (.inr HN') _ _ W13.out
end Go.Proofs.YtgjppnbkklionaaDoor

/-
  Package-level variables of integers and bools that a row lists: their cells, out of the row's condition. Over any program.
-/
namespace Go.Proofs.YtgjppnbkklionaaDoor.Fr
open Go.ChangeShapes Go.WideShapes Go.ChangeAt Go.RowKit
mutual
/-- the cells of a datum made of integers and bools -/
def datCells : DataW Unit → List Value
  | .lit (.int k z) => [.int k z]
  | .lit (.bool b) => [.bool b]
  | .agg ps => datAll ps
  | _ => []
def datAll : List (DataW Unit) → List Value
  | [] => []
  | d :: r => datCells d ++ datAll r
end
/-- the variable's cells -/
def VarIs (w : World) (g : Nat) (cs : List Value) : Prop := ∀ j v, cs[j]? = some v → w.cell? ⟨g, j, none⟩ = some v
theorem datAll_rows (k : Nat) : ∀ (xs : List (DataW Unit × List MemPlace)) (cs : List Value), cs.length = xs.length * k → (∀ i (h : i < xs.length), (cs.drop (i * k)).take k = datCells (xs[i]).1) → cs = datAll (xs.map (·.1))
  | [], cs, hl, _ => by
    have : cs = [] := List.eq_nil_of_length_eq_zero (by simpa using hl)
    subst this
    rfl
  | x :: xs, cs, hl, h => by
    have hl' : cs.length = xs.length * k + k := by rw [hl, List.length_cons, Nat.succ_mul]
    have h0 := h 0 (by simp)
    rw [Nat.zero_mul, List.drop_zero] at h0
    rw [← List.take_append_drop k cs, h0]
    simp only [List.map_cons, datAll, List.getElem_cons_zero]
    congr 1
    refine datAll_rows k xs _ (by rw [List.length_drop]; omega) fun i hi => ?_
    have := h (i + 1) (by simpa using hi)
    rw [Nat.succ_mul] at this
    simpa [List.drop_drop, Nat.add_comm] using this
theorem datAll_fs {P : Program} {g : TypeId → Option (List (Option IntKind))} : ∀ (fs : List Field) (o : Nat) (ks : List (Option IntKind)) (cs : List Value) (xs : List (DataW Unit × List MemPlace)), flatFs P g fs o = some ks → cs.length = ks.length → xs.length = fs.length →
      (∀ (i : Nat) (f : Field) (x : DataW Unit × List MemPlace), fs[i]? = some f → xs[i]? = some x → (cs.drop (f.offset - o)).take (P.cellsOf f.type) = datCells x.1) → cs = datAll (xs.map (·.1))
  | [], o, ks, cs, xs, hk, hl, hx, _ => by
    simp only [flatFs, Option.some.injEq] at hk
    subst hk
    have e1 : cs = [] := List.eq_nil_of_length_eq_zero (by simpa using hl)
    have e2 : xs = [] := List.eq_nil_of_length_eq_zero (by simpa using hx)
    subst e1 e2
    rfl
  | f :: fs, o, ks, cs, [], hk, hl, hx, h => by simp at hx
  | f :: fs, o, ks, cs, x :: xs, hk, hl, hx, h => by
    simp only [flatFs] at hk
    split at hk
    · rename_i l r hgl hr
      split at hk
      · rename_i hc
        obtain ⟨ho, hll⟩ := hc
        simp only [Option.some.injEq] at hk
        subst hk
        rw [List.length_append] at hl
        have h0 := h 0 f x rfl rfl
        rw [ho, Nat.sub_self, List.drop_zero] at h0
        rw [← List.take_append_drop (P.cellsOf f.type) cs, h0]
        simp only [List.map_cons, datAll]
        congr 1
        refine datAll_fs fs _ r _ xs hr (by rw [List.length_drop]; omega) (by simpa using hx) fun i f' x' hi hi' => ?_
        have hy := h (i + 1) f' x' hi hi'
        have hge : o + P.cellsOf f.type ≤ f'.offset := flatFs_ge hr i f' hi
        rw [List.drop_drop, show P.cellsOf f.type + (f'.offset - (o + P.cellsOf f.type)) = f'.offset - o from by omega]
        exact hy
      · cases hk
    · cases hk
theorem cells_flat {P : Program} {w : World} {base : Nat} {spare : Nat → Bool} {held : Bool} : ∀ (d : Nat) (t : TypeId) (ks : List (Option IntKind)) (fuel : Nat) (cs : List Value) (x : DataW Unit × List MemPlace),
    flat P d t = some ks → DataW.trod (fun _ => ()) P w base spare held fuel t cs = some x → cs = datCells x.1
  | 0, _, _, _, _, _, h, _ => by simp [flat] at h
  | d + 1, t, ks, fuel, cs, x, h, ht => by
    have hlen0 := (okLeaves_of (d + 1) t ks fuel cs x h ht).1
    unfold flat at h
    split at h
    · rename_i k hu
      obtain ⟨z, rfl, rfl, hw⟩ := DataW.trod_int hu ht
      rfl
    · rename_i hu
      obtain ⟨b, rfl, rfl⟩ := DataW.trod_bool hu ht
      rfl
    · rename_i n e hu
      split at h
      · rename_i l hl
        split at h
        · rename_i hc
          obtain ⟨c1, c2⟩ := hc
          obtain ⟨xs, m, _, rfl, hlen, hxl, hrd⟩ := DataW.trod_array hu ht
          show cs = datAll (xs.map (·.1))
          refine datAll_rows (P.cellsOf e) xs cs (by rw [hlen, c2, hxl]) fun i hi => ?_
          have := hrd i (by omega)
          rw [List.getElem?_eq_getElem hi] at this
          exact cells_flat d e l m _ _ hl this
        · cases h
      · cases h
    · rename_i fs hu
      split at h
      · rename_i l hl
        split at h
        · rename_i hc
          simp only [Option.some.injEq] at h
          subst h
          obtain ⟨xs, m, _, rfl, hlen, hxl, hrd⟩ := DataW.trod_struct hu ht
          show cs = datAll (xs.map (·.1))
          refine datAll_fs fs.toList 0 l cs xs hl hlen0 (by rw [hxl]; simp) fun i f x hi hx => ?_
          have hi' : fs[i]? = some f := by simpa using hi
          have := hrd i f hi'
          rw [hx] at this
          rw [Nat.sub_zero]
          have hfl : ∃ l', flat P d f.type = some l' := by
            clear this hi' hx hrd hlen hxl hlen0 ht
            revert i hi
            generalize (0 : Nat) = o at hl
            generalize fs.toList = F at hl
            clear hc
            induction F generalizing o l with
            | nil => intro i hi; simp at hi
            | cons a r ih =>
              intro i hi
              simp only [flatFs] at hl
              split at hl
              · rename_i l1 r1 h1 h2
                cases i with
                | zero => simp only [List.getElem?_cons_zero, Option.some.injEq] at hi; subst hi; exact ⟨_, h1⟩
                | succ i => exact ih _ _ h2 i hi
              · cases hl
          obtain ⟨l', hl'⟩ := hfl
          exact cells_flat d f.type l' m _ _ hl' this
        · cases h
      · cases h
    · cases h
/-- a listed variable's cells -/
theorem varIs_of_vars {P : Program} {w : World} (D : Nat) : ∀ (l : List (String × DataW Unit)) (ps : List MemPlace), DataW.LaidVars P w l ps → ∀ (n : String) (d : DataW Unit), (n, d) ∈ l → ∀ (g : Nat) (t : TypeId) (ks : List (Option IntKind)),
    P.globalNamed n = some g → (P.globals[g]?).map (·.type) = some t → flat P D t = some ks → VarIs w g (datCells d)
  | [], _, _, n, d, hm, _, _, _, _, _, _ => by cases hm
  | (n0, d0) :: r, ps, h, n, d, hm, g, t, ks, hg, ht, hf => by
    obtain ⟨g0, t0, cs, fuel, p, q, hg0, ht0, hv, hd, hr, _⟩ := h
    rcases List.mem_cons.1 hm with e | hm'
    · cases e
      obtain rfl := Option.some.inj (hg.symm.trans hg0)
      obtain rfl := Option.some.inj (ht.symm.trans ht0)
      have e := cells_flat D t ks fuel cs.toList _ hf hd
      intro j v hj
      rw [World.var?_cell hg0 hv j, ← hj, ← e]
      simp
    · exact varIs_of_vars D r q hr n d hm' g t ks hg ht hf
theorem varIs_of_laid {P : Program} {w : World} {l : List (String × DataW Unit)} (D : Nat) (h : laidMet P l w) (n : String) (d : DataW Unit) (hm : (n, d) ∈ l) {g : Nat} {t : TypeId} {ks : List (Option IntKind)}
    (hg : P.globalNamed n = some g) (ht : (P.globals[g]?).map (·.type) = some t) (hf : flat P D t = some ks) : VarIs w g (datCells d) := by
  obtain ⟨ps, hl, _⟩ := h
  exact varIs_of_vars D l ps hl n d hm g t ks hg ht hf
end Go.Proofs.YtgjppnbkklionaaDoor.Fr
