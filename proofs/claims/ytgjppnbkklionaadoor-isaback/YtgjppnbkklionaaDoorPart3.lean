/-
  Texts that the laws stand on, joined: IsP, IsQ, Laid.
-/
import Derived.Deep.RegionHeld3
import Derived.FnData
import Derived.LaidHandle
import Derived.LaidLaws
import Derived.Test.YtgjppnbkklionaaDoorPart2

/-
  The program's instructions: Read.
-/
namespace Go.Proofs.YtgjppnbkklionaaDoor
open Go.ChangeShapes Go.WideShapes Go.ChangeAt Go.RowKit Go.Maps

theorem strim_any (s p : List UInt8) (w : World) : Calls Tryd.prog 28 #[.string (strOf s), .string (strOf p)] w fun e w' => e = .returned (.string (strOf (Lib.trimPrefix s p))) ∧ w' = w := by
  have h := Any.strings_TrimPrefix lays101 (strOf s) (strOf p) w
  rw [strOf_toList, strOf_toList] at h
  exact h
theorem str_toList (s : ByteArray) : s.toList = s.data.toList := ByteArray.toList_eq s
theorem str_ext {a b : ByteArray} (h : a.toList = b.toList) : a = b := by
  rw [str_toList, str_toList] at h
  rw [← strOf_of a, ← strOf_of b, h]
theorem str_ne {a b : ByteArray} (h : a ≠ b) : (a.toList == b.toList) = false := by
  rw [beq_eq_false_iff_ne]
  exact fun e => h (str_ext e)
set_option maxRecDepth 100000 in
set_option maxHeartbeats 4000000 in
theorem wread_any (s : ByteArray) (hs : s.size ≤ 1000) (w : World) (hT : Tabs w) (hL : Libs w) : Calls Tryd.prog 14 #[.string s] w fun e w' => ∃ (i : Ins) (n : Int), e = .returned (.tuple #[.agg #[.int .i64 i.op, .int .i64 i.a, .int .i64 i.b, .int .i64 i.c, .int .i64 i.m], .int .i64 n]) ∧ RdIs s i n ∧ Upd (fun _ => False) w w' := by
  have k0 := Lib.hid (show InsAt (w.alloc (.cells #[.int .i64 0, .int .i64 0, .int .i64 0, .int .i64 0, .int .i64 0] 23)) w.heap.size Ins.zero from heap_alloc_last w _)
  have U0 := Lib.hid ((Upd.refl (fun _ => False) w).alloc (.cells #[.int .i64 0, .int .i64 0, .int .i64 0, .int .i64 0, .int .i64 0] 23))
  have cC := Lib.hid (fun W => scut_any s (by omega) W)
  have hlen := Lib.hid (cutB_len s.data.toList)
  have hsz := Lib.hid (show s.data.toList.length ≤ 1000 from by cases s; exact hs)
  have hno := Lib.hid (hunch_no (s := s))
  have hbg := Lib.hid (fun o => hunch_begin (s := s) (o := o))
  have hglob := Lib.hid (show 1 < w.heap.size from by obtain ⟨t, fr, h⟩ := hT.pls; exact lt_of_heap h)
  generalize (cutB s.data.toList).1 = c1 at cC hlen hno hbg
  generalize (cutB s.data.toList).2 = c2 at cC hlen hbg
  go_enter Tryd.func14, Tryd.ntmps14
  go_upto_region 1 with fail
  obtain ⟨w1, hw1⟩ : ∃ w1, w1 = w.alloc (.cells #[.int .i64 0, .int .i64 0, .int .i64 0, .int .i64 0, .int .i64 0] 23) := ⟨_, rfl⟩
  obtain ⟨N, hN⟩ : ∃ N, N = w.heap.size := ⟨_, rfl⟩
  have HN := Lib.hid (Nat.le_of_eq hN.symm)
  rw [← hw1, ← hN] at k0
  rw [← hw1] at U0 ⊢
  rw [← hN]
  clear hw1 hN
  go_wp2_with fail
  refine (cC.out _).mono ?_
  rintro e w2 ⟨⟨fb, rfl⟩, n2, rfl⟩
  clear cC
  have T1 := Lib.hid (hT.kept (U0.out.drewN n2))
  have cM := Lib.hid (mnemonics_any (w1.drewN n2) T1.out)
  go_wp2_with fail
  refine cM.out.mono ?_
  rintro e w3 ⟨MB, D, rfl, hown, hM, u3, hMB⟩
  have k3 := Lib.hid (k0.out.kept (((Upd.refl (fun _ => False) w1).drewN n2).trans u3) id)
  have V3 := Lib.hid ((U0.out.drewN n2).trans u3)
  replace hM := Lib.hid hM
  clear k0 U0 u3 hMB cM T1
  have hz := Lib.hid (show ∀ w, (zeroValue 3).run Tryd.prog w = .ok (.int .i64 0) w from fun w => Tryd.zeroValue3 w)
  by_cases hex : ∃ o, o < 12 ∧ c1 = byts (opName o)
  case neg =>
    have hrd := Lib.hid (hno.out fun o ho e => hex ⟨o, ho, e⟩)
    have hhas : Maps.has D (.string c1) = false := hM.out.no fun o ho e => hex ⟨o, ho, e⟩
    have hkey := Lib.hid (show keyOf Tryd.prog 9 (.string (strOf c1)) = some (.string c1) from by
      rw [WideMaps.keyOf_string_mk Tryd.underlying9 (by rw [strOf_size]; have := hlen.out.1; have := hsz.out; unfold maxLen; omega), strOf_toList])
    have K := k3.out.there
    have HN' := HN.out
    clear hex hno hbg hM hlen hsz hglob hL hT
    generalize strOf c1 = s1 at hkey ⊢
    go_wp2_with (first
      | (at_lookup; refine wpList_lookup_own_ok_int _ rfl _ _ 57 rfl 9 3 .i64 keyLawS Tryd.underlying57 Tryd.underlying3 (hz.out _) MB 256 D rfl hown _ (.string c1) rfl hkey.out ?_; intro c hat hwc; clear hat hwc)
      | (with_reducible refine wpList_store_sz rfl 23 (.tmp 2) (.tmp 31) rfl N 0 #[.int .i64 0, .int .i64 0, .int .i64 0, .int .i64 0, .int .i64 0] rfl rfl 5 (ins_sz _ _ _ _ _) K size_ins (ins_one _ _ _ _ _) [.int .i64 0, .int .i64 0, .int .i64 0, .int .i64 0, .int .i64 0] (ins_ls _ _ _ _ _) ?_))
    (try simp only [Exit.inBlock, Exit.then])
    refine bodyPost_ret (ret_ins rfl _ _ N Ins.zero rfl (k3.out.set Ins.zero)) rfl ⟨Ins.zero, 11, rfl, hrd.out, ?_⟩
    exact Upd.setCells (.inr HN') _ _ V3.out
  case pos =>
    obtain ⟨o, ho, rfl⟩ := hex
    have hbeg := Lib.hid (hbg.out o ho rfl)
    have hhas : Maps.has D (ks o) = true := hM.out.yes o ho
    have hget := Lib.hid (hM.out.get o ho)
    have hkey := Lib.hid (key_name o ho)
    have T3 := Lib.hid (hT.kept V3.out)
    have L3 := Lib.hid (hL.kept V3.out)
    have hr2 := Lib.hid (show (strOf c2).size ≤ 1000 from by rw [strOf_size]; have := hlen.out.2; have := hsz.out; omega)
    have HTL := Lib.hid (And.intro hT hL)
    clear hno hbg hM hlen hsz hT hL
    obtain ⟨s1, hs1⟩ : ∃ s1, strOf (byts (opName o)) = s1 := ⟨_, rfl⟩
    rw [hs1] at hkey ⊢
    clear hs1
    generalize strOf c2 = s2 at hbeg hr2 ⊢
    have o0 : (0 : Int) ≤ (o : Int) := by omega
    have o1 : (o : Int) < 12 := by omega
    go_upto_region 6 with (at_lookup; refine wpList_lookup_own_ok_int _ rfl _ _ 57 rfl 9 3 .i64 keyLawS Tryd.underlying57 Tryd.underlying3 (hz.out _) MB 256 D rfl hown _ (ks o) rfl hkey.out ?_; intro c hat hwc; obtain rfl : (o : Int) = c := by { rw [hget.out] at hat; injection hat with hat; injection hat })
    have F4 := Lib.hid (show FourAt (w3.alloc (.cells #[.int .i64 0, .int .i64 0, .int .i64 0, .int .i64 0] 38)) w3.heap.size (fun _ => 0) from heap_alloc_last w3 _)
    have k4 := Lib.hid (k3.out.kept ((Upd.refl (fun _ => False) w3).alloc (.cells #[.int .i64 0, .int .i64 0, .int .i64 0, .int .i64 0] 38)) id)
    have V4 := Lib.hid (V3.out.alloc (.cells #[.int .i64 0, .int .i64 0, .int .i64 0, .int .i64 0] 38))
    have HA := Lib.hid (show N ≠ w3.heap.size ∧ w.heap.size ≤ w3.heap.size ∧ ¬ (1 = w3.heap.size) from ⟨Nat.ne_of_lt (lt_of_heap k3.out), V3.out.size, by have := V3.out.size; have := hglob.out; omega⟩)
    have T4 := Lib.hid (T3.out.kept ((Upd.refl (fun _ => False) w3).alloc (.cells #[.int .i64 0, .int .i64 0, .int .i64 0, .int .i64 0] 38)))
    have L4 := Lib.hid (L3.out.kept ((Upd.refl (fun _ => False) w3).alloc (.cells #[.int .i64 0, .int .i64 0, .int .i64 0, .int .i64 0] 38)))
    clear k3 V3 T3 L3 hglob hget hkey hhas hown
    generalize w3.alloc (.cells #[.int .i64 0, .int .i64 0, .int .i64 0, .int .i64 0] 38) = w4 at F4 k4 V4 T4 L4 ⊢
    generalize w3.heap.size = A at F4 HA ⊢
    have hh : Hid (∀ W, Tabs W → ∀ k, k < 4 → W.cell? ⟨0, o * 5 + 1 + k, none⟩ = some (.bool (hasK o k))) := Lib.hid (fun W h k hk => h.has o ho k hk)
    go_wp2_with fail
    go_loopw [5, 32] (fun t5 t32 wr => ∃ (k : Nat) (f : Nat → Int) (rs : ByteArray), k ≤ 4 ∧ t5 = .string rs ∧ t32 = .int .i64 k ∧ Hid (rs.size ≤ 1000) ∧ Hid (Upd (fun _ => False) w wr) ∧ Hid (FourAt wr A f) ∧ Hid (InsAt wr N Ins.zero) ∧ Hid (Tabs wr ∧ Libs wr) ∧ Hid (Hunch s o k f rs) ∧ Hid (∀ x, -9223372036854775808 ≤ f x ∧ f x ≤ 9223372036854775807) ∧ Hid (∀ x, k ≤ x → f x = 0)) (fun _ t32 _ => 4 - (intOf t32).toNat)
    case atStart => exact ⟨0, _, _, by omega, rfl, rfl, hr2, V4, F4, k4, Lib.hid ⟨T4.out, L4.out⟩, hbeg, Lib.hid (fun _ => by omega), Lib.hid (fun _ _ => rfl)⟩
    case round =>
      obtain ⟨k, f, rs, hk, rfl, rfl, hrs, hU, hF, hI, hTL, hH, hfb, hf0⟩ := hrel
      clear V4 F4 k4 T4 L4 hbeg hr2
      by_cases h4k : k < 4
      · have ha := hh.out _ hTL.out.1 k h4k
        obtain ⟨-, -, c3⟩ := hTL.out.1.pl k h4k
        have k0 : (0 : Int) ≤ (k : Int) := by omega
        have k4 : (k : Int) < 4 := by omega
        clear hh
        generalize hbe : hasK (o : Int) k = hb at ha
        cases hb
        · have hH' := Lib.hid (hunch_not hH.out h4k hbe (hf0.out k (Nat.le_refl _)))
          clear hH hbe c3
          go_wp2
          go_roundw
          case rel => exact ⟨k + 1, f, rs, by omega, rfl, by go_num, hrs, hU, hF, hI, hTL, hH', hfb, Lib.hid (fun x hx => hf0.out x (by omega))⟩
          case measure => simp [intOf]; omega
        · have hH' := Lib.hid (hunch_yes hH.out h4k hbe)
          have cC := Lib.hid (fun W => scut_any rs (by have := hrs.out; omega) W)
          have hl := Lib.hid (show (cutB rs.data.toList).1.length ≤ 1000 ∧ (cutB rs.data.toList).2.length ≤ 1000 from by
            have h1 := cutB_len rs.data.toList
            have h2 : rs.data.toList.length = rs.size := by cases rs; rfl
            have := hrs.out
            omega)
          clear hH hbe
          generalize (cutB rs.data.toList).1 = d1 at hH' cC hl
          generalize (cutB rs.data.toList).2 = d2 at hH' cC hl
          go_wp2_with fail
          refine (cC.out _).mono ?_
          rintro e w5 ⟨⟨fb5, rfl⟩, n5, rfl⟩
          have cT := Lib.hid (fun W => strim_any d1 (byts (sgK k)) W)
          have cA := Lib.hid (fun W (h : Libs W) => atoi_any (strOf (Lib.trimPrefix d1 (byts (sgK k)))) (by rw [strOf_size]; have := trim_len d1 (byts (sgK k)); have := hl.out.1; omega) W h.syn h.ran)
          have hbd := atoiV_bd (strOf (Lib.trimPrefix d1 (byts (sgK k))))
          generalize Lib.trimPrefix d1 (byts (sgK k)) = tr at cT cA hH' hbd
          generalize byts (sgK k) = sg at cT c3
          generalize atoiV (strOf tr) = z at cA hH' hbd
          replace hbd := Lib.hid hbd
          have hr5 := Lib.hid (show (strOf d2).size ≤ 1000 from by rw [strOf_size]; exact hl.out.2)
          clear hl cC
          generalize strOf d2 = rs' at hH' hr5 ⊢
          generalize strOf d1 = s5 at cT ⊢
          generalize strOf tr = s6 at cT cA
          generalize strOf sg = s7 at cT c3
          have U5 := Lib.hid (hU.out.drewN n5)
          have F5 := Lib.hid (show FourAt (wr.drewN n5) A f from hF.out)
          have I5 := Lib.hid (show InsAt (wr.drewN n5) N Ins.zero from hI.out)
          have T5 := Lib.hid (show Tabs (wr.drewN n5) ∧ Libs (wr.drewN n5) from ⟨hTL.out.1.kept ((Upd.refl _ _).drewN _), hTL.out.2.kept ((Upd.refl _ _).drewN _)⟩)
          have c5 : (wr.drewN n5).cell? ⟨1, k * 3 + 2, none⟩ = some (.string s7) := c3
          clear hU hF hI hTL c3 ha
          generalize wr.drewN n5 = w5 at U5 F5 I5 T5 c5 ⊢
          go_wp2_with fail
          refine (cT.out _).mono ?_
          rintro e w6 ⟨rfl, rfl⟩
          go_wp2_with fail
          refine (cA.out _ T5.out.2).mono ?_
          rintro e w7 ⟨er, rfl, u7⟩
          have U7 := Lib.hid (U5.out.trans u7)
          have F7 := Lib.hid (F5.out.kept u7 id)
          have I7 := Lib.hid (I5.out.kept u7 id)
          have T7 := Lib.hid (show Tabs w7 ∧ Libs w7 from ⟨T5.out.1.kept u7, T5.out.2.kept u7⟩)
          clear U5 F5 I5 T5 u7 cA cT c5
          have ce := F7.out.cell k h4k
          have fz := F7.out.free k
          have u8' := (Upd.refl (· = A) w7).setCell (p := ⟨A, k, none⟩) (.inl rfl) (.int .i64 z)
          have U8 := Lib.hid (U7.out.setCell (p := ⟨A, k, none⟩) (.inr HA.out.2.1) (.int .i64 z))
          have F8 := Lib.hid (F7.out.set k h4k z)
          have I8 := Lib.hid (I7.out.kept u8' HA.out.1)
          have T8 := Lib.hid (show Tabs (w7.setCell ⟨A, k, none⟩ (.int .i64 z)) ∧ Libs (w7.setCell ⟨A, k, none⟩ (.int .i64 z)) from ⟨HTL.out.1.kept U8.out, HTL.out.2.kept U8.out⟩)
          clear U7 I7 T7 u8'
          go_wp2
          go_roundw
          case rel => exact ⟨k + 1, _, rs', by omega, rfl, by go_num, hr5, U8, F8, I8, T8, hH', Lib.hid (fun x => by split; exact hbd.out; exact hfb.out x), Lib.hid (fun x hx => by rw [if_neg (by omega)]; exact hf0.out x (by omega))⟩
          case measure => simp [intOf]; omega
      · have e : k = 4 := by omega
        subst e
        have hend := Lib.hid (hunch_end hH.out)
        have hin := Lib.hid (show Ins.In ⟨o, f 0, f 1, f 2, f 3⟩ from ⟨by simp only; omega, hfb.out 0, hfb.out 1, hfb.out 2, hfb.out 3⟩)
        have R4 := hF.out.range
        have T4 := Lib.hid hTL.out
        clear hF hH hf0 hfb hh HTL hTL
        generalize f 0 = fa at R4 hend hin
        generalize f 1 = fbb at R4 hend hin
        generalize f 2 = fc at R4 hend hin
        generalize f 3 = fm at R4 hend hin
        have cI := Lib.hid (fun W => instr_any o fa fbb fc fm W)
        go_wp2_with (with_reducible refine wpList_load_sz rfl 38 (.tmp 9) rfl A 0 rfl [.int .i64 fa, .int .i64 fbb, .int .i64 fc, .int .i64 fm] _ R4 Tryd.underlying38 rfl 4 rfl size_i4 ?_)
        refine (cI.out _).mono ?_
        rintro e w5 ⟨rfl, u5⟩
        have k5 := Lib.hid (hI.out.kept u5 id)
        have V5 := Lib.hid (hU.out.trans u5)
        have T5 := Lib.hid (show Tabs w5 ∧ Libs w5 from ⟨T4.out.1.kept u5, T4.out.2.kept u5⟩)
        clear cI R4 hI hU u5 T4
        go_upto_region 15 with fail
        obtain ⟨u, hu⟩ : ∃ u : Ins, u = ⟨o, fa, fbb, fc, fm⟩ := ⟨_, rfl⟩
        have X6 := Lib.hid (show InsAt (w5.alloc (.cells #[.int .i64 o, .int .i64 fa, .int .i64 fbb, .int .i64 fc, .int .i64 fm] 23)) w5.heap.size u from by rw [hu]; exact heap_alloc_last w5 _)
        have u6 := (Upd.refl (fun _ => False) w5).alloc (.cells #[.int .i64 o, .int .i64 fa, .int .i64 fbb, .int .i64 fc, .int .i64 fm] 23)
        have k6 := Lib.hid (k5.out.kept u6 id)
        have V6 := Lib.hid (V5.out.trans u6)
        have T6 := Lib.hid (show Tabs _ ∧ Libs _ from ⟨T5.out.1.kept u6, T5.out.2.kept u6⟩)
        simp only [← hu] at hend hin
        clear k5 V5 u6 T5 hu
        generalize w5.alloc (.cells #[.int .i64 o, .int .i64 fa, .int .i64 fbb, .int .i64 fc, .int .i64 fm] 23) = w6 at X6 k6 V6 T6 ⊢
        generalize w5.heap.size = B at X6 ⊢
        have cW := Lib.hid (wtext_any u hin.out w6 T6.out.1 T6.out.2)
        go_wp2_with (with_reducible refine wpList_load_sz rfl 23 (.tmp 14) rfl B 0 rfl [.int .i64 u.op, .int .i64 u.a, .int .i64 u.b, .int .i64 u.c, .int .i64 u.m] _ X6.out.range Tryd.underlying23 rfl 5 (ins_len _ _ _ _ _) size_ins ?_)
        refine cW.out.mono ?_
        rintro e w7 ⟨rfl, u7⟩
        have X7 := Lib.hid (X6.out.kept u7 id)
        have k7 := Lib.hid (k6.out.kept u7 id)
        have V7 := Lib.hid (V6.out.trans u7)
        clear X6 k6 V6 u7 cW T6 hin
        have K := k7.out.there
        generalize u.tv = tv at hend ⊢
        generalize u.we = we at hend ⊢
        have HN' := HN.out
        by_cases hyes : we = 0 ∧ tv = s
        · have hr := Lib.hid (hend.out.1 hyes)
          obtain ⟨rfl, rfl⟩ := hyes
          clear hend
          go_wp2_with (first
            | (with_reducible refine wpList_load_sz rfl 23 (.tmp 14) rfl B 0 rfl [.int .i64 u.op, .int .i64 u.a, .int .i64 u.b, .int .i64 u.c, .int .i64 u.m] _ X7.out.range Tryd.underlying23 rfl 5 (ins_len _ _ _ _ _) size_ins ?_)
            | (with_reducible refine wpList_store_sz rfl 23 (.tmp 2) (.tmp 77) rfl N 0 #[.int .i64 u.op, .int .i64 u.a, .int .i64 u.b, .int .i64 u.c, .int .i64 u.m] rfl rfl 5 (ins_sz _ _ _ _ _) K size_ins (ins_one _ _ _ _ _) [.int .i64 u.op, .int .i64 u.a, .int .i64 u.b, .int .i64 u.c, .int .i64 u.m] (ins_ls _ _ _ _ _) ?_))
          (try simp only [Exit.inBlock, Exit.then])
          refine bodyPost_ret (ret_ins rfl _ _ N u rfl (k7.out.set u)) rfl ⟨u, 0, rfl, hr.out, ?_⟩
          exact Upd.setCells (.inr HN') _ _ V7.out
        · have hr := Lib.hid (hend.out.2 hyes)
          clear hend
          by_cases hw : we = 0
          · have hb : (tv.toList == s.toList) = false := str_ne fun e => hyes ⟨hw, e⟩
            have hb' : ¬ tv.toList = s.toList := by simpa using hb
            subst hw
            clear hyes
            go_wp2_with (with_reducible refine wpList_store_sz rfl 23 (.tmp 2) (.tmp 76) rfl N 0 #[.int .i64 0, .int .i64 0, .int .i64 0, .int .i64 0, .int .i64 0] rfl rfl 5 (ins_sz _ _ _ _ _) K size_ins (ins_one _ _ _ _ _) [.int .i64 0, .int .i64 0, .int .i64 0, .int .i64 0, .int .i64 0] (ins_ls _ _ _ _ _) ?_)
            (try simp only [Exit.inBlock, Exit.then])
            refine bodyPost_ret (ret_ins rfl _ _ N Ins.zero rfl (k7.out.set Ins.zero)) rfl ⟨Ins.zero, 11, rfl, hr.out, ?_⟩
            exact Upd.setCells (.inr HN') _ _ V7.out
          · have hb : (we != 0) = true := by simp [hw]
            clear hyes hw
            go_wp2_with (with_reducible refine wpList_store_sz rfl 23 (.tmp 2) (.tmp 76) rfl N 0 #[.int .i64 0, .int .i64 0, .int .i64 0, .int .i64 0, .int .i64 0] rfl rfl 5 (ins_sz _ _ _ _ _) K size_ins (ins_one _ _ _ _ _) [.int .i64 0, .int .i64 0, .int .i64 0, .int .i64 0, .int .i64 0] (ins_ls _ _ _ _ _) ?_)
            (try simp only [Exit.inBlock, Exit.then])
            refine bodyPost_ret (ret_ins rfl _ _ N Ins.zero rfl (k7.out.set Ins.zero)) rfl ⟨Ins.zero, 11, rfl, hr.out, ?_⟩
            exact Upd.setCells (.inr HN') _ _ V7.out
end Go.Proofs.YtgjppnbkklionaaDoor

/-
  Two instructions compared; the laws' awake over package isa; the tables out of what a row lists.
-/
namespace Go.Proofs.YtgjppnbkklionaaDoor
open Go.ChangeShapes Go.WideShapes Go.ChangeAt Go.RowKit

theorem run_eqId (d : Nat) (o a b c m o' a' b' c' m' : Int) (w : World) :
    (Op.equalIn (d + 2) 23 (.agg #[.int .i64 o, .int .i64 a, .int .i64 b, .int .i64 c, .int .i64 m]) (.agg #[.int .i64 o', .int .i64 a', .int .i64 b', .int .i64 c', .int .i64 m'])).run Tryd.prog w = .ok (decide (o = o' ∧ a = a' ∧ b = b' ∧ c = c' ∧ m = m')) w := by
  have hF : (Tryd.prog.fieldsOf 23).toList.map (fun f => (f.name == "_", f.type, f.offset)) = [(false, 3, 0), (false, 3, 1), (false, 3, 2), (false, 3, 3), (false, 3, 4)] := by kernel_rfl
  rw [run_equalIn_struct w (d + 1) _ _ _ (by kernel_rfl) (by kernel_rfl)]
  have hag : ∀ (e : TypeId) (d : TypeDesc), Tryd.prog.underlying e = some d → d.isRow = false → (isAgg e).run Tryd.prog w = .ok false w := by
    intro e d he hd
    unfold isAgg
    rw [Sem.run_bind, run_underlying he w]
    cases d <;> first | rfl | cases hd
  have hpart : ∀ (e : TypeId) (d : TypeDesc), Tryd.prog.underlying e = some d → d.isRow = false → ∀ (cs : Array Value) (i : Nat) (x : Value), cs[i]? = some x → (part e cs i).run Tryd.prog w = .ok x w := by
    intro e d he hd cs i x hx
    unfold part
    rw [Sem.run_bind, hag e d he hd]
    simp only [Result.andThen_ok, Bool.false_eq_true, if_false, hx]
    rfl
  have hlen := congrArg List.length hF
  rw [List.length_map] at hlen
  generalize (Tryd.prog.fieldsOf 23).toList = L at hF hlen ⊢
  match L, hlen with
  | [g0, g1, g2, g3, g4], _ =>
    simp only [List.map_cons, List.map_nil, List.cons.injEq, Prod.mk.injEq, and_true] at hF
    obtain ⟨⟨n0, t0, o0⟩, ⟨n1, t1, o1⟩, ⟨n2, t2, o2⟩, ⟨n3, t3, o3⟩, ⟨n4, t4, o4⟩⟩ := hF
    have n0 : g0.name ≠ "_" := by simpa using n0
    have n1 : g1.name ≠ "_" := by simpa using n1
    have n2 : g2.name ≠ "_" := by simpa using n2
    have n3 : g3.name ≠ "_" := by simpa using n3
    have n4 : g4.name ≠ "_" := by simpa using n4
    have ui := Tryd.underlying3
    have step : ∀ (X Y : Array Value) (g : Field) (fs : List Field) (x y : Value) (q : Bool), g.name ≠ "_" → (part g.type X g.offset).run Tryd.prog w = .ok x w → (part g.type Y g.offset).run Tryd.prog w = .ok y w →
        (Op.equalIn (d + 1) g.type x y).run Tryd.prog w = .ok q w → (Op.eqFields (d + 1) X Y (g :: fs)).run Tryd.prog w = if q = true then (Op.eqFields (d + 1) X Y fs).run Tryd.prog w else .ok false w := by
      intro X Y g fs x y q hn hx hy hq
      rw [Op.eqFields, if_pos hn, Sem.run_bind, hx, Result.andThen_ok, Sem.run_bind, hy, Result.andThen_ok, Sem.run_bind, hq, Result.andThen_ok]
      cases q
      · rfl
      · rfl
    rw [step _ _ g0 _ (.int .i64 o) (.int .i64 o') (o == o') n0 (by rw [t0, o0]; exact hpart _ _ ui rfl _ _ _ rfl) (by rw [t0, o0]; exact hpart _ _ ui rfl _ _ _ rfl) (by rw [t0]; exact run_equalIn_int w d _ .i64 .i64 _ _ ui),
      step _ _ g1 _ (.int .i64 a) (.int .i64 a') (a == a') n1 (by rw [t1, o1]; exact hpart _ _ ui rfl _ _ _ rfl) (by rw [t1, o1]; exact hpart _ _ ui rfl _ _ _ rfl) (by rw [t1]; exact run_equalIn_int w d _ .i64 .i64 _ _ ui),
      step _ _ g2 _ (.int .i64 b) (.int .i64 b') (b == b') n2 (by rw [t2, o2]; exact hpart _ _ ui rfl _ _ _ rfl) (by rw [t2, o2]; exact hpart _ _ ui rfl _ _ _ rfl) (by rw [t2]; exact run_equalIn_int w d _ .i64 .i64 _ _ ui),
      step _ _ g3 _ (.int .i64 c) (.int .i64 c') (c == c') n3 (by rw [t3, o3]; exact hpart _ _ ui rfl _ _ _ rfl) (by rw [t3, o3]; exact hpart _ _ ui rfl _ _ _ rfl) (by rw [t3]; exact run_equalIn_int w d _ .i64 .i64 _ _ ui),
      step _ _ g4 _ (.int .i64 m) (.int .i64 m') (m == m') n4 (by rw [t4, o4]; exact hpart _ _ ui rfl _ _ _ rfl) (by rw [t4, o4]; exact hpart _ _ ui rfl _ _ _ rfl) (by rw [t4]; exact run_equalIn_int w d _ .i64 .i64 _ _ ui)]
    by_cases e1 : o = o'
    · by_cases e2 : a = a'
      · by_cases e3 : b = b'
        · by_cases e4 : c = c'
          · by_cases e5 : m = m'
            · simp [e1, e2, e3, e4, e5, Op.eqFields]
            · simp [e1, e2, e3, e4, e5]
          · simp [e1, e2, e3, e4]
        · simp [e1, e2, e3]
      · simp [e1, e2]
    · simp [e1]
theorem run_eqI (i j : Ins) (b : Bool) (hb : decide (i = j) = b) (w : World) :
    (Op.equalIn 10000 23 (.agg #[.int .i64 i.op, .int .i64 i.a, .int .i64 i.b, .int .i64 i.c, .int .i64 i.m]) (.agg #[.int .i64 j.op, .int .i64 j.a, .int .i64 j.b, .int .i64 j.c, .int .i64 j.m])).run Tryd.prog w = .ok b w := by
  subst hb
  rw [run_eqId 9998 i.op i.a i.b i.c i.m j.op j.a j.b j.c j.m w]
  obtain ⟨io, ia, ib, ic, im⟩ := i
  obtain ⟨jo, ja, jb, jc, jm⟩ := j
  congr 1
  rw [decide_eq_decide]
  simp
/-- what a row of these laws lists -/
theorem tabs_of {w : World} (h1 : Fr.VarAt w 0 (Fr.datS (Rows.laid_trunnion_isa_operations (H := Unit)))) (h2 : Fr.VarAt w 1 (Fr.datS (Rows.laid_trunnion_isa_places (H := Unit)))) : Tabs w := ⟨h1, h2⟩
theorem libs_of {w : World} (h1 : Fr.VarAt w 5 (Fr.datS (Rows.laid_internal_strconv_uint64pow10 (H := Unit)))) (h2 : Fr.Sent w 3) (h3 : Fr.Sent w 4) : Libs w :=
  ⟨by
    have e : Fr.datS (Rows.laid_internal_strconv_uint64pow10 (H := Unit)) = Lib.pow10Tab.map fun z => Value.int .u64 z := by rfl
    rw [← e]; exact h1, h2, h3⟩
def iAdd : Ins := ⟨2, 1, 2, 3, 0⟩
def sAdd : ByteArray := ⟨#[97, 100, 100, 32, 114, 49, 32, 114, 50, 32, 114, 51]⟩
theorem iAdd_ok : iAdd.Ok := ⟨by decide, by decide, by decide, by decide, by decide, by decide, by decide, by decide, by decide⟩
theorem iAdd_right : iAdd.right = true := (Ins.right_iff iAdd).2 iAdd_ok
theorem iAdd_text : strOf (byts iAdd.text) = sAdd := by
  have d1 : digs 1 = [49] := digs_lt (by omega)
  have d2 : digs 2 = [50] := digs_lt (by omega)
  have d3 : digs 3 = [51] := digs_lt (by omega)
  have hp : iAdd.parts = [[114, 49], [114, 50], [114, 51]] := by
    show ([114 :: digs 1] ++ [114 :: digs 2] ++ [114 :: digs 3] ++ [] : List (List Nat)) = _
    rw [d1, d2, d3]
    rfl
  unfold Ins.text
  rw [hp]
  rfl
set_option maxHeartbeats 4000000 in
theorem isawake_any (w : World) (hT : Tabs w) (hL : Libs w) : Calls Tryd.prog 7 #[] w fun e w' => e = .returned (.bool true) ∧ Upd (fun _ => False) w w' := by
  have he := run_eqI iAdd iAdd true (by simp)
  have c1 := Lib.hid (fun W h => wword_any iAdd iAdd_ok.in W h)
  have c2 := Lib.hid (fun W h1 h2 => wtext_any iAdd iAdd_ok.in W h1 h2)
  have c3 := Lib.hid (fun W h1 h2 => wread_any sAdd (by decide) W h1 h2)
  rw [show iAdd.wv = 53506 from by unfold Ins.wv; rw [iAdd_right]; rfl, show iAdd.we = 0 from by unfold Ins.we; rw [iAdd_right]; rfl] at c1
  rw [show iAdd.tv = sAdd from by unfold Ins.tv; rw [iAdd_right, if_pos rfl, iAdd_text], show iAdd.we = 0 from by unfold Ins.we; rw [iAdd_right]; rfl] at c2
  have huq := Lib.hid (fun (i : Ins) (n : Int) (h : RdIs sAdd i n) => h.uniq (j := iAdd) (f := 0) (.inl ⟨iAdd_ok, iAdd_text, rfl⟩))
  have HT := Lib.hid hT
  have HL := Lib.hid hL
  clear hT hL
  have hX := heap_alloc_last w (.cells #[.int .i64 2, .int .i64 1, .int .i64 2, .int .i64 3, .int .i64 0] 23)
  replace hX := Lib.hid (show InsAt _ _ iAdd from hX)
  have U0 := Lib.hid ((Upd.refl (fun _ => False) w).alloc (.cells #[.int .i64 2, .int .i64 1, .int .i64 2, .int .i64 3, .int .i64 0] 23))
  go_enter Tryd.func7, Tryd.ntmps7
  go_upto_region 2 with fail
  generalize w.alloc (.cells #[.int .i64 2, .int .i64 1, .int .i64 2, .int .i64 3, .int .i64 0] 23) = w1 at hX U0 ⊢
  generalize w.heap.size = X at hX ⊢
  go_wp2_with (with_reducible refine wpList_load_sz rfl 23 (.tmp 1) rfl X 0 rfl [.int .i64 iAdd.op, .int .i64 iAdd.a, .int .i64 iAdd.b, .int .i64 iAdd.c, .int .i64 iAdd.m] _ hX.out.range Tryd.underlying23 rfl 5 (ins_len _ _ _ _ _) size_ins ?_)
  refine (c1.out _ (HT.out.kept U0.out)).mono ?_
  rintro e w2 ⟨rfl, u2⟩
  have U2 := Lib.hid (U0.out.trans u2)
  have X2 := Lib.hid (hX.out.kept u2 id)
  clear U0 hX u2
  go_wp2_with (with_reducible refine wpList_load_sz rfl 23 (.tmp 1) rfl X 0 rfl [.int .i64 iAdd.op, .int .i64 iAdd.a, .int .i64 iAdd.b, .int .i64 iAdd.c, .int .i64 iAdd.m] _ X2.out.range Tryd.underlying23 rfl 5 (ins_len _ _ _ _ _) size_ins ?_)
  refine (c2.out _ (HT.out.kept U2.out) (HL.out.kept U2.out)).mono ?_
  rintro e w3 ⟨rfl, u3⟩
  have U3 := Lib.hid (U2.out.trans u3)
  have X3 := Lib.hid (X2.out.kept u3 id)
  clear U2 X2 u3
  go_wp2_with fail
  refine (c3.out _ (HT.out.kept U3.out) (HL.out.kept U3.out)).mono ?_
  rintro e w4 ⟨i4, n4, rfl, h4, u4⟩
  obtain ⟨rfl, rfl⟩ := huq.out _ _ h4
  have U4 := Lib.hid (U3.out.trans u4)
  have X4 := Lib.hid (X3.out.kept u4 id)
  clear U3 X3 u4 h4 huq c1 c2 c3
  go_upto_region 5 with fail
  have k5 := Lib.hid (show InsAt (w4.alloc (.cells #[.int .i64 iAdd.op, .int .i64 iAdd.a, .int .i64 iAdd.b, .int .i64 iAdd.c, .int .i64 iAdd.m] 23)) w4.heap.size iAdd from heap_alloc_last w4 _)
  have u5 := (Upd.refl (fun _ => False) w4).alloc (.cells #[.int .i64 iAdd.op, .int .i64 iAdd.a, .int .i64 iAdd.b, .int .i64 iAdd.c, .int .i64 iAdd.m] 23)
  have X5 := Lib.hid (X4.out.kept u5 id)
  have U5 := Lib.hid (U4.out.trans u5)
  clear u5 X4 U4
  generalize w4.alloc (.cells #[.int .i64 iAdd.op, .int .i64 iAdd.a, .int .i64 iAdd.b, .int .i64 iAdd.c, .int .i64 iAdd.m] 23) = w5 at k5 X5 U5 ⊢
  generalize w4.heap.size = Y at k5 ⊢
  have hsa : sAdd.toList = [97, 100, 100, 32, 114, 49, 32, 114, 50, 32, 114, 51] := by rw [str_toList]; rfl
  go_wp2_with (first
    | (with_reducible refine wpList_load_sz rfl 23 (.tmp 6) rfl Y 0 rfl [.int .i64 iAdd.op, .int .i64 iAdd.a, .int .i64 iAdd.b, .int .i64 iAdd.c, .int .i64 iAdd.m] _ k5.out.range Tryd.underlying23 rfl 5 (ins_len _ _ _ _ _) size_ins ?_)
    | (with_reducible refine wpList_load_sz rfl 23 (.tmp 1) rfl X 0 rfl [.int .i64 iAdd.op, .int .i64 iAdd.a, .int .i64 iAdd.b, .int .i64 iAdd.c, .int .i64 iAdd.m] _ X5.out.range Tryd.underlying23 rfl 5 (ins_len _ _ _ _ _) size_ins ?_))
  go_ret
  exact ⟨rfl, U5.out⟩
end Go.Proofs.YtgjppnbkklionaaDoor

/-
  Package-level variables of integers and bools that a row lists: their cells, out of the row's condition. Over any program.
-/
namespace Go.Proofs.YtgjppnbkklionaaDoor.Fr
open Go.ChangeShapes Go.WideShapes Go.ChangeAt Go.RowKit
mutual
/-- the cells of a datum made of integers and bools -/
def datCells : DataW Unit → List Value
  | .lit (.int k z) => [.int k z]
  | .lit (.bool b) => [.bool b]
  | .agg ps => datAll ps
  | _ => []
def datAll : List (DataW Unit) → List Value
  | [] => []
  | d :: r => datCells d ++ datAll r
end
/-- the variable's cells -/
def VarIs (w : World) (g : Nat) (cs : List Value) : Prop := ∀ j v, cs[j]? = some v → w.cell? ⟨g, j, none⟩ = some v
theorem datAll_rows (k : Nat) : ∀ (xs : List (DataW Unit × List MemPlace)) (cs : List Value), cs.length = xs.length * k → (∀ i (h : i < xs.length), (cs.drop (i * k)).take k = datCells (xs[i]).1) → cs = datAll (xs.map (·.1))
  | [], cs, hl, _ => by
    have : cs = [] := List.eq_nil_of_length_eq_zero (by simpa using hl)
    subst this
    rfl
  | x :: xs, cs, hl, h => by
    have hl' : cs.length = xs.length * k + k := by rw [hl, List.length_cons, Nat.succ_mul]
    have h0 := h 0 (by simp)
    rw [Nat.zero_mul, List.drop_zero] at h0
    rw [← List.take_append_drop k cs, h0]
    simp only [List.map_cons, datAll, List.getElem_cons_zero]
    congr 1
    refine datAll_rows k xs _ (by rw [List.length_drop]; omega) fun i hi => ?_
    have := h (i + 1) (by simpa using hi)
    rw [Nat.succ_mul] at this
    simpa [List.drop_drop, Nat.add_comm] using this
theorem datAll_fs {P : Program} {g : TypeId → Option (List (Option IntKind))} : ∀ (fs : List Field) (o : Nat) (ks : List (Option IntKind)) (cs : List Value) (xs : List (DataW Unit × List MemPlace)), flatFs P g fs o = some ks → cs.length = ks.length → xs.length = fs.length →
      (∀ (i : Nat) (f : Field) (x : DataW Unit × List MemPlace), fs[i]? = some f → xs[i]? = some x → (cs.drop (f.offset - o)).take (P.cellsOf f.type) = datCells x.1) → cs = datAll (xs.map (·.1))
  | [], o, ks, cs, xs, hk, hl, hx, _ => by
    simp only [flatFs, Option.some.injEq] at hk
    subst hk
    have e1 : cs = [] := List.eq_nil_of_length_eq_zero (by simpa using hl)
    have e2 : xs = [] := List.eq_nil_of_length_eq_zero (by simpa using hx)
    subst e1 e2
    rfl
  | f :: fs, o, ks, cs, [], hk, hl, hx, h => by simp at hx
  | f :: fs, o, ks, cs, x :: xs, hk, hl, hx, h => by
    simp only [flatFs] at hk
    split at hk
    · rename_i l r hgl hr
      split at hk
      · rename_i hc
        obtain ⟨ho, hll⟩ := hc
        simp only [Option.some.injEq] at hk
        subst hk
        rw [List.length_append] at hl
        have h0 := h 0 f x rfl rfl
        rw [ho, Nat.sub_self, List.drop_zero] at h0
        rw [← List.take_append_drop (P.cellsOf f.type) cs, h0]
        simp only [List.map_cons, datAll]
        congr 1
        refine datAll_fs fs _ r _ xs hr (by rw [List.length_drop]; omega) (by simpa using hx) fun i f' x' hi hi' => ?_
        have hy := h (i + 1) f' x' hi hi'
        have hge : o + P.cellsOf f.type ≤ f'.offset := flatFs_ge hr i f' hi
        rw [List.drop_drop, show P.cellsOf f.type + (f'.offset - (o + P.cellsOf f.type)) = f'.offset - o from by omega]
        exact hy
      · cases hk
    · cases hk
theorem cells_flat {P : Program} {w : World} {base : Nat} {spare : Nat → Bool} {held : Bool} : ∀ (d : Nat) (t : TypeId) (ks : List (Option IntKind)) (fuel : Nat) (cs : List Value) (x : DataW Unit × List MemPlace),
    flat P d t = some ks → DataW.trod (fun _ => ()) P w base spare held fuel t cs = some x → cs = datCells x.1
  | 0, _, _, _, _, _, h, _ => by simp [flat] at h
  | d + 1, t, ks, fuel, cs, x, h, ht => by
    have hlen0 := (okLeaves_of (d + 1) t ks fuel cs x h ht).1
    unfold flat at h
    split at h
    · rename_i k hu
      obtain ⟨z, rfl, rfl, hw⟩ := DataW.trod_int hu ht
      rfl
    · rename_i hu
      obtain ⟨b, rfl, rfl⟩ := DataW.trod_bool hu ht
      rfl
    · rename_i n e hu
      split at h
      · rename_i l hl
        split at h
        · rename_i hc
          obtain ⟨c1, c2⟩ := hc
          obtain ⟨xs, m, _, rfl, hlen, hxl, hrd⟩ := DataW.trod_array hu ht
          show cs = datAll (xs.map (·.1))
          refine datAll_rows (P.cellsOf e) xs cs (by rw [hlen, c2, hxl]) fun i hi => ?_
          have := hrd i (by omega)
          rw [List.getElem?_eq_getElem hi] at this
          exact cells_flat d e l m _ _ hl this
        · cases h
      · cases h
    · rename_i fs hu
      split at h
      · rename_i l hl
        split at h
        · rename_i hc
          simp only [Option.some.injEq] at h
          subst h
          obtain ⟨xs, m, _, rfl, hlen, hxl, hrd⟩ := DataW.trod_struct hu ht
          show cs = datAll (xs.map (·.1))
          refine datAll_fs fs.toList 0 l cs xs hl hlen0 (by rw [hxl]; simp) fun i f x hi hx => ?_
          have hi' : fs[i]? = some f := by simpa using hi
          have := hrd i f hi'
          rw [hx] at this
          rw [Nat.sub_zero]
          have hfl : ∃ l', flat P d f.type = some l' := by
            clear this hi' hx hrd hlen hxl hlen0 ht
            revert i hi
            generalize (0 : Nat) = o at hl
            generalize fs.toList = F at hl
            clear hc
            induction F generalizing o l with
            | nil => intro i hi; simp at hi
            | cons a r ih =>
              intro i hi
              simp only [flatFs] at hl
              split at hl
              · rename_i l1 r1 h1 h2
                cases i with
                | zero => simp only [List.getElem?_cons_zero, Option.some.injEq] at hi; subst hi; exact ⟨_, h1⟩
                | succ i => exact ih _ _ h2 i hi
              · cases hl
          obtain ⟨l', hl'⟩ := hfl
          exact cells_flat d f.type l' m _ _ hl' this
        · cases h
      · cases h
    · cases h
/-- a listed variable's cells -/
theorem varIs_of_vars {P : Program} {w : World} (D : Nat) : ∀ (l : List (String × DataW Unit)) (ps : List MemPlace), DataW.LaidVars P w l ps → ∀ (n : String) (d : DataW Unit), (n, d) ∈ l → ∀ (g : Nat) (t : TypeId) (ks : List (Option IntKind)),
    P.globalNamed n = some g → (P.globals[g]?).map (·.type) = some t → flat P D t = some ks → VarIs w g (datCells d)
  | [], _, _, n, d, hm, _, _, _, _, _, _ => by cases hm
  | (n0, d0) :: r, ps, h, n, d, hm, g, t, ks, hg, ht, hf => by
    obtain ⟨g0, t0, cs, fuel, p, q, hg0, ht0, hv, hd, hr, _⟩ := h
    rcases List.mem_cons.1 hm with e | hm'
    · cases e
      obtain rfl := Option.some.inj (hg.symm.trans hg0)
      obtain rfl := Option.some.inj (ht.symm.trans ht0)
      have e := cells_flat D t ks fuel cs.toList _ hf hd
      intro j v hj
      rw [World.var?_cell hg0 hv j, ← hj, ← e]
      simp
    · exact varIs_of_vars D r q hr n d hm' g t ks hg ht hf
theorem varIs_of_laid {P : Program} {w : World} {l : List (String × DataW Unit)} (D : Nat) (h : laidMet P l w) (n : String) (d : DataW Unit) (hm : (n, d) ∈ l) {g : Nat} {t : TypeId} {ks : List (Option IntKind)}
    (hg : P.globalNamed n = some g) (ht : (P.globals[g]?).map (·.type) = some t) (hf : flat P D t = some ks) : VarIs w g (datCells d) := by
  obtain ⟨ps, hl, _⟩ := h
  exact varIs_of_vars D l ps hl n d hm g t ks hg ht hf
end Go.Proofs.YtgjppnbkklionaaDoor.Fr
