/-
  Texts that the laws stand on, joined: MmR, MmS, MmT, MmO, TbM, TbA, TbC, TbG, TbB, TbH, TbI.
-/
import Derived.Deep.CutBlock
import Derived.Deep.RegionHeld3
import Derived.Maps.AppendAt
import Derived.RangeFuncBox
import Derived.Shelf.Abstract
import Derived.Sort.OwnSortedInts
import Derived.Test.YtfdnfllefednjaaDoorPart6

/-
  The document's own unit: Find.
-/
namespace Go.Proofs.YtfdnfllefednjaaDoor
open Go.ChangeShapes Go.WideShapes Go.ChangeAt Go.RowKit Go.Shelf

/-- the document's unit of memory RA and buffer RC -/
structure RUnAt (w : World) (C RA RC : Nat) (root asid : Int) : Prop where
  head : w.heap[C]? = some (.cells #[.pointer (some ⟨RA, 0, none⟩), .pointer (some ⟨RC, 0, none⟩), .int .i64 root, .int .i64 asid] 47 (0, 0))
theorem RUnAt.kept {S : Nat → Prop} {w w' : World} {C RA RC : Nat} {root asid : Int} (h : RUnAt w C RA RC root asid) (u : Upd S w w') (hs : ¬ S C) : RUnAt w' C RA RC root asid := ⟨u.at h.head hs⟩
theorem RUnAt.lt {w : World} {C RA RC : Nat} {root asid : Int} (h : RUnAt w C RA RC root asid) : C < w.heap.size := lt_of_heap h.head
theorem RUnAt.c {w : World} {C RA RC : Nat} {root asid : Int} (h : RUnAt w C RA RC root asid) : w.cell? ⟨C, 0, none⟩ = some (.pointer (some ⟨RA, 0, none⟩)) ∧ w.cell? ⟨C, 1, none⟩ = some (.pointer (some ⟨RC, 0, none⟩)) ∧ w.cell? ⟨C, 2, none⟩ = some (.int .i64 root) ∧ w.cell? ⟨C, 3, none⟩ = some (.int .i64 asid) := by
  refine ⟨?_, ?_, ?_, ?_⟩ <;> (rw [cell_of_row w C _ _ _ _ h.head]; rfl)

set_option maxRecDepth 100000 in
set_option maxHeartbeats 4000000 in
theorem rufind_any (C RA RC : Nat) (root asid addr : Int) (wr : Bool) (at' : Int) (m : Mem) (B : Buf) (w : World) (h : RUnAt w C RA RC root asid) (hm : RefAt w RA m) (hb : RB w RC B) (hg : m.good) (hCR : C ≠ RC) (hAR : RA ≠ RC) (hBR : m.B ≠ RC) :
    Calls Tryd.prog 24 #[.pointer (some ⟨C, 0, none⟩), .int .i64 addr, .bool wr, .int .i64 at'] w fun e w' => e = .returned (.tuple #[.int .i64 (uF m B root asid addr wr at'), .int .i64 (uO m B root asid addr wr at'), .int .i64 (uX m B root asid addr wr at')]) ∧ RB w' RC (uB m B root asid addr at') ∧ Upd (· = RC) w w' := by
  cases hA : uArg asid addr at'
  · obtain ⟨e1, e2, e3, e4⟩ := uArg_no (m := m) (B := B) (root := root) (wr := wr) hA
    rw [e1, e2, e3, e4]
    clear e1 e2 e3 e4 hg hm hCR hAR hBR
    have HB := Lib.hid hb
    clear hb
    obtain ⟨-, -, -, c3⟩ := h.c
    have hA' : ¬ (asid ≠ 0 ∧ spB addr = true ∧ 0 ≤ at' ∧ at' < 8) := fun e => by rw [(uArg_iff _ _ _).2 e] at hA; cases hA
    have hsp : spB addr = true ↔ 0 ≤ addr ∧ addr ≤ 65535 := by unfold spB; simp
    rw [hsp] at hA'
    clear hA hsp
    by_cases h0 : asid = 0
    · subst h0
      clear hA'
      go_enter Tryd.func24, Tryd.ntmps24
      go_wp2
      go_ret3
      exact ⟨rfl, HB.out, Upd.refl _ _⟩
    · have e0 : (asid == 0) = false := by simp [h0]
      by_cases h1 : addr < 0
      · clear hA'
        go_enter Tryd.func24, Tryd.ntmps24
        go_wp2
        go_ret3
        exact ⟨rfl, HB.out, Upd.refl _ _⟩
      by_cases h2 : 65535 < addr
      · clear hA'
        go_enter Tryd.func24, Tryd.ntmps24
        go_wp2
        go_ret3
        exact ⟨rfl, HB.out, Upd.refl _ _⟩
      by_cases h3 : at' < 0
      · clear hA'
        go_enter Tryd.func24, Tryd.ntmps24
        go_wp2
        go_ret3
        exact ⟨rfl, HB.out, Upd.refl _ _⟩
      have h4 : 7 < at' := by
        by_cases c : 7 < at'
        · exact c
        · exact absurd ⟨h0, ⟨by omega, by omega⟩, by omega, by omega⟩ hA'
      clear hA'
      go_enter Tryd.func24, Tryd.ntmps24
      go_wp2
      go_ret3
      exact ⟨rfl, HB.out, Upd.refl _ _⟩
  · obtain ⟨h0, hsp, ha0, ha8⟩ := (uArg_iff _ _ _).1 hA
    have hr := Lib.hid (uArg_yes (m := m) (B := B) (root := root) (wr := wr) hA)
    have cF := Lib.hid (fun (W : World) (h : RB W RC B) => rfind_any RC B asid (spP addr) W h)
    have cW := Lib.hid (fun (W : World) (h : RefAt W RA m) => kwalk_any RA m root (spP addr) W h hg)
    have cP := Lib.hid (fun (l : Ln) (W : World) (h : RB W RC B) => rput_any RC B l.a l.p l.f l.w at' W h)
    have cX := Lib.hid (fun f (W : World) (h : RefAt W RA m) => rHas_any RA m f W h)
    have hadr : 0 ≤ addr ∧ addr ≤ 65535 := by unfold spB at hsp; simpa using hsp
    have hpg : spP addr = addr / 16 := by unfold spP; rw [if_pos hsp]
    have hof : spO addr = addr % 16 := by unfold spO; rw [if_pos hsp]
    have h1 : Hid (∀ l, B.find asid (spP addr) = some l → uLine m B root asid (spP addr) = some l ∧ uPut m B root asid (spP addr) at' = B) := Lib.hid (fun l e => by unfold uLine uPut; rw [e]; exact ⟨rfl, rfl⟩)
    have h2 : Hid (B.find asid (spP addr) = none → uLine m B root asid (spP addr) = m.wL root asid (spP addr) ∧ uPut m B root asid (spP addr) at' = match m.wL root asid (spP addr) with | some l => B.put l at' | none => B) := Lib.hid (fun e => by unfold uLine uPut; rw [e]; exact ⟨rfl, rfl⟩)
    have hL0 : Hid (m.wX root (spP addr) ≠ 0 → m.wL root asid (spP addr) = none) := Lib.hid (fun e => by unfold Mem.wL; rw [if_neg (fun c => e c.1)])
    have hL1 : Hid (m.wX root (spP addr) = 0 → m.ex (m.wE root (spP addr)).f 1 = true → m.wL root asid (spP addr) = some ⟨asid, spP addr, (m.wE root (spP addr)).f, (m.wE root (spP addr)).r⟩) := Lib.hid (fun a b => by unfold Mem.wL; rw [if_pos ⟨a, b⟩])
    have hL2 : Hid (m.ex (m.wE root (spP addr)).f 1 = false → m.wL root asid (spP addr) = none) := Lib.hid (fun e => by unfold Mem.wL; rw [if_neg (fun c => by rw [e] at c; cases c.2)])
    rw [hof] at hr
    rw [hpg] at hr cF cW h1 h2 hL0 hL1 hL2
    obtain ⟨g0, g1⟩ := hadr
    have e0 : (asid == 0) = false := by simp [h0]
    have HU := Lib.hid h
    have HM := Lib.hid hm
    have HB := Lib.hid hb
    have hN := Lib.hid (And.intro hCR (And.intro hAR hBR))
    have n1 : ¬ addr < 0 := by omega
    have n2 : ¬ 65535 < addr := by omega
    have n3 : ¬ at' < 0 := by omega
    have n4 : ¬ 7 < at' := by omega
    clear hA hsp h hm hg hb hCR hAR hBR ha0 ha8 h0 hpg hof
    generalize uX m B root asid addr wr at' = X at hr ⊢
    generalize uF m B root asid addr wr at' = Fr at hr ⊢
    generalize uO m B root asid addr wr at' = O at hr ⊢
    generalize uB m B root asid addr at' = B' at hr ⊢
    generalize uLine m B root asid (addr / 16) = R at hr h1 h2
    generalize uPut m B root asid (addr / 16) at' = PB at hr h1 h2
    generalize B.find asid (addr / 16) = F at cF h1 h2
    generalize m.wL root asid (addr / 16) = LL at h2 hL0 hL1 hL2
    generalize m.wX root (addr / 16) = XW at cW hL0 hL1
    generalize m.wE root (addr / 16) = E at cW hL1 hL2
    obtain ⟨ev, er, et, ef⟩ := E
    simp only at hL1 hL2
    obtain ⟨-, c1, -, c3⟩ := HU.out.c
    go_enter Tryd.func24, Tryd.ntmps24
    go_upto_region 4 with fail
    have hS := Lib.hid (show ∀ (W' : World), Upd (fun _ => False) w W' → W'.cell? ⟨C, 1, none⟩ = some (.pointer (some ⟨RC, 0, none⟩)) ∧ W'.cell? ⟨C, 3, none⟩ = some (.int .i64 asid) ∧ Upd (fun _ => False) w W' from fun W' u => ⟨u.cell c1 id, u.cell c3 id, u⟩)
    obtain ⟨fl, hfl⟩ : ∃ fl, fl = lnOf F := ⟨_, rfl⟩
    have Hfl := Lib.hid hfl
    rw [← hfl] at cF
    clear hfl
    obtain ⟨xa, xp, xf, xw⟩ := fl
    go_cut [12, 13] (fun s12 s13 wx => ∃ (D : Nat), s12 = .pointer (some ⟨D, 0, none⟩) ∧ s13 = .bool F.isSome ∧ Hid (w.heap.size ≤ D) ∧ Hid (LnAt wx D xa xp xf xw) ∧ Upd (fun _ => False) w wx)
    case first =>
      go_region_held3 (fun w' => w'.cell? ⟨C, 1, none⟩ = some (.pointer (some ⟨RC, 0, none⟩)) ∧ w'.cell? ⟨C, 3, none⟩ = some (.int .i64 asid) ∧ Upd (fun _ => False) w w')
        (first
          | assumption
          | exact hS.out _ (Upd.refl _ _).drew
          | exact hS.out _ ((Upd.refl _ _).drew.alloc _)
          | exact hS.out _ u7
          | exact hS.out _ (u7.alloc _)
          | exact hS.out _ ((((u7.setCell (.inr (Nat.le_refl _)) _).setCell (.inr (Nat.le_refl _)) _).setCell (.inr (Nat.le_refl _)) _).setCell (.inr (Nat.le_refl _)) _)
          | exact hS.out _ (((((u7.alloc _).setCell (.inr u7.size) _).setCell (.inr u7.size) _).setCell (.inr u7.size) _).setCell (.inr u7.size) _))
        (first
          | (go_at_call 61; go_split_ands; rename_i s1 s2 s3; refine (cF.out (w.alloc (.cells #[.int .i64 0, .int .i64 0, .int .i64 0, .bool false] 41)).drew (HB.out.kept s3 id)).mono ?_; rintro e w6 ⟨rfl, u6⟩; have u7 := s3.trans u6; have e7 : Hid (LnAt w6 w.heap.size 0 0 0 false) := Lib.hid (u6.at (heap_alloc_last w _) id); obtain ⟨e0, e1, e2, e3, z0, z1, z2, z3⟩ := e7.out.eight)
          | (go_at_call 61; go_split_ands; rename_i s1 s2 s3; refine (cF.out _ (HB.out.kept s3 id)).mono ?_; rintro e w6 ⟨rfl, u6⟩; have u7 := s3.trans u6))
      all_goals (go_wp2_with fail)
      all_goals go_meet
      all_goals
        first
          | exact ⟨w.heap.size, rfl, rfl, Lib.hid (Nat.le_refl _), Lib.hid (e7.out.set xa xp xf xw), (((u7.setCell (.inr (Nat.le_refl _)) _).setCell (.inr (Nat.le_refl _)) _).setCell (.inr (Nat.le_refl _)) _).setCell (.inr (Nat.le_refl _)) _⟩
          | exact ⟨w6.heap.size, rfl, rfl, Lib.hid u7.size, Lib.hid (heap_alloc_last w6 _), u7.alloc _⟩
    case rest =>
      obtain ⟨D, rfl, rfl, hDn, hD, u8⟩ := hcut
      have U2 := Lib.hid (HU.out.kept u8 id)
      have M2 := Lib.hid (HM.out.kept u8 id id)
      have B2 := Lib.hid (HB.out.kept u8 id)
      have W2 := Lib.hid u8
      have hDR := Lib.hid (show D ≠ RC from Nat.ne_of_gt (Nat.lt_of_lt_of_le HB.out.lt hDn.out))
      clear hS c1 c3 cF u8 HB
      cases F with
      | some l =>
        obtain ⟨rfl, rfl⟩ := h1.out l rfl
        have hl2 : l = ⟨xa, xp, xf, xw⟩ := Hfl.out.symm
        subst hl2
        have A9 := hD
        have B9 := B2
        have W9 := Lib.hid (W2.out.sub (S := (· = RC)))
        obtain ⟨w9, hw9⟩ : ∃ w9, w9 = wc := ⟨_, rfl⟩
        subst hw9
        clear h1 h2 hL0 hL1 hL2 cW cP Hfl hD B2 W2 U2 M2 hDR hDn
        have d0 := (HU.out.kept (S := (· = RC)) W9.out hN.out.1).c.1
        have MR := Lib.hid (HM.out.kept W9.out hN.out.2.1 hN.out.2.2)
        obtain ⟨-, -, q2, q3, -, -, -, -⟩ := A9.out.eight
        have Z := Lib.hid (show ∀ q, Calls Tryd.prog 48 #[.pointer (some ⟨RA, 0, none⟩), .int .i64 xf] (w9.drewN q) fun e w'' => e = .returned (.bool (m.ex xf 1)) ∧ ∃ p, w'' = w9.drewN p from fun q => still0 (cX.out xf _ (MR.out.kept ((Upd.refl (fun _ => False) _).drewN q) id id)))
        clear cX HU HM MR A9
        by_cases hw : wr = true ∧ xw = false
        · obtain ⟨rfl, rfl⟩ := hw
          obtain ⟨rfl, rfl, rfl, rfl⟩ := hr.out 9 (by simp [lnX])
          clear hr Z
          go_wp2
          go_ret3
          exact ⟨rfl, B9.out, W9.out⟩
        · have hwx : (wr && !xw) = false := by cases wr <;> cases xw <;> simp_all
          have hv : lnX m wr (some ⟨xa, xp, xf, xw⟩) = if m.ex xf 1 = true then 0 else 10 := by
            show (if wr = true ∧ xw = false then (9 : Int) else if m.ex xf 1 = true then 0 else 10) = _
            rw [if_neg hw]
          have HV := Lib.hid hv
          clear hv hw
          cases hb : m.ex xf 1
          · rw [hb] at Z
            obtain ⟨rfl, rfl, rfl, rfl⟩ := hr.out 10 (by rw [HV.out, hb]; rfl)
            clear hr hb HV
            cases wr <;> cases xw
            all_goals try (simp at hwx; done)
            all_goals clear hwx
            all_goals
              as_aux_lemma =>
                go_upto_region 13 with fail
                go_quiet ((go_at_call 48; exact Z.out _))
                go_wp2
                go_ret3
                have u2 := (Upd.refl (fun _ => False) w9).drewN nq
                exact ⟨rfl, B9.out.kept u2 id, W9.out.trans u2.sub⟩
          · rw [hb] at Z
            obtain ⟨rfl, rfl, rfl, rfl⟩ := hr.out 0 (by rw [HV.out, hb]; rfl)
            clear hr hb HV
            cases wr <;> cases xw
            all_goals try (simp at hwx; done)
            all_goals clear hwx
            all_goals
              as_aux_lemma =>
                go_upto_region 13 with fail
                go_quiet ((go_at_call 48; exact Z.out _))
                have q2' : (w9.drewN nq).cell? ⟨D, 2, none⟩ = w9.cell? ⟨D, 2, none⟩ := rfl
                rw [q2] at q2'
                go_wp2
                go_ret3
                have u2 := (Upd.refl (fun _ => False) w9).drewN nq
                exact ⟨rfl, B9.out.kept u2 id, W9.out.trans u2.sub⟩
      | none =>
        obtain ⟨rfl, hPB⟩ := h2.out rfl
        have HP := Lib.hid hPB
        clear h1 h2 hPB Hfl
        obtain ⟨c0, c1, c2, c3⟩ := U2.out.c
        go_upto_region 6 with fail
        have hS := Lib.hid (show ∀ (W' : World), Upd (fun _ => False) wc W' → W'.cell? ⟨C, 0, none⟩ = some (.pointer (some ⟨RA, 0, none⟩)) ∧ W'.cell? ⟨C, 2, none⟩ = some (.int .i64 root) ∧ Upd (fun _ => False) wc W' from fun W' u => ⟨u.cell c0 id, u.cell c2 id, u⟩)
        go_cut [14, 15, 16] (fun s14 s15 s16 wx => ∃ (D2 : Nat), s14 = .pointer (some ⟨D2, 0, none⟩) ∧ s16 = .int .i64 XW ∧ Hid (EntAt wx D2 ev er et ef) ∧ Upd (fun _ => False) wc wx)
        case first =>
          go_region_held3 (fun w' => w'.cell? ⟨C, 0, none⟩ = some (.pointer (some ⟨RA, 0, none⟩)) ∧ w'.cell? ⟨C, 2, none⟩ = some (.int .i64 root) ∧ Upd (fun _ => False) wc w')
            (first
              | assumption
              | exact hS.out _ (Upd.refl _ _).drew
              | exact hS.out _ ((Upd.refl _ _).drew.alloc _)
              | exact hS.out _ u7
              | exact hS.out _ (u7.alloc _)
              | exact hS.out _ ((((u7.setCell (.inr (Nat.le_refl _)) _).setCell (.inr (Nat.le_refl _)) _).setCell (.inr (Nat.le_refl _)) _).setCell (.inr (Nat.le_refl _)) _)
              | exact hS.out _ (((((u7.alloc _).setCell (.inr u7.size) _).setCell (.inr u7.size) _).setCell (.inr u7.size) _).setCell (.inr u7.size) _))
            (first
              | (go_at_call 62; go_split_ands; rename_i s1 s2 s3; refine (cW.out (wc.alloc (.cells #[.bool false, .bool false, .bool false, .int .i64 0] 34)).drew (M2.out.kept s3 id id)).mono ?_; rintro e w6 ⟨o, rfl, -, u6⟩; have u7 := s3.trans u6; have e7 : Hid (EntAt w6 wc.heap.size false false false 0) := Lib.hid (u6.at (heap_alloc_last wc _) id); obtain ⟨e0, e1, e2, e3, z0, z1, z2, z3⟩ := e7.out.eight)
              | (go_at_call 62; go_split_ands; rename_i s1 s2 s3; refine (cW.out _ (M2.out.kept s3 id id)).mono ?_; rintro e w6 ⟨o, rfl, -, u6⟩; have u7 := s3.trans u6))
          all_goals (go_wp2_with fail)
          all_goals go_meet
          all_goals
            first
              | exact ⟨wc.heap.size, rfl, rfl, Lib.hid (e7.out.set ev er et ef), (((u7.setCell (.inr (Nat.le_refl _)) _).setCell (.inr (Nat.le_refl _)) _).setCell (.inr (Nat.le_refl _)) _).setCell (.inr (Nat.le_refl _)) _⟩
              | exact ⟨w6.heap.size, rfl, rfl, Lib.hid (heap_alloc_last w6 _), u7.alloc _⟩
        case rest =>
          obtain ⟨D2, rfl, rfl, hE, u8⟩ := hcut
          obtain ⟨w5, hw5⟩ : ∃ w5, w5 = wc := ⟨_, rfl⟩
          subst hw5
          have U5 := Lib.hid (U2.out.kept u8 id)
          have M5 := Lib.hid (M2.out.kept u8 id id)
          have B5 := Lib.hid (B2.out.kept u8 id)
          have A5 := Lib.hid (hD.out.kept u8 id)
          have W5 := Lib.hid (W2.out.trans u8)
          obtain ⟨-, e1, -, e3, -, -, -, -⟩ := hE.out.eight
          clear c0 c1 c2 c3 hS U2 M2 B2 hD W2 u8 cW
          obtain ⟨c0, c1, -, c3⟩ := U5.out.c
          have Z := Lib.hid (show ∀ q, Calls Tryd.prog 48 #[.pointer (some ⟨RA, 0, none⟩), .int .i64 ef] (w5.drewN q) fun e w'' => e = .returned (.bool (m.ex ef 1)) ∧ ∃ p, w'' = w5.drewN p from fun q => still0 (cX.out ef _ (M5.out.kept ((Upd.refl (fun _ => False) _).drewN q) id id)))
          by_cases hX : XW = 0
          · subst hX
            cases hb : m.ex ef 1
            · rw [hb] at Z
              have hL := hL2.out hb
              subst hL
              have hP := HP.out
              simp only at hP
              subst hP
              obtain ⟨rfl, rfl, rfl, rfl⟩ := hr.out 10 rfl
              clear hr hL0 hL1 hL2 HP hb cP cX
              as_aux_lemma =>
                go_upto_region 7 with fail
                go_quiet ((go_at_call 48; exact Z.out _))
                go_wp2
                go_ret3
                have u2 := (Upd.refl (fun _ => False) w5).drewN nq
                exact ⟨rfl, B5.out.kept u2 id, (W5.out.trans u2).sub⟩
            · rw [hb] at Z
              have hL := hL1.out rfl hb
              subst hL
              have hP := HP.out
              simp only at hP
              subst hP
              clear hL0 hL1 hL2 HP hb
              have HE := Lib.hid (And.intro e1 e3)
              go_upto_region 7 with fail
              go_quiet ((go_at_call 48; exact Z.out _))
              go_upto_region 9 with fail
              refine wp_region_tail 10 (by kernel_rfl) (by kernel_rfl) ?_
              simp only [List.take_succ_cons, List.take_zero, List.drop_succ_cons, List.drop_zero]
              intro w6 hw6
              have u6 : Upd (fun _ => False) w5 w6 := by rw [hw6]; exact ((Upd.refl _ _).drewN _).drew
              have U6 := Lib.hid (U5.out.kept u6 id)
              have M6 := Lib.hid (M5.out.kept u6 id id)
              have B6 := Lib.hid (B5.out.kept u6 id)
              have A6 := Lib.hid (A5.out.kept u6 id)
              have W6 := Lib.hid (W5.out.trans u6)
              have q1 := u6.cell HE.out.1 id
              have q3 := u6.cell HE.out.2 id
              have q4 := U6.out.c.2.2.2
              clear hw6 u6 U5 M5 B5 A5 W5 HE e1 e3 c0 c1 c3 Z hE
              have K := A6.out.there
              iterate 10 still_step
              refine wpStill_nil ?_
              have a7 := A6.out.set asid (addr / 16) ef er
              have u7 : Upd (fun x => x = D) w6 (w6.setCells D 0 [.int .i64 asid, .int .i64 (addr / 16), .int .i64 ef, .bool er]) := Upd.setCells (S := fun x => x = D) (.inl rfl) _ _ (Upd.refl _ _)
              have hDC := Lib.hid (show C ≠ D from fun e => by have := HU.out.lt; have := hDn.out; omega)
              have hDM := Lib.hid (show RA ≠ D ∧ m.B ≠ D from ⟨fun e => by have := lt_of_heap HM.out.head; have := hDn.out; omega, fun e => by have := lt_of_heap HM.out.body; have := hDn.out; omega⟩)
              have U7 := Lib.hid (U6.out.kept u7 hDC.out)
              have M7 := Lib.hid (M6.out.kept u7 hDM.out.1 hDM.out.2)
              have B7 := Lib.hid (B6.out.kept u7 (Ne.symm hDR.out))
              have A7 := Lib.hid a7
              have W7 := Lib.hid (show Upd (fun _ => False) w (w6.setCells D 0 [.int .i64 asid, .int .i64 (addr / 16), .int .i64 ef, .bool er]) from Upd.setCells (.inr hDn.out) _ _ W6.out)
              clear a7 u7 q1 q3 q4
              go_upto_region 10 with (with_reducible refine wpList_store_sz rfl 41 (.tmp 12) (.tmp 90) rfl D 0 #[.int .i64 asid, .int .i64 (addr / 16), .int .i64 ef, .bool er] rfl rfl 4 (ln_sz _ _ _ _) K size_ln (ln_one _ _ _ _) [.int .i64 asid, .int .i64 (addr / 16), .int .i64 ef, .bool er] (ln_ls _ _ _ _) ?_)
              clear K A6 B6 W6 U6 M6
              generalize w6.setCells D 0 [.int .i64 asid, .int .i64 (addr / 16), .int .i64 ef, .bool er] = w7 at U7 M7 B7 A7 W7 ⊢
              refine wp_region_tail 6 (by kernel_rfl) (by kernel_rfl) ?_
              simp only [List.take_succ_cons, List.take_zero, List.drop_succ_cons, List.drop_zero]
              intro w8 hw8
              have u8 : Upd (fun _ => False) w7 w8 := by rw [hw8]; exact (Upd.refl _ _).drew
              have q1 := (U7.out.kept u8 id).c.2.1
              have B8 := Lib.hid (B7.out.kept u8 id)
              have A8 := Lib.hid (A7.out.kept u8 id)
              have W8 := Lib.hid (W7.out.trans u8)
              clear hw8 u8 B7 A7 W7 U7 M7
              iterate 4 still_step
              with_reducible refine wpStill_load_sz rfl 41 (.tmp 12) rfl D 0 rfl [.int .i64 asid, .int .i64 (addr / 16), .int .i64 ef, .bool er] _ A8.out.range Tryd.underlying41 rfl 4 (ln_len _ _ _ _) size_ln ?_
              simp only [Act.put, List.setIfInBounds_toArray, List.set_cons_succ, List.set_cons_zero]
              still_step
              refine wpStill_nil ?_
              go_wp2_with fail
              refine (cP.out ⟨asid, addr / 16, ef, er⟩ w8 B8.out).mono ?_
              rintro e w9 ⟨rfl, B9', uP⟩
              have A9 := Lib.hid (A8.out.kept uP hDR.out)
              have B9 := Lib.hid B9'
              have W9 := Lib.hid (W8.out.sub.trans uP)
              obtain ⟨xa, hxa⟩ : ∃ x, x = asid := ⟨_, rfl⟩
              obtain ⟨xp, hxp⟩ : ∃ x, x = addr / 16 := ⟨_, rfl⟩
              obtain ⟨xf, hxf⟩ : ∃ x, x = ef := ⟨_, rfl⟩
              obtain ⟨xw, hxw⟩ : ∃ x, x = er := ⟨_, rfl⟩
              rw [← hxa, ← hxp, ← hxf, ← hxw] at A9 B9 hr
              clear hxa hxp hxf hxw B9' uP A8 B8 W8 q1 cP
              have d0 := (HU.out.kept (S := (· = RC)) W9.out hN.out.1).c.1
              have MR := Lib.hid (HM.out.kept W9.out hN.out.2.1 hN.out.2.2)
              obtain ⟨-, -, q2, q3, -, -, -, -⟩ := A9.out.eight
              have Z := Lib.hid (show ∀ q, Calls Tryd.prog 48 #[.pointer (some ⟨RA, 0, none⟩), .int .i64 xf] (w9.drewN q) fun e w'' => e = .returned (.bool (m.ex xf 1)) ∧ ∃ p, w'' = w9.drewN p from fun q => still0 (cX.out xf _ (MR.out.kept ((Upd.refl (fun _ => False) _).drewN q) id id)))
              clear cX HU HM MR A9
              by_cases hw : wr = true ∧ xw = false
              · obtain ⟨rfl, rfl⟩ := hw
                obtain ⟨rfl, rfl, rfl, rfl⟩ := hr.out 9 (by simp [lnX])
                clear hr Z
                go_wp2
                go_ret3
                exact ⟨rfl, B9.out, W9.out⟩
              · have hwx : (wr && !xw) = false := by cases wr <;> cases xw <;> simp_all
                have hv : lnX m wr (some ⟨xa, xp, xf, xw⟩) = if m.ex xf 1 = true then 0 else 10 := by
                  show (if wr = true ∧ xw = false then (9 : Int) else if m.ex xf 1 = true then 0 else 10) = _
                  rw [if_neg hw]
                have HV := Lib.hid hv
                clear hv hw
                cases hb : m.ex xf 1
                · rw [hb] at Z
                  obtain ⟨rfl, rfl, rfl, rfl⟩ := hr.out 10 (by rw [HV.out, hb]; rfl)
                  clear hr hb HV
                  cases wr <;> cases xw
                  all_goals try (simp at hwx; done)
                  all_goals clear hwx
                  all_goals
                    as_aux_lemma =>
                      go_upto_region 13 with fail
                      go_quiet ((go_at_call 48; exact Z.out _))
                      go_wp2
                      go_ret3
                      have u2 := (Upd.refl (fun _ => False) w9).drewN nq
                      exact ⟨rfl, B9.out.kept u2 id, W9.out.trans u2.sub⟩
                · rw [hb] at Z
                  obtain ⟨rfl, rfl, rfl, rfl⟩ := hr.out 0 (by rw [HV.out, hb]; rfl)
                  clear hr hb HV
                  cases wr <;> cases xw
                  all_goals try (simp at hwx; done)
                  all_goals clear hwx
                  all_goals
                    as_aux_lemma =>
                      go_upto_region 13 with fail
                      go_quiet ((go_at_call 48; exact Z.out _))
                      have q2' : (w9.drewN nq).cell? ⟨D, 2, none⟩ = w9.cell? ⟨D, 2, none⟩ := rfl
                      rw [q2] at q2'
                      go_wp2
                      go_ret3
                      have u2 := (Upd.refl (fun _ => False) w9).drewN nq
                      exact ⟨rfl, B9.out.kept u2 id, W9.out.trans u2.sub⟩
          · have hX' : (XW != 0) = true := by simp [hX]
            have hL := hL0.out hX
            subst hL
            have hP := HP.out
            simp only at hP
            subst hP
            obtain ⟨rfl, rfl, rfl, rfl⟩ := hr.out 10 rfl
            clear hr hL0 hL1 hL2 HP cP cX
            as_aux_lemma =>
              go_upto_region 7 with fail
              go_quiet ((go_at_call 48; exact Z.out _))
              go_wp2
              go_ret3
              have u2 := (Upd.refl (fun _ => False) w5).drewN nq
              exact ⟨rfl, B5.out.kept u2 id, (W5.out.trans u2).sub⟩
end Go.Proofs.YtfdnfllefednjaaDoor

/-
  The document's own unit: Load, Store, Use.
-/
namespace Go.Proofs.YtfdnfllefednjaaDoor
open Go.ChangeShapes Go.WideShapes Go.ChangeAt Go.RowKit Go.Shelf

set_option maxRecDepth 100000 in
set_option maxHeartbeats 1000000 in
theorem ruload_any (C RA RC : Nat) (root asid addr at' : Int) (m : Mem) (B : Buf) (w : World) (h : RUnAt w C RA RC root asid) (hm : RefAt w RA m) (hb : RB w RC B) (hg : m.good) (hCR : C ≠ RC) (hAR : RA ≠ RC) (hBR : m.B ≠ RC) :
    Calls Tryd.prog 14 #[.pointer (some ⟨C, 0, none⟩), .int .i64 addr, .int .i64 at'] w fun e w' => e = .returned (.tuple #[.int .u64 (uW m B root asid addr at'), .int .i64 (uX m B root asid addr false at')]) ∧ RB w' RC (uB m B root asid addr at') ∧ Upd (· = RC) w w' := by
  have cF := Lib.hid (rufind_any C RA RC root asid addr false at' m B w h hm hb hg hCR hAR hBR)
  have hz := Lib.hid (uX_zero (m := m) (B := B) (root := root) (asid := asid) (addr := addr) (wr := false) (at' := at'))
  have hW : Hid (uW m B root asid addr at' = if uX m B root asid addr false at' = 0 then m.rd (16 * uF m B root asid addr false at' + uO m B root asid addr false at') else 0) := Lib.hid rfl
  generalize uW m B root asid addr at' = W at hW ⊢
  generalize uX m B root asid addr false at' = X at hW hz cF ⊢
  generalize uF m B root asid addr false at' = F at hW hz cF
  generalize uO m B root asid addr false at' = O at hW hz cF
  generalize uB m B root asid addr at' = B' at cF ⊢
  have HU := Lib.hid h
  have HM := Lib.hid hm
  have hn := Lib.hid hm.hi
  have hN := Lib.hid (And.intro hCR (And.intro hAR hBR))
  clear h hm hb hg hCR hAR hBR
  go_enter Tryd.func14, Tryd.ntmps14
  go_wp2_with fail
  refine cF.out.mono ?_
  rintro e w1 ⟨rfl, b1, u1⟩
  have B1 := Lib.hid b1
  have V1 := Lib.hid u1
  clear b1 u1 cF
  by_cases hX : X = 0
  · subst hX
    obtain ⟨⟨f1, f2⟩, o1, o2⟩ := hz.out rfl
    have c0 := (HU.out.kept V1.out hN.out.1).c.1
    have MR := Lib.hid (HM.out.kept V1.out hN.out.2.1 hN.out.2.2)
    have c1 := MR.out.cellA
    obtain ⟨f, rfl⟩ := Int.eq_ofNat_of_zero_le f1
    obtain ⟨o, rfl⟩ := Int.eq_ofNat_of_zero_le o1
    have hf256 := hn.out
    have hlt : 16 * f + o < 16 * m.n := by omega
    have c2 := MR.out.cellB (16 * f + o) hlt
    have hW' : W = m.at (16 * f + o) := by
      rw [hW.out, if_pos rfl]
      unfold Mem.rd
      rw [show m.has (16 * (f : Int) + (o : Int)) = true from decide_eq_true (by omega), if_pos rfl, show (16 * (f : Int) + (o : Int)).toNat = 16 * f + o from by omega]
    rw [← hW'] at c2
    have e1 := IntWalk.i64_in (16 * (f : Int)) (by omega)
    have e2 := IntWalk.i64_in (16 * (f : Int) + (o : Int)) (by omega)
    have e3 : (16 * (f : Int) + (o : Int)) = ((16 * f + o : Nat) : Int) := by omega
    obtain ⟨k, hk⟩ : ∃ k, k = 16 * f + o := ⟨_, rfl⟩
    rw [← hk] at c2 e3 hlt
    have i0 : (0 : Int) ≤ (16 * (f : Int) + (o : Int)) := by omega
    have i1 : (16 * (f : Int) + (o : Int)) < ((16 * m.n : Nat) : Int) := by omega
    clear hz hW HM HU hn MR hW' hk
    go_wp2
    go_ret2
    exact ⟨rfl, B1.out, V1.out⟩
  · have hW' : W = 0 := by rw [hW.out, if_neg hX]
    subst hW'
    have hX' : (X != 0) = true := by simp [hX]
    clear hz hW HM HU hn
    go_wp2
    go_ret2
    exact ⟨rfl, B1.out, V1.out⟩
set_option maxRecDepth 100000 in
set_option maxHeartbeats 1000000 in
theorem rustore_any (C RA RC : Nat) (root asid addr v at' : Int) (m : Mem) (B : Buf) (w : World) (h : RUnAt w C RA RC root asid) (hm : RefAt w RA m) (hb : RB w RC B) (hg : m.good) (hCR : C ≠ RC) (hAR : RA ≠ RC) (hBR : m.B ≠ RC) :
    Calls Tryd.prog 16 #[.pointer (some ⟨C, 0, none⟩), .int .i64 addr, .int .u64 v, .int .i64 at'] w fun e w' => e = .returned (.int .i64 (uX m B root asid addr true at')) ∧ RB w' RC (uB m B root asid addr at') ∧ RefAt w' RA (uM m B root asid addr v at') ∧ Upd (fun k => k = RC ∨ k = m.B) w w' := by
  have cF := Lib.hid (rufind_any C RA RC root asid addr true at' m B w h hm hb hg hCR hAR hBR)
  have hz := Lib.hid (uX_zero (m := m) (B := B) (root := root) (asid := asid) (addr := addr) (wr := true) (at' := at'))
  have hM : Hid (uM m B root asid addr v at' = if uX m B root asid addr true at' = 0 then m.wr (16 * uF m B root asid addr true at' + uO m B root asid addr true at') v else m) := Lib.hid rfl
  generalize uM m B root asid addr v at' = M' at hM ⊢
  generalize uX m B root asid addr true at' = X at hM hz cF ⊢
  generalize uF m B root asid addr true at' = F at hM hz cF
  generalize uO m B root asid addr true at' = O at hM hz cF
  generalize uB m B root asid addr at' = B' at cF ⊢
  have HU := Lib.hid h
  have HM := Lib.hid hm
  have hn := Lib.hid hm.hi
  have hN := Lib.hid (And.intro hCR (And.intro hAR hBR))
  clear h hm hb hg hCR hAR hBR
  go_enter Tryd.func16, Tryd.ntmps16
  go_wp2_with fail
  refine cF.out.mono ?_
  rintro e w1 ⟨rfl, b1, u1⟩
  have B1 := Lib.hid b1
  have V1 := Lib.hid (show Upd (fun k => k = RC ∨ k = m.B) w w1 from u1.mono fun _ _ e => .inl e)
  have MR := Lib.hid (HM.out.kept u1 hN.out.2.1 hN.out.2.2)
  have c0 := (HU.out.kept u1 hN.out.1).c.1
  clear b1 u1 cF HU HM
  by_cases hX : X = 0
  · subst hX
    obtain ⟨⟨f1, f2⟩, o1, o2⟩ := hz.out rfl
    have c1 := MR.out.cellA
    obtain ⟨f, rfl⟩ := Int.eq_ofNat_of_zero_le f1
    obtain ⟨o, rfl⟩ := Int.eq_ofNat_of_zero_le o1
    have hf256 := hn.out
    have hlt : 16 * f + o < 16 * m.n := by omega
    have c2 := MR.out.cellB (16 * f + o) hlt
    have z2 := MR.out.freeB (16 * f + o)
    have hM' : M' = m.lay (16 * f + o) [v] := by
      rw [hM.out, if_pos rfl]
      unfold Mem.wr
      rw [show m.has (16 * (f : Int) + (o : Int)) = true from decide_eq_true (by omega), if_pos rfl, show (16 * (f : Int) + (o : Int)).toNat = 16 * f + o from by omega]
    have HM' := Lib.hid hM'
    have R2 := Lib.hid (MR.out.lay1 (16 * f + o) v hlt)
    have e1 := IntWalk.i64_in (16 * (f : Int)) (by omega)
    have e2 := IntWalk.i64_in (16 * (f : Int) + (o : Int)) (by omega)
    have e3 : (16 * (f : Int) + (o : Int)) = ((16 * f + o : Nat) : Int) := by omega
    obtain ⟨k, hk⟩ : ∃ k, k = 16 * f + o := ⟨_, rfl⟩
    rw [← hk] at c2 e3 hlt z2 R2 HM'
    have i0 : (0 : Int) ≤ (16 * (f : Int) + (o : Int)) := by omega
    have i1 : (16 * (f : Int) + (o : Int)) < ((16 * m.n : Nat) : Int) := by omega
    clear hz hM hn MR hM' hk
    go_wp2
    go_ret
    exact ⟨rfl, B1.out.kept ((Upd.refl (fun x => x = m.B) w1).setCell (.inl rfl) _) (Ne.symm hN.out.2.2), by rw [HM'.out]; exact R2.out, V1.out.setCell (.inl (.inr rfl)) _⟩
  · have hM' : M' = m := by rw [hM.out, if_neg hX]
    subst hM'
    have hX' : (X != 0) = true := by simp [hX]
    clear hz hM hn
    go_wp2
    go_ret
    exact ⟨rfl, B1.out, MR.out, V1.out⟩
theorem RUnAt.set {w : World} {C RA RC : Nat} {root asid : Int} (h : RUnAt w C RA RC root asid) (r a : Int) : RUnAt ((w.setCell ⟨C, 2, none⟩ (.int .i64 r)).setCell ⟨C, 3, none⟩ (.int .i64 a)) C RA RC r a := by
  have h1 := heap_setCell_same (C := [_, _, _, _]) h.head 2 (.int .i64 r)
  exact ⟨heap_setCell_same (C := [_, _, _, _]) h1 3 (.int .i64 a)⟩
set_option maxHeartbeats 1000000 in
theorem ruuse_any (C RA RC : Nat) (root asid r a : Int) (m : Mem) (w : World) (h : RUnAt w C RA RC root asid) (hm : RefAt w RA m) :
    Calls Tryd.prog 12 #[.pointer (some ⟨C, 0, none⟩), .int .i64 r, .int .i64 a] w fun e w' => e = .returned (.int .i64 (if useB m r a = true then 0 else 1)) ∧ RUnAt w' C RA RC (if useB m r a = true then r else root) (if useB m r a = true then a else asid) ∧ Upd (· = C) w w' := by
  have cx := Lib.hid (rHas_any RA m r w hm)
  have HU := Lib.hid h
  have hb : Hid (useB m r a = (m.ex r 1 && decide (1 ≤ a ∧ a ≤ 8))) := Lib.hid rfl
  obtain ⟨c0, -, c2, c3⟩ := h.c
  have z2 := frozen_block h.head 2
  have z3 := frozen_block h.head 3
  generalize useB m r a = ub at hb ⊢
  clear h hm
  cases he : m.ex r 1
  · rw [he] at cx hb
    have hu : ub = false := hb.out
    subst hu
    clear hb he
    go_enter Tryd.func12, Tryd.ntmps12
    go_wp2_with fail
    refine cx.out.mono ?_
    rintro e w1 ⟨rfl, rfl⟩
    go_wp2
    go_ret
    exact ⟨rfl, HU.out, Upd.refl _ _⟩
  · rw [he] at cx hb
    by_cases h1 : a < 1
    · have hu : ub = false := by rw [hb.out]; simp; omega
      subst hu
      clear hb he
      go_enter Tryd.func12, Tryd.ntmps12
      go_wp2_with fail
      refine cx.out.mono ?_
      rintro e w1 ⟨rfl, rfl⟩
      go_wp2
      go_ret
      exact ⟨rfl, HU.out, Upd.refl _ _⟩
    · by_cases h8 : 8 < a
      · have hu : ub = false := by rw [hb.out]; simp; omega
        subst hu
        clear hb he
        go_enter Tryd.func12, Tryd.ntmps12
        go_wp2_with fail
        refine cx.out.mono ?_
        rintro e w1 ⟨rfl, rfl⟩
        go_wp2
        go_ret
        exact ⟨rfl, HU.out, Upd.refl _ _⟩
      · have hu : ub = true := by rw [hb.out]; simp; omega
        subst hu
        clear hb he
        go_enter Tryd.func12, Tryd.ntmps12
        go_wp2_with fail
        refine cx.out.mono ?_
        rintro e w1 ⟨rfl, rfl⟩
        go_wp2
        go_ret
        have key : ∀ (k : Nat) (v : Value) (w1 : World), Upd (fun x => x = C) w w1 → Upd (fun x => x = C) w (w1.setCell ⟨C, k, none⟩ v) := fun k v w1 h => h.setCell (.inl rfl) _
        exact ⟨rfl, HU.out.set r a, key _ _ _ (key _ _ _ (Upd.refl _ _))⟩
end Go.Proofs.YtfdnfllefednjaaDoor

/-
  Both units side by side.
-/
namespace Go.Proofs.YtfdnfllefednjaaDoor
open Go.ChangeShapes Go.WideShapes Go.ChangeAt Go.RowKit Go.Shelf

theorem Mem.re_wL (m : Mem) (B : Nat) (root asid q : Int) : (m.re B).wL root asid q = m.wL root asid q := by
  unfold Mem.wL
  rw [Mem.re_wX, Mem.re_wE]
  rfl
theorem re_uLine (m : Mem) (X : Nat) (B : Buf) (root asid q : Int) : uLine (m.re X) B root asid q = uLine m B root asid q := by
  unfold uLine; rw [Mem.re_wL]
theorem re_uPut (m : Mem) (X : Nat) (B : Buf) (root asid q at' : Int) : uPut (m.re X) B root asid q at' = uPut m B root asid q at' := by
  unfold uPut; rw [Mem.re_wL]
theorem re_lnX (m : Mem) (X : Nat) (wr : Bool) (l : Option Ln) : lnX (m.re X) wr l = lnX m wr l := by
  cases l <;> rfl
theorem re_uX (m : Mem) (X : Nat) (B : Buf) (root asid addr : Int) (wr : Bool) (at' : Int) : uX (m.re X) B root asid addr wr at' = uX m B root asid addr wr at' := by
  unfold uX; rw [re_uLine, re_lnX]
theorem re_uF (m : Mem) (X : Nat) (B : Buf) (root asid addr : Int) (wr : Bool) (at' : Int) : uF (m.re X) B root asid addr wr at' = uF m B root asid addr wr at' := by
  unfold uF; rw [re_uX, re_uLine]
theorem re_uO (m : Mem) (X : Nat) (B : Buf) (root asid addr : Int) (wr : Bool) (at' : Int) : uO (m.re X) B root asid addr wr at' = uO m B root asid addr wr at' := by
  unfold uO; rw [re_uX]
theorem re_uB (m : Mem) (X : Nat) (B : Buf) (root asid addr at' : Int) : uB (m.re X) B root asid addr at' = uB m B root asid addr at' := by
  unfold uB; rw [re_uPut]
theorem re_uW (m : Mem) (X : Nat) (B : Buf) (root asid addr at' : Int) : uW (m.re X) B root asid addr at' = uW m B root asid addr at' := by
  unfold uW; rw [re_uX, re_uF, re_uO]; rfl
theorem re_uM (m : Mem) (X : Nat) (B : Buf) (root asid addr v at' : Int) : uM (m.re X) B root asid addr v at' = (uM m B root asid addr v at').re X := by
  unfold uM; rw [re_uX, re_uF, re_uO, Mem.re_wr]; split <;> rfl
/-- both units -/
structure Duet (w : World) (U MA BA MB C RA RC RM : Nat) (root asid : Int) (m : Mem) (B : Buf) : Prop where
  P : Mmu w U MA BA MB root asid m B
  R : RUnAt w C RA RC root asid
  M : RefAt w RA (m.re RM)
  K : RB w RC B
  ne : C ≠ RC ∧ RA ≠ RC ∧ RM ≠ RC ∧ C ≠ RM ∧ C ≠ RA ∧ RA ≠ RM
  ap : ∀ i j, (i = U ∨ i = MA ∨ i = BA ∨ i = MB ∨ i = 0) → (j = C ∨ j = RA ∨ j = RC ∨ j = RM) → i ≠ j
  n8 : m.n = 8
def RuS (C RC RM : Nat) : Nat → Prop := fun k => k = C ∨ k = RC ∨ k = RM
def DuS (U BA MB C RC RM : Nat) : Nat → Prop := fun k => k = U ∨ k = BA ∨ k = MB ∨ k = C ∨ k = RC ∨ k = RM
section
variable {w w1 w2 : World} {U MA BA MB C RA RC RM : Nat} {root asid : Int} {m : Mem} {B : Buf}
theorem Duet.still (h : Duet w U MA BA MB C RA RC RM root asid m B) (u : Upd (fun _ => False) w w1) : Duet w1 U MA BA MB C RA RC RM root asid m B :=
  ⟨h.P.still u, h.R.kept u id, h.M.kept u id id, h.K.kept u id, h.ne, h.ap, h.n8⟩
theorem Duet.mid (h : Duet w U MA BA MB C RA RC RM root asid m B) (u : Upd (MmS U BA MB) w w1) : RUnAt w1 C RA RC root asid ∧ RefAt w1 RA (m.re RM) ∧ RB w1 RC B := by
  have a := h.ap
  have k : ∀ j, (j = C ∨ j = RA ∨ j = RC ∨ j = RM) → ¬ MmS U BA MB j := fun j hj e => by
    rcases e with e | e | e
    · exact a U j (.inl rfl) hj e.symm
    · exact a BA j (.inr (.inr (.inl rfl))) hj e.symm
    · exact a MB j (.inr (.inr (.inr (.inl rfl)))) hj e.symm
  exact ⟨h.R.kept u (k C (.inl rfl)), h.M.kept u (k RA (.inr (.inl rfl))) (k RM (.inr (.inr (.inr rfl)))), h.K.kept u (k RC (.inr (.inr (.inl rfl))))⟩
theorem Duet.join {root' asid' : Int} {m' : Mem} {B' : Buf} (h : Duet w U MA BA MB C RA RC RM root asid m B) (P : Mmu w1 U MA BA MB root' asid' m' B') (u : Upd (RuS C RC RM) w1 w2) (R : RUnAt w2 C RA RC root' asid') (M : RefAt w2 RA (m'.re RM)) (K : RB w2 RC B') (hn : m'.n = 8) :
    Duet w2 U MA BA MB C RA RC RM root' asid' m' B' := by
  have a := h.ap
  have k : ∀ i, (i = U ∨ i = MA ∨ i = BA ∨ i = MB ∨ i = 0) → ¬ RuS C RC RM i := fun i hi e => by
    rcases e with e | e | e
    · exact a i C hi (.inl rfl) e
    · exact a i RC hi (.inr (.inr (.inl rfl))) e
    · exact a i RM hi (.inr (.inr (.inr rfl))) e
  exact ⟨P.kept u (k U (.inl rfl)) (k MA (.inr (.inl rfl))) (k BA (.inr (.inr (.inl rfl)))) (k MB (.inr (.inr (.inr (.inl rfl))))) (k _ (.inr (.inr (.inr (.inr rfl))))), R, M, K, h.ne, h.ap, hn⟩
theorem DuS.of (u : Upd (MmS U BA MB) w w1) (v : Upd (RuS C RC RM) w1 w2) : Upd (DuS U BA MB C RC RM) w w2 :=
  (u.mono (T := DuS U BA MB C RC RM) fun _ _ e => by unfold MmS at e; unfold DuS; omega).trans (v.mono (T := DuS U BA MB C RC RM) fun _ _ e => by unfold RuS at e; unfold DuS; omega)
theorem Duet.lt (h : Duet w U MA BA MB C RA RC RM root asid m B) : ∀ k, DuS U BA MB C RC RM k → k < w.heap.size := by
  have l1 := h.P.lts
  have l2 := h.R.lt
  have l3 := h.K.lt
  have l4 := lt_of_heap h.M.body
  unfold DuS
  rintro k (rfl | rfl | rfl | rfl | rfl | rfl)
  · exact l1 _ (.inl rfl)
  · exact l1 _ (.inr (.inl rfl))
  · exact l1 _ (.inr (.inr rfl))
  · exact l2
  · exact l3
  · exact l4
theorem Duet.load (h : Duet w U MA BA MB C RA RC RM root asid m B) (addr at' : Int) :
    Calls Tryd.prog 13 #[.pointer (some ⟨U, 0, none⟩), .int .i64 addr, .int .i64 at'] w fun e w1 => ∃ y x : Int, e = .returned (.tuple #[.int .u64 y, .int .i64 x]) ∧ Upd (MmS U BA MB) w w1 ∧
      Calls Tryd.prog 14 #[.pointer (some ⟨C, 0, none⟩), .int .i64 addr, .int .i64 at'] w1 fun e w2 => e = .returned (.tuple #[.int .u64 y, .int .i64 x]) ∧ ∃ root' asid' m' B', Duet w2 U MA BA MB C RA RC RM root' asid' m' B' ∧ Upd (DuS U BA MB C RC RM) w w2 := by
  refine (h.P.load addr at').mono ?_
  rintro e w1 ⟨rfl, p, u⟩
  obtain ⟨r, mm, k⟩ := h.mid u
  refine ⟨_, _, rfl, u, ?_⟩
  refine (ruload_any C RA RC root asid addr at' (m.re RM) B w1 r mm k h.P.g h.ne.1 h.ne.2.1 h.ne.2.2.1).mono ?_
  rintro e w2 ⟨rfl, k2, u2⟩
  rw [re_uW, re_uX]
  rw [re_uB] at k2
  have v : Upd (RuS C RC RM) w1 w2 := u2.mono fun _ _ e => .inr (.inl e)
  exact ⟨rfl, _, _, _, _, h.join p v (r.kept u2 h.ne.1) (mm.kept u2 h.ne.2.1 h.ne.2.2.1) k2 h.n8, DuS.of u v⟩
theorem Duet.find (h : Duet w U MA BA MB C RA RC RM root asid m B) (addr : Int) (wr : Bool) (at' : Int) :
    Calls Tryd.prog 23 #[.pointer (some ⟨U, 0, none⟩), .int .i64 addr, .bool wr, .int .i64 at'] w fun e w1 => ∃ z y x : Int, e = .returned (.tuple #[.int .i64 z, .int .i64 y, .int .i64 x]) ∧ Upd (MmS U BA MB) w w1 ∧
      Calls Tryd.prog 24 #[.pointer (some ⟨C, 0, none⟩), .int .i64 addr, .bool wr, .int .i64 at'] w1 fun e w2 => e = .returned (.tuple #[.int .i64 z, .int .i64 y, .int .i64 x]) ∧ ∃ root' asid' m' B', Duet w2 U MA BA MB C RA RC RM root' asid' m' B' ∧ Upd (DuS U BA MB C RC RM) w w2 := by
  refine (h.P.find addr wr at').mono ?_
  rintro e w1 ⟨rfl, p, u⟩
  obtain ⟨r, mm, k⟩ := h.mid u
  refine ⟨_, _, _, rfl, u, ?_⟩
  refine (rufind_any C RA RC root asid addr wr at' (m.re RM) B w1 r mm k h.P.g h.ne.1 h.ne.2.1 h.ne.2.2.1).mono ?_
  rintro e w2 ⟨rfl, k2, u2⟩
  rw [re_uF, re_uO, re_uX]
  rw [re_uB] at k2
  have v : Upd (RuS C RC RM) w1 w2 := u2.mono fun _ _ e => .inr (.inl e)
  exact ⟨rfl, _, _, _, _, h.join p v (r.kept u2 h.ne.1) (mm.kept u2 h.ne.2.1 h.ne.2.2.1) k2 h.n8, DuS.of u v⟩
theorem Duet.store (h : Duet w U MA BA MB C RA RC RM root asid m B) (addr v at' : Int) (h0 : 0 ≤ v) (h1 : v < 18446744073709551616) :
    Calls Tryd.prog 15 #[.pointer (some ⟨U, 0, none⟩), .int .i64 addr, .int .u64 v, .int .i64 at'] w fun e w1 => ∃ x : Int, e = .returned (.int .i64 x) ∧ Upd (MmS U BA MB) w w1 ∧
      Calls Tryd.prog 16 #[.pointer (some ⟨C, 0, none⟩), .int .i64 addr, .int .u64 v, .int .i64 at'] w1 fun e w2 => e = .returned (.int .i64 x) ∧ ∃ root' asid' m' B', Duet w2 U MA BA MB C RA RC RM root' asid' m' B' ∧ Upd (DuS U BA MB C RC RM) w w2 := by
  refine (h.P.store addr v at' h0 h1).mono ?_
  rintro e w1 ⟨rfl, p, u⟩
  obtain ⟨r, mm, k⟩ := h.mid u
  refine ⟨_, rfl, u, ?_⟩
  refine (rustore_any C RA RC root asid addr v at' (m.re RM) B w1 r mm k h.P.g h.ne.1 h.ne.2.1 h.ne.2.2.1).mono ?_
  rintro e w2 ⟨rfl, k2, m2, u2⟩
  rw [re_uX]
  rw [re_uB] at k2
  rw [re_uM] at m2
  have vv : Upd (RuS C RC RM) w1 w2 := u2.mono fun _ _ e => .inr e
  exact ⟨rfl, _, _, _, _, h.join p vv (r.kept u2 (fun e => e.elim h.ne.1 h.ne.2.2.2.1)) m2 k2 (by rw [uM_n]; exact h.n8), DuS.of u vv⟩
theorem Duet.use (h : Duet w U MA BA MB C RA RC RM root asid m B) (a b : Int) :
    Calls Tryd.prog 18 #[.pointer (some ⟨U, 0, none⟩), .int .i64 a, .int .i64 b] w fun e w1 => ∃ x : Int, e = .returned (.int .i64 x) ∧ Upd (MmS U BA MB) w w1 ∧
      Calls Tryd.prog 12 #[.pointer (some ⟨C, 0, none⟩), .int .i64 a, .int .i64 b] w1 fun e w2 => e = .returned (.int .i64 x) ∧ ∃ root' asid' m' B', Duet w2 U MA BA MB C RA RC RM root' asid' m' B' ∧ Upd (DuS U BA MB C RC RM) w w2 := by
  refine (h.P.use a b).mono ?_
  rintro e w1 ⟨rfl, p, u⟩
  obtain ⟨r, mm, k⟩ := h.mid u
  refine ⟨_, rfl, u, ?_⟩
  refine (ruuse_any C RA RC root asid a b (m.re RM) w1 r mm).mono ?_
  rintro e w2 ⟨rfl, r2, u2⟩
  have vv : Upd (RuS C RC RM) w1 w2 := u2.mono fun _ _ e => .inl e
  exact ⟨rfl, _, _, _, _, h.join p vv r2 (mm.kept u2 (Ne.symm h.ne.2.2.2.2.1) (Ne.symm h.ne.2.2.2.1)) (k.kept u2 (Ne.symm h.ne.1)) h.n8, DuS.of u vv⟩
theorem Duet.put (h : Duet w U MA BA MB C RA RC RM root asid m B) (f p : Int) (E : En) (hw : (Lit.int .i64 E.f).wf = true) :
    Calls Tryd.prog 17 #[.pointer (some ⟨MA, 0, none⟩), .int .i64 f, .int .i64 p, E.val] w fun e w1 => ∃ x : Int, e = .returned (.int .i64 x) ∧ Upd (MmS U BA MB) w w1 ∧
      Calls Tryd.prog 11 #[.pointer (some ⟨RA, 0, none⟩), .int .i64 f, .int .i64 p, E.val] w1 fun e w2 => e = .returned (.int .i64 x) ∧ ∃ root' asid' m' B', Duet w2 U MA BA MB C RA RC RM root' asid' m' B' ∧ Upd (DuS U BA MB C RC RM) w w2 := by
  have hk := h.P.me.okm
  have n := h.P.ne
  have he := h.P.e
  refine (wput_any MA m f p E w h.P.me h.P.T hw).mono ?_
  rintro e w1 ⟨rfl, m1, u1⟩
  have u : Upd (MmS U BA MB) w w1 := u1.mono fun _ _ e => .inr (.inr (e.trans he))
  obtain ⟨r, mm, k⟩ := h.mid u
  have P1 : Mmu w1 U MA BA MB root asid (m.put f p E) B := ⟨h.P.un.kept u1 (by rw [he]; exact n.uw), m1, h.P.bu.kept u1 (by rw [he]; exact Ne.symm n.wb), h.P.T.keptS u1 (by rw [he]; exact h.P.mne.2), m.put_good hk h.P.g _ _ _, h.P.bo, by rw [Mem.put_B]; exact he, n⟩
  refine ⟨_, rfl, u, ?_⟩
  refine (kput_any RA (m.re RM) f p E w1 mm).mono ?_
  rintro e w2 ⟨rfl, m2, u2⟩
  rw [Mem.re_put] at m2
  have vv : Upd (RuS C RC RM) w1 w2 := u2.mono fun _ _ e => .inr (.inr e)
  exact ⟨rfl, _, _, _, _, h.join P1 vv (r.kept u2 h.ne.2.2.2.1) m2 (k.kept u2 (Ne.symm h.ne.2.2.1)) (by rw [Mem.put_n]; exact h.n8), DuS.of u vv⟩
theorem Duet.bufs {B1 : Buf} (h : Duet w U MA BA MB C RA RC RM root asid m B) (hb : BufAt w1 BA B1) (ho : B1.Ok) (u1 : Upd (· = BA) w w1) : Mmu w1 U MA BA MB root asid m B1 ∧ Upd (MmS U BA MB) w w1 := by
  have n := h.P.ne
  exact ⟨⟨h.P.un.kept u1 n.ub, h.P.me.kept u1 n.mb (by rw [h.P.e]; exact n.wb), hb, h.P.T.keptS u1 n.fb, h.P.g, ho, h.P.e, n⟩, u1.mono fun _ _ e => .inr (.inl e)⟩
theorem Duet.flush (h : Duet w U MA BA MB C RA RC RM root asid m B) (a : Int) :
    Calls Tryd.prog 19 #[.pointer (some ⟨BA, 0, none⟩), .int .i64 a] w fun e w1 => ∃ x : Int, e = .returned (.int .i64 x) ∧ Upd (MmS U BA MB) w w1 ∧
      Calls Tryd.prog 20 #[.pointer (some ⟨RC, 0, none⟩), .int .i64 a] w1 fun e w2 => e = .returned (.int .i64 x) ∧ ∃ root' asid' m' B', Duet w2 U MA BA MB C RA RC RM root' asid' m' B' ∧ Upd (DuS U BA MB C RC RM) w w2 := by
  refine (tflush_any BA B h.P.bo a w h.P.bu).mono ?_
  rintro e w1 ⟨rfl, b1, u1⟩
  obtain ⟨p, u⟩ := h.bufs b1 (h.P.bo.flush a) u1
  obtain ⟨r, mm, k⟩ := h.mid u
  refine ⟨_, rfl, u, ?_⟩
  refine (rflush_any RC B h.P.bo a w1 k).mono ?_
  rintro e w2 ⟨rfl, k2, u2⟩
  have vv : Upd (RuS C RC RM) w1 w2 := u2.mono fun _ _ e => .inr (.inl e)
  exact ⟨rfl, _, _, _, _, h.join p vv (r.kept u2 h.ne.1) (mm.kept u2 h.ne.2.1 h.ne.2.2.1) k2 h.n8, DuS.of u vv⟩
theorem Duet.line (h : Duet w U MA BA MB C RA RC RM root asid m B) (la lp lf : Int) (lw : Bool) (at' : Int) :
    Calls Tryd.prog 21 #[.pointer (some ⟨BA, 0, none⟩), .agg #[.int .i64 la, .int .i64 lp, .int .i64 lf, .bool lw], .int .i64 at'] w fun e w1 => ∃ x : Int, e = .returned (.int .i64 x) ∧ Upd (MmS U BA MB) w w1 ∧
      Calls Tryd.prog 22 #[.pointer (some ⟨RC, 0, none⟩), .agg #[.int .i64 la, .int .i64 lp, .int .i64 lf, .bool lw], .int .i64 at'] w1 fun e w2 => e = .returned (.int .i64 x) ∧ ∃ root' asid' m' B', Duet w2 U MA BA MB C RA RC RM root' asid' m' B' ∧ Upd (DuS U BA MB C RC RM) w w2 := by
  refine (tput_any BA B h.P.bo la lp lf lw at' w h.P.bu).mono ?_
  rintro e w1 ⟨rfl, b1, u1⟩
  obtain ⟨p, u⟩ := h.bufs b1 (h.P.bo.put _ _) u1
  obtain ⟨r, mm, k⟩ := h.mid u
  refine ⟨_, rfl, u, ?_⟩
  refine (rput_any RC B la lp lf lw at' w1 k).mono ?_
  rintro e w2 ⟨rfl, k2, u2⟩
  have vv : Upd (RuS C RC RM) w1 w2 := u2.mono fun _ _ e => .inr (.inl e)
  exact ⟨rfl, _, _, _, _, h.join p vv (r.kept u2 h.ne.1) (mm.kept u2 h.ne.2.1 h.ne.2.2.1) k2 h.n8, DuS.of u vv⟩
end
end Go.Proofs.YtfdnfllefednjaaDoor

/-
  The laws' own rows of calls; the document's tables, copied entry by entry.
-/
namespace Go.Proofs.YtfdnfllefednjaaDoor
open Go.ChangeShapes Go.WideShapes Go.ChangeAt Go.RowKit Go.Shelf

abbrev mopKs : List (Option IntKind) := [some .i64, some .i64, some .i64, some .i64, some .i64, some .u64, none, none, none, some .i64]
structure MopIn (w : World) (b o : Nat) (d ad at' f pl v : Int) (e : En) : Prop where
  c0 : w.cell? ⟨b, o, none⟩ = some (.int .i64 d)
  c1 : w.cell? ⟨b, o + 1, none⟩ = some (.int .i64 ad)
  c2 : w.cell? ⟨b, o + 2, none⟩ = some (.int .i64 at')
  c3 : w.cell? ⟨b, o + 3, none⟩ = some (.int .i64 f)
  c4 : w.cell? ⟨b, o + 4, none⟩ = some (.int .i64 pl)
  c5 : w.cell? ⟨b, o + 5, none⟩ = some (.int .u64 v)
  c6 : w.cell? ⟨b, o + 6, none⟩ = some (.bool e.v)
  c7 : w.cell? ⟨b, o + 7, none⟩ = some (.bool e.r)
  c8 : w.cell? ⟨b, o + 8, none⟩ = some (.bool e.t)
  c9 : w.cell? ⟨b, o + 9, none⟩ = some (.int .i64 e.f)
  wa : (Lit.int .i64 ad).wf = true
  wx : (Lit.int .i64 at').wf = true
  wv : 0 ≤ v ∧ v < 18446744073709551616
  wf : (Lit.int .i64 e.f).wf = true
theorem mop10 {w : World} {ao : Option Addr} {n b off : Nat} {E : Nat → Nat → Value} (R : Fr.RowArg w ao n b off mopKs E) (i : Nat) (hi : i < n) :
    ∃ (d ad at' f pl v : Int) (e : En), MopIn w b (off + i * 10) d ad at' f pl v e := by
  obtain ⟨d, h0, -⟩ := R.ok i hi 0 _ rfl
  obtain ⟨ad, h1, w1⟩ := R.ok i hi 1 _ rfl
  obtain ⟨at', h2, w2⟩ := R.ok i hi 2 _ rfl
  obtain ⟨f, h3, -⟩ := R.ok i hi 3 _ rfl
  obtain ⟨pl, h4, -⟩ := R.ok i hi 4 _ rfl
  obtain ⟨v, h5, w5⟩ := R.ok i hi 5 _ rfl
  obtain ⟨ev, h6⟩ := R.ok i hi 6 _ rfl
  obtain ⟨er, h7⟩ := R.ok i hi 7 _ rfl
  obtain ⟨et, h8⟩ := R.ok i hi 8 _ rfl
  obtain ⟨ef, h9, w9⟩ := R.ok i hi 9 _ rfl
  have c : ∀ j, j < 10 → w.cell? ⟨b, off + i * 10 + j, none⟩ = some (E i j) := fun j hj => by
    have := R.cell i hi j hj
    rwa [show off + (i * mopKs.length + j) = off + i * 10 + j from by show off + (i * 10 + j) = _; omega] at this
  have q0 := c 0 (by omega)
  have q1 := c 1 (by omega)
  have q2 := c 2 (by omega)
  have q3 := c 3 (by omega)
  have q4 := c 4 (by omega)
  have q5 := c 5 (by omega)
  have q6 := c 6 (by omega)
  have q7 := c 7 (by omega)
  have q8 := c 8 (by omega)
  have q9 := c 9 (by omega)
  rw [h0] at q0
  rw [h1] at q1
  rw [h2] at q2
  rw [h3] at q3
  rw [h4] at q4
  rw [h5] at q5
  rw [h6] at q6
  rw [h7] at q7
  rw [h8] at q8
  rw [h9] at q9
  have hv : 0 ≤ v ∧ v < 18446744073709551616 := by
    simp only [Lit.wf, Bool.and_eq_true, decide_eq_true_eq] at w5
    have hmin : IntKind.u64.min = 0 := rfl
    have hmax : IntKind.u64.max = 18446744073709551615 := rfl
    omega
  exact ⟨d, ad, at', f, pl, v, ⟨ev, er, et, ef⟩, q0, q1, q2, q3, q4, q5, q6, q7, q8, q9, w1, w2, hv, w9⟩
theorem ob10 {w : World} {g : Nat} {x0 x1 x2 x3 x4 x5 x6 x7 x8 x9 : Value} {t : TypeId} (h : w.heap[g]? = some (.cells #[x0, x1, x2, x3, x4, x5, x6, x7, x8, x9] t (0, 0))) :
    w.cell? ⟨g, 0, none⟩ = some x0 ∧ w.cell? ⟨g, 1, none⟩ = some x1 ∧ w.cell? ⟨g, 2, none⟩ = some x2 ∧ w.cell? ⟨g, 3, none⟩ = some x3 ∧ w.cell? ⟨g, 4, none⟩ = some x4 ∧ w.cell? ⟨g, 5, none⟩ = some x5 ∧ w.cell? ⟨g, 6, none⟩ = some x6 ∧ w.cell? ⟨g, 7, none⟩ = some x7 ∧ w.cell? ⟨g, 8, none⟩ = some x8 ∧ w.cell? ⟨g, 9, none⟩ = some x9 := by
  refine ⟨?_, ?_, ?_, ?_, ?_, ?_, ?_, ?_, ?_, ?_⟩ <;> (rw [cell_of_row w g _ _ _ _ h]; rfl)
/-- the first k entries of table i, copied -/
def cpR (p m : Mem) (i : Nat) : Nat → Mem
  | 0 => m
  | k + 1 => (cpR p m i k).put i k (p.getE i k)
def cpT (p m : Mem) : Nat → Mem
  | 0 => m
  | i + 1 => cpR p (cpT p m i) i 2
theorem cpR_B (p m : Mem) (i : Nat) : ∀ k, (cpR p m i k).B = m.B
  | 0 => rfl
  | k + 1 => by rw [cpR, Mem.put_B, cpR_B p m i k]
theorem cpT_B (p m : Mem) : ∀ i, (cpT p m i).B = m.B
  | 0 => rfl
  | i + 1 => by rw [cpT, cpR_B, cpT_B p m i]
theorem cp_all (X Y : Nat) : cpT (memNew X 8).parts (memNew Y 8) 3 = (memNew X 8).parts.re Y := by kernel_rfl
end Go.Proofs.YtfdnfllefednjaaDoor

/-
  Package tables, in plain numbers: a space as a tree of entries, the words of its tables, what a walk finds there.
-/
namespace Go.Proofs.YtfdnfllefednjaaDoor

/-- the node of a level on the way to page q: its upper digits -/
def nd (q l : Nat) : Nat := q / 16 ^ (3 - l)
theorem nd0 {q : Nat} (h : q < 4096) : nd q 0 = 0 := Nat.div_eq_of_lt (by simpa using h)
theorem nd1 (q : Nat) : nd q 1 = q / 256 := rfl
theorem nd2 (q : Nat) : nd q 2 = q / 16 := rfl
theorem nd3 (q : Nat) : nd q 3 = q := by simp [nd]
theorem idx_nat (q k : Nat) (hq : q < 4096) (hk : k < 3) : idxI q k = ((nd q (k + 1) % 16 : Nat) : Int) := by
  have hb : idxB q k = true := decide_eq_true (by omega)
  unfold idxI
  rw [if_pos hb]
  match k, hk with
  | 0, _ => simp [nd1]; omega
  | 1, _ => simp [nd2]
  | 2, _ => simp [nd3]
theorem nd_up (q k : Nat) (hk : k < 3) : nd q (k + 1) / 16 = nd q k := by
  match k, hk with
  | 0, _ => rw [nd1]; unfold nd; simp; omega
  | 1, _ => rw [nd1, nd2]; omega
  | 2, _ => rw [nd2, nd3]
theorem nd_step (q k : Nat) (hk : k < 3) : 16 * nd q k + nd q (k + 1) % 16 = nd q (k + 1) := by
  have := nd_up q k hk
  omega
theorem nd_lt (q k : Nat) (hq : q < 4096) (hk : k ≤ 3) : nd q k < 16 ^ k := by
  match k, hk with
  | 0, _ => rw [nd0 hq]; decide
  | 1, _ => rw [nd1]; omega
  | 2, _ => rw [nd2]; omega
  | 3, _ => rw [nd3]; omega

/-- a space: its root, and the entry of each node in the table above it (levels 1 to 3) -/
structure Sp where
  root : Int
  E : Nat → Nat → En
def Sp.on (s : Sp) (l d : Nat) : Bool := if l = 0 then decide (d = 0) else (s.E l d).v
def Sp.fr (s : Sp) (l d : Nat) : Int := if l = 0 then s.root else (s.E l d).f
theorem Sp.on0 (s : Sp) : s.on 0 0 = true := rfl
theorem Sp.fr0 (s : Sp) (d : Nat) : s.fr 0 d = s.root := rfl
theorem Sp.onS (s : Sp) (l d : Nat) : s.on (l + 1) d = (s.E (l + 1) d).v := by simp [Sp.on]
theorem Sp.frS (s : Sp) (l d : Nat) : s.fr (l + 1) d = (s.E (l + 1) d).f := by simp [Sp.fr]
structure Sp.Ok (s : Sp) (n : Nat) : Prop where
  rlo : 0 ≤ s.root
  rhi : s.root < n
  none : ∀ l d, (s.E l d).v = false → s.E l d = En.zero
  lv : ∀ l d, (s.E l d).v = true → 1 ≤ l ∧ l ≤ 3 ∧ d < 16 ^ l ∧ s.on (l - 1) (d / 16) = true
  tb : ∀ l d, (s.E l d).v = true → l ≤ 2 → (s.E l d).t = true ∧ (s.E l d).r = false
  pg : ∀ d, (s.E 3 d).v = true → (s.E 3 d).t = false
  f : ∀ l d, (s.E l d).v = true → 0 ≤ (s.E l d).f ∧ (s.E l d).f < n
  inj : ∀ l d l' d', l ≤ 2 → l' ≤ 2 → s.on l d = true → s.on l' d' = true → s.fr l d = s.fr l' d' → l = l' ∧ d = d'
/-- no table is there for nothing -/
def Sp.need (s : Sp) : Prop := ∀ l d, 1 ≤ l → l ≤ 2 → s.on l d = true → ∃ p, p < 16 ∧ (s.E (l + 1) (16 * d + p)).v = true
/-- the words of its tables -/
def Sp.In (s : Sp) (m : Mem) : Prop := ∀ l d p, l ≤ 2 → s.on l d = true → p < 16 → m.word (s.fr l d) (p : Nat) = (s.E (l + 1) (16 * d + p)).word
theorem En.zero_ok : En.zero.ok = true := rfl
theorem En.zero_word : En.zero.word = 0 := rfl
theorem Sp.Ok.frb {s : Sp} {n : Nat} (h : s.Ok n) {l d : Nat} (ho : s.on l d = true) : 0 ≤ s.fr l d ∧ s.fr l d < n := by
  cases l with
  | zero => exact ⟨h.rlo, h.rhi⟩
  | succ l => rw [s.onS] at ho; rw [s.frS]; exact h.f _ _ ho
theorem Sp.Ok.eok {s : Sp} {n : Nat} (h : s.Ok n) (hn : n ≤ 256) (l d : Nat) : (s.E l d).ok = true := by
  cases hv : (s.E l d).v
  · rw [h.none l d hv]; rfl
  · have hf := h.f l d hv
    have hl := h.lv l d hv
    by_cases h3 : l = 3
    · subst h3
      have := h.pg d hv
      unfold En.ok rightB
      rw [hv, this]
      simp; omega
    · have := h.tb l d hv (by omega)
      unfold En.ok rightB
      rw [hv, this.1, this.2]
      simp; omega
theorem Sp.Ok.ond {s : Sp} {n : Nat} (h : s.Ok n) {l d : Nat} (hl : l ≤ 3) (ho : s.on l d = true) : d < 16 ^ l := by
  cases l with
  | zero => have : d = 0 := by simpa [Sp.on] using ho
            subst this; decide
  | succ l => rw [s.onS] at ho; exact (h.lv _ _ ho).2.2.1
theorem Sp.In.get {s : Sp} {m : Mem} (h : s.In m) (hk : s.Ok m.n) (hn : m.n ≤ 256) {l d p : Nat} (hl : l ≤ 2) (ho : s.on l d = true) (hp : p < 16) :
    m.slot (s.fr l d) (p : Nat) = true ∧ m.getX (s.fr l d) (p : Nat) = 0 ∧ m.getE (s.fr l d) (p : Nat) = s.E (l + 1) (16 * d + p) := by
  have hs : m.slot (s.fr l d) (p : Nat) = true := by
    rw [Mem.slot_iff]
    have := hk.frb ho
    omega
  have hw := h l d p hl ho hp
  have := of_word _ (hk.eok hn (l + 1) (16 * d + p))
  refine ⟨hs, ?_, ?_⟩
  · unfold Mem.getX; rw [if_pos hs, hw, this.1]; rfl
  · unfold Mem.getE; rw [if_pos hs, hw, this.2]

/-- how many tables lead towards a page -/
def Sp.dep (s : Sp) (q : Nat) : Nat := if (s.E 1 (nd q 1)).v = false then 1 else if (s.E 2 (nd q 2)).v = false then 2 else 3
theorem Sp.dep_on {s : Sp} {q : Nat} (hq : q < 4096) : ∀ k, k < s.dep q → s.on k (nd q k) = true := by
  intro k hk
  match k with
  | 0 => rw [nd0 hq]; rfl
  | 1 =>
    unfold Sp.dep at hk
    rw [s.onS]
    cases hv : (s.E 1 (nd q 1)).v
    · rw [hv] at hk; simp at hk
    · rfl
  | 2 =>
    unfold Sp.dep at hk
    rw [s.onS]
    cases hv : (s.E 2 (nd q 2)).v
    · rw [hv] at hk; split at hk <;> simp at hk
    · rfl
  | k + 3 => unfold Sp.dep at hk; split at hk; omega; split at hk <;> omega
theorem Sp.dep_bd (s : Sp) (q : Nat) : 1 ≤ s.dep q ∧ s.dep q ≤ 3 := by unfold Sp.dep; split; omega; split <;> omega
theorem Sp.dep_off {s : Sp} {n q : Nat} (hk : s.Ok n) : ∀ k, s.dep q ≤ k → k ≤ 2 → s.on k (nd q k) = false := by
  intro k h1 h2
  have hb := s.dep_bd q
  match k, h2 with
  | 0, _ => omega
  | 1, _ =>
    rw [s.onS]
    cases hv : (s.E 1 (nd q 1)).v
    · rfl
    · unfold Sp.dep at h1; rw [hv] at h1; simp at h1; split at h1 <;> omega
  | 2, _ =>
    rw [s.onS]
    cases hv : (s.E 2 (nd q 2)).v
    · rfl
    · have := (hk.lv _ _ hv).2.2.2
      rw [show nd q 2 / 16 = nd q 1 from nd_up q 1 (by omega)] at this
      rw [show (2 : Nat) - 1 = 0 + 1 from rfl, s.onS] at this
      unfold Sp.dep at h1
      rw [this, hv] at h1
      simp at h1
theorem Sp.page_dep {s : Sp} {n q : Nat} (hk : s.Ok n) (hv : (s.E 3 q).v = true) : s.dep q = 3 ∧ q < 4096 := by
  have h3 := hk.lv _ _ hv
  have h2 : (s.E 2 (nd q 2)).v = true := by
    have := h3.2.2.2
    rw [show (3 : Nat) - 1 = 1 + 1 from rfl, s.onS] at this
    exact this
  have h1 : (s.E 1 (nd q 1)).v = true := by
    have := (hk.lv _ _ h2).2.2.2
    rw [show nd q 2 / 16 = nd q 1 from nd_up q 1 (by omega)] at this
    rw [show (2 : Nat) - 1 = 0 + 1 from rfl, s.onS] at this
    exact this
  refine ⟨?_, by simpa using h3.2.2.1⟩
  unfold Sp.dep
  rw [h1, h2]
  simp
/-- what a walk from the root finds -/
theorem Sp.walk {s : Sp} {m : Mem} (h : s.In m) (hk : s.Ok m.n) (hn : m.n ≤ 256) {q : Nat} (hq : q < 4096) :
    m.wN s.root q = s.dep q ∧ m.wX s.root q = (if (s.E 3 q).v = true then 0 else 10) ∧ m.wE s.root q = s.E 3 q ∧ (∀ k, k < s.dep q → m.wF s.root q k = s.fr k (nd q k)) := by
  have hB : m.wB s.root q = true := by
    unfold Mem.wB
    have h1 : m.ex s.root 1 = true := decide_eq_true (by have := hk.rlo; have := hk.rhi; omega)
    have h2 : pageB q = true := decide_eq_true (by omega)
    rw [h1, h2]; rfl
  have key : ∀ k, k < 3 → m.wF s.root q k = s.fr k (nd q k) → s.on k (nd q k) = true → m.getE (m.wF s.root q k) (idxI q k) = s.E (k + 1) (nd q (k + 1)) ∧ m.getX (m.wF s.root q k) (idxI q k) = 0 := by
    intro k hk3 e ho
    have := h.get hk hn (p := nd q (k + 1) % 16) (by omega) ho (Nat.mod_lt _ (by decide))
    rw [nd_step q k hk3] at this
    rw [e, idx_nat q k hq hk3]
    exact ⟨this.2.2, this.2.1⟩
  have hC : ∀ k, k < 3 → m.wF s.root q k = s.fr k (nd q k) → s.on k (nd q k) = true → m.wC s.root q k = if (s.E (k + 1) (nd q (k + 1))).v = true then 0 else 10 := by
    intro k hk3 e ho
    obtain ⟨k1, k2⟩ := key k hk3 e ho
    unfold Mem.wC
    rw [k1, k2]
    unfold codeI
    cases hv : (s.E (k + 1) (nd q (k + 1))).v
    · simp
    · by_cases h2 : k < 2
      · have := (hk.tb _ _ hv (by omega)).1
        simp [this, h2]
      · obtain rfl : k = 2 := by omega
        have := hk.pg _ hv
        simp [this]
  have f0 : m.wF s.root q 0 = s.fr 0 (nd q 0) := rfl
  have o0 : s.on 0 (nd q 0) = true := by rw [nd0 hq]; rfl
  have c0 := hC 0 (by omega) f0 o0
  cases h1 : (s.E 1 (nd q 1)).v
  · have hd : s.dep q = 1 := by unfold Sp.dep; rw [h1]; rfl
    rw [h1] at c0
    have := m.walk_stop s.root q hB 0 (by omega) (by omega) (by rw [c0]; simp)
    have h3 : (s.E 3 q).v = false := by
      cases hv : (s.E 3 q).v
      · rfl
      · have := (Sp.page_dep hk hv).1; omega
    rw [hd, h3, hk.none _ _ h3]
    refine ⟨this.1, by rw [this.2.1, c0], this.2.2, fun k hk => ?_⟩
    obtain rfl : k = 0 := by omega
    exact f0
  · rw [h1] at c0
    have f1 : m.wF s.root q 1 = s.fr 1 (nd q 1) := by rw [Mem.wF, (key 0 (by omega) f0 o0).1, s.frS]
    have o1 : s.on 1 (nd q 1) = true := by rw [s.onS]; exact h1
    have c1 := hC 1 (by omega) f1 o1
    cases h2 : (s.E 2 (nd q 2)).v
    · have hd : s.dep q = 2 := by unfold Sp.dep; rw [h1, h2]; rfl
      rw [h2] at c1
      have := m.walk_stop s.root q hB 1 (by omega) (fun j hj => by obtain rfl : j = 0 := by omega
                                                                   exact c0) (by rw [c1]; simp)
      have h3 : (s.E 3 q).v = false := by
        cases hv : (s.E 3 q).v
        · rfl
        · have := (Sp.page_dep hk hv).1; omega
      rw [hd, h3, hk.none _ _ h3]
      refine ⟨this.1, by rw [this.2.1, c1], this.2.2, fun k hk => ?_⟩
      match k, hk with
      | 0, _ => exact f0
      | 1, _ => exact f1
    · have hd : s.dep q = 3 := by unfold Sp.dep; rw [h1, h2]; rfl
      rw [h2] at c1
      have f2 : m.wF s.root q 2 = s.fr 2 (nd q 2) := by rw [Mem.wF, (key 1 (by omega) f1 o1).1, s.frS]
      have o2 : s.on 2 (nd q 2) = true := by rw [s.onS]; exact h2
      have c2 := hC 2 (by omega) f2 o2
      rw [show (2 : Nat) + 1 = 3 from rfl, nd3] at c2
      have hF : ∀ k, k < s.dep q → m.wF s.root q k = s.fr k (nd q k) := by
        intro k hk
        rw [hd] at hk
        match k, hk with
        | 0, _ => exact f0
        | 1, _ => exact f1
        | 2, _ => exact f2
      cases h3 : (s.E 3 q).v
      · rw [h3] at c2
        have := m.walk_stop s.root q hB 2 (by omega) (fun j hj => by
          match j, hj with
          | 0, _ => exact c0
          | 1, _ => exact c1) (by rw [c2]; simp)
        rw [hk.none _ _ h3]
        exact ⟨by rw [this.1, hd], by rw [this.2.1, c2], this.2.2, hF⟩
      · rw [h3] at c2
        have := m.walk_end s.root q hB (fun j hj => by
          match j, hj with
          | 0, _ => exact c0
          | 1, _ => exact c1
          | 2, _ => exact c2)
        refine ⟨by rw [this.1, hd], this.2.1, ?_, hF⟩
        have k2 := (key 2 (by omega) f2 o2).1
        rw [nd3] at k2
        rw [this.2.2]
        exact k2

/-! one entry set -/
def Sp.set (s : Sp) (l d : Nat) (e : En) : Sp := { s with E := fun l' d' => if l' = l ∧ d' = d then e else s.E l' d' }
theorem Sp.set_same (s : Sp) (l d : Nat) (e : En) : (s.set l d e).E l d = e := by simp [Sp.set]
theorem Sp.set_ne (s : Sp) {l d l' d' : Nat} (e : En) (h : ¬ (l' = l ∧ d' = d)) : (s.set l d e).E l' d' = s.E l' d' := by simp only [Sp.set]; rw [if_neg h]
theorem Sp.set_root (s : Sp) (l d : Nat) (e : En) : (s.set l d e).root = s.root := rfl
theorem Sp.set_on_same (s : Sp) (l d : Nat) (e : En) : (s.set (l + 1) d e).on (l + 1) d = e.v := by rw [Sp.onS, Sp.set_same]
theorem Sp.set_fr_same (s : Sp) (l d : Nat) (e : En) : (s.set (l + 1) d e).fr (l + 1) d = e.f := by rw [Sp.frS, Sp.set_same]
theorem Sp.set_on (s : Sp) {l d l' d' : Nat} (e : En) (h : ¬ (l' = l + 1 ∧ d' = d)) : (s.set (l + 1) d e).on l' d' = s.on l' d' := by
  cases l' with
  | zero => rfl
  | succ l' => rw [Sp.onS, Sp.onS, s.set_ne e h]
theorem Sp.set_fr (s : Sp) {l d l' d' : Nat} (e : En) (h : ¬ (l' = l + 1 ∧ d' = d)) : (s.set (l + 1) d e).fr l' d' = s.fr l' d' := by
  cases l' with
  | zero => rfl
  | succ l' => rw [Sp.frS, Sp.frS, s.set_ne e h]
theorem Mem.word_put (m : Mem) (hk : m.ok) (f p : Int) (e : En) (g q : Int) (hs : m.slot f p = true) (hq : m.slot g q = true) (he : e.ok = true) : (m.put f p e).word g q = if g = f ∧ q = p then e.word else m.word g q := by
  unfold Mem.put Mem.putB
  rw [hs, he]
  simp only [Bool.and_true, if_true]
  exact m.word_wr hk f p g q _ hs hq
/-- the words behind a Put -/
theorem Sp.In.set {s : Sp} {m : Mem} (h : s.In m) (hk : s.Ok m.n) (hm : m.ok) {l d p : Nat} (hl : l ≤ 2) (ho : s.on l d = true) (hp : p < 16) (e : En) (he : e.ok = true)
    (hnew : l + 1 ≤ 2 → e.v = true → 0 ≤ e.f ∧ e.f < m.n ∧ (∀ p' : Nat, p' < 16 → m.word e.f p' = 0 ∧ (s.E (l + 2) (16 * (16 * d + p) + p')).v = false) ∧ e.f ≠ s.fr l d) :
    (s.set (l + 1) (16 * d + p) e).In (m.put (s.fr l d) (p : Nat) e) := by
  have hs : m.slot (s.fr l d) (p : Nat) = true := by rw [Mem.slot_iff]; have := hk.frb ho; omega
  intro l' d' p' hl' ho' hp'
  by_cases hx : l' = l + 1 ∧ d' = 16 * d + p
  · obtain ⟨rfl, rfl⟩ := hx
    rw [Sp.set_on_same] at ho'
    rw [Sp.set_fr_same]
    obtain ⟨n1, n2, n3, n4⟩ := hnew hl' ho'
    rw [m.word_put hm _ _ _ _ _ hs (by rw [Mem.slot_iff]; omega) he, if_neg (fun x => n4 x.1), (n3 p' hp').1, s.set_ne e (by omega), hk.none _ _ (n3 p' hp').2]
    rfl
  · rw [s.set_on e hx] at ho'
    rw [s.set_fr e hx]
    rw [m.word_put hm _ _ _ _ _ hs (by rw [Mem.slot_iff]; have := hk.frb ho'; omega) he]
    by_cases hy : s.fr l' d' = s.fr l d ∧ (p' : Int) = p
    · obtain ⟨rfl, rfl⟩ := hk.inj _ _ _ _ hl' hl ho' ho hy.1
      obtain rfl : p' = p := by omega
      rw [if_pos hy, s.set_same]
    · rw [if_neg hy, h l' d' p' hl' ho' hp', s.set_ne e]
      rintro ⟨a, b⟩
      obtain rfl : l' = l := by omega
      have : d' = d ∧ p' = p := by omega
      exact hy ⟨by rw [this.1], by rw [this.2]⟩
/-- a table more -/
def tbE (c : Int) : En := ⟨true, false, true, c⟩
theorem Sp.Ok.table {s : Sp} {n : Nat} (hk : s.Ok n) {l d p : Nat} (hl : l ≤ 1) (ho : s.on l d = true) (hp : p < 16) (hoff : (s.E (l + 1) (16 * d + p)).v = false) {c : Int} (h0 : 0 ≤ c) (h1 : c < n)
    (hfr : ∀ l' d', l' ≤ 2 → s.on l' d' = true → s.fr l' d' ≠ c) : (s.set (l + 1) (16 * d + p) (tbE c)).Ok n := by
  have hd := hk.ond (by omega) ho
  have hon : ∀ l' d', s.on l' d' = true → (s.set (l + 1) (16 * d + p) (tbE c)).on l' d' = true := by
    intro l' d' h
    by_cases hx : l' = l + 1 ∧ d' = 16 * d + p
    · rw [hx.1, hx.2, Sp.set_on_same]; rfl
    · rw [s.set_on _ hx]; exact h
  refine ⟨hk.rlo, hk.rhi, ?_, ?_, ?_, ?_, ?_, ?_⟩
  · intro l' d' hv
    by_cases hx : l' = l + 1 ∧ d' = 16 * d + p
    · rw [hx.1, hx.2, Sp.set_same] at hv; cases hv
    · rw [s.set_ne _ hx] at hv ⊢; exact hk.none _ _ hv
  · intro l' d' hv
    by_cases hx : l' = l + 1 ∧ d' = 16 * d + p
    · obtain ⟨rfl, rfl⟩ := hx
      refine ⟨by omega, by omega, ?_, ?_⟩
      · rw [Nat.pow_succ]; omega
      · rw [show l + 1 - 1 = l from rfl, show (16 * d + p) / 16 = d from by omega]
        exact hon _ _ ho
    · rw [s.set_ne _ hx] at hv
      obtain ⟨a, b, c', e⟩ := hk.lv _ _ hv
      exact ⟨a, b, c', hon _ _ e⟩
  · intro l' d' hv h2
    by_cases hx : l' = l + 1 ∧ d' = 16 * d + p
    · rw [hx.1, hx.2, Sp.set_same]; exact ⟨rfl, rfl⟩
    · rw [s.set_ne _ hx] at hv ⊢; exact hk.tb _ _ hv h2
  · intro d' hv
    rw [s.set_ne _ (by omega)] at hv ⊢
    exact hk.pg _ hv
  · intro l' d' hv
    by_cases hx : l' = l + 1 ∧ d' = 16 * d + p
    · rw [hx.1, hx.2, Sp.set_same]; exact ⟨h0, h1⟩
    · rw [s.set_ne _ hx] at hv ⊢; exact hk.f _ _ hv
  · intro l1 d1 l2 d2 a1 a2 o1 o2 e
    by_cases hx : l1 = l + 1 ∧ d1 = 16 * d + p
    · by_cases hy : l2 = l + 1 ∧ d2 = 16 * d + p
      · exact ⟨hx.1.trans hy.1.symm, hx.2.trans hy.2.symm⟩
      · exfalso
        rw [s.set_on _ hy] at o2
        rw [s.set_fr _ hy, hx.1, hx.2, Sp.set_fr_same] at e
        exact hfr _ _ a2 o2 e.symm
    · by_cases hy : l2 = l + 1 ∧ d2 = 16 * d + p
      · exfalso
        rw [s.set_on _ hx] at o1
        rw [s.set_fr _ hx, hy.1, hy.2, Sp.set_fr_same] at e
        exact hfr _ _ a1 o1 e
      · rw [s.set_on _ hx] at o1
        rw [s.set_on _ hy] at o2
        rw [s.set_fr _ hx, s.set_fr _ hy] at e
        exact hk.inj _ _ _ _ a1 a2 o1 o2 e
/-- a page -/
theorem Sp.Ok.page {s : Sp} {n : Nat} (hk : s.Ok n) {d p : Nat} (ho : s.on 2 d = true) (hp : p < 16) (e : En) (hv : e.v = true) (ht : e.t = false) (h0 : 0 ≤ e.f) (h1 : e.f < n) :
    (s.set 3 (16 * d + p) e).Ok n := by
  have hd := hk.ond (by omega) ho
  have hon : ∀ l' d', l' ≤ 2 → (s.set 3 (16 * d + p) e).on l' d' = s.on l' d' := fun l' d' h => s.set_on e (by omega)
  refine ⟨hk.rlo, hk.rhi, ?_, ?_, ?_, ?_, ?_, ?_⟩
  · intro l' d' hv'
    by_cases hx : l' = 3 ∧ d' = 16 * d + p
    · rw [hx.1, hx.2, Sp.set_same, hv] at hv'; cases hv'
    · rw [s.set_ne _ hx] at hv' ⊢; exact hk.none _ _ hv'
  · intro l' d' hv'
    by_cases hx : l' = 3 ∧ d' = 16 * d + p
    · obtain ⟨rfl, rfl⟩ := hx
      refine ⟨by omega, by omega, ?_, ?_⟩
      · rw [Nat.pow_succ]; omega
      · rw [hon _ _ (by omega), show (16 * d + p) / 16 = d from by omega]
        exact ho
    · rw [s.set_ne _ hx] at hv'
      obtain ⟨a, b, c', e'⟩ := hk.lv _ _ hv'
      exact ⟨a, b, c', by rw [hon _ _ (by omega)]; exact e'⟩
  · intro l' d' hv' h2
    rw [s.set_ne _ (by omega)] at hv' ⊢
    exact hk.tb _ _ hv' h2
  · intro d' hv'
    by_cases hx : 3 = 3 ∧ d' = 16 * d + p
    · rw [hx.2, Sp.set_same]; exact ht
    · rw [s.set_ne _ hx] at hv' ⊢; exact hk.pg _ hv'
  · intro l' d' hv'
    by_cases hx : l' = 3 ∧ d' = 16 * d + p
    · rw [hx.1, hx.2, Sp.set_same]; exact ⟨h0, h1⟩
    · rw [s.set_ne _ hx] at hv' ⊢; exact hk.f _ _ hv'
  · intro l1 d1 l2 d2 a1 a2 o1 o2 e'
    rw [hon _ _ a1] at o1
    rw [hon _ _ a2] at o2
    rw [s.set_fr _ (by omega), s.set_fr _ (by omega)] at e'
    exact hk.inj _ _ _ _ a1 a2 o1 o2 e'
/-- an entry that goes -/
theorem Sp.Ok.drop {s : Sp} {n : Nat} (hk : s.Ok n) {l d : Nat} (hch : l + 1 ≤ 2 → ∀ p, p < 16 → (s.E (l + 2) (16 * d + p)).v = false) : (s.set (l + 1) d En.zero).Ok n := by
  have hv0 : ∀ l' d', ((s.set (l + 1) d En.zero).E l' d').v = true → ¬ (l' = l + 1 ∧ d' = d) ∧ (s.E l' d').v = true := by
    intro l' d' hv
    by_cases hx : l' = l + 1 ∧ d' = d
    · rw [hx.1, hx.2, Sp.set_same] at hv; cases hv
    · rw [s.set_ne _ hx] at hv; exact ⟨hx, hv⟩
  have hon0 : ∀ l' d', (s.set (l + 1) d En.zero).on l' d' = true → ¬ (l' = l + 1 ∧ d' = d) ∧ s.on l' d' = true := by
    intro l' d' hv
    by_cases hx : l' = l + 1 ∧ d' = d
    · rw [hx.1, hx.2, Sp.set_on_same] at hv; cases hv
    · rw [s.set_on _ hx] at hv; exact ⟨hx, hv⟩
  refine ⟨hk.rlo, hk.rhi, ?_, ?_, ?_, ?_, ?_, ?_⟩
  · intro l' d' hv
    by_cases hx : l' = l + 1 ∧ d' = d
    · rw [hx.1, hx.2, Sp.set_same]
    · rw [s.set_ne _ hx] at hv ⊢; exact hk.none _ _ hv
  · intro l' d' hv
    obtain ⟨hx, hv'⟩ := hv0 _ _ hv
    obtain ⟨a, b, c', e'⟩ := hk.lv _ _ hv'
    refine ⟨a, b, c', ?_⟩
    rw [s.set_on _ ?_]
    · exact e'
    · rintro ⟨h1, h2⟩
      obtain rfl : l' = l + 2 := by omega
      have := hch (by omega) (d' % 16) (Nat.mod_lt _ (by decide))
      rw [show 16 * d + d' % 16 = d' from by omega, hv'] at this
      cases this
  · intro l' d' hv h2
    obtain ⟨hx, hv'⟩ := hv0 _ _ hv
    rw [s.set_ne _ hx]; exact hk.tb _ _ hv' h2
  · intro d' hv
    obtain ⟨hx, hv'⟩ := hv0 _ _ hv
    rw [s.set_ne _ hx]; exact hk.pg _ hv'
  · intro l' d' hv
    obtain ⟨hx, hv'⟩ := hv0 _ _ hv
    rw [s.set_ne _ hx]; exact hk.f _ _ hv'
  · intro l1 d1 l2 d2 a1 a2 o1 o2 e
    obtain ⟨x1, o1'⟩ := hon0 _ _ o1
    obtain ⟨x2, o2'⟩ := hon0 _ _ o2
    rw [s.set_fr _ x1, s.set_fr _ x2] at e
    exact hk.inj _ _ _ _ a1 a2 o1' o2' e
end Go.Proofs.YtfdnfllefednjaaDoor

/-
  Package tables: where a space lies; contracts of its small functions, of each, and of the library's search.
-/
namespace Go.Proofs.YtfdnfllefednjaaDoor
open Go.ChangeShapes Go.WideShapes Go.ChangeAt Go.RowKit Go.Shelf

/-- a space in memory: its memory, its allocator, its root -/
def SpAt (w : World) (S MA A : Nat) (root : Int) : Prop := w.heap[S]? = some (.cells #[.pointer (some ⟨MA, 0, none⟩), .pointer (some ⟨A, 0, none⟩), .int .i64 root] 123 (0, 0))
theorem SpAt.c0 {w : World} {S MA A : Nat} {root : Int} (h : SpAt w S MA A root) : w.cell? ⟨S, 0, none⟩ = some (.pointer (some ⟨MA, 0, none⟩)) := by rw [cell_of_row w S 0 _ _ _ h]; rfl
theorem SpAt.c1 {w : World} {S MA A : Nat} {root : Int} (h : SpAt w S MA A root) : w.cell? ⟨S, 1, none⟩ = some (.pointer (some ⟨A, 0, none⟩)) := by rw [cell_of_row w S 1 _ _ _ h]; rfl
theorem SpAt.c2 {w : World} {S MA A : Nat} {root : Int} (h : SpAt w S MA A root) : w.cell? ⟨S, 2, none⟩ = some (.int .i64 root) := by rw [cell_of_row w S 2 _ _ _ h]; rfl
theorem SpAt.kept {T : Nat → Prop} {w w' : World} {S MA A : Nat} {root : Int} (h : SpAt w S MA A root) (u : Upd T w w') (hs : ¬ T S) : SpAt w' S MA A root := u.at h hs

set_option maxHeartbeats 400000 in
theorem lacks_any (S MA A : Nat) (root : Int) (m : Mem) (f : Int) (w : World) (h : SpAt w S MA A root) (hm : MemAt w MA m) :
    Calls Tryd.prog 66 #[.pointer (some ⟨S, 0, none⟩), .int .i64 f] w fun e w' => e = .returned (.bool (!m.ex f 1)) ∧ w = w' := by
  have hc := h.c0
  have hn := hm.hi
  by_cases h0 : f < 0
  · have hv := Lib.hid (show (!m.ex f 1) = true from by unfold Mem.ex; simp; omega)
    go_enter Tryd.func66, Tryd.ntmps66
    go_wp2_with (go_at_call 74; refine (frames_any MA m _ hm).mono ?_; rintro e w' ⟨rfl, rfl⟩)
    go_ret
    exact ⟨by rw [hv.out]; rfl, rfl⟩
  · have hv := Lib.hid (show (!m.ex f 1) = decide ((m.n : Int) ≤ f) from by unfold Mem.ex; rw [Bool.eq_iff_iff]; simp; omega)
    go_enter Tryd.func66, Tryd.ntmps66
    go_wp2_with (go_at_call 74; refine (frames_any MA m _ hm).mono ?_; rintro e w' ⟨rfl, rfl⟩)
    go_ret
    exact ⟨by rw [hv.out]; rfl, rfl⟩

set_option maxHeartbeats 400000 in
theorem sroot_any (S MA A : Nat) (root : Int) (w : World) (h : SpAt w S MA A root) :
    Calls Tryd.prog 41 #[.pointer (some ⟨S, 0, none⟩)] w fun e w' => e = .returned (.int .i64 root) ∧ w = w' := by
  have hc := h.c2
  go_enter Tryd.func41, Tryd.ntmps41
  go_wp2
  go_ret
  exact ⟨rfl, rfl⟩

set_option maxHeartbeats 400000 in
theorem sclear_any (S MA A : Nat) (root : Int) (m : Mem) (f : Int) (w : World) (h : SpAt w S MA A root) (hm : MemAt w MA m) :
    Calls Tryd.prog 89 #[.pointer (some ⟨S, 0, none⟩), .int .i64 f] w fun e w' => e = .returned (.tuple #[]) ∧ MemAt w' MA (m.scrub f 1) ∧ Upd (· = m.B) w w' := by
  have hc := h.c0
  go_enter Tryd.func89, Tryd.ntmps89
  go_wp2_with (go_at_call 99; refine (scrub_any MA m f 1 _ hm (by omega)).mono ?_; rintro e w' ⟨rfl, hm', u⟩)
  go_end0
  exact ⟨rfl, hm', u⟩

set_option maxHeartbeats 400000 in
theorem sfree_any (S MA A GB : Nat) (root : Int) (m : Mem) (b : Bud) (f : Int) (w : World) (h : SpAt w S MA A root) (hd : Duo w A MA GB m b) (h0 : 0 ≤ f) (hf : ((f.toNat, 0) : Nat × Nat) ∈ b.gave) :
    Calls Tryd.prog 71 #[.pointer (some ⟨S, 0, none⟩), .int .i64 f] w fun e w' => e = .returned (.tuple #[]) ∧ Duo w' A MA GB (m.scrub f 1) (b.take (f.toNat, 0)) ∧ Upd (fun k => k = GB ∨ k = m.B) w w' := by
  have hc := h.c1
  obtain ⟨j, rfl⟩ := Int.eq_ofNat_of_zero_le h0
  have hb := bfree_yes A MA GB m b (j, 0) w hd hf
  go_enter Tryd.func71, Tryd.ntmps71
  go_wp2_with (go_at_call 92; refine hb.mono ?_; rintro e w' ⟨rfl, hd', u⟩)
  go_end0
  exact ⟨rfl, hd', u⟩

set_option maxHeartbeats 400000 in
/-- each does the same to all of the frames -/
theorem each_any (g : Nat) (eg : Enters Tryd.prog g) (S : Nat) (o : Option Addr) (L cap : Nat) (c : Nat → Int) (J : Nat → World → Prop) (w : World) (hL : L ≤ 1000) (h0 : J 0 w)
    (hcell : ∀ k W, J k W → k < L → ∃ b, o = some ⟨b, 0, none⟩ ∧ W.cell? ⟨b, k, none⟩ = some (.int .i64 (c k)))
    (hstep : ∀ k W, J k W → k < L → Calls Tryd.prog g #[.pointer (some ⟨S, 0, none⟩), .int .i64 (c k)] W fun e W' => e = .returned (.tuple #[]) ∧ J (k + 1) W') :
    Calls Tryd.prog 88 #[.slice o L cap, .func (.func g) #[.pointer (some ⟨S, 0, none⟩)] #[]] w fun e W' => e = .returned (.tuple #[]) ∧ J L W' := by
  have eg2 : ∀ args w, Sem.run Tryd.prog (callFunc g args) w = .ok (.enter g args) w := eg
  go_enter Tryd.func88, Tryd.ntmps88
  go_wp2_with fail
  go_loopw [8] (fun t wr => ∃ k : Nat, k ≤ L ∧ t = .int .i64 k ∧ J k wr) (fun t _ => L - (intOf t).toNat)
  case atStart => exact ⟨0, by omega, rfl, h0⟩
  case round =>
    obtain ⟨k, hk, rfl, hJ⟩ := hrel
    by_cases hlt : k < L
    · obtain ⟨b, rfl, hc⟩ := hcell k wr hJ hlt
      have hs := hstep k wr hJ hlt
      go_wp2_with (go_at_fn g; refine hs.mono ?_; rintro e W' ⟨rfl, hJ'⟩)
      go_roundw
      case rel => exact ⟨k + 1, by omega, by go_num, hJ'⟩
      case measure => simp [intOf]; omega
    · obtain rfl : k = L := by omega
      go_wp2
      go_end0
      exact ⟨rfl, hJ⟩

set_option maxHeartbeats 400000 in
/-- a search that finds none -/
theorem idxf_any (g : Nat) (eg : Enters Tryd.prog g) (S : Nat) (o : Option Addr) (L cap : Nat) (c : Nat → Int) (w : World) (hL : L ≤ 1000)
    (hcell : ∀ k, k < L → ∃ b, o = some ⟨b, 0, none⟩ ∧ w.cell? ⟨b, k, none⟩ = some (.int .i64 (c k)))
    (hstep : ∀ k, k < L → Calls Tryd.prog g #[.pointer (some ⟨S, 0, none⟩), .int .i64 (c k)] w fun e W' => e = .returned (.bool false) ∧ w = W') :
    Calls Tryd.prog 98 #[.slice o L cap, .func (.func g) #[.pointer (some ⟨S, 0, none⟩)] #[]] w fun e W' => e = .returned (.int .i64 (-1)) ∧ w = W' := by
  have eg2 : ∀ args w, Sem.run Tryd.prog (callFunc g args) w = .ok (.enter g args) w := eg
  go_enter Tryd.func98, Tryd.ntmps98
  go_wp2_with fail
  go_loopw [8] (fun t wr => ∃ k : Nat, k ≤ L ∧ t = .int .i64 k ∧ w = wr) (fun t _ => L - (intOf t).toNat)
  case atStart => exact ⟨0, by omega, rfl, rfl⟩
  case round =>
    obtain ⟨k, hk, rfl, rfl⟩ := hrel
    by_cases hlt : k < L
    · obtain ⟨b, rfl, hc⟩ := hcell k hlt
      have hs := hstep k hlt
      go_wp2_with (go_at_fn g; refine hs.mono ?_; rintro e W' ⟨rfl, rfl⟩)
      go_roundw
      case rel => exact ⟨k + 1, by omega, by go_num, trivial⟩
      case measure => simp [intOf]; omega
    · obtain rfl : k = L := by omega
      go_wp2
      go_ret
      exact ⟨rfl, rfl⟩
set_option maxHeartbeats 400000 in
theorem contf_any (g : Nat) (eg : Enters Tryd.prog g) (S : Nat) (o : Option Addr) (L cap : Nat) (c : Nat → Int) (w : World) (hL : L ≤ 1000)
    (hcell : ∀ k, k < L → ∃ b, o = some ⟨b, 0, none⟩ ∧ w.cell? ⟨b, k, none⟩ = some (.int .i64 (c k)))
    (hstep : ∀ k, k < L → Calls Tryd.prog g #[.pointer (some ⟨S, 0, none⟩), .int .i64 (c k)] w fun e W' => e = .returned (.bool false) ∧ w = W') :
    Calls Tryd.prog 87 #[.slice o L cap, .func (.func g) #[.pointer (some ⟨S, 0, none⟩)] #[]] w fun e W' => e = .returned (.bool false) ∧ w = W' := by
  have hi := idxf_any g eg S o L cap c w hL hcell hstep
  clear hcell hstep
  go_enter Tryd.func87, Tryd.ntmps87
  go_wp2_with (go_at_call 98; refine hi.mono ?_; rintro e W' ⟨rfl, rfl⟩)
  go_ret
  exact ⟨rfl, rfl⟩
end Go.Proofs.YtfdnfllefednjaaDoor

/-
  Package tables: Find and Protect, over the words of the memory.
-/
namespace Go.Proofs.YtfdnfllefednjaaDoor
open Go.ChangeShapes Go.WideShapes Go.ChangeAt Go.RowKit Go.Shelf

theorem Mem.wX_three (m : Mem) (root q : Int) (h : m.wX root q = 0) : m.wN root q = 3 := by
  unfold Mem.wX at h
  unfold Mem.wN
  cases hb : m.wB root q
  · rw [hb] at h; simp at h
  · rw [hb] at h
    simp only [if_true] at h ⊢
    split at h
    · rename_i h0; exact absurd h h0
    · rename_i h0
      split at h
      · rename_i h1; exact absurd h h1
      · rename_i h1; rw [if_neg h0, if_neg h1]
theorem row_mono {w : World} {base b' sz k : Nat} {e : TypeId} {v : Value} {xs : List Value} (h : w.ownsRow base e sz v k xs) (hb : b' ≤ base) : w.ownsRow b' e sz v k xs := by
  refine ⟨h.1, ?_⟩
  rcases h.2 with hn | ⟨g, cap, cur, rfl, hbg, rest⟩
  · exact .inl hn
  · exact .inr ⟨g, cap, cur, rfl, Nat.le_trans hb hbg, rest⟩
/-- what a walk hands on, wherever its row of steps lies -/
theorem walk_row {A : Nat} {m : Mem} {root q : Int} {w : World} (N : Nat) (hN : N ≤ w.heap.size) (h : MemAt w A m) (T : Tab w) (hg : m.good) :
    Calls Tryd.prog 65 #[.pointer (some ⟨A, 0, none⟩), .int .i64 root, .int .i64 q] w fun e w' => ∃ o cap, e = .returned (.tuple #[(m.wE root q).val, .slice o (m.wN root q) cap, .int .i64 (m.wX root q)]) ∧
      Hid (w'.ownsRow N 128 2 (.slice o (m.wN root q) cap) (m.wN root q) (m.wS root q (m.wN root q))) ∧ Upd (fun _ => False) w w' := by
  refine (wwalk_any A m root q w h T hg).mono ?_
  rintro e w' ⟨v, rfl, hr, u⟩
  obtain ⟨o, cap, rfl⟩ := wk_slice hr
  exact ⟨o, cap, rfl, Lib.hid (row_mono hr hN), u⟩

set_option maxRecDepth 100000 in
set_option maxHeartbeats 2000000 in
theorem sfind_any (S MA A : Nat) (root : Int) (m : Mem) (q : Int) (w : World) (h : SpAt w S MA A root) (hm : MemAt w MA m) (T : Tab w) (hg : m.good) :
    Calls Tryd.prog 34 #[.pointer (some ⟨S, 0, none⟩), .int .i64 q] w fun e w' => e = .returned (.tuple #[(m.wE root q).val, .int .i64 (m.wX root q)]) ∧ Upd (fun _ => False) w w' := by
  have cW := Lib.hid (fun (W : World) (hW : w.heap.size ≤ W.heap.size) (h : MemAt W MA m) (T : Tab W) => walk_row (root := root) (q := q) w.heap.size hW h T hg)
  clear hg
  generalize m.wN root q = n at cW
  generalize m.wX root q = X at cW ⊢
  generalize m.wE root q = E at cW ⊢
  generalize m.wS root q n = xs at cW
  obtain ⟨ev, er, et, ef⟩ := E
  have k0 : Hid (EntAt (w.alloc (.cells #[.bool false, .bool false, .bool false, .int .i64 0] 34)) w.heap.size false false false 0) := Lib.hid (heap_alloc_last w _)
  have U0 := (Upd.refl (fun _ => False) w).alloc (.cells #[.bool false, .bool false, .bool false, .int .i64 0] 34)
  have h1 := h.kept U0 id
  have M1 := hm.kept U0 id id
  have T1 := T.kept U0
  go_enter Tryd.func34, Tryd.ntmps34
  go_upto_region 1 with fail
  generalize w.alloc (.cells #[.bool false, .bool false, .bool false, .int .i64 0] 34) = wr at k0 U0 h1 M1 T1 ⊢
  have hsz := Lib.hid U0.size
  generalize eN : w.heap.size = N at k0 cW hsz ⊢
  have hR := Lib.hid (Nat.le_of_eq eN)
  clear eN
  have c0 := h1.c0
  have c2 := h1.c2
  have hS := Lib.hid (show ∀ (W' : World), Upd (fun _ => False) wr W' → W'.cell? ⟨S, 0, none⟩ = some (.pointer (some ⟨MA, 0, none⟩)) ∧ W'.cell? ⟨S, 2, none⟩ = some (.int .i64 root) ∧ Upd (fun _ => False) wr W' from fun W' u => ⟨u.cell c0 id, u.cell c2 id, u⟩)
  go_cut [6, 7, 8] (fun s6 s7 s8 wx => ∃ (D : Nat) (o : Option Addr) (cap : Nat), s6 = .pointer (some ⟨D, 0, none⟩) ∧ s7 = .slice o n cap ∧ s8 = .int .i64 X ∧ Hid (EntAt wx D ev er et ef) ∧ Upd (fun _ => False) wr wx)
  case first =>
    go_region_held3 (fun w' => w'.cell? ⟨S, 0, none⟩ = some (.pointer (some ⟨MA, 0, none⟩)) ∧ w'.cell? ⟨S, 2, none⟩ = some (.int .i64 root) ∧ Upd (fun _ => False) wr w')
      (first
        | assumption
        | exact hS.out _ (Upd.refl _ _).drew
        | exact hS.out _ ((Upd.refl _ _).drew.alloc _)
        | exact hS.out _ u7
        | exact hS.out _ (u7.alloc _)
        | exact hS.out _ ((((u7.setCell (.inr (Nat.le_refl _)) _).setCell (.inr (Nat.le_refl _)) _).setCell (.inr (Nat.le_refl _)) _).setCell (.inr (Nat.le_refl _)) _)
        | exact hS.out _ (((((u7.alloc _).setCell (.inr u7.size) _).setCell (.inr u7.size) _).setCell (.inr u7.size) _).setCell (.inr u7.size) _))
      (first
        | (go_at_call 65; go_split_ands; rename_i s1 s2 s3; refine (cW.out (wr.alloc (.cells #[.bool false, .bool false, .bool false, .int .i64 0] 34)).drew (Nat.le_trans hsz.out s3.size) (M1.kept s3 id id) (T1.kept s3)).mono ?_; rintro e w6 ⟨o, cap, rfl, -, u6⟩; have u7 := s3.trans u6; have e7 : Hid (EntAt w6 wr.heap.size false false false 0) := Lib.hid (u6.at (heap_alloc_last wr _) id); obtain ⟨e0, e1, e2, e3, z0, z1, z2, z3⟩ := e7.out.eight)
        | (go_at_call 65; go_split_ands; rename_i s1 s2 s3; refine (cW.out _ (Nat.le_trans hsz.out s3.size) (M1.kept s3 id id) (T1.kept s3)).mono ?_; rintro e w6 ⟨o, cap, rfl, -, u6⟩; have u7 := s3.trans u6))
    all_goals (go_wp2_with fail)
    all_goals go_meet
    all_goals
      first
        | exact ⟨wr.heap.size, o, cap, rfl, rfl, rfl, Lib.hid (e7.out.set ev er et ef), (((u7.setCell (.inr (Nat.le_refl _)) _).setCell (.inr (Nat.le_refl _)) _).setCell (.inr (Nat.le_refl _)) _).setCell (.inr (Nat.le_refl _)) _⟩
        | exact ⟨w6.heap.size, o, cap, rfl, rfl, rfl, Lib.hid (heap_alloc_last w6 _), u7.alloc _⟩
  case rest =>
    obtain ⟨D, o, cap, rfl, rfl, rfl, hD, u8⟩ := hcut
    have k1 := Lib.hid (k0.out.kept u8 id)
    have U := Lib.hid (U0.trans u8)
    clear hS c0 c2 h1 M1 T1 cW k0 u8 U0
    go_wp2_with first
      | (with_reducible refine wpList_load_sz rfl 34 (.tmp 6) rfl D 0 rfl [.bool ev, .bool er, .bool et, .int .i64 ef] _ hD.out.range Tryd.underlying34 rfl 4 (ent_len _ _ _ _) size_ent ?_)
      | (with_reducible refine wpList_store_sz rfl 34 (.tmp 4) (.tmp 23) rfl N 0 #[.bool ev, .bool er, .bool et, .int .i64 ef] rfl rfl 4 (ent_sz _ _ _ _) k1.out.there size_ent (ent_one _ _ _ _) [.bool ev, .bool er, .bool et, .int .i64 ef] (ent_ls _ _ _ _) ?_)
    (try simp only [Exit.inBlock, Exit.then])
    refine bodyPost_ret (ret_ent rfl _ _ N ev er et ef rfl (k1.out.set ev er et ef)) rfl ⟨rfl, ?_⟩
    exact Upd.setCells (.inr hR.out) _ _ U.out

theorem size_step : (Tryd.prog.info? 128).map (·.size) = some 2 := by kernel_rfl
end Go.Proofs.YtfdnfllefednjaaDoor

/-
  Package tables: a visit of all valid entries, for whatever function it calls.
-/
namespace Go.Proofs.YtfdnfllefednjaaDoor
open Go.ChangeShapes Go.WideShapes Go.ChangeAt Go.RowKit Go.Shelf

/-- what a visit of k levels from the table d of level l on tells -/
def Sp.vis (s : Sp) : Nat → Nat → Nat → List (Nat × En)
  | 0, _, _ => []
  | k + 1, l, d => (List.range 16).flatMap fun p => if (s.E (l + 1) (16 * d + p)).v = true then (16 * d + p, s.E (l + 1) (16 * d + p)) :: s.vis k (l + 1) (16 * d + p) else []
/-- .. of the first places -/
def Sp.visTo (s : Sp) (k l d P : Nat) : List (Nat × En) := (List.range P).flatMap fun p => if (s.E (l + 1) (16 * d + p)).v = true then (16 * d + p, s.E (l + 1) (16 * d + p)) :: s.vis k (l + 1) (16 * d + p) else []
theorem Sp.visTo_all (s : Sp) (k l d : Nat) : s.visTo k l d 16 = s.vis (k + 1) l d := rfl
theorem Sp.visTo_no (s : Sp) (k l d P : Nat) (h : (s.E (l + 1) (16 * d + P)).v = false) : s.visTo k l d (P + 1) = s.visTo k l d P := by
  unfold Sp.visTo
  rw [List.range_succ, List.flatMap_append]
  simp [h]
theorem Sp.visTo_yes (s : Sp) (k l d P : Nat) (h : (s.E (l + 1) (16 * d + P)).v = true) : s.visTo k l d (P + 1) = s.visTo k l d P ++ [(16 * d + P, s.E (l + 1) (16 * d + P))] ++ s.vis k (l + 1) (16 * d + P) := by
  unfold Sp.visTo
  rw [List.range_succ, List.flatMap_append]
  simp [h]

theorem Sp.visTo_mono (s : Sp) (k l d P : Nat) : (s.visTo k l d P).length ≤ (s.visTo k l d (P + 1)).length := by
  cases h : (s.E (l + 1) (16 * d + P)).v
  · rw [s.visTo_no k l d P h]; exact Nat.le_refl _
  · rw [s.visTo_yes k l d P h]; simp
theorem Sp.visTo_le (s : Sp) (k l d : Nat) : ∀ j P, P + j = 16 → (s.visTo k l d P).length ≤ (s.vis (k + 1) l d).length
  | 0, P, h => by rw [show P = 16 from by omega, s.visTo_all]; exact Nat.le_refl _
  | j + 1, P, h => Nat.le_trans (s.visTo_mono k l d P) (s.visTo_le k l d j (P + 1) (by omega))
theorem Sp.visTo_bd (s : Sp) (k l d c : Nat) (hc : ∀ d', (s.vis k (l + 1) d').length ≤ c) : ∀ P, (s.visTo k l d P).length ≤ P * (c + 1)
  | 0 => by simp [Sp.visTo]
  | P + 1 => by
    have ih := s.visTo_bd k l d c hc P
    have h1 := hc (16 * d + P)
    rw [Nat.add_mul]
    cases h : (s.E (l + 1) (16 * d + P)).v
    · rw [s.visTo_no k l d P h]; omega
    · rw [s.visTo_yes k l d P h]; simp; omega
theorem Sp.vis_bd (s : Sp) : (s.vis 3 0 0).length ≤ 4368 := by
  have h1 : ∀ d, (s.vis 1 2 d).length ≤ 16 := fun d => by have := s.visTo_bd 0 2 d 0 (fun _ => by simp [Sp.vis]) 16; rwa [s.visTo_all] at this
  have h2 : ∀ d, (s.vis 2 1 d).length ≤ 272 := fun d => by have := s.visTo_bd 1 1 d 16 h1 16; rwa [s.visTo_all] at this
  have := s.visTo_bd 2 0 0 272 h2 16
  rwa [s.visTo_all] at this

/-- what is asked of the function that is called with each entry -/
structure Sees (g B MA A S : Nat) (root : Int) (m : Mem) (J : List (Nat × En) → World → Prop) : Prop where
  has : ∀ pre W, J pre W → MemAt W MA m ∧ Tab W ∧ SpAt W S MA A root
  keep : ∀ pre W W', J pre W → Upd (fun _ => False) W W' → J pre W'
  see : ∀ pre (x : Nat × En) W, pre.length < 5000 → J pre W → Calls Tryd.prog g #[.int .i64 (x.1 : Nat), x.2.val, .pointer (some ⟨B, 0, none⟩)] W fun e W' => e = .returned (.tuple #[]) ∧ J (pre ++ [x]) W' ∧ ∀ D v r t f, EntAt W D v r t f → EntAt W' D v r t f

end Go.Proofs.YtfdnfllefednjaaDoor

/-
  Package tables: tables created: the frames that are allocated, one by one, and cleared.
-/
namespace Go.Proofs.YtfdnfllefednjaaDoor
open Go.ChangeShapes Go.WideShapes Go.ChangeAt Go.RowKit Go.Shelf

/-- so many frames allocated one by one -/
def Bud.al (b : Bud) : Nat → List Nat × Bud
  | 0 => ([], b)
  | k + 1 => match (b.al k).2.sel 0 with
    | some x => ((b.al k).1 ++ [x.1], (b.al k).2.give (x.1, 0))
    | none => b.al k
theorem sel0_some {b : Bud} (h : 1 ≤ b.left) : ∃ x, b.sel 0 = some x := by
  unfold Bud.left cnt at h
  obtain ⟨j, hj⟩ := List.exists_mem_of_length_pos (l := (List.range b.n).filter b.F) (by omega)
  rw [List.mem_filter, List.mem_range] at hj
  obtain ⟨k, hk⟩ := exists_mx hj.2 hj.1
  have hm : (st j k, k) ∈ blocks b.F b.n := mem_blocks.2 hk
  cases hs : b.sel 0 with
  | some x => exact ⟨x, rfl⟩
  | none => have := pick_none hs _ hm; simp at this
structure AlOk (b : Bud) (k : Nat) (c : List Nat) (b' : Bud) : Prop where
  len : c.length = k
  ok : b'.Ok
  n : b'.n = b.n
  res : b'.res = b.res
  left : b'.left + k = b.left
  gave : b'.gave = b.gave ++ c.map fun f => (f, 0)
  fr : ∀ f, f ∈ c → f < b.n ∧ b.F f = true
  nd : c.Nodup
  F : ∀ j, b'.F j = true ↔ b.F j = true ∧ j ∉ c
theorem al_ok {b : Bud} (h : b.Ok) : ∀ k, k ≤ b.left → AlOk b k (b.al k).1 (b.al k).2
  | 0, _ => ⟨rfl, h, rfl, rfl, rfl, by simp [Bud.al], by simp [Bud.al], by simp [Bud.al], by simp [Bud.al]⟩
  | k + 1, hk => by
    have ih := al_ok h k (by omega)
    obtain ⟨x, hx⟩ := sel0_some (b := (b.al k).2) (by have := ih.left; omega)
    have e : b.al (k + 1) = ((b.al k).1 ++ [x.1], (b.al k).2.give (x.1, 0)) := by rw [Bud.al, hx]
    rw [e]
    obtain ⟨g1, g2⟩ := sel_give ih.ok (by omega) hx
    have hF : (b.al k).2.F x.1 = true := g2.fr x.1 (Nat.le_refl _) (by simp)
    have hF' := (ih.F x.1).1 hF
    have hle := g2.le
    have hl := left_give g2
    have := ih.left
    have := ih.n
    simp at hle hl
    refine ⟨by simp [ih.len], g1, ih.n, ih.res, by simp; omega, ?_, ?_, ?_, ?_⟩
    · show (b.al k).2.gave ++ [(x.1, 0)] = _
      rw [ih.gave]; simp
    · intro f hf
      rcases List.mem_append.1 hf with hf | hf
      · exact ih.fr f hf
      · simp at hf; subst hf; exact ⟨by omega, hF'.1⟩
    · rw [List.nodup_append]
      refine ⟨ih.nd, by simp, fun a ha y hy => ?_⟩
      simp at hy; subst hy
      rintro rfl
      exact hF'.2 ha
    · intro j
      show (cutF (b.al k).2.F (x.1, 0)) j = true ↔ _
      unfold cutF
      rw [Bool.and_eq_true, ih.F j]
      have : (!inBlk (x.1, 0) j) = true ↔ j ≠ x.1 := by
        rw [Bool.not_eq_true', inBlk_no]; simp; omega
      rw [this]
      simp [and_assoc]
/-- frames cleared one by one -/
def Mem.clears (m : Mem) (c : List Nat) : Mem := c.foldl (fun (m : Mem) (f : Nat) => m.scrub (f : Int) 1) m
theorem Mem.clears_snoc (m : Mem) (c : List Nat) (f : Nat) : m.clears (c ++ [f]) = (m.clears c).scrub (f : Int) 1 := by simp [Mem.clears]
theorem Mem.clears_n (m : Mem) (c : List Nat) : (m.clears c).n = m.n := by
  induction c using snoc_induction with
  | h0 => rfl
  | h1 l x ih => rw [m.clears_snoc, Mem.scrub_n, ih]
theorem Mem.clears_B (m : Mem) (c : List Nat) : (m.clears c).B = m.B := by
  induction c using snoc_induction with
  | h0 => rfl
  | h1 l x ih => rw [m.clears_snoc, Mem.scrub_B, ih]
theorem Mem.clears_ok (m : Mem) (h : m.ok) (c : List Nat) : (m.clears c).ok := by
  induction c using snoc_induction with
  | h0 => exact h
  | h1 l x ih => rw [m.clears_snoc]; exact Mem.ok_scrub _ ih _ _
theorem Mem.word_scrub (m : Mem) (h : m.ok) (f g p : Int) (hf : m.ex f 1 = true) (hs : m.slot g p = true) : (m.scrub f 1).word g p = if g = f then 0 else m.word g p := by
  have hs' : (m.scrub f 1).slot g p = true := by unfold Mem.slot; rw [Mem.scrub_ex]; exact hs
  rw [← Mem.slot_rd _ _ _ hs', ← Mem.slot_rd _ _ _ hs, m.scrub_rd h f 1 _ hf (m.slot_has _ _ hs)]
  rw [Mem.slot_iff] at hs
  by_cases e : g = f
  · rw [if_pos (by omega), if_pos e]
  · rw [if_neg (by omega), if_neg e]
theorem Mem.scrub_good (m : Mem) (h : m.ok) (hg : m.good) (f : Int) : (m.scrub f 1).good := by
  intro i
  cases hf : m.ex f 1
  · unfold Mem.scrub; rw [hf]; exact hg i
  · by_cases hi : i < 16 * m.n
    · have hh : m.has (i : Int) = true := decide_eq_true (by omega)
      have hh' : (m.scrub f 1).has (i : Int) = true := by rw [Mem.scrub_has]; exact hh
      have e1 : (m.scrub f 1).rd (i : Int) = (m.scrub f 1).at i := by unfold Mem.rd; rw [if_pos hh']; rfl
      have e2 : m.rd (i : Int) = m.at i := by unfold Mem.rd; rw [if_pos hh]; rfl
      rw [← e1, m.scrub_rd h f 1 _ hf hh, e2]
      split
      · omega
      · exact hg i
    · have : (m.scrub f 1).at i = 0 := by
        have := Mem.ok_scrub m h f 1
        unfold Mem.ok at this
        rw [Mem.scrub_n] at this
        unfold Mem.at
        rw [List.getD_eq_getElem?_getD, List.getElem?_eq_none (by omega)]; rfl
      rw [this]; omega
theorem Mem.clears_good (m : Mem) (h : m.ok) (hg : m.good) (c : List Nat) : (m.clears c).good := by
  induction c using snoc_induction with
  | h0 => exact hg
  | h1 l x ih => rw [m.clears_snoc]; exact Mem.scrub_good _ (m.clears_ok h l) ih _
theorem Mem.slot_of_n {m m' : Mem} (h : m'.n = m.n) (f p : Int) : m'.slot f p = m.slot f p := by unfold Mem.slot Mem.ex; rw [h]
theorem Mem.clears_word (m : Mem) (h : m.ok) (c : List Nat) (hc : ∀ f, f ∈ c → f < m.n) (g p : Nat) (hg : g < m.n) (hp : p < 16) : (m.clears c).word (g : Nat) (p : Nat) = if g ∈ c then 0 else m.word (g : Nat) (p : Nat) := by
  induction c using snoc_induction with
  | h0 => simp [Mem.clears]
  | h1 l x ih =>
    have hs : (m.clears l).slot g p = true := by rw [Mem.slot_iff, m.clears_n]; omega
    have hx := hc x (by simp)
    rw [m.clears_snoc, Mem.word_scrub _ (m.clears_ok h l) _ _ _ (decide_eq_true (by rw [m.clears_n]; omega)) hs, ih fun f hf => hc f (by simp [hf])]
    by_cases e : g = x
    · subst e; simp
    · rw [if_neg (by omega)]
      simp [e]

theorem SpAt.apart {w : World} {S MA A GB : Nat} {root : Int} {m : Mem} {b : Bud} (h : SpAt w S MA A root) (hd : Duo w A MA GB m b) : ¬ (S = GB ∨ S = m.B) := by
  rintro (rfl | rfl)
  · obtain ⟨D, ⟨es, clock, hb, _⟩, _⟩ := hd.B.mp
    have h' : w.heap[S]? = _ := h
    rw [h'] at hb
    cases hb
  · have h' : w.heap[m.B]? = _ := h
    rw [hd.M.body] at h'
    simp at h'
def nat1 (c : List Nat) : List Value := c.map fun f => .int .i64 (f : Nat)
theorem nat1_at (c : List Nat) (k : Nat) (h : k < c.length) : (nat1 c)[k]? = some (.int .i64 (c.getD k 0 : Nat)) := by
  simp [nat1, List.getD_eq_getElem?_getD, List.getElem?_eq_getElem h]
theorem info_int8 : (Tryd.prog.info? 3).map (fun i => (i.zero, i.size, i.bytes)) = some (some (.int .i64 0), 1, 8) := by kernel_rfl
theorem take_snocN (l : List Nat) (k : Nat) (h : k < l.length) : l.take (k + 1) = l.take k ++ [l.getD k 0] := by
  rw [List.take_add_one, List.getElem?_eq_getElem h]
  simp [List.getD_eq_getElem?_getD, List.getElem?_eq_getElem h]
theorem Duo.cleared {w w' : World} {A MA GB : Nat} {m m' : Mem} {b : Bud} (h : Duo w A MA GB m b) (hm : MemAt w' MA m') (u : Upd (· = m.B) w w') (hn : m'.n = m.n) : Duo w' A MA GB m' b := by
  have := h.ne
  exact ⟨h.B.kept u (by omega) (by omega), hm, by rw [hn]; exact h.n⟩

theorem upd_own {W w4 : World} {X : Obj} {N sz k : Nat} {e : TypeId} {v : Value} {xs : List Value} (hrow : W.ownsRow N e sz v k xs) (hgr : (W.alloc X).grownBy w4 v.ownBlock) : Upd (N ≤ ·) W w4 :=
  ⟨hgr.os, hgr.tape, hgr.output, by have h1 := hgr.size; simp at h1; omega, fun k hk hs => by
    rw [hgr.block k (by simp; omega) (fun e => by have := (hrow.lt k e.symm).1; omega), Below.heap_alloc _ _ _ (by omega)]⟩

set_option maxRecDepth 100000 in
set_option maxHeartbeats 2000000 in
theorem create_any (S MA A GB : Nat) (root : Int) (m : Mem) (b : Bud) (k : Nat) (w : World) (h : SpAt w S MA A root) (hd : Duo w A MA GB m b) (hk : k ≤ 3) :
    Calls Tryd.prog 67 #[.pointer (some ⟨S, 0, none⟩), .int .i64 k] w fun e w' =>
      (b.left < k ∧ e = .returned (.tuple #[.slice none 0 0, .int .i64 6]) ∧ Upd (fun _ => False) w w') ∨
      (k ≤ b.left ∧ ∃ v, e = .returned (.tuple #[v, .int .i64 0]) ∧ w'.ownsRow w.heap.size 3 1 v k (nat1 (b.al k).1) ∧ Duo w' A MA GB (m.clears (b.al k).1) (b.al k).2 ∧ Upd (fun j => j = GB ∨ j = m.B) w w') := by
  have hc := h.c1
  have hleft := hd.B.ok
  by_cases hlt : b.left < k
  · go_enter Tryd.func67, Tryd.ntmps67
    go_wp2_with (go_at_call 85; refine (bLeft_any A MA GB m b _ hd.B hd.M hd.n).mono ?_; rintro e w' ⟨rfl, u⟩)
    go_ret2
    exact .inl ⟨hlt, rfl, u⟩
  · have ha := al_ok hd.B.ok k (by omega)
    obtain ⟨i0, hi, hz0, hz1, hz2⟩ := info_parts info_int8
    obtain ⟨N, hN⟩ : ∃ N, w.heap.size = N := ⟨_, rfl⟩
    have hap := h.apart hd
    have hlts := hd.B.lts
    have hBlt := lt_of_heap hd.M.body
    have hMlt := lt_of_heap hd.M.head
    have hSlt := lt_of_heap h
    go_enter Tryd.func67, Tryd.ntmps67
    go_wp2_with (go_at_call 85; refine (bLeft_any A MA GB m b _ hd.B hd.M hd.n).mono ?_; rintro e w' ⟨rfl, u⟩)
    have h' := h.kept u id
    have hd' := hd.still u
    have hNu := u.size
    go_loopw [6, 17] (fun v t wr => ∃ j : Nat, j ≤ k ∧ t = .int .i64 j ∧ wr.ownsRow N 3 1 v j (nat1 (b.al j).1) ∧ Duo wr A MA GB m (b.al j).2 ∧ SpAt wr S MA A root ∧ Upd (fun j => j = GB ∨ j = m.B) w wr) (fun _ t _ => k - (intOf t).toNat)
    case atStart => exact ⟨0, by omega, rfl, World.ownsRow_nil _ _ _ _, hd', h', u.mono (fun _ _ x => x.elim)⟩
    case round =>
      rename_i v _ _
      clear h' hd' u
      obtain ⟨j, hj, rfl, hrow, hdr, hsr, hU⟩ := hrel
      obtain ⟨o, cap, rfl⟩ := wk_slice hrow
      have hsz := hU.size
      by_cases hjk : j < k
      · have hcr := hsr.c1
        have aj := al_ok hd.B.ok j (by omega)
        obtain ⟨x, hx⟩ := sel0_some (b := (b.al j).2) (by have := aj.left; omega)
        have hnext := Lib.hid (show b.al (j + 1) = ((b.al j).1 ++ [x.1], (b.al j).2.give (x.1, 0)) from by rw [Bud.al, hx])
        go_wp2_with first
          | (go_at_call 86
             refine (bAlloc_any A MA GB m (b.al j).2 0 _ hdr.B hdr.M hdr.n (by omega)).mono ?_
             rintro e w1 (⟨hno, _⟩ | ⟨x', hx', rfl, hB1, u1⟩)
             · rw [hx] at hno; cases hno
             obtain rfl : x' = x := by rw [hx] at hx'; exact (Option.some.inj hx').symm
             have hd1 := hdr.gb hB1 u1 rfl
             have hs1 := hsr.kept u1 (fun e => hap (.inl e))
             have hrow1 := wk_kept hrow u1 (fun q hq => by have := (hrow.lt q hq).1; omega)
             have hU1 := hU.trans (u1.mono (T := fun j => j = GB ∨ j = m.B) (fun _ _ e => .inl e)))
          | (at_builtin; refine wpList_append_own _ rfl _ _ 124 rfl N 3 i0 (.int .i64 0) 1 8 Tryd.underlying124 hi hz0 hz1 hz2 rfl (by decide) _ _ _ rfl (hrow1.alloc _) ⟨w1.heap.size, 0, none⟩ 1 1 [.int .i64 x'.1] rfl rfl (cell_one_new _ _ _) (by simp [Value.oneCell']) (by simp [maxLen]; omega) (by omega) (by have := hU1.size; simp; omega) ?_; intro v' w2 hown' hgrow _; obtain ⟨g', cap', rfl⟩ := ownsRow_succ hown')
        go_roundw
        case rel =>
          refine ⟨j + 1, by omega, by go_num, ?_, ?_, ?_, ?_⟩
          · rw [hnext.out]
            unfold nat1 at hown' ⊢
            rw [List.map_append]
            exact hown'
          · rw [hnext.out]
            exact hd1.kept (upd_own hrow1 hgrow) (by omega) (by omega) (by omega) (by omega)
          · exact hs1.kept (upd_own hrow1 hgrow) (by omega)
          · exact upd_app hU1 hrow1 (by omega) hgrow
        case measure => simp [intOf]; omega
      · obtain rfl : j = k := by omega
        have hR := slice1 hrow
        obtain ⟨o', cap', e1, hcell⟩ := hR
        cases e1
        have hlenc := ha.len
        go_wp2_with first
          | (go_at_call 87
             refine (contf_any 66 (enters_of Tryd.func66 (by kernel_rfl) rfl) S o j cap (fun i => ((b.al j).1.getD i 0 : Nat)) _ (by omega) ?_ ?_).mono ?_
             · exact fun i hi => hcell i _ (nat1_at _ _ (by omega))
             · intro i hi
               refine (lacks_any S MA A root m _ _ hsr hdr.M).mono ?_
               rintro e w1 ⟨rfl, rfl⟩
               refine ⟨?_, rfl⟩
               have hm := ha.fr ((b.al j).1.getD i 0) (by rw [List.getD_eq_getElem?_getD, List.getElem?_eq_getElem (by omega)]; simp)
               have : m.ex ((b.al j).1.getD i 0 : Nat) 1 = true := decide_eq_true (by have := hd.n; omega)
               rw [this]; rfl
             rintro e w1 ⟨rfl, rfl⟩)
          | (go_at_call 88
             refine (each_any 89 (enters_of Tryd.func89 (by kernel_rfl) rfl) S o j cap (fun i => ((b.al j).1.getD i 0 : Nat)) (fun i W => Duo W A MA GB (m.clears ((b.al j).1.take i)) (b.al j).2 ∧ SpAt W S MA A root ∧ W.ownsRow N 3 1 (.slice o j cap) j (nat1 (b.al j).1) ∧ Upd (fun q => q = GB ∨ q = m.B) w W) _ (by omega) ⟨by simpa [Mem.clears] using hdr, hsr, hrow, hU⟩ ?_ ?_).mono ?_
             · rintro i W ⟨-, -, hrW, -⟩ hi
               obtain ⟨o2, cap2, e2, hc2⟩ := slice1 hrW
               cases e2
               exact hc2 i _ (nat1_at _ _ (by omega))
             · rintro i W ⟨hdW, hsW, hrW, hUW⟩ hi
               refine (sclear_any S MA A root _ _ W hsW hdW.M).mono ?_
               rintro e W' ⟨rfl, hmW, uW⟩
               rw [Mem.clears_B] at uW
               refine ⟨rfl, ?_, hsW.kept uW (fun e => hap (.inr e)), wk_kept hrW uW (fun q hq => by have := (hrW.lt q hq).1; omega), hUW.trans (uW.mono (fun _ _ e => .inr e))⟩
               rw [take_snocN _ _ (by omega), Mem.clears_snoc]
               exact hdW.cleared hmW (by rw [Mem.clears_B]; exact uW) (by rw [Mem.scrub_n])
             rintro e w1 ⟨rfl, hd1, hs1, hrow1, hU1⟩)
        go_ret2
        rw [List.take_of_length_le (by omega)] at hd1
        exact .inr ⟨by omega, _, rfl, hN ▸ hrow1, hd1, hU1⟩
end Go.Proofs.YtfdnfllefednjaaDoor

/-
  Package tables: what the visits collect: Pages, Tables, Close.
-/
namespace Go.Proofs.YtfdnfllefednjaaDoor
open Go.ChangeShapes Go.WideShapes Go.ChangeAt Go.RowKit Go.Shelf

/-- what Pages, Tables and Close take of an entry -/
def selP (x : Nat × En) : Option Int := if x.2.t = true then none else some (x.1 : Nat)
def selT (x : Nat × En) : Option Int := if x.2.t = true then some x.2.f else none
def selC (x : Nat × En) : Option Int := if x.2.t = true then none else some x.2.f
def i64s (l : List Int) : List Value := l.map fun f => .int .i64 f
/-- what is held while a visit collects -/
structure Coll (w : World) (N B MA A S : Nat) (root : Int) (m : Mem) (L0 : List Int) (sel : Nat × En → Option Int) (pre : List (Nat × En)) (W : World) : Prop where
  box : ∃ o cap, Boxed W B 124 (.slice o (L0 ++ pre.filterMap sel).length cap) ∧ W.ownsRow N 3 1 (.slice o (L0 ++ pre.filterMap sel).length cap) (L0 ++ pre.filterMap sel).length (i64s (L0 ++ pre.filterMap sel))
  M : MemAt W MA m
  T : Tab W
  S : SpAt W S MA A root
  U : Upd (fun _ => False) w W
theorem Coll.keep {w : World} {N B MA A S : Nat} {root : Int} {m : Mem} {L0 : List Int} {sel : Nat × En → Option Int} {pre : List (Nat × En)} {W W' : World} (h : Coll w N B MA A S root m L0 sel pre W) (u : Upd (fun _ => False) W W') : Coll w N B MA A S root m L0 sel pre W' := by
  obtain ⟨⟨o, cap, hb, hr⟩, M, T, hS, U⟩ := h
  exact ⟨⟨o, cap, u.at hb id, wk_kept hr u (fun _ _ => id)⟩, M.kept u id id, T.kept u, hS.kept u id, U.trans u⟩
theorem collN (L0 : List Int) (sel : Nat × En → Option Int) (pre : List (Nat × En)) (h : pre.length < 5000) (h0 : L0.length ≤ 1) : (L0 ++ pre.filterMap sel).length ≤ 5000 := by
  have := List.length_filterMap_le sel pre
  rw [List.length_append]; omega
/-- one number more -/
theorem Coll.push {w : World} {N B MA A S : Nat} {root : Int} {m : Mem} {L0 : List Int} {sel : Nat × En → Option Int} {pre : List (Nat × En)} {W w1 : World} {o : Option Addr} {cap : Nat} {x : Nat × En} {y : Int} {X : Obj} {v' : Value}
    (hwN : w.heap.size = N) (hB : N ≤ B) (hTw : Tab w) (h : Coll w N B MA A S root m L0 sel pre W) (hbox : Boxed W B 124 (.slice o (L0 ++ pre.filterMap sel).length cap)) (hrow : W.ownsRow N 3 1 (.slice o (L0 ++ pre.filterMap sel).length cap) (L0 ++ pre.filterMap sel).length (i64s (L0 ++ pre.filterMap sel)))
    (hs : sel x = some y) (hown : w1.ownsRow N 3 1 v' ((L0 ++ pre.filterMap sel).length + 1) (i64s (L0 ++ pre.filterMap sel) ++ [.int .i64 y])) (hgrow : (W.alloc X).grownBy w1 (Value.slice o (L0 ++ pre.filterMap sel).length cap).ownBlock) :
    Boxed w1 B 124 (.slice o (L0 ++ pre.filterMap sel).length cap) ∧ Coll w N B MA A S root m L0 sel (pre ++ [x]) (w1.setCell ⟨B, 0, none⟩ v') ∧ (∀ (D : Nat) (c : Array Value), W.heap[D]? = some (Obj.cells c 34 (0, 0)) → (w1.setCell ⟨B, 0, none⟩ v').heap[D]? = some (Obj.cells c 34 (0, 0))) := by
  have hsz := h.U.size
  obtain ⟨hv1, hv2, hr2, hk2, hb2⟩ := hbox.appended (by decide) hrow (by omega) hB hown hgrow
  have heq : L0 ++ (pre ++ [x]).filterMap sel = (L0 ++ pre.filterMap sel) ++ [y] := by simp [hs]
  have U0 : Upd (N ≤ ·) W (w1.setCell ⟨B, 0, none⟩ v') := (upd_own hrow hgrow).setCell (.inl hB) _
  have hMA := lt_of_heap h.M.head
  have keepOld : ∀ (k : Nat) (t : Nat) (c : Array Value), t ≠ 3 → t ≠ 124 → W.heap[k]? = some (.cells c t (0, 0)) → (w1.setCell ⟨B, 0, none⟩ v').heap[k]? = some (.cells c t (0, 0)) := by
    intro k t c h1 h2 hk
    have n1 : ∀ j, (Value.slice o (L0 ++ pre.filterMap sel).length cap).ownBlock = some j → ¬ j = k := wk_ne hrow hk h1
    have n2 : ¬ k = B := by
      rintro rfl
      have hb : W.heap[k]? = _ := hbox
      rw [hb] at hk
      simp at hk
      exact h2 hk.2.symm
    have hkl := lt_of_heap hk
    rw [Below.heap_setCell _ _ _ _ n2, hgrow.block k (by simp; omega) (fun e => n1 k e.symm rfl), Below.heap_alloc _ _ _ hkl]
    exact hk
  refine ⟨hv1, ⟨?_, ?_, ?_, ?_, ?_⟩, fun D c hD => keepOld D _ c (by decide) (by decide) hD⟩
  · obtain ⟨g', cap', rfl⟩ := ownsRow_succ hown
    rw [heq]
    refine ⟨some ⟨g', 0, none⟩, cap', ?_, ?_⟩
    · rw [show ((L0 ++ pre.filterMap sel) ++ [y]).length = (L0 ++ pre.filterMap sel).length + 1 from by rw [List.length_append]; rfl]; exact hv2
    · rw [show ((L0 ++ pre.filterMap sel) ++ [y]).length = (L0 ++ pre.filterMap sel).length + 1 from by rw [List.length_append]; rfl]
      unfold i64s at hr2 ⊢
      rw [List.map_append]
      exact hr2
  · exact ⟨keepOld _ _ _ (by decide) (by decide) h.M.head, keepOld _ _ _ (by decide) (by decide) h.M.body, h.M.len, h.M.lo, h.M.hi⟩
  · exact h.T.keptS U0 (by have := World.block_lt_of_cell? w _ (hTw 0 (by omega)).1; simp at this; omega)
  · exact keepOld _ _ _ (by decide) (by decide) h.S
  · exact h.U.new (U0.mono (fun _ _ e => by omega))

theorem Coll.skip {w : World} {N B MA A S : Nat} {root : Int} {m : Mem} {L0 : List Int} {sel : Nat × En → Option Int} {pre : List (Nat × En)} {W : World} {x : Nat × En} (h : Coll w N B MA A S root m L0 sel pre W) (hs : sel x = none) : Coll w N B MA A S root m L0 sel (pre ++ [x]) W := by
  have e : (pre ++ [x]).filterMap sel = pre.filterMap sel := by simp [hs]
  exact ⟨by rw [e]; exact h.box, h.M, h.T, h.S, h.U⟩

end Go.Proofs.YtfdnfllefednjaaDoor

/-
  Package tables: Pages and Tables.
-/
namespace Go.Proofs.YtfdnfllefednjaaDoor
open Go.ChangeShapes Go.WideShapes Go.ChangeAt Go.RowKit Go.Shelf Go.Sort

theorem Coll.start {w : World} {MA A S : Nat} {root : Int} {m : Mem} (hm : MemAt w MA m) (T : Tab w) (h : SpAt w S MA A root) (sel : Nat × En → Option Int) :
    Coll w w.heap.size w.heap.size MA A S root m [] sel [] (w.alloc (.cells #[.slice none 0 0] 124)) := by
  have u := (Upd.refl (fun _ => False) w).alloc (.cells #[.slice none 0 0] 124)
  exact ⟨⟨none, 0, Boxed.new w _ _, World.ownsRow_nil _ _ _ _⟩, hm.kept u id id, T.kept u, h.kept u id, u⟩
def leI (x y : Int) : Bool := decide (x ≤ y)
theorem Coll.start1 {w : World} {MA A S : Nat} {root : Int} {m : Mem} (hm : MemAt w MA m) (T : Tab w) (h : SpAt w S MA A root) (r : Int) (sel : Nat × En → Option Int) :
    Coll w w.heap.size (w.heap.size + 1) MA A S root m [r] sel [] ((w.alloc (.cells #[.int .i64 r] 3)).alloc (.cells #[.slice (some ⟨w.heap.size, 0, none⟩) 1 1] 124)) := by
  have u1 := (Upd.refl (fun _ => False) w).alloc (.cells #[.int .i64 r] 3)
  have u := u1.alloc (.cells #[.slice (some ⟨w.heap.size, 0, none⟩) 1 1] 124)
  have b1 := heap_alloc_last w (.cells #[.int .i64 r] 3)
  have b2 : Boxed ((w.alloc (.cells #[.int .i64 r] 3)).alloc (.cells #[.slice (some ⟨w.heap.size, 0, none⟩) 1 1] 124)) (w.heap.size + 1) 124 (.slice (some ⟨w.heap.size, 0, none⟩) 1 1) := by
    have := Boxed.new (w.alloc (.cells #[.int .i64 r] 3)) 124 (.slice (some ⟨w.heap.size, 0, none⟩) 1 1)
    rwa [World.size_alloc] at this
  have b1' := ((Upd.refl (fun _ => False) (w.alloc (.cells #[.int .i64 r] 3))).alloc (.cells #[.slice (some ⟨w.heap.size, 0, none⟩) 1 1] 124)).at b1 id
  exact ⟨⟨some ⟨w.heap.size, 0, none⟩, 1, b2, rfl, .inr ⟨w.heap.size, 1, _, rfl, Nat.le_refl _, b1', by simp, by simp [maxLen], by simp, by simp [i64s]⟩⟩, hm.kept u id id, T.kept u, h.kept u id, u⟩
def Sp.tabs (s : Sp) : List Int := s.root :: (s.vis 3 0 0).filterMap selT
end Go.Proofs.YtfdnfllefednjaaDoor
