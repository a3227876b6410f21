/-
  Proved: trunniontop.TopSpaces answers true for every input: of two spaces of one memory, what the one maps and unmaps changes nothing of what is found in the other one, their tables have no frame in common, and behind both Closes all frames are free that were.
  Conditions: package entry's table of fields starts as the program's text lays it (the card ties it).
-/
import Derived.Test.YtpfpcmadhbejiaaDoorCards
import Derived.Test.YtpfpcmadhbejiaaDoorTie
import Derived.SevenTiedAt
import Derived.LaidMore
import Derived.Stop.Joined
import Derived.Deep.DeepCutAuto
import Derived.Deep.CutBlock
import Derived.Deep.RegionHeld3
import Derived.Test.YtpfpcmadhbejiaaDoorPart7
namespace Go.Proofs.YtpfpcmadhbejiaaDoor.topSpaces
open Go.ChangeShapes Go.WideShapes Go.ChangeAt Go.RowKit Go.Shelf Go.Sort
set_option linter.unusedVariables false
set_option linter.unusedSimpArgs false

/-- a number of a row -/
theorem one_page {w : World} {ao : Option Addr} {n b off : Nat} {E : Nat → Nat → Value} (R : Fr.RowArg w ao n b off [some .i64] E) : ∃ x : Nat → Int, ∀ i, i < n → w.cell? ⟨b, off + i, none⟩ = some (.int .i64 (x i)) := by
  obtain ⟨x, hx⟩ := Deep.choose_lt (n := n) (p := fun i (x : Int) => w.cell? ⟨b, off + i, none⟩ = some (.int .i64 x)) (fun i hi => by
    obtain ⟨x, hx, _⟩ := R.ok i hi 0 _ rfl
    exact ⟨x, by rw [← hx]; have := R.cell i hi 0 (by decide); simpa using this⟩)
  exact ⟨x, hx⟩
theorem find_no {s : Sp} {n : Nat} (h : s.Ok n) (q : Int) (hx : s.findX q ≠ 0) : (s.findE q).v = false := by
  unfold Sp.findX at hx
  unfold Sp.findE
  split
  · rename_i hq
    rw [if_pos hq] at hx
    cases hv : (s.E 3 q.toNat).v
    · rfl
    · rw [hv] at hx; simp at hx
  · rfl
/-- the box of the two rows -/
def BoxAt (w : World) (X : Nat) (ao : Option Addr) (n cap : Nat) (ao' : Option Addr) (n' cap' : Nat) : Prop := w.heap[X]? = some (.cells #[.slice ao n cap, .slice ao' n' cap'] 51 (0, 0))
theorem BoxAt.c {w : World} {X : Nat} {ao ao' : Option Addr} {n cap n' cap' : Nat} (h : BoxAt w X ao n cap ao' n' cap') : w.cell? ⟨X, 0, none⟩ = some (.slice ao n cap) ∧ w.cell? ⟨X, 1, none⟩ = some (.slice ao' n' cap') := by
  refine ⟨?_, ?_⟩ <;> (rw [cell_of_row _ _ _ _ _ _ h]; rfl)
set_option maxRecDepth 100000 in
set_option maxHeartbeats 8000000 in
theorem walk (ao : Option Addr) (n cap b off : Nat) (E : Nat → Nat → Value) (ao1 : Option Addr) (n1 cap1 b1 off1 : Nat) (E1 : Nat → Nat → Value) (ao2 : Option Addr) (n2 cap2 b2 off2 : Nat) (E2 : Nat → Nat → Value)
    (w : World) (R : Fr.RowArg w ao n b off [some .i64] E) (R1 : Fr.RowArg w ao1 n1 b1 off1 [some .i64] E1) (R2 : Fr.RowArg w ao2 n2 b2 off2 [some .i64] E2) (T0 : Fr.VarIs w 0 (Fr.datCells (Rows.laid_trunnion_entry_fields (H := Unit)))) :
    Calls Tryd.prog 6 #[.agg #[.slice ao n cap, .slice ao1 n1 cap1], .slice ao2 n2 cap2] w fun e w' => e = .returned (.bool true) ∧ Below w.heap.size w w' := by
  have T := tab_of T0
  have hmost := Lib.hid (And.intro R.most (And.intro R1.most R2.most))
  obtain ⟨x0, hx0⟩ := one_page R
  obtain ⟨x1, hx1⟩ := one_page R1
  obtain ⟨x2, hx2⟩ := one_page R2
  have hp0 := Lib.hid R.place
  have hp1 := Lib.hid R1.place
  have hp2 := Lib.hid R2.place
  have X0 := Lib.hid hx0
  have X1 := Lib.hid hx1
  have X2 := Lib.hid hx2
  clear T0 hx0 hx1 hx2 R R1 R2
  obtain ⟨-, hbl⟩ := top_begun 200 100 (by omega) (by omega) (by omega)
  have HL := Lib.hid hbl
  clear hbl
  have UB := (Upd.refl (fun _ => False) w).alloc (.cells #[.slice ao n cap, .slice ao1 n1 cap1] 51)
  have BX : BoxAt (w.alloc (.cells #[.slice ao n cap, .slice ao1 n1 cap1] 51)) w.heap.size ao n cap ao1 n1 cap1 := heap_alloc_last w _
  have hXB := Lib.hid (Nat.le_refl w.heap.size)
  go_enter Tryd.func6, Tryd.ntmps6
  go_upto_region 1 with fail
  have TB := T.kept UB
  generalize w.alloc (.cells #[.slice ao n cap, .slice ao1 n1 cap1] 51) = wB at UB BX TB ⊢
  obtain ⟨XB, hXBe⟩ : ∃ XB, w.heap.size = XB := ⟨_, rfl⟩
  rw [hXBe] at BX ⊢
  have hXB2 := Lib.hid hXBe
  clear hXBe hXB T
  go_wp2_with fail
  refine (mapped_any _ TB).mono ?_
  rintro e w1 ⟨rfl, U1⟩
  have V1 := UB.trans U1
  have B1 : BoxAt w1 XB ao n cap ao1 n1 cap1 := U1.at BX id
  have T1 := TB.kept U1
  clear UB BX TB U1
  go_wp2_with fail
  refine (new_yes 200 _ (by omega) (by omega)).mono ?_
  rintro e w2 ⟨rfl, M2, U2, S2⟩
  have hs2 := Lib.hid S2
  clear S2
  go_wp2_with fail
  refine (bNew_yes _ _ 100 _ M2 (by show 100 ≤ 200; omega)).mono ?_
  rintro e w3 ⟨rfl, B3, U3, S3⟩
  have U23 := U2.trans U3
  have T3 := T1.kept U23
  have D3 : Duo w3 (w2.heap.size + 1) (w1.heap.size + 1) w2.heap.size (memNew w1.heap.size 200) (bud0 200 100) := ⟨B3, M2.kept U3 id id, rfl⟩
  have V3 := V1.trans U23
  have BX3 : BoxAt w3 XB ao n cap ao1 n1 cap1 := U23.at B1 id
  have hgb := Lib.hid (show w.heap.size ≤ w2.heap.size ∧ w.heap.size ≤ w1.heap.size ∧ XB < w1.heap.size ∧ XB < w2.heap.size from by have := V1.size; have := hs2.out; have := lt_of_heap B1; omega)
  clear B3 M2 U2 U3 S3 U23 T1 V1 B1
  have hg := Lib.hid (Mem.new_good w1.heap.size 200)
  have hmn : Hid ((memNew w1.heap.size 200).n = 200 ∧ (memNew w1.heap.size 200).B = w1.heap.size) := Lib.hid ⟨rfl, rfl⟩
  generalize memNew w1.heap.size 200 = m0 at D3 hg hmn
  generalize w1.heap.size + 1 = MA at D3 ⊢
  generalize w2.heap.size + 1 = A at D3 ⊢
  generalize w2.heap.size = GB at D3 hgb ⊢
  generalize w1.heap.size = MB at hgb hmn
  clear hs2
  go_wp2_with fail
  refine (spc_new D3 T3 hmn.out.2 hg.out (Y := fun _ => False) (fun x => by simp [bud0]) (fun x hx => hx.elim)).mono ?_
  rintro e w4 (⟨h0, _⟩ | ⟨h0, S1, s1, m1, hS, rfl, P4, U4, hn4, -, -, -⟩)
  · have := HL.out; omega
  have hl4 := (al_ok D3.B.ok 1 h0).left
  have hr4 : ((bud0 200 100).al 1).2.res = 100 := (al_ok D3.B.ok 1 h0).res
  have hsince := Lib.hid (show ∀ j, j = GB ∨ j = MB → w.heap.size ≤ j from by rintro j (rfl | rfl); exact hgb.out.1; exact hgb.out.2.1)
  have hXn := Lib.hid (show ¬ (XB = GB ∨ XB = MB) from by have := hgb.out; omega)
  have V4 := Upd.since V3 U4 hsince.out
  have BX4 : BoxAt w4 XB ao n cap ao1 n1 cap1 := U4.at BX3 hXn.out
  have Hl4 : Hid (((bud0 200 100).al 1).2.left = 99) := Lib.hid (by have := HL.out; omega)
  have Hr4 := Lib.hid hr4
  have Hm4 : Hid (m1.n = 200) := Lib.hid (hn4.trans hmn.out.1)
  clear D3 T3 V3 BX3 hl4 hr4 U4 hS hn4 hg hmn HL hgb
  generalize ((bud0 200 100).al 1).2 = bb1 at P4 Hl4 Hr4
  go_wp2_with fail
  refine (spc_new P4.D P4.T P4.B P4.I.hg (Y := tabsOf s1) (fun x => by rw [P4.I.gv]; exact ⟨fun h => h.elim id (fun e => e.elim), .inl⟩) (fun x => tabsOf_zero)).mono ?_
  rintro e w5 (⟨h0', _⟩ | ⟨h0', S2, t1, m2, hS2, rfl, P5, U5, hn5, -, -, hw5⟩)
  · have := Hl4.out; omega
  have V5 := Upd.since V4 U5 hsince.out
  have BX5 : BoxAt w5 XB ao n cap ao1 n1 cap1 := U5.at BX4 hXn.out
  have Q5 : Duet w5 S1 S2 MA A GB MB s1 t1 m2 (bb1.al 1).2 := ⟨⟨P4.S.kept U5 P4.own, P5.D, P5.T, P4.I.beside P5.I hw5 hn5, P5.B⟩, P5⟩
  have Hb : Hid (m2.n = 200 ∧ (bb1.al 1).2.res = 100) := Lib.hid ⟨hn5.trans Hm4.out, (al_ok P4.I.bk 1 h0').res.trans Hr4.out⟩
  clear P4 P5 U5 V4 BX4 hS2 hn5 hw5 Hl4 Hr4 Hm4 h0 h0'
  generalize (bb1.al 1).2 = bb at Q5 Hb
  by_cases hn : 20 < n
  · have hni : (20 : Int) < n := by omega
    obtain ⟨cA, cB⟩ := BX5.c
    clear hmost
    go_wp2
    go_ret
    exact ⟨rfl, V5.below (Nat.le_refl _) fun _ _ => id⟩
  by_cases hn1 : 20 < n1
  · have hni : (20 : Int) < n1 := by omega
    have hni0 : ¬ (20 : Int) < n := by omega
    obtain ⟨cA, cB⟩ := BX5.c
    clear hmost
    go_wp2
    go_ret
    exact ⟨rfl, V5.below (Nat.le_refl _) fun _ _ => id⟩
  by_cases hn2 : 20 < n2
  · have hni : (20 : Int) < n2 := by omega
    have hni0 : ¬ (20 : Int) < n := by omega
    have hni1 : ¬ (20 : Int) < n1 := by omega
    obtain ⟨cA, cB⟩ := BX5.c
    clear hmost
    go_wp2
    go_ret
    exact ⟨rfl, V5.below (Nat.le_refl _) fun _ _ => id⟩
  have hni0 : ¬ (20 : Int) < n := by omega
  have hni1 : ¬ (20 : Int) < n1 := by omega
  have hni2 : ¬ (20 : Int) < n2 := by omega
  have hN : n ≤ 20 := by omega
  have hN1 : n1 ≤ 20 := by omega
  have hN2 : n2 ≤ 20 := by omega
  clear hn hn1 hn2 hmost
  obtain ⟨cA, cB⟩ := BX5.c
  go_upto_region 8 with fail
  clear cA cB hni0 hni1 hni2
  go_wp2_with fail
  go_loopw [14] (fun t wr => ∃ (k : Nat) (s : Sp) (m : Mem) (bb : Bud), k ≤ n ∧ t = .int .i64 k ∧ Duet wr S1 S2 MA A GB MB s t1 m bb ∧ Upd (fun _ => False) w wr ∧ BoxAt wr XB ao n cap ao1 n1 cap1 ∧ Hid (m.n = 200 ∧ bb.res = 100)) (fun t _ => n - (intOf t).toNat)
  case atStart => exact ⟨0, s1, m2, bb, by omega, rfl, Q5, V5, BX5, Hb⟩
  case round =>
    clear Q5 V5 BX5 Hb
    obtain ⟨k, s, m, bb, hk, rfl, Q, V, BX, Hb⟩ := hrel
    obtain ⟨cA, cB⟩ := BX.c
    by_cases hlt : k < n
    · have hc := V.cell (X0.out k hlt) id
      have hao := hp0.out (by omega)
      subst hao
      go_wp2_with fail
      refine (spc_map Q.P1 (x0 k) k _ (wf_frame (by omega))).mono ?_
      rintro e w6 ⟨x6, s6, m6, b6, rfl, P6, U6, hR⟩
      have Q6 := Q.one P6 U6 hR.w hR.n
      have V6 := Upd.since V U6 hsince.out
      have BX6 : BoxAt w6 XB (some ⟨b, off, none⟩) n cap ao1 n1 cap1 := U6.at BX hXn.out
      have Hb6 : Hid (m6.n = 200 ∧ b6.res = 100) := Lib.hid ⟨hR.n.trans Hb.out.1, hR.res.trans Hb.out.2⟩
      clear Q P6 U6 hR V BX cA cB hc Hb
      go_wp2
      go_roundw
      case rel => exact ⟨k + 1, s6, m6, b6, by omega, by go_num, Q6, V6, BX6, Hb6⟩
      case measure => simp [intOf]; omega
    · obtain rfl : k = n := by omega
      clear hlt hk
      have hmk := Lib.hid (made_ents k)
      have u6 := (Upd.refl (fun _ => False) wr).alloc (.cells (entsC (List.replicate k En.zero)).toArray 37)
      have W6 : EntsAt (wr.alloc (.cells (entsC (List.replicate k En.zero)).toArray 37)) wr.heap.size (List.replicate k En.zero) := heap_alloc_last wr _
      go_upto_region 13 with (with_reducible refine wpList_make_exact rfl (.tmp 122) (.tmp 122) 58 rfl 37 _ 4 16 Tryd.underlying58 info_ents .i64 .i64 k rfl rfl (by omega) (by omega) _ hmk.out ?_)
      have Q6 := Q.still u6
      have V6 := V.trans u6
      have BX6 : BoxAt _ XB ao k cap ao1 n1 cap1 := u6.at BX id
      have hl1 := Q.P1.lts
      have hl2 := Q.P2.lts
      have hlT := World.block_lt_of_cell? wr _ (Q.P1.T 0 (by omega)).1
      have hlB := lt_of_heap BX
      have hX5 := Lib.hid (show w.heap.size ≤ wr.heap.size ∧ (S1 < wr.heap.size ∧ S2 < wr.heap.size) ∧ (A < wr.heap.size ∧ MA < wr.heap.size) ∧ (GB < wr.heap.size ∧ MB < wr.heap.size) ∧ 0 < wr.heap.size ∧ XB < wr.heap.size from ⟨V.size, ⟨hl1.1, hl2.1⟩, ⟨hl1.2.1, hl1.2.2.1⟩, ⟨hl1.2.2.2.1, hl1.2.2.2.2⟩, hlT, hlB⟩)
      clear hl1 hl2 hlT hlB
      generalize wr.alloc (.cells (entsC (List.replicate k En.zero)).toArray 37) = w6 at u6 W6 Q6 V6 BX6 ⊢
      generalize wr.heap.size = X5 at W6 hX5 ⊢
      clear Q V BX u6 hmk cA cB
      have hX5n := Lib.hid (show ¬ (X5 = GB ∨ X5 = MB) from by have := hX5.out; omega)
      go_wp2_with fail
      go_loopw [16] (fun t wr => ∃ (j : Nat) (L : List En), j ≤ k ∧ t = .int .i64 j ∧ Duet wr S1 S2 MA A GB MB s t1 m bb ∧ Upd (fun _ => False) w wr ∧ BoxAt wr XB ao k cap ao1 n1 cap1 ∧ EntsAt wr X5 L ∧ Hid (L.length = k ∧ ∀ i, i < j → L.getD i En.zero = s.findE (x0 i))) (fun t _ => k - (intOf t).toNat)
      case atStart => exact ⟨0, List.replicate k En.zero, by omega, rfl, Q6, V6, BX6, W6, Lib.hid ⟨by simp, fun i hi => by omega⟩⟩
      case round =>
        clear Q6 V6 BX6 W6
        obtain ⟨j, L, hj, rfl, Q, V, BX, W, HLL⟩ := hrel
        obtain ⟨cA, cB⟩ := BX.c
        by_cases hlt : j < k
        · have hc := V.cell (X0.out j hlt) id
          have hao := hp0.out (by omega)
          subst hao
          go_wp2_with fail
          refine (spc_find Q.P1 (x0 j)).mono ?_
          rintro e w7 ⟨rfl, u7⟩
          obtain ⟨G, hG⟩ : ∃ G, s.findE (x0 j) = G := ⟨_, rfl⟩
          rw [hG]
          have HG := Lib.hid hG
          clear hG
          obtain ⟨gv, gr, gt, gf⟩ := G
          generalize s.findX (x0 j) = gx
          have u8 := u7.alloc (.cells #[.bool gv, .bool gr, .bool gt, .int .i64 gf] 37)
          have a8 := heap_alloc_last w7 (.cells #[.bool gv, .bool gr, .bool gt, .int .i64 gf] 37)
          have Q8 := Q.still u8
          have V8 := V.trans u8
          have BX8 : BoxAt _ XB (some ⟨b, off, none⟩) k cap ao1 n1 cap1 := u8.at BX id
          have W8 := W.kept u8 id
          clear Q V BX W u7 u8 cA cB hc
          go_upto_region 17 with fail
          generalize w7.alloc (.cells #[.bool gv, .bool gr, .bool gt, .int .i64 gf] 37) = w8 at a8 Q8 V8 BX8 W8 ⊢
          have KA := Lib.hid (show EntAt w8 w7.heap.size gv gr gt gf from a8)
          generalize w7.heap.size = D1 at KA ⊢
          clear a8
          have hth := Lib.hid (W8.there j (by rw [HLL.out.1]; exact hlt))
          have W9 := W8.set j (by rw [HLL.out.1]; exact hlt) ⟨gv, gr, gt, gf⟩
          have u9 : Upd (· = X5) w8 (w8.setCells X5 (j * 4) (entC ⟨gv, gr, gt, gf⟩)) := Upd.setCells (S := (· = X5)) (.inl rfl) _ _ (Upd.refl _ _)
          have V9 : Upd (fun _ => False) w (w8.setCells X5 (j * 4) (entC ⟨gv, gr, gt, gf⟩)) := Upd.setCells (.inr hX5.out.1) _ _ V8
          have hq := hX5.out
          have Q9 : Duet _ S1 S2 MA A GB MB s t1 m bb := ⟨Q8.P1.kept u9 (by omega) (by omega) (by omega) (by omega) (by omega) (by omega), Q8.P2.kept u9 (by omega) (by omega) (by omega) (by omega) (by omega) (by omega)⟩
          have BX9 : BoxAt _ XB (some ⟨b, off, none⟩) k cap ao1 n1 cap1 := u9.at BX8 (by omega)
          have HL9 : Hid ((L.set j ⟨gv, gr, gt, gf⟩).length = k ∧ ∀ i, i < j + 1 → (L.set j ⟨gv, gr, gt, gf⟩).getD i En.zero = s.findE (x0 i)) := Lib.hid ⟨by rw [List.length_set]; exact HLL.out.1, fun i hi => by
            rw [List.getD_eq_getElem?_getD, List.getElem?_set]
            by_cases e : j = i
            · subst e
              rw [if_pos rfl, if_pos (by rw [HLL.out.1]; exact hlt)]
              exact HG.out.symm
            · rw [if_neg e, ← List.getD_eq_getElem?_getD]
              exact HLL.out.2 i (by omega)⟩
          clear W8 V8 Q8 BX8 u9 hq HLL HG
          unfold entC at W9 V9 Q9 BX9
          have hji : (j : Int) < k := by omega
          go_wp2_with first
            | (with_reducible refine wpList_load_sz rfl 37 (.tmp 17) rfl D1 0 rfl [.bool gv, .bool gr, .bool gt, .int .i64 gf] _ KA.out.range Tryd.underlying37 rfl 4 (ent_len _ _ _ _) size_ent ?_)
            | (with_reducible refine wpList_store_sz rfl 37 (.tmp 144) (.tmp 143) rfl X5 (j * 4) #[.bool gv, .bool gr, .bool gt, .int .i64 gf] rfl rfl 4 (ent_sz _ _ _ _) hth.out size_ent (ent_one _ _ _ _) [.bool gv, .bool gr, .bool gt, .int .i64 gf] (ent_ls _ _ _ _) ?_)
          go_roundw
          case rel => exact ⟨j + 1, _, by omega, by go_num, Q9, V9, BX9, W9, HL9⟩
          case measure => simp [intOf]; omega
        · obtain rfl : j = k := by omega
          clear hlt hj
          go_wp2_with fail
          clear cA cB
          go_loopw [19] (fun t wr => ∃ (i : Nat) (tt : Sp) (m : Mem) (bb : Bud), i ≤ n1 ∧ t = .int .i64 i ∧ Duet wr S1 S2 MA A GB MB s tt m bb ∧ Upd (fun _ => False) w wr ∧ BoxAt wr XB ao j cap ao1 n1 cap1 ∧ EntsAt wr X5 L ∧ Hid (m.n = 200 ∧ bb.res = 100)) (fun t _ => n1 - (intOf t).toNat)
          case atStart => exact ⟨0, t1, m, bb, by omega, rfl, Q, V, BX, W, Hb⟩
          case round =>
            clear Q V BX W Hb
            obtain ⟨i, tt, m, bb, hi, rfl, Q, V, BX, W, Hb⟩ := hrel
            obtain ⟨cA, cB⟩ := BX.c
            by_cases hlt : i < n1
            · have hc := V.cell (X1.out i hlt) id
              have hao := hp1.out (by omega)
              subst hao
              go_wp2_with fail
              refine (spc_map Q.P2 (x1 i) (50 + i) true (by rw [show (50 : Int) + i = ((50 + i : Nat) : Int) from by omega]; exact wf_frame (by omega))).mono ?_
              rintro e w7 ⟨x7, s7, m7, b7, rfl, P7, U7, hR⟩
              have Q7 := (Q.symm.one P7 U7 hR.w hR.n).symm
              have V7 := Upd.since V U7 hsince.out
              have BX7 : BoxAt w7 XB ao j cap (some ⟨b1, off1, none⟩) n1 cap1 := U7.at BX hXn.out
              have W7 := W.kept U7 hX5n.out
              have Hb7 : Hid (m7.n = 200 ∧ b7.res = 100) := Lib.hid ⟨hR.n.trans Hb.out.1, hR.res.trans Hb.out.2⟩
              clear Q P7 U7 hR V BX cA cB hc W Hb
              go_wp2
              go_roundw
              case rel => exact ⟨i + 1, s7, m7, b7, by omega, by go_num, Q7, V7, BX7, W7, Hb7⟩
              case measure => simp [intOf]; omega
            · obtain rfl : i = n1 := by omega
              clear hlt hi
              go_wp2_with fail
              clear cA cB
              go_loopw [20] (fun t wr => ∃ (i2 : Nat) (tt : Sp) (m : Mem) (bb : Bud), i2 ≤ n2 ∧ t = .int .i64 i2 ∧ Duet wr S1 S2 MA A GB MB s tt m bb ∧ Upd (fun _ => False) w wr ∧ BoxAt wr XB ao j cap ao1 i cap1 ∧ EntsAt wr X5 L ∧ Hid (m.n = 200 ∧ bb.res = 100)) (fun t _ => n2 - (intOf t).toNat)
              case atStart => exact ⟨0, tt, m, bb, by omega, rfl, Q, V, BX, W, Hb⟩
              case round =>
                clear Q V BX W Hb
                obtain ⟨i2, tt, m, bb, hi, rfl, Q, V, BX, W, Hb⟩ := hrel
                by_cases hlt : i2 < n2
                · have hc := V.cell (X2.out i2 hlt) id
                  have hao := hp2.out (by omega)
                  subst hao
                  go_wp2_with fail
                  refine (spc_unmap Q.P2 (x2 i2)).mono ?_
                  rintro e w7 ⟨f7, x7, s7, m7, b7, rfl, P7, U7, hR⟩
                  have Q7 := (Q.symm.one P7 U7 hR.w hR.n).symm
                  have V7 := Upd.since V U7 hsince.out
                  have BX7 : BoxAt w7 XB ao j cap ao1 i cap1 := U7.at BX hXn.out
                  have W7 := W.kept U7 hX5n.out
                  have Hb7 : Hid (m7.n = 200 ∧ b7.res = 100) := Lib.hid ⟨hR.n.trans Hb.out.1, hR.res.trans Hb.out.2⟩
                  clear Q P7 U7 hR V BX hc W Hb
                  go_wp2
                  go_roundw
                  case rel => exact ⟨i2 + 1, s7, m7, b7, by omega, by go_num, Q7, V7, BX7, W7, Hb7⟩
                  case measure => simp [intOf]; omega
                · obtain rfl : i2 = n2 := by omega
                  clear hlt hi
                  go_wp2_with fail
                  go_loopw [21] (fun t wr => ∃ (i3 : Nat), i3 ≤ j ∧ t = .int .i64 i3 ∧ Duet wr S1 S2 MA A GB MB s tt m bb ∧ Upd (fun _ => False) w wr ∧ BoxAt wr XB ao j cap ao1 i cap1 ∧ EntsAt wr X5 L) (fun t _ => j - (intOf t).toNat)
                  case atStart => exact ⟨0, by omega, rfl, Q, V, BX, W⟩
                  case round =>
                    clear Q V BX W
                    obtain ⟨i3, hi, rfl, Q, V, BX, W⟩ := hrel
                    obtain ⟨cA, cB⟩ := BX.c
                    by_cases hlt : i3 < j
                    · have hc := V.cell (X0.out i3 hlt) id
                      have hao := hp0.out (by omega)
                      subst hao
                      go_wp2_with fail
                      refine (spc_find Q.P1 (x0 i3)).mono ?_
                      rintro e w7 ⟨rfl, u7⟩
                      have hG2 := Lib.hid (HLL.out.2 i3 hlt)
                      generalize s.findX (x0 i3) = gx
                      obtain ⟨G, hG⟩ : ∃ G, s.findE (x0 i3) = G := ⟨_, rfl⟩
                      rw [hG] at hG2 ⊢
                      clear hG
                      obtain ⟨gv, gr, gt, gf⟩ := G
                      have u8 := u7.alloc (.cells #[.bool gv, .bool gr, .bool gt, .int .i64 gf] 37)
                      have a8 := heap_alloc_last w7 (.cells #[.bool gv, .bool gr, .bool gt, .int .i64 gf] 37)
                      have Q8 := Q.still u8
                      have V8 := V.trans u8
                      have BX8 : BoxAt _ XB (some ⟨b, off, none⟩) j cap ao1 i cap1 := u8.at BX id
                      have W8 := W.kept u8 id
                      clear Q V BX W u7 u8 cA cB hc
                      go_upto_region 30 with fail
                      generalize w7.alloc (.cells #[.bool gv, .bool gr, .bool gt, .int .i64 gf] 37) = w8 at a8 Q8 V8 BX8 W8 ⊢
                      have KA := Lib.hid (show EntAt w8 w7.heap.size gv gr gt gf from a8)
                      generalize w7.heap.size = D1 at KA ⊢
                      clear a8
                      refine wp_region_tail 5 (by kernel_rfl) (by kernel_rfl) ?_
                      simp only [List.take_succ_cons, List.take_zero, List.drop_succ_cons, List.drop_zero]
                      intro w9 hw9
                      have u9 : Upd (fun _ => False) w8 w9 := by rw [hw9]; exact (Upd.refl _ _).drew
                      have Q9 := Q8.still u9
                      have V9 := V8.trans u9
                      have BX9 : BoxAt _ XB (some ⟨b, off, none⟩) j cap ao1 i cap1 := u9.at BX8 id
                      have W9 := W8.kept u9 id
                      have KB := Lib.hid (KA.out.kept u9 id)
                      have KW := Lib.hid (W9.range i3 (by rw [HLL.out.1]; exact hlt))
                      rw [hG2.out] at KW
                      unfold entC at KW
                      have he := run_eqE gv gr gt gf gv gr gt gf true (by simp)
                      have hji : (i3 : Int) < j := by omega
                      have hji0 : (0 : Int) ≤ i3 := by omega
                      clear hw9 u9 Q8 V8 BX8 W8 KA hG2
                      repeat (first
                        | (with_reducible refine wpStill_load_sz rfl 37 (.tmp 22) rfl D1 0 rfl [.bool gv, .bool gr, .bool gt, .int .i64 gf] _ KB.out.range Tryd.underlying37 rfl 4 (ent_len _ _ _ _) size_ent ?_)
                        | (with_reducible refine wpStill_load_sz rfl 37 (.tmp 193) rfl X5 (i3 * 4) rfl [.bool gv, .bool gr, .bool gt, .int .i64 gf] _ KW.out Tryd.underlying37 rfl 4 (ent_len _ _ _ _) size_ent ?_)
                        | still_step)
                      refine wpStill_nil ?_
                      go_wp2
                      go_roundw
                      case rel => exact ⟨i3 + 1, by omega, by go_num, Q9, V9, BX9, W9⟩
                      case measure => simp [intOf]; omega
                    · obtain rfl : i3 = j := by omega
                      clear hlt hi
                      go_wp2_with fail
                      refine (spc_tables Q.P1).mono ?_
                      rintro e w7 ⟨v7, rfl, row7, u7⟩
                      obtain ⟨o7, c7, rfl⟩ := wk_slice row7
                      have Q7 := Q.still u7
                      have V7 := V.trans u7
                      have BX7 : BoxAt _ XB ao i3 cap ao1 i cap1 := u7.at BX id
                      have W7 := W.kept u7 id
                      clear Q V BX W u7 cA cB
                      go_wp2_with fail
                      refine (spc_tables Q7.P2).mono ?_
                      rintro e w8 ⟨v8, rfl, row8, u8⟩
                      obtain ⟨o8, c8, rfl⟩ := wk_slice row8
                      have Q8 := Q7.still u8
                      have V8 := V7.trans u8
                      have BX8 : BoxAt _ XB ao i3 cap ao1 i cap1 := u8.at BX7 id
                      have W8 := W7.kept u8 id
                      have Row7 := Lib.hid (wk_kept row7 u8 (fun _ _ => id))
                      have Row8 := Lib.hid row8
                      have hap := Lib.hid (fun (p : Nat) (hp : p < s.tbs.length) (p' : Nat) (hp' : p' < tt.tbs.length) => Q8.apart hp hp')
                      have hb7 : s.tbs.length ≤ 273 := by rw [s.tbs_len]; exact Q8.P1.I.tabs_bd
                      have hb8 : tt.tbs.length ≤ 273 := by rw [tt.tbs_len]; exact Q8.P2.I.tabs_bd
                      obtain ⟨La, hLa⟩ : ∃ La, s.tbs.length = La := ⟨_, rfl⟩
                      obtain ⟨Lc, hLc⟩ : ∃ Lc, tt.tbs.length = Lc := ⟨_, rfl⟩
                      rw [hLa] at hap Row7 hb7
                      rw [hLc] at hap Row8 hb8
                      rw [hLa, hLc]
                      have HLa := Lib.hid hLa
                      have HLc := Lib.hid hLc
                      clear Q7 V7 BX7 W7 u8 row7 row8 hLa hLc
                      go_wp2_with fail
                      go_loopw [26] (fun t wr => ∃ (p : Nat), p ≤ La ∧ t = .int .i64 p ∧ Upd (fun _ => False) w8 wr) (fun t _ => La - (intOf t).toNat)
                      case atStart => exact ⟨0, by omega, rfl, Upd.refl _ _⟩
                      case round =>
                        obtain ⟨p, hp, rfl, uu⟩ := hrel
                        by_cases hlp : p < La
                        · go_wp2_with fail
                          go_loopw [27] (fun t wr => ∃ (p' : Nat), p' ≤ Lc ∧ t = .int .i64 p' ∧ Upd (fun _ => False) w8 wr) (fun t _ => Lc - (intOf t).toNat)
                          case atStart => exact ⟨0, by omega, rfl, uu⟩
                          case round =>
                            clear uu
                            obtain ⟨p', hp', rfl, uu⟩ := hrel
                            by_cases hlp' : p' < Lc
                            · have r7 := wk_kept Row7.out uu (fun _ _ => id)
                              have r8 := wk_kept Row8.out uu (fun _ _ => id)
                              obtain ⟨_, _, e1, k7⟩ := slice1 r7
                              cases e1
                              obtain ⟨_, _, e1, k8⟩ := slice1 r8
                              cases e1
                              obtain ⟨g7, rfl, z7⟩ := k7 p _ (i64s_at _ _ (by rw [HLa.out]; exact hlp))
                              obtain ⟨g8, rfl, z8⟩ := k8 p' _ (i64s_at _ _ (by rw [HLc.out]; exact hlp'))
                              have hne := hap.out p hlp p' hlp'
                              clear r7 r8 k7 k8
                              generalize s.tbs.getD p 0 = fa at z7 hne
                              generalize tt.tbs.getD p' 0 = fc at z8 hne
                              have nA1 : (fa == fc) = false := by simpa using hne
                              have nA2 : decide (fa = fc) = false := by simpa using hne
                              have ib1 : (p : Int) < La := by omega
                              have ib2 : (p' : Int) < Lc := by omega
                              go_wp2
                              go_quiet (fail)
                              go_wp2
                              go_roundw
                              case rel => exact ⟨p' + 1, by omega, by go_num, uu.drewN _⟩
                              case measure => simp [intOf]; omega
                            · go_wp2
                              go_roundw
                              case rel => exact ⟨p + 1, by omega, by go_num, uu⟩
                              case measure => simp [intOf]; omega
                        · obtain rfl : p = La := by omega
                          have Q9 := Q8.still uu
                          have V9 := V8.trans uu
                          have BX9 : BoxAt _ XB ao i3 cap ao1 i cap1 := uu.at BX8 id
                          have W9 := W8.kept uu id
                          clear Q8 V8 BX8 W8 uu Row7 Row8 hap HLa HLc hlp hp
                          go_wp2_with fail
                          refine (spc_close Q9.P2).mono ?_
                          rintro e wa ⟨va, ma, ba, rfl, -, Da, Ua, Ta, Fa, hGa⟩
                          have Pa : Spc wa S1 MA A GB MB s ma ba (fun _ => False) := ⟨Q9.P1.S.kept Ua Q9.P1.own, Da, Ta, Q9.P1.I.alone Fa hGa Q9.P1.I.bn.symm, Fa.B.trans Q9.P1.B⟩
                          have Va := Upd.since V9 Ua hsince.out
                          have BXa : BoxAt _ XB ao i3 cap ao1 i cap1 := Ua.at BX9 hXn.out
                          have Wa := W9.kept Ua hX5n.out
                          have Hba : Hid (ma.n = 200 ∧ ba.res = 100) := Lib.hid ⟨Fa.n.trans Hb.out.1, Fa.res.trans Hb.out.2⟩
                          clear Q9 V9 BX9 W9 Da Ua Ta Fa hGa Hb
                          go_wp2_with fail
                          go_loopw [28] (fun t wr => ∃ (i4 : Nat), i4 ≤ i3 ∧ t = .int .i64 i4 ∧ Spc wr S1 MA A GB MB s ma ba (fun _ => False) ∧ Upd (fun _ => False) w wr ∧ BoxAt wr XB ao i3 cap ao1 i cap1 ∧ EntsAt wr X5 L) (fun t _ => i3 - (intOf t).toNat)
                          case atStart => exact ⟨0, by omega, rfl, Pa, Va, BXa, Wa⟩
                          case round =>
                            clear Pa Va BXa Wa
                            obtain ⟨i4, hi, rfl, P, V, BX, W⟩ := hrel
                            obtain ⟨cA, cB⟩ := BX.c
                            by_cases hlt : i4 < i3
                            · have hc := V.cell (X0.out i4 hlt) id
                              have hao := hp0.out (by omega)
                              subst hao
                              have cW := Lib.hid (fun (W : World) (P : Spc W S1 MA A GB MB s ma ba (fun _ => False)) => spc_walk P (x0 i4))
                              have hG2 := Lib.hid (HLL.out.2 i4 hlt)
                              have hfn := Lib.hid (find_no P.I.ok (x0 i4))
                              generalize s.findX (x0 i4) = X at cW hfn
                              obtain ⟨G, hG⟩ : ∃ G, s.findE (x0 i4) = G := ⟨_, rfl⟩
                              rw [hG] at hG2 hfn cW
                              clear hG
                              obtain ⟨gv, gr, gt, gf⟩ := G
                              go_upto_region 46 with fail
                              have hS := Lib.hid (show ∀ W', Upd (fun _ => False) wr W' → W'.cell? ⟨XB, 0, none⟩ = some (.slice (some ⟨b, off, none⟩) i3 cap) ∧ W'.cell? ⟨b, off + i4, none⟩ = some (.int .i64 (x0 i4)) ∧ Upd (fun _ => False) wr W' from fun W' u => ⟨u.cell cA id, u.cell hc id, u⟩)
                              have ib1 : (i4 : Int) < i3 := by omega
                              go_cut [29, 30, 31] from 223 to 263 (fun s14 s15 s16 wx => ∃ (D : Nat) (o : Option Addr) (nn cp : Nat), s14 = .pointer (some ⟨D, 0, none⟩) ∧ s15 = .slice o nn cp ∧ s16 = .int .i64 X ∧ Hid (EntAt wx D gv gr gt gf) ∧ Upd (fun _ => False) wr wx)
                              case first =>
                                go_region_held3 (fun w' => w'.cell? ⟨XB, 0, none⟩ = some (.slice (some ⟨b, off, none⟩) i3 cap) ∧ w'.cell? ⟨b, off + i4, none⟩ = some (.int .i64 (x0 i4)) ∧ Upd (fun _ => False) wr w')
                                  (first
                                    | assumption
                                    | exact hS.out _ (Upd.refl _ _).drew
                                    | exact hS.out _ ((Upd.refl _ _).drew.alloc _)
                                    | exact hS.out _ u7
                                    | exact hS.out _ (u7.alloc _)
                                    | exact hS.out _ ((((u7.setCell (.inr (Nat.le_refl _)) _).setCell (.inr (Nat.le_refl _)) _).setCell (.inr (Nat.le_refl _)) _).setCell (.inr (Nat.le_refl _)) _)
                                    | exact hS.out _ (((((u7.alloc _).setCell (.inr u7.size) _).setCell (.inr u7.size) _).setCell (.inr u7.size) _).setCell (.inr u7.size) _))
                                  (first
                                    | (go_at_call 14; go_split_ands; rename_i s1' s2' s3'; refine (spc_root (P.still s3')).mono ?_; rintro e w6 ⟨rfl, rfl⟩)
                                    | (go_at_call 13; go_split_ands; rename_i s1' s2' s3'; refine (cW.out (wr.alloc (.cells #[.bool false, .bool false, .bool false, .int .i64 0] 37)).drew (P.still s3')).mono ?_; rintro e w6 ⟨o, nn, cp, rfl, u6⟩; have u7 := s3'.trans u6; have e7 : Hid (EntAt w6 wr.heap.size false false false 0) := Lib.hid (u6.at (heap_alloc_last wr _) id); obtain ⟨e0, e1, e2, e3, z0, z1, z2, z3⟩ := e7.out.eight)
                                    | (go_at_call 13; go_split_ands; rename_i s1' s2' s3'; refine (cW.out _ (P.still s3')).mono ?_; rintro e w6 ⟨o, nn, cp, rfl, u6⟩; have u7 := s3'.trans u6))
                                all_goals (go_wp2_with fail)
                                all_goals go_meet
                                all_goals
                                  first
                                    | exact ⟨wr.heap.size, o, nn, cp, rfl, rfl, rfl, Lib.hid (e7.out.set gv gr gt gf), (((u7.setCell (.inr (Nat.le_refl _)) _).setCell (.inr (Nat.le_refl _)) _).setCell (.inr (Nat.le_refl _)) _).setCell (.inr (Nat.le_refl _)) _⟩
                                    | exact ⟨w6.heap.size, o, nn, cp, rfl, rfl, rfl, Lib.hid (heap_alloc_last w6 _), u7.alloc _⟩
                              case rest =>
                                obtain ⟨D2, o, nn, cp, rfl, rfl, rfl, hD2, u5⟩ := hcut
                                clear hS cA cB hc cW
                                go_upto_region 47 with fail
                                refine wp_region_tail 20 (by kernel_rfl) (by kernel_rfl) ?_
                                simp only [List.take_succ_cons, List.take_zero, List.drop_succ_cons, List.drop_zero]
                                intro w9 hw9
                                have u9 : Upd (fun _ => False) wr w9 := by rw [hw9]; exact u5.drew
                                have KB := Lib.hid (show EntAt w9 D2 gv gr gt gf from by rw [hw9]; exact hD2.out)
                                have P9 := P.still u9
                                have V9 := V.trans u9
                                have BX9 : BoxAt _ XB (some ⟨b, off, none⟩) i3 cap ao1 i cap1 := u9.at BX id
                                have W9 := W.kept u9 id
                                have KW := Lib.hid (W9.range i4 (by rw [HLL.out.1]; exact hlt))
                                rw [hG2.out] at KW
                                unfold entC at KW
                                have he := run_eqE gv gr gt gf gv gr gt gf true (by simp)
                                have ib0 : (0 : Int) ≤ i4 := by omega
                                clear hw9 u9 u5 P V BX W hD2 hG2
                                by_cases hX : X = 0
                                · subst hX
                                  clear hfn
                                  iterate 3 still_step
                                  iterate 6 (with_reducible refine wpStill_on (by simp [Region.wanted, yielded]) ?_; first | (with_reducible refine wpStill_load_sz rfl 37 (.tmp 29) rfl D2 0 rfl [.bool gv, .bool gr, .bool gt, .int .i64 gf] _ KB.out.range Tryd.underlying37 rfl 4 (ent_len _ _ _ _) size_ent ?_; simp only [Act.put, List.setIfInBounds_toArray, List.set_cons_succ, List.set_cons_zero]) | (with_reducible refine wpStill_load_sz rfl 37 (.tmp 249) rfl X5 (i4 * 4) rfl [.bool gv, .bool gr, .bool gt, .int .i64 gf] _ KW.out Tryd.underlying37 rfl 4 (ent_len _ _ _ _) size_ent ?_; simp only [Act.put, List.setIfInBounds_toArray, List.set_cons_succ, List.set_cons_zero]) | still_step)
                                  iterate 2 still_step
                                  iterate 3 (with_reducible refine wpStill_on (by simp [Region.wanted, yielded]) ?_; still_step)
                                  iterate 5 (with_reducible refine wpStill_off (by simp [Region.wanted, yielded]) ?_; simp only [Act.put, List.setIfInBounds_toArray, List.set_cons_succ, List.set_cons_zero])
                                  with_reducible refine wpStill_on (by simp [Region.wanted, yielded]) ?_
                                  still_step
                                  refine wpStill_nil ?_
                                  go_wp2
                                  go_roundw
                                  case rel => exact ⟨i4 + 1, by omega, by go_num, P9, V9, BX9, W9⟩
                                  case measure => simp [intOf]; omega
                                · have hgv : gv = false := hfn.out hX
                                  subst hgv
                                  have hXb : (X == 0) = false := by simpa using hX
                                  have k0 := KW.out 0 _ rfl
                                  rw [Nat.add_zero] at k0
                                  clear hfn
                                  iterate 3 still_step
                                  iterate 6 (with_reducible refine wpStill_off (by simp [Region.wanted, yielded, hX, hXb]) ?_; simp only [Act.put, List.setIfInBounds_toArray, List.set_cons_succ, List.set_cons_zero])
                                  iterate 2 still_step
                                  iterate 3 (with_reducible refine wpStill_on (by simp [Region.wanted, yielded, hX, hXb]) ?_; still_step)
                                  iterate 5 (with_reducible refine wpStill_on (by simp [Region.wanted, yielded, hX, hXb]) ?_; still_step)
                                  with_reducible refine wpStill_on (by simp [Region.wanted, yielded, hX, hXb]) ?_
                                  still_step
                                  refine wpStill_nil ?_
                                  go_wp2
                                  go_roundw
                                  case rel => exact ⟨i4 + 1, by omega, by go_num, P9, V9, BX9, W9⟩
                                  case measure => simp [intOf]; omega
                            · obtain rfl : i4 = i3 := by omega
                              go_wp2_with fail
                              refine (spc_close P).mono ?_
                              rintro e wc ⟨vc, mc, bc, rfl, -, Dc, Uc, Tc, Fc, hGc⟩
                              have Vc := Upd.since V Uc hsince.out
                              have hleft := none_left Fc.bk hGc
                              have hl4 : bc.left = 100 := by have := Fc.res; have := Fc.bn; have := Hba.out; have := P.I.bn; omega
                              have Hl := Lib.hid hl4
                              clear P V BX W cA cB Uc Fc hGc hleft hl4
                              go_wp2_with fail
                              refine (bLeft_any A MA GB mc bc _ Dc.B Dc.M Dc.n).mono ?_
                              rintro e wd ⟨rfl, ud⟩
                              rw [Hl.out]
                              have Vd := Vc.trans ud
                              go_wp2
                              go_ret
                              exact ⟨rfl, Vd.below (Nat.le_refl _) fun _ _ => id⟩
/-! ### the row's frame, and its tied card -/
theorem own : ownKnob Tryd.prog.godebug = none := by kernel_rfl
theorem laidOut : laidOutB Tryd.prog = true := by kernel_rfl
/-- the door's own heap meets the condition -/
theorem door_met (os : Os) (args : Array Value) : laidMetH Tryd.prog Rows.topSpacesRow.laid ((World.doorLaid Tryd.prog 400 os).forCall (fun _ _ => 0) ⟨#[], args, []⟩).memory :=
  laidMetH_of_parts3 (fuel := 8) (laidMet_of_run' 8 (by kernel_rfl) (by kernel_rfl)) (by kernel_rfl) (by kernel_rfl)
set_option linter.unusedVariables false in
set_option maxRecDepth 100000 in
theorem lifted (os : Os) (started : os.Started) (H : Type) (enc : TypeId × Value → H) :
    ReturnsInHanded {} Tryd.checked os 6 .any (fun w args => (Rows.topSpacesSpec.pre enc Tryd.prog Tryd.f6 [] false w args ∧ laidMetH Tryd.prog Rows.topSpacesRow.laid w) ∧ sizedMet enc Tryd.prog Tryd.f6 (OpenSpec.ofChange Rows.topSpacesSpec) false w args)
      (Rows.topSpacesSpec.post enc Tryd.prog Tryd.f6 false true false false) := by
  refine returnsInHanded_of_change_and (C := Tryd.checked) (X := fun w _ => laidMetH Tryd.prog Rows.topSpacesRow.laid w) (fun _ _ _ hh h => h.of_heap hh) own started (by kernel_rfl) Tryd.func6
    (ChangeSpec.witness_shaped (enc := enc) (C := Tryd.checked) (os := os) (X := fun w _ => laidMetH Tryd.prog Rows.topSpacesRow.laid w) false (World.doorLaid Tryd.prog 400 os) #[.agg #[.slice none 0 0, .slice none 0 0], .slice none 0 0] 8 rfl (World.shaped_of_RefB (by kernel_rfl) (by kernel_rfl)) (by kernel_rfl) (by kernel_rfl) (by kernel_rfl) (door_met os _)) ?_
  intro W base args ds gs before hval0 hW _ _ hL _
  have hLd := hL
  rw [MakeChecks.laidMetH_plain _ _ _ (by kernel_rfl)] at hLd
  have T0 : Fr.VarIs W 0 (Fr.datCells (Rows.laid_trunnion_entry_fields (H := Unit))) := Fr.varIs_of_laid (t := 131) (ks := [some .i64, some .i64, some .i64, some .i64, some .i64, some .i64, some .i64, some .i64, some .i64, some .i64, some .i64, some .i64, some .i64, some .i64, some .i64, some .i64, some .i64, some .i64]) 12 (hLd : laidMet Tryd.prog Rows.topSpacesRow.laid W) "trunnion/entry.fields" (Rows.laid_trunnion_entry_fields (H := Unit)) (by simp [Rows.topSpacesRow]) (by kernel_rfl) (by kernel_rfl) (by kernel_rfl)
  clear hL hLd
  have hval : ∀ (j : Nat) t v, Tryd.f6.params[j]? = some t → args[j]? = some v → Value.okWide Tryd.prog W .any base t v := hval0
  have hW' := hW
  obtain ⟨p, q, hA0, hV, rfl, hfz, hnd⟩ := hW
  have hA : DataW.TrodAll enc Tryd.prog W 0 (fun _ => true) true Tryd.f6.params.toList args.toList ds p := hA0
  rw [Tryd.params6] at hA hval
  obtain ⟨v0, vs0, d0, ds0, p0, q0, hargs, rfl, rfl, h0, r0⟩ := trodAll_cons hA
  obtain ⟨v1, vs1, d1, ds1, p1, q1, rfl, rfl, rfl, h1, r1⟩ := trodAll_cons r0
  obtain ⟨rfl, rfl, rfl⟩ := trodAll_nil r1
  obtain rfl : args = #[v0, v1] := by cases args; simp_all
  obtain ⟨rfl, rfl⟩ := trodVars_none hV
  have k0 := h0
  have lt0 : ∀ x ∈ p0, x.block < W.heap.size := by obtain ⟨m, hm⟩ := k0; exact DataW.trod_lt m _ _ _ hm
  obtain ⟨ao0, n0, cap0, b0, of0, E0, ao0x, n0x, cap0x, b0x, of0x, E0x, rfl, w0, w0x⟩ := Fr.open_rows2 12 [some .i64] Tryd.underlying51 Tryd.underlying44 (by kernel_rfl) (by kernel_rfl) (by kernel_rfl) (by kernel_rfl) (by decide) (hval 0 51 v0 rfl rfl) h0
  have k1 := h1
  have lt1 : ∀ x ∈ p1, x.block < W.heap.size := by obtain ⟨m, hm⟩ := k1; exact DataW.trod_lt m _ _ _ hm
  obtain ⟨ao1, n1, cap1, b1, of1, E1, rfl, w1⟩ := Fr.open_rows 12 [some .i64] Tryd.underlying44 (by kernel_rfl) (by kernel_rfl) (by decide) (hval 1 44 v1 rfl rfl) h1
  clear hA0 hval0
  refine (walk ao0 n0 cap0 b0 of0 E0 ao0x n0x cap0x b0x of0x E0x ao1 n1 cap1 b1 of1 E1  W w0 w0x w1 T0).mono fun e W' ⟨he, bel⟩ => ?_
  subst he
  exact ⟨_, rfl, _, _, _, [], _, [], hW', trodAll_mk1 (shut_bool Tryd.underlying4 _), (trodAll_cons_mk (Below.trod laidOut (by kernel_rfl) (of_decide_eq_true (by kernel_rfl)) k0 bel lt0) (trodAll_cons_mk (Below.trod laidOut (by kernel_rfl) (of_decide_eq_true (by kernel_rfl)) k1 bel lt1) trodAll_mk0)), rfl, bel.frame _, fun h => by cases h⟩

theorem over : Rows.topSpacesRow.holds Tryd.pinned (OpenSpec.ofChange Rows.topSpacesSpec) :=
  OpenClaim.holds_of_wide 6 Tryd.f6 rfl rfl rfl rfl rfl rfl rfl ⟨rfl, rfl, rfl, rfl, rfl⟩ rfl rfl rfl rfl rfl (by kernel_rfl) Tryd.func6 (by kernel_rfl)
    (of_decide_eq_true (by kernel_rfl)) (by unfold Func.isWrapper; first | (rw [if_pos (by decide +kernel)]; kernel_rfl) | (rw [if_neg (by decide +kernel)]; exact ⟨rfl, rfl⟩))
    (fun os started H enc _ => lifted os started H enc)

theorem proved : Rows.TopSpacesCardSaid :=
  Claim7.holds_tied_plain_at .later [] [.data] true (true, "8fbe12d87b591f72c90e963653a25df0b00f8d07ecf637b8a87be6f3bde5a51c") false
    over (fun _ h => by cases h) (by kernel_rfl) (fun _ h => by cases h) topSpaces_row_tie rfl ⟨rfl, rfl⟩ (by kernel_rfl) rfl
    (fun f fn hf hfn => by
      obtain rfl : f = 6 := Option.some.inj ((show Tryd.prog.funcNamed "trunnion/trunniontop.TopSpaces" = some 6 by kernel_rfl).symm.trans hf) |>.symm
      obtain rfl : fn = Tryd.f6 := (Option.some.inj (Tryd.func6.symm.trans hfn)).symm
      exact ⟨by kernel_rfl, fun j t ht => by
        rw [Tryd.params6] at ht
        have hm : t ∈ [51, 44] := by simpa using Array.mem_of_getElem? ht
        have hall : ([51, 44].all fun u => !Tryd.prog.wantsStandIn u) = true := by kernel_rfl
        exact (show Tryd.prog.wantsStandIn t = false by simpa using List.all_eq_true.1 hall t hm)⟩)
    (by kernel_rfl)
end Go.Proofs.YtpfpcmadhbejiaaDoor.topSpaces
