/-
  Proved: trunnionlaw07.WalkOwn answers true for every input: a page is found by its own places alone: whatever is put at others of the three tables, it is found alike.
  Conditions: package entry's table of fields starts as the program's text lays it (the card ties it).
-/
import Derived.Test.YtbakhipabeaojaaDoorCards
import Derived.Test.YtbakhipabeaojaaDoorTie
import Derived.Test.YtbakhipabeaojaaDoorLaid
import Derived.SevenTiedAt
import Derived.LaidMore
import Derived.Stop.Joined
import Derived.Test.YtbakhipabeaojaaDoorWkS
import Derived.Deep.DeepCutAuto
import Derived.Deep.RegionHeld3
namespace Go.Proofs.YtbakhipabeaojaaDoor.walkOwn
open Go.ChangeShapes Go.WideShapes Go.ChangeAt Go.RowKit
set_option linter.unusedVariables false
set_option linter.unusedSimpArgs false

/-- the entry's box is not the memory's words -/
theorem box_ne {w : World} {A C : Nat} {M : Mem} {v r t : Bool} {f : Int} (h : MemAt w A M) (k : EntAt w C v r t f) : ¬ C = M.B := by
  intro e
  have h1 := h.body
  rw [← e, show w.heap[C]? = _ from k] at h1
  simp at h1
set_option maxRecDepth 100000 in
set_option maxHeartbeats 4000000 in
theorem walk (ao : Option Addr) (n cap b off : Nat) (E : Nat → Nat → Value) (q : Int) (_wq : (Lit.int .i64 q).wf = true)
    (w : World) (R : Fr.RowArg w ao n b off opKs E) (T0 : Fr.VarIs w 0 (Fr.datCells (Rows.laid_trunnion_entry_fields (H := Unit)))) :
    Calls Tryd.prog 4 #[.slice ao n cap, .int .i64 q] w fun e w' => e = .returned (.bool true) ∧ Below w.heap.size w w' := by
  have T := tab_of T0
  have hmost := R.most
  clear T0 _wq
  go_enter Tryd.func4, Tryd.ntmps4
  go_wp2_with fail
  refine (wawake_any _ T).mono ?_
  rintro e w1 ⟨rfl, U1⟩
  have T1 := T.kept U1
  clear T
  go_wp2_with fail
  refine (new_yes 4 _ (by omega) (by omega)).mono ?_
  rintro e w2 ⟨rfl, h2, u2, s2⟩
  have T2 := T1.kept u2
  have U2 := U1.trans u2
  have hN := Lib.hid U1.size
  have hA := T2.apart h2
  have ct := Lib.hid (wtables_any _ _ w2 h2 T2)
  have hF := Four.new w1.heap.size
  rw [show (memNew w1.heap.size 4).B = w1.heap.size from rfl] at ct hA
  generalize (memNew w1.heap.size 4).tabs = M0 at ct hF
  clear h2 u2 s2 U1 T1
  generalize w1.heap.size = N at ct hA hN hF ⊢
  generalize N + 1 = A at ct ⊢
  by_cases h60 : n ≤ 60
  · go_wp2_with fail
    refine ct.out.mono ?_
    rintro e w3 ⟨rfl, h3, u3⟩
    have T3 := T2.keptS u3 hA
    have U3 := U2.fresh u3 hN.out
    clear ct u3 U2 T2
    -- the first walk
    have cW := Lib.hid (wwalk_any A M0 0 q w3 h3 T3 hF.good)
    obtain ⟨L, hL⟩ : ∃ L, L = M0.wN 0 q := ⟨_, rfl⟩
    obtain ⟨X, hX⟩ : ∃ X, X = M0.wX 0 q := ⟨_, rfl⟩
    obtain ⟨G, hG⟩ : ∃ G, G = M0.wE 0 q := ⟨_, rfl⟩
    rw [← hL, ← hX, ← hG] at cW
    have HL := Lib.hid hL
    have HX := Lib.hid hX
    have HG := Lib.hid hG
    have hL3 : L ≤ 3 := by
      rw [hL]
      cases hb : M0.wB 0 q
      · rw [(M0.walk_no 0 q hb).1]; omega
      · exact (M0.wN_bd 0 q hb).2
    have hpg : Hid (0 < L → pageB q = true) := Lib.hid (fun h => by
      cases hb : M0.wB 0 q
      · rw [hL, (M0.walk_no 0 q hb).1] at h; omega
      · rw [hF.wB] at hb; exact hb)
    clear hL hX hG
    obtain ⟨v1, r1, t1, f1⟩ := G
    go_wp2_with fail
    refine cW.out.mono ?_
    rintro e w4 ⟨v4, rfl, r4, u4⟩
    clear cW
    obtain ⟨a1, a2, a3, a4⟩ := ent_box w4 v1 r1 t1 f1
    have A3 := Lib.hid a3
    have u5 := u4.trans a2
    have U5 := U3.trans u5
    have M5 := h3.kept u5 id id
    have T5 := T3.kept u5
    have r5 := wk_kept r4 a2 (fun _ _ => id)
    have r5' := wk_base r5 (Nat.zero_le _)
    obtain ⟨so, g, capg, rfl, hso, hcx⟩ := steps_cells0 r5'
    clear hcx
    have R5 := Lib.hid r5'
    clear a2 a3 a4 u4 u5 r4 r5 r5' h3 T3 U3
    go_upto_region 7 with ((with_reducible refine wpList_store_sz rfl 35 (.tmp 8) (.tmp 43) rfl w4.heap.size 0 #[.bool v1, .bool r1, .bool t1, .int .i64 f1] rfl rfl 4 (ent_sz _ _ _ _) A3.out size_ent (ent_one _ _ _ _) [.bool v1, .bool r1, .bool t1, .int .i64 f1] (ent_ls _ _ _ _) ?_))
    generalize (w4.alloc (.cells #[.bool false, .bool false, .bool false, .int .i64 0] 35)).setCells w4.heap.size 0 [.bool v1, .bool r1, .bool t1, .int .i64 f1] = w5 at a1 U5 M5 T5 R5 ⊢
    generalize w4.heap.size = C at a1 ⊢
    clear A3
    go_wp2
    go_loopw [11] (fun t wr => ∃ (i : Nat) (M : Mem), i ≤ n ∧ t = .int .i64 i ∧ MemAt wr A M ∧ Hid (Four N M) ∧ Hid (Alike M0 M q) ∧ Tab wr ∧ Upd (fun _ => False) w wr ∧ Hid (EntAt wr C v1 r1 t1 f1) ∧ Hid (wr.ownsRow 0 55 2 (.slice so L capg) L (M0.wS 0 q L))) (fun t _ => n - (intOf t).toNat)
    case atStart => exact ⟨0, M0, by omega, rfl, M5, Lib.hid hF, Lib.hid (Alike.refl _ _), T5, U5, Lib.hid a1, R5⟩
    case round =>
      obtain ⟨i, M, hi, rfl, hM, h4, hal, hT, hU, hC, hrow⟩ := hrel
      clear a1 M5 T5 U5 R5
      by_cases hlt : i < n
      · obtain rfl := R.place (by omega)
        have R' := R.kept (hU.below (Nat.le_refl _) fun _ _ => id)
        obtain ⟨x, y, e, raw, u, ho⟩ := op8 R' i hlt
        have hin : (i : Int) < (n : Int) := by omega
        clear R'
        have HO := Lib.hid ho
        clear ho
        go_wp2
        go_loopw [12, 13] (fun o t wx => ∃ (c : Bool) (j : Nat), j ≤ L ∧ o = .bool c ∧ t = .int .i64 j ∧ Hid (OwnIs M0 q x y j c) ∧ Upd (fun _ => False) wr wx) (fun _ t _ => L - (intOf t).toNat)
        case atStart => exact ⟨false, 0, by omega, rfl, rfl, Lib.hid (OwnIs.zero _ _ _ _), Upd.refl _ _⟩
        case round =>
          obtain ⟨c, j, hj, rfl, rfl, hc, ux⟩ := hrel
          by_cases hjl : j < L
          · have hcl := steps_cells1 (wk_kept hrow.out ux (fun _ _ => id)) hso j hjl
            obtain rfl := hso (by omega)
            have o0 := ux.cell HO.out.c0 id
            have o1 := ux.cell HO.out.c1 id
            obtain ⟨s0, s1⟩ := hcl
            obtain ⟨fj, hfj⟩ : ∃ z, z = M0.wF 0 q j := ⟨_, rfl⟩
            obtain ⟨pj, hpj⟩ : ∃ z, z = idxI q j := ⟨_, rfl⟩
            rw [← hfj] at s0
            rw [← hpj] at s1
            have Hf := Lib.hid hfj
            have Hp := Lib.hid hpj
            have hjL : (j : Int) < (L : Int) := by omega
            clear hfj hpj
            cases c
            · by_cases hx : fj = x
              · have dx : decide (fj = x) = true := decide_eq_true hx
                have Hx := Lib.hid hx
                by_cases hy : pj = y
                · have Hy := Lib.hid hy
                  obtain rfl := hx.symm
                  obtain rfl := hy.symm
                  have hn := Lib.hid (hc.out.on (c' := true) ⟨fun _ => .inr ⟨Hf.out.symm, Hp.out.symm⟩, fun _ => rfl⟩)
                  clear hc
                  go_wp2_with fail
                  go_quiet (fail)
                  go_wp2
                  exact ⟨⟨true, j + 1, by omega, rfl, by go_num, hn, ux.drewN _⟩, by simp [intOf]; omega⟩
                · have dy : decide (pj = y) = false := decide_eq_false hy
                  have hbn := Lib.hid (show (pj == y) = false from by simp [hy])
                  obtain rfl := hx.symm
                  have hn := Lib.hid (hc.out.on (c' := false) ⟨fun h => absurd h (by decide), fun h => by rcases h with h | h; exact h; exact absurd (Hp.out.trans h.2) hy⟩)
                  clear hc
                  go_wp2_with fail
                  go_quiet (fail)
                  go_wp2
                  exact ⟨⟨false, j + 1, by omega, by rw [hbn.out], by go_num, hn, ux.drewN _⟩, by simp [intOf]; omega⟩
              · have dx : decide (fj = x) = false := decide_eq_false hx
                have hn := Lib.hid (hc.out.on (c' := false) ⟨fun h => absurd h (by decide), fun h => by rcases h with h | h; exact h; exact absurd (Hf.out.trans h.1) hx⟩)
                clear hc
                go_wp2_with fail
                go_quiet (fail)
                go_wp2
                exact ⟨⟨false, j + 1, by omega, rfl, by go_num, hn, ux.drewN _⟩, by simp [intOf]; omega⟩
            · skip
              have hn := Lib.hid (hc.out.on (c' := true) ⟨fun _ => .inl rfl, fun _ => rfl⟩)
              clear hc
              go_wp2_with fail
              go_quiet (fail)
              go_wp2
              exact ⟨⟨true, j + 1, by omega, rfl, by go_num, hn, ux.drewN _⟩, by simp [intOf]; omega⟩
          · obtain rfl : j = L := by omega
            have hM' := hM.kept ux id id
            have hT' := hT.kept ux
            have hU' := hU.trans ux
            have hC' := Lib.hid (hC.out.kept ux id)
            have hrow' := Lib.hid (wk_kept hrow.out ux (fun _ _ => id))
            cases c
            · have hnot : Hid (∀ k, k < M0.wN 0 q → ¬ (M0.wF 0 q k = x ∧ idxI q k = y)) := Lib.hid (fun k hk hh => by
                have := hc.out.2 ⟨k, by rw [HL.out]; exact hk, hh⟩
                cases this)
              have HO' : OpIn wr b (off + i * 8) x y e raw u := ⟨ux.cell HO.out.c0 id, ux.cell HO.out.c1 id, ux.rangeAt HO.out.rg id, ux.rangeAt HO.out.all id, HO.out.wx, HO.out.wy, HO.out.wf, HO.out.wu⟩
              clear hM hT hU hC hrow ux hc HO
              go_wp2_with fail
              refine wp_region_tail 16 (by kernel_rfl) (by kernel_rfl) ?_
              simp only [List.take_succ_cons, List.take_zero, List.drop_succ_cons, List.drop_zero]
              intro w7 hw7
              have hM7 : MemAt w7 A M := by rw [hw7]; exact hM'.drew
              have hT7 : Tab w7 := by rw [hw7]; exact hT'.drew 1
              have hU7 : Upd (fun _ => False) w w7 := by rw [hw7]; exact hU'.drew
              have hC7 : Hid (EntAt w7 C v1 r1 t1 f1) := by rw [hw7]; exact hC'
              have hrow7 : Hid (w7.ownsRow 0 55 2 (.slice so j capg) j (M0.wS 0 q j)) := by rw [hw7]; exact hrow'
              have ho7 : OpIn w7 b (off + i * 8) x y e raw u := by rw [hw7]; exact HO'.drew
              clear hw7 hM' hT' hU' hC' hrow' HO'
              have c0 := ho7.c0
              have c1 := ho7.c1
              have rg := Lib.hid ho7.rg
              have wf := Lib.hid ho7.wf
              clear ho7
              obtain ⟨v, r, t, f⟩ := e
              repeat (first | (with_reducible refine wpStill_load_sz rfl 35 (.tmp 101) rfl b (off + i * 8 + 2) rfl [.bool v, .bool r, .bool t, .int .i64 f] _ rg.out Tryd.underlying35 rfl 4 (ent_len _ _ _ _) size_ent ?_) | still_step)
              refine wpStill_nil ?_
              go_wp2_with fail
              refine (wput_any A M x y ⟨v, r, t, f⟩ _ hM7 hT7 wf.out).mono ?_
              rintro z w8 ⟨rfl, M8, u8⟩
              have hC8 := Lib.hid (hC7.out.kept u8 (box_ne hM7 hC7.out))
              have hrow8 := Lib.hid (wk_kept hrow7.out u8 (fun k hk e => wk_ne hrow7.out hM7.body (by decide) k hk e))
              rw [h4.out.B] at u8
              have T8 := hT7.keptS u8 hA
              have U8 := hU7.fresh u8 hN.out
              have hal8 := Lib.hid (hal.out.put h4.out.ok x y ⟨v, r, t, f⟩ hnot.out)
              clear hM7 hT7 hU7 hC7 hrow7 u8
              go_wp2
              go_roundw
              case rel => exact ⟨i + 1, _, by omega, by go_num, M8, Lib.hid (h4.out.put x y _), hal8, T8, U8, hC8, hrow8⟩
              case measure => simp [intOf]; omega
            · go_wp2
              exact ⟨⟨i + 1, M, by omega, by go_num, hM', h4, hal, hT', hU', hC', hrow'⟩, by simp [intOf]; omega⟩
      · have hw := hal.out.walk
        have cW := Lib.hid (wwalk_any A M 0 q wr hM hT h4.out.good)
        rw [hw.1, hw.2.1, hw.2.2.1, hw.2.2.2, ← HL.out, ← HX.out, ← HG.out] at cW
        clear hw
        go_wp2_with fail
        refine cW.out.mono ?_
        rintro e w6 ⟨v6, rfl, r6, u6⟩
        clear cW
        obtain ⟨a1, a2, a3, a4⟩ := ent_box w6 v1 r1 t1 f1
        have A3 := Lib.hid a3
        have u7 := u6.trans a2
        have U7 := hU.trans u7
        have T7 := hT.kept u7
        have C7 := hC.out.kept u7 id
        have r7 := wk_kept r6 a2 (fun _ _ => id)
        obtain ⟨so2, g2, capg2, rfl, hso2, hc2⟩ := steps_cells0 r7
        have hc1 := steps_cells1 (wk_kept hrow.out u7 (fun _ _ => id)) hso
        clear a2 a3 a4 u6 u7 r6 r7 hM hT hU hC hrow hal
        go_upto_region 18 with ((with_reducible refine wpList_store_sz rfl 35 (.tmp 14) (.tmp 108) rfl w6.heap.size 0 #[.bool v1, .bool r1, .bool t1, .int .i64 f1] rfl rfl 4 (ent_sz _ _ _ _) A3.out size_ent (ent_one _ _ _ _) [.bool v1, .bool r1, .bool t1, .int .i64 f1] (ent_ls _ _ _ _) ?_))
        generalize (w6.alloc (.cells #[.bool false, .bool false, .bool false, .int .i64 0] 35)).setCells w6.heap.size 0 [.bool v1, .bool r1, .bool t1, .int .i64 f1] = w7 at a1 U7 T7 C7 hc1 hc2 ⊢
        generalize w6.heap.size = D at a1 ⊢
        clear A3
        have he := run_eqE v1 r1 t1 f1 v1 r1 t1 f1 true (by simp)
        have HC1 := Lib.hid hc1
        have HC2 := Lib.hid hc2
        have KA := Lib.hid a1
        have KC := Lib.hid C7
        clear hc1 hc2 a1 C7
        go_wp2_with (first
          | (with_reducible refine wpList_load_sz rfl 35 (.tmp 8) rfl C 0 rfl [.bool v1, .bool r1, .bool t1, .int .i64 f1] _ KC.out.range Tryd.underlying35 rfl 4 (ent_len _ _ _ _) size_ent ?_)
          | (with_reducible refine wpList_load_sz rfl 35 (.tmp 14) rfl D 0 rfl [.bool v1, .bool r1, .bool t1, .int .i64 f1] _ KA.out.range Tryd.underlying35 rfl 4 (ent_len _ _ _ _) size_ent ?_))
        clear he
        go_loopw [17] (fun t wx => ∃ j : Nat, j ≤ L ∧ t = .int .i64 j ∧ Upd (fun _ => False) w7 wx) (fun t _ => L - (intOf t).toNat)
        case atStart => exact ⟨0, by omega, rfl, Upd.refl _ _⟩
        case round =>
          obtain ⟨j, hj, rfl, ux⟩ := hrel
          by_cases hjl : j < L
          · obtain rfl := hso (by omega)
            obtain rfl := hso2 (by omega)
            have s0 := ux.cell (HC1.out j hjl).1 id
            have s1 := ux.cell (HC1.out j hjl).2 id
            have q0 := ux.cell (HC2.out j hjl).1 id
            have q1 := ux.cell (HC2.out j hjl).2 id
            have cI := Lib.hid (fun W (T : Tab W) => eindex_any q j W T)
            have hix : idxB q j = true := by rw [idxB_page q j (by omega) (by omega)]; exact hpg.out (by omega)
            rw [hix] at cI
            clear hix
            generalize M0.wF 0 q j = fj at s0 q0
            generalize idxI q j = pj at s1 q1 cI
            have heS := run_eqS fj pj fj pj true (by simp)
            have hjL : (j : Int) < (L : Int) := by omega
            go_wp2_with fail
            go_quiet (fail)
            have T8 := T7.kept (ux.drewN nq)
            go_wp2_with fail
            refine (cI.out _ T8).mono ?_
            rintro e w8 ⟨rfl, n8, rfl⟩
            rw [show errB true = 0 from rfl]
            go_wp2
            exact ⟨⟨j + 1, by omega, by go_num, ux.drewN _⟩, by simp [intOf]; omega⟩
          · go_wp2
            go_ret
            exact ⟨rfl, (U7.trans ux).below (Nat.le_refl _) fun _ _ => id⟩
  · go_wp2
    go_ret
    exact ⟨rfl, U2.below (Nat.le_refl _) fun _ _ => id⟩
/-! ### the row's frame, and its tied card -/
theorem own : ownKnob Tryd.prog.godebug = none := by kernel_rfl
theorem laidOut : laidOutB Tryd.prog = true := by kernel_rfl
/-- the door's own heap meets the condition -/
theorem door_met (os : Os) (args : Array Value) : laidMetH Tryd.prog Rows.walkOwnRow.laid ((World.doorLaid Tryd.prog 400 os).forCall (fun _ _ => 0) ⟨#[], args, []⟩).memory :=
  laidMetH_of_parts3 (fuel := 8) (laidMet_of_run' 8 (by kernel_rfl) (by kernel_rfl)) (by kernel_rfl) (by kernel_rfl)
set_option linter.unusedVariables false in
set_option maxRecDepth 100000 in
theorem lifted (os : Os) (started : os.Started) (H : Type) (enc : TypeId × Value → H) :
    ReturnsInHanded {} Tryd.checked os 4 .any (fun w args => (Rows.walkOwnSpec.pre enc Tryd.prog Tryd.f4 [] false w args ∧ laidMetH Tryd.prog Rows.walkOwnRow.laid w) ∧ sizedMet enc Tryd.prog Tryd.f4 (OpenSpec.ofChange Rows.walkOwnSpec) false w args)
      (Rows.walkOwnSpec.post enc Tryd.prog Tryd.f4 false true false false) := by
  refine returnsInHanded_of_change_and (C := Tryd.checked) (X := fun w _ => laidMetH Tryd.prog Rows.walkOwnRow.laid w) (fun _ _ _ hh h => h.of_heap hh) own started (by kernel_rfl) Tryd.func4
    (ChangeSpec.witness_shaped (enc := enc) (C := Tryd.checked) (os := os) (X := fun w _ => laidMetH Tryd.prog Rows.walkOwnRow.laid w) false (World.doorLaid Tryd.prog 400 os) #[.slice none 0 0, .int .i64 0] 8 rfl (World.shaped_of_RefB (by kernel_rfl) (by kernel_rfl)) (by kernel_rfl) (by kernel_rfl) (by kernel_rfl) (door_met os _)) ?_
  intro W base args ds gs before hval0 hW _ _ hL _
  have hLd := hL
  rw [MakeChecks.laidMetH_plain _ _ _ (by kernel_rfl)] at hLd
  have T0 : Fr.VarIs W 0 (Fr.datCells (Rows.laid_trunnion_entry_fields (H := Unit))) := Fr.varIs_of_laid (t := 87) (ks := [some .i64, some .i64, some .i64, some .i64, some .i64, some .i64, some .i64, some .i64, some .i64, some .i64, some .i64, some .i64, some .i64, some .i64, some .i64, some .i64, some .i64, some .i64]) 12 (hLd : laidMet Tryd.prog Rows.walkOwnRow.laid W) "trunnion/entry.fields" (Rows.laid_trunnion_entry_fields (H := Unit)) (by simp [Rows.walkOwnRow]) (by kernel_rfl) (by kernel_rfl) (by kernel_rfl)
  clear hL hLd
  have hval : ∀ (j : Nat) t v, Tryd.f4.params[j]? = some t → args[j]? = some v → Value.okWide Tryd.prog W .any base t v := hval0
  have hW' := hW
  obtain ⟨p, q, hA0, hV, rfl, hfz, hnd⟩ := hW
  have hA : DataW.TrodAll enc Tryd.prog W 0 (fun _ => true) true Tryd.f4.params.toList args.toList ds p := hA0
  rw [Tryd.params4] at hA hval
  obtain ⟨v0, vs0, d0, ds0, p0, q0, hargs, rfl, rfl, h0, r0⟩ := trodAll_cons hA
  obtain ⟨v1, vs1, d1, ds1, p1, q1, rfl, rfl, rfl, h1, r1⟩ := trodAll_cons r0
  obtain ⟨rfl, rfl, rfl⟩ := trodAll_nil r1
  obtain rfl : args = #[v0, v1] := by cases args; simp_all
  obtain ⟨rfl, rfl⟩ := trodVars_none hV
  have k0 := h0
  have lt0 : ∀ x ∈ p0, x.block < W.heap.size := by obtain ⟨m, hm⟩ := k0; exact DataW.trod_lt m _ _ _ hm
  obtain ⟨ao0, n0, cap0, b0, of0, E0, rfl, w0⟩ := Fr.open_rows 12 [some .i64, some .i64, none, none, none, some .i64, none, some .u64] Tryd.underlying22 (by kernel_rfl) (by kernel_rfl) (by decide) (hval 0 22 v0 rfl rfl) h0
  have k1 := h1
  have lt1 : ∀ x ∈ p1, x.block < W.heap.size := by obtain ⟨m, hm⟩ := k1; exact DataW.trod_lt m _ _ _ hm
  obtain ⟨a1, rfl, rfl, rfl, w1⟩ := open_int Tryd.underlying3 (hval 1 3 v1 rfl rfl) h1
  clear hA0 hval0
  refine (walk ao0 n0 cap0 b0 of0 E0 a1 w1 W w0 T0).mono fun e W' ⟨he, bel⟩ => ?_
  subst he
  exact ⟨_, rfl, _, _, _, [], _, [], hW', trodAll_mk1 (shut_bool Tryd.underlying4 _), (trodAll_cons_mk (Below.trod laidOut (by kernel_rfl) (of_decide_eq_true (by kernel_rfl)) k0 bel lt0) (trodAll_cons_mk (Below.trod laidOut (by kernel_rfl) (of_decide_eq_true (by kernel_rfl)) k1 bel lt1) trodAll_mk0)), rfl, bel.frame _, fun h => by cases h⟩

theorem over : Rows.walkOwnRow.holds Tryd.pinned (OpenSpec.ofChange Rows.walkOwnSpec) :=
  OpenClaim.holds_of_wide 4 Tryd.f4 rfl rfl rfl rfl rfl rfl rfl ⟨rfl, rfl, rfl, rfl, rfl⟩ rfl rfl rfl rfl rfl (by kernel_rfl) Tryd.func4 (by kernel_rfl)
    (of_decide_eq_true (by kernel_rfl)) (by unfold Func.isWrapper; first | (rw [if_pos (by decide +kernel)]; kernel_rfl) | (rw [if_neg (by decide +kernel)]; exact ⟨rfl, rfl⟩))
    (fun os started H enc _ => lifted os started H enc)

theorem proved : Rows.WalkOwnCardSaid :=
  Claim7.holds_tied_plain_at .later [] [.data] true (true, "348ae7ec7ba4e62cabf024fe6591a7bb6090c65894f5278e701ebaa1b8c50ca2") false
    over (fun _ h => by cases h) (by kernel_rfl) (fun _ h => by cases h) walkOwn_row_tie rfl ⟨rfl, rfl⟩ (by kernel_rfl) rfl
    (fun f fn hf hfn => by
      obtain rfl : f = 4 := Option.some.inj ((show Tryd.prog.funcNamed "trunnion/trunnionlaw07.WalkOwn" = some 4 by kernel_rfl).symm.trans hf) |>.symm
      obtain rfl : fn = Tryd.f4 := (Option.some.inj (Tryd.func4.symm.trans hfn)).symm
      exact ⟨by kernel_rfl, fun j t ht => by
        rw [Tryd.params4] at ht
        have hm : t ∈ [22, 3] := by simpa using Array.mem_of_getElem? ht
        have hall : ([22, 3].all fun u => !Tryd.prog.wantsStandIn u) = true := by kernel_rfl
        exact (show Tryd.prog.wantsStandIn t = false by simpa using List.all_eq_true.1 hall t hm)⟩)
    (by kernel_rfl)
end Go.Proofs.YtbakhipabeaojaaDoor.walkOwn
