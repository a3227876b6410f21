/-
  Proved: trunnionlaw07.WalkPlays answers true for every input: whatever entries are put, and words written, in whatever tables, Put, Get, Blank and the walks to any pages answer just what the document's own do.
  Conditions: package entry's table of fields starts as the program's text lays it (the card ties it).
-/
import Derived.Test.YtbakhipabeaojaaDoorCards
import Derived.Test.YtbakhipabeaojaaDoorTie
import Derived.Test.YtbakhipabeaojaaDoorLaid
import Derived.SevenTiedAt
import Derived.LaidMore
import Derived.Stop.Joined
import Derived.Test.YtbakhipabeaojaaDoorWkU
import Derived.Deep.DeepCutAuto
import Derived.Deep.CutBlock
import Derived.Deep.RegionHeld3
namespace Go.Proofs.YtbakhipabeaojaaDoor.walkPlays
open Go.ChangeShapes Go.WideShapes Go.ChangeAt Go.RowKit
set_option linter.unusedVariables false
set_option linter.unusedSimpArgs false

theorem one_page {w : World} {ao : Option Addr} {n b off : Nat} {E : Nat → Nat → Value} (R : Fr.RowArg w ao n b off [some .i64] E) (i : Nat) (hi : i < n) : ∃ x : Int, w.cell? ⟨b, off + i, none⟩ = some (.int .i64 x) := by
  obtain ⟨x, hx, _⟩ := R.ok i hi 0 _ rfl
  exact ⟨x, by rw [← hx]; have := R.cell i hi 0 (by decide); simpa using this⟩
/-- an Op in its box -/
def opAt (w : World) (g : Nat) (x y : Int) (v r t : Bool) (f : Int) (raw : Bool) (u : Int) : Prop := w.heap[g]? = some (.cells #[.int .i64 x, .int .i64 y, .bool v, .bool r, .bool t, .int .i64 f, .bool raw, .int .u64 u] 38 (0, 0))
theorem opAt.all {w : World} {g : Nat} {x y : Int} {v r t : Bool} {f : Int} {raw : Bool} {u : Int} (h : opAt w g x y v r t f raw u) : w.rangeAt g 0 [.int .i64 x, .int .i64 y, .bool v, .bool r, .bool t, .int .i64 f, .bool raw, .int .u64 u] := World.rangeAt_of_block h 0 8
theorem opAt.ent {w : World} {g : Nat} {x y : Int} {v r t : Bool} {f : Int} {raw : Bool} {u : Int} (h : opAt w g x y v r t f raw u) : w.rangeAt g 2 [.bool v, .bool r, .bool t, .int .i64 f] := World.rangeAt_of_block h 2 4
theorem op_ne1 {w W : World} {A C B1 B2 g : Nat} {m : Mem} {c : Array Value} (T : Both w W A C B1 B2 m) (h : W.heap[g]? = some (.cells c 38 (0, 0))) : ¬ g = B1 := by
  intro e
  have h1 := T.M.body
  rw [T.b, ← e, h] at h1
  simp at h1
theorem op_ne2 {w W : World} {A C B1 B2 g : Nat} {m : Mem} {c : Array Value} (T : Both w W A C B1 B2 m) (h : W.heap[g]? = some (.cells c 38 (0, 0))) : ¬ g = B2 := by
  intro e
  have h1 := T.R.body
  rw [show (m.re B2).B = B2 from rfl, ← e, h] at h1
  simp at h1
set_option maxRecDepth 100000 in
set_option maxHeartbeats 4000000 in
theorem walk (N : Int) (ao : Option Addr) (n cap b off : Nat) (E : Nat → Nat → Value) (ao2 : Option Addr) (n2 cap2 b2 off2 : Nat) (E2 : Nat → Nat → Value) (_wN : (Lit.int .i64 N).wf = true)
    (w : World) (R : Fr.RowArg w ao n b off opKs E) (R2 : Fr.RowArg w ao2 n2 b2 off2 [some .i64] E2) (T0 : Fr.VarIs w 0 (Fr.datCells (Rows.laid_trunnion_entry_fields (H := Unit)))) :
    Calls Tryd.prog 3 #[.int .i64 N, .slice ao n cap, .slice ao2 n2 cap2] w fun e w' => e = .returned (.bool true) ∧ Below w.heap.size w w' := by
  have T := tab_of T0
  have hmost := R.most
  have hmost2 := R2.most
  clear T0 _wN
  by_cases hN : 1 ≤ N ∧ N ≤ 256
  · obtain ⟨n1, n2'⟩ := hN
    obtain ⟨F, rfl⟩ := Int.eq_ofNat_of_zero_le (by omega : 0 ≤ N)
    go_enter Tryd.func3, Tryd.ntmps3
    go_wp2_with fail
    refine (wawake_any _ T).mono ?_
    rintro e w1 ⟨rfl, U1⟩
    have T1 := T.kept U1
    clear T
    go_wp2_with fail
    refine (new_yes F _ (by omega) (by omega)).mono ?_
    rintro e w2 ⟨rfl, M2, U2, s2⟩
    have S2 := Lib.hid s2
    clear s2
    go_wp2_with fail
    refine (rNew_yes F _ (by omega) (by omega)).mono ?_
    rintro e w3 ⟨rfl, R3, U3, -⟩
    have B3 : Both w w3 (w1.heap.size + 1) (w2.heap.size + 1) w1.heap.size w2.heap.size (memNew w1.heap.size F) :=
      ⟨M2.kept U3 id id, R3, (T1.kept U2).kept U3, (U1.trans U2).trans U3, rfl, Mem.new_ok _ _, Mem.new_good _ _, U1.size, by omega, by rw [S2.out]; omega, by omega⟩
    clear M2 R3 U1 U2 U3 S2 T1
    generalize memNew w1.heap.size F = m0 at B3
    generalize w1.heap.size + 1 = A at B3 ⊢
    generalize w2.heap.size + 1 = C at B3 ⊢
    generalize w1.heap.size = B1 at B3
    generalize w2.heap.size = B2 at B3
    go_wp2_with fail
    refine (wtables_any A m0 w3 B3.M B3.T).mono ?_
    rintro e w4 ⟨rfl, M4, u4⟩
    obtain ⟨R4, T4, U4⟩ := B3.one M4 u4
    have hB2 : w.heap.size ≤ B2 := by have := B3.l0; have := B3.l1; have := B3.l2; omega
    have hA2 : ¬ A = B2 := by have := B3.l2; omega
    have hBB : ¬ m0.tabs.B = B2 := by rw [Mem.tabs_B, B3.b]; have := B3.l1; have := B3.l2; omega
    have hb := Lib.hid B3
    clear B3 u4
    go_wp2_with fail
    go_loopw [12] (fun t wr => ∃ k : Nat, k ≤ 3 ∧ t = .int .i64 k ∧ MemAt wr A m0.tabs ∧ RefAt wr C ((m0.tabsN k).re B2) ∧ Tab wr ∧ Upd (fun _ => False) w wr) (fun t _ => 3 - (intOf t).toNat)
    case atStart => exact ⟨0, by omega, rfl, M4, R4, T4, U4⟩
    case round =>
      obtain ⟨k, hk, rfl, hM, hR, hT, hU⟩ := hrel
      clear M4 R4 T4 U4
      by_cases hlt : k < 3
      · have hk3 : k = 0 ∨ k = 1 ∨ k = 2 := by omega
        rcases hk3 with rfl | rfl | rfl
        · have cP := Lib.hid (fun W (h : RefAt W C ((m0.tabsN 0).re B2)) => kput_any C ((m0.tabsN 0).re B2) 0 1 ⟨true, false, true, 1⟩ W h)
          rw [Mem.re_put] at cP
          go_wp2_with fail
          refine (cP.out _ (hR.allocd _)).mono ?_
          rintro e w5 ⟨rfl, R5, u5⟩
          have u6 : Upd (· = B2) wr w5 := (((Upd.refl _ wr).alloc _).trans u5)
          have M5 := hM.kept u6 hA2 hBB
          have T5 := hT.keptS u6 (hT.apartR hR)
          have U5 := hU.fresh u6 hB2
          clear hM hR hT hU u5 u6 cP
          go_wp2
          exact ⟨⟨1, by omega, by go_num, M5, R5, T5, U5⟩, by simp [intOf]⟩
        · have cP := Lib.hid (fun W (h : RefAt W C ((m0.tabsN 1).re B2)) => kput_any C ((m0.tabsN 1).re B2) 1 2 ⟨true, false, true, 2⟩ W h)
          rw [Mem.re_put] at cP
          go_wp2_with fail
          refine (cP.out _ (hR.allocd _)).mono ?_
          rintro e w5 ⟨rfl, R5, u5⟩
          have u6 : Upd (· = B2) wr w5 := (((Upd.refl _ wr).alloc _).trans u5)
          have M5 := hM.kept u6 hA2 hBB
          have T5 := hT.keptS u6 (hT.apartR hR)
          have U5 := hU.fresh u6 hB2
          clear hM hR hT hU u5 u6 cP
          go_wp2
          exact ⟨⟨2, by omega, by go_num, M5, R5, T5, U5⟩, by simp [intOf]⟩
        · have cP := Lib.hid (fun W (h : RefAt W C ((m0.tabsN 2).re B2)) => kput_any C ((m0.tabsN 2).re B2) 2 3 ⟨true, true, false, 7⟩ W h)
          rw [Mem.re_put] at cP
          go_wp2_with fail
          refine (cP.out _ (hR.allocd _)).mono ?_
          rintro e w5 ⟨rfl, R5, u5⟩
          have u6 : Upd (· = B2) wr w5 := (((Upd.refl _ wr).alloc _).trans u5)
          have M5 := hM.kept u6 hA2 hBB
          have T5 := hT.keptS u6 (hT.apartR hR)
          have U5 := hU.fresh u6 hB2
          clear hM hR hT hU u5 u6 cP
          go_wp2
          exact ⟨⟨3, by omega, by go_num, M5, R5, T5, U5⟩, by simp [intOf]⟩
      · have hk3 : k = 3 := by omega
        rw [hk3] at hR
        have B4 : Both w wr A C B1 B2 m0.tabs := ⟨hM, hR, hT, hU, by rw [Mem.tabs_B]; exact hb.out.b, Mem.tabs_ok _ hb.out.ok, Mem.tabs_good _ hb.out.ok hb.out.good, hb.out.l0, hb.out.l1, hb.out.l2, hb.out.l3⟩
        clear hM hR hT hU hb hBB hA2 hk3 hk
        generalize m0.tabs = m1 at B4
        go_upto_block 2 with fail
        go_cut [13] (fun _ wx => ∃ m : Mem, Both w wx A C B1 B2 m)
        case first =>
          go_wp2_with fail
          go_loopw [13] (fun t wr => ∃ (k : Nat) (m : Mem), k ≤ n ∧ k ≤ 60 ∧ t = .int .i64 k ∧ Both w wr A C B1 B2 m) (fun t _ => 60 - (intOf t).toNat)
          case atStart => exact ⟨0, m1, by omega, by omega, rfl, B4⟩
          case round =>
            obtain ⟨k, m, hk, hk6, rfl, T⟩ := hrel
            clear B4
            by_cases hlt : k < n
            · by_cases hl6 : k < 60
              · obtain rfl := R.place (by omega)
                have R' := R.kept (T.U.below (Nat.le_refl _) fun _ _ => id)
                obtain ⟨x, y, e, raw, u, ho⟩ := op8 R' k hlt
                have hkn : (k : Int) < (n : Int) := by omega
                have hk60 : (k : Int) < 60 := by omega
                obtain ⟨v, r, t, f⟩ := e
                have c0 := ho.all 0 _ rfl
                have c1 := ho.all 1 _ rfl
                have c2 := ho.all 2 _ rfl
                have c3 := ho.all 3 _ rfl
                have c4 := ho.all 4 _ rfl
                have c5 := ho.all 5 _ rfl
                have c6 := ho.all 6 _ rfl
                have c7 := ho.all 7 _ rfl
                simp only [Nat.add_zero] at c0
                have wf := Lib.hid ho.wf
                have wu := Lib.hid (bounds_u64 ho.wu)
                clear R' ho
                go_upto_region 15 with fail
                have Tw := T.kept ((Upd.refl (fun _ => False) wr).alloc (.cells #[.int .i64 x, .int .i64 y, .bool v, .bool r, .bool t, .int .i64 f, .bool raw, .int .u64 u] 38))
                have X := heap_alloc_last wr (.cells #[.int .i64 x, .int .i64 y, .bool v, .bool r, .bool t, .int .i64 f, .bool raw, .int .u64 u] 38)
                clear T c0 c1 c2 c3 c4 c5 c6 c7
                generalize wr.alloc (.cells #[.int .i64 x, .int .i64 y, .bool v, .bool r, .bool t, .int .i64 f, .bool raw, .int .u64 u] 38) = W at Tw X ⊢
                generalize wr.heap.size = g at X ⊢
                have HX : Hid (opAt W g x y v r t f raw u) := Lib.hid X
                have hg1 : ¬ g = B1 := op_ne1 Tw X
                have hg2 : ¬ g = B2 := op_ne2 Tw X
                clear X
                have o6 := HX.out.all 6 _ rfl
                go_upto_if 90 with fail
                go_cut [131] (fun _ wx => ∃ m' : Mem, Both w wx A C B1 B2 m' ∧ Hid (opAt wx g x y v r t f raw u))
                case first =>
                  have o0 := HX.out.all 0 _ rfl
                  have o1 := HX.out.all 1 _ rfl
                  have o2 := HX.out.all 2 _ rfl
                  have o3 := HX.out.all 3 _ rfl
                  have o4 := HX.out.all 4 _ rfl
                  have o5 := HX.out.all 5 _ rfl
                  have o7 := HX.out.all 7 _ rfl
                  simp only [Nat.zero_add] at o0 o1 o2 o3 o4 o5 o6 o7
                  cases raw
                  · obtain ⟨m', hm'⟩ : ∃ m', m' = m.put x y ⟨v, r, t, f⟩ := ⟨_, rfl⟩
                    obtain ⟨eb, heb⟩ : ∃ eb, eb = errB (m.putB x y ⟨v, r, t, f⟩) := ⟨_, rfl⟩
                    have p1 : Hid (∀ W, MemAt W A m → Tab W → Calls Tryd.prog 14 #[.pointer (some ⟨A, 0, none⟩), .int .i64 x, .int .i64 y, .agg #[.bool v, .bool r, .bool t, .int .i64 f]] W fun e w' => e = .returned (.int .i64 eb) ∧ MemAt w' A m' ∧ Upd (· = m.B) W w') :=
                      Lib.hid (fun W h T => by rw [heb, hm']; exact wput_any A m x y ⟨v, r, t, f⟩ W h T wf.out)
                    have p2 : Hid (∀ W, RefAt W C (m.re B2) → Calls Tryd.prog 11 #[.pointer (some ⟨C, 0, none⟩), .int .i64 x, .int .i64 y, .agg #[.bool v, .bool r, .bool t, .int .i64 f]] W fun e w' => e = .returned (.int .i64 eb) ∧ RefAt w' C (m'.re B2) ∧ Upd (· = B2) W w') :=
                      Lib.hid (fun W h => by rw [heb, hm', ← Mem.re_put]; exact kput_any C (m.re B2) x y ⟨v, r, t, f⟩ W h)
                    have hmm : Hid (m'.B = m.B ∧ m'.ok ∧ m'.good) := Lib.hid (by rw [hm']; exact ⟨Mem.put_B .., m.put_ok Tw.ok .., m.put_good Tw.ok Tw.good x y _⟩)
                    clear hm' heb
                    have hS := Lib.hid (show ∀ W', opAt W' g x y v r t f false u → W'.cell? ⟨g, 0, none⟩ = some (.int .i64 x) ∧ W'.cell? ⟨g, 1, none⟩ = some (.int .i64 y) ∧ W'.cell? ⟨g, 2, none⟩ = some (.bool v) ∧ W'.cell? ⟨g, 3, none⟩ = some (.bool r) ∧ W'.cell? ⟨g, 4, none⟩ = some (.bool t) ∧ W'.cell? ⟨g, 5, none⟩ = some (.int .i64 f) from fun W' h => ⟨h.all 0 _ rfl, h.all 1 _ rfl, h.all 2 _ rfl, h.all 3 _ rfl, h.all 4 _ rfl, h.all 5 _ rfl⟩)
                    have Td := Tw.kept (Upd.refl (fun _ => False) W).drew
                    have HXd : Hid (opAt W.drew g x y v r t f false u) := Lib.hid (show opAt _ _ _ _ _ _ _ _ _ _ from HX.out)
                    have hb1 := Tw.b
                    have hg1' : ¬ g = m.B := by rw [hb1]; exact hg1
                    clear Tw hb1
                    go_upto_region 18 with fail
                    go_region_held3 (fun w' => w'.cell? ⟨g, 0, none⟩ = some (.int .i64 x) ∧ w'.cell? ⟨g, 1, none⟩ = some (.int .i64 y) ∧ w'.cell? ⟨g, 2, none⟩ = some (.bool v) ∧ w'.cell? ⟨g, 3, none⟩ = some (.bool r) ∧ w'.cell? ⟨g, 4, none⟩ = some (.bool t) ∧ w'.cell? ⟨g, 5, none⟩ = some (.int .i64 f))
                      (first
                        | assumption
                        | exact hS.out _ HX.out
                        | exact hS.out _ HXd.out
                        | exact hS.out _ x5.out
                        | exact hS.out _ x6.out)
                      (first
                        | (go_at_call 14; refine (p1.out _ Td.M Td.T).mono ?_; rintro e w5 ⟨rfl, M5, u5⟩; have x5 : Hid (opAt w5 g x y v r t f false u) := Lib.hid (u5.at HXd.out hg1'); have R5 := Lib.hid (Td.one M5 u5).1)
                        | (go_at_call 11; refine (p2.out _ R5.out).mono ?_; rintro e w6 ⟨rfl, R6, u6⟩; have x6 : Hid (opAt w6 g x y v r t f false u) := Lib.hid (u6.at x5.out hg2); have T6 := Lib.hid (Td.two M5 u5 R6 u6 hmm.out.1 hmm.out.2.1 hmm.out.2.2)))
                    clear p1 p2 hS Td HXd o0 o1 o2 o3 o4 o5 o7 M5 u5 R6 u6 R5
                    go_wp2_with fail
                    go_meet
                    exact ⟨m', T6.out, x6⟩
                  · obtain ⟨a, ha⟩ : ∃ a, a = x % 256 := ⟨_, rfl⟩
                    obtain ⟨c, hc⟩ : ∃ c, c = y % 16 := ⟨_, rfl⟩
                    have ha1 : bits .and .i64 x 255 = a := by rw [wk_and255, ha]
                    have hc1 : bits .and .i64 y 15 = c := by rw [wk_and15, hc]
                    have a0 : 0 ≤ a := by omega
                    have a1 : a ≤ 255 := by omega
                    have q0 : 0 ≤ c := by omega
                    have q1 : c ≤ 15 := by omega
                    clear ha hc
                    have p1 := Lib.hid (fun W (h : MemAt W A m) => write_any A m (16 * a + c) u W h)
                    have p2 := Lib.hid (fun W (h : RefAt W C (m.re B2)) => rWrite_any C (m.re B2) (16 * a + c) u W h)
                    rw [Mem.re_wr] at p2
                    have hmm : Hid ((m.wr (16 * a + c) u).B = m.B ∧ (m.wr (16 * a + c) u).ok ∧ (m.wr (16 * a + c) u).good) := Lib.hid ⟨Mem.wr_B .., m.wr_ok Tw.ok .., m.wr_good Tw.ok Tw.good _ _ wu.out.1 (by have := wu.out.2; omega)⟩
                    generalize m.wr (16 * a + c) u = m' at p1 p2 hmm
                    have hg1' : ¬ g = m.B := by rw [Tw.b]; exact hg1
                    go_wp2_with fail
                    refine (p1.out _ Tw.M).mono ?_
                    rintro e w5 ⟨rfl, M5, u5⟩
                    have x5 : Hid (opAt w5 g x y v r t f true u) := Lib.hid (u5.at HX.out hg1')
                    have R5 := Lib.hid (Tw.one M5 u5).1
                    clear o0 o1 o2 o3 o4 o5 o6 o7 p1
                    have o0 := x5.out.all 0 _ rfl
                    have o1 := x5.out.all 1 _ rfl
                    have o7 := x5.out.all 7 _ rfl
                    simp only [Nat.zero_add] at o0 o1 o7
                    go_wp2_with fail
                    refine (p2.out _ R5.out).mono ?_
                    rintro e w6 ⟨rfl, R6, u6⟩
                    have x6 : Hid (opAt w6 g x y v r t f true u) := Lib.hid (u6.at x5.out hg2)
                    have T6 := Lib.hid (Tw.two M5 u5 R6 u6 hmm.out.1 hmm.out.2.1 hmm.out.2.2)
                    clear p2 x5 R5 M5 u5 R6 u6 Tw o0 o1 o7
                    go_wp2_with fail
                    go_meet
                    exact ⟨m', T6.out, x6⟩
                case rest =>
                  obtain ⟨m', T, X⟩ := hcut
                  have c1 := Lib.hid (T.get x y)
                  have c2 := Lib.hid (fun W (T : Both w W A C B1 B2 m') => T.kget x y)
                  have c3 := Lib.hid (fun W (T : Both w W A C B1 B2 m') => T.blank x)
                  have c4 := Lib.hid (fun W (T : Both w W A C B1 B2 m') => T.kblank x)
                  generalize m'.getE x y = G at c1 c2
                  generalize m'.getX x y = gx at c1 c2
                  generalize m'.zero x = zb at c3 c4
                  obtain ⟨gv, gr, gt, gf⟩ := G
                  clear Tw HX o6
                  have o0 := X.out.all 0 _ rfl
                  have o1 := X.out.all 1 _ rfl
                  simp only [Nat.zero_add] at o0 o1
                  go_wp2_with fail
                  refine c1.out.mono ?_
                  rintro e w5 ⟨rfl, u5⟩
                  clear c1 o0 o1
                  obtain ⟨a1, a2, a3, a4⟩ := ent_box w5 gv gr gt gf
                  have A3 := Lib.hid a3
                  have u6 := u5.trans a2
                  have T6 := T.kept u6
                  have X6 : Hid (opAt _ g x y v r t f raw u) := Lib.hid (u6.at X.out id)
                  clear a2 a3 a4 u5 u6 T X
                  go_upto_region 21 with ((with_reducible refine wpList_store_sz rfl 35 (.tmp 15) (.tmp 139) rfl w5.heap.size 0 #[.bool gv, .bool gr, .bool gt, .int .i64 gf] rfl rfl 4 (ent_sz _ _ _ _) A3.out size_ent (ent_one _ _ _ _) [.bool gv, .bool gr, .bool gt, .int .i64 gf] (ent_ls _ _ _ _) ?_))
                  generalize (w5.alloc (.cells #[.bool false, .bool false, .bool false, .int .i64 0] 35)).setCells w5.heap.size 0 [.bool gv, .bool gr, .bool gt, .int .i64 gf] = w6 at a1 T6 X6 ⊢
                  generalize w5.heap.size = D at a1 ⊢
                  clear A3
                  have o0 := X6.out.all 0 _ rfl
                  have o1 := X6.out.all 1 _ rfl
                  simp only [Nat.zero_add] at o0 o1
                  have c2' := Lib.hid (c2.out _ T6)
                  clear c2
                  go_wp2_with fail
                  refine c2'.out.mono ?_
                  rintro e w7 ⟨rfl, u7⟩
                  clear c2' o0 o1
                  obtain ⟨d1, d2, d3, d4⟩ := ent_box w7 gv gr gt gf
                  have A3 := Lib.hid d3
                  have u8 := u7.trans d2
                  have T8 := T6.kept u8
                  have X8 : Hid (opAt _ g x y v r t f raw u) := Lib.hid (u8.at X6.out id)
                  have a8 := a1.kept u8 id
                  clear d2 d3 d4 u7 u8 T6 X6 a1
                  go_upto_region 22 with ((with_reducible refine wpList_store_sz rfl 35 (.tmp 17) (.tmp 148) rfl w7.heap.size 0 #[.bool gv, .bool gr, .bool gt, .int .i64 gf] rfl rfl 4 (ent_sz _ _ _ _) A3.out size_ent (ent_one _ _ _ _) [.bool gv, .bool gr, .bool gt, .int .i64 gf] (ent_ls _ _ _ _) ?_))
                  generalize (w7.alloc (.cells #[.bool false, .bool false, .bool false, .int .i64 0] 35)).setCells w7.heap.size 0 [.bool gv, .bool gr, .bool gt, .int .i64 gf] = w8 at d1 T8 X8 a8 ⊢
                  generalize w7.heap.size = D2 at d1 ⊢
                  clear A3
                  have he := run_eqE gv gr gt gf gv gr gt gf true (by simp)
                  have hS := Lib.hid (show ∀ W', Upd (fun _ => False) w8 W' → W'.cell? ⟨g, 0, none⟩ = some (.int .i64 x) ∧ W'.cell? ⟨D, 0, none⟩ = some (.bool gv) ∧ W'.cell? ⟨D, 1, none⟩ = some (.bool gr) ∧ W'.cell? ⟨D, 2, none⟩ = some (.bool gt) ∧ W'.cell? ⟨D, 3, none⟩ = some (.int .i64 gf) ∧ W'.cell? ⟨D2, 0, none⟩ = some (.bool gv) ∧ W'.cell? ⟨D2, 1, none⟩ = some (.bool gr) ∧ W'.cell? ⟨D2, 2, none⟩ = some (.bool gt) ∧ W'.cell? ⟨D2, 3, none⟩ = some (.int .i64 gf) from fun W' u =>
                    ⟨u.cell (X8.out.all 0 _ rfl) id, u.cell (a8.range 0 _ rfl) id, u.cell (a8.range 1 _ rfl) id, u.cell (a8.range 2 _ rfl) id, u.cell (a8.range 3 _ rfl) id, u.cell (d1.range 0 _ rfl) id, u.cell (d1.range 1 _ rfl) id, u.cell (d1.range 2 _ rfl) id, u.cell (d1.range 3 _ rfl) id⟩)
                  have ud := (Upd.refl (fun _ => False) w8).drew
                  have Td := T8.kept ud
                  clear a8 d1 X8 T8
                  go_region_held3 (fun w' => w'.cell? ⟨g, 0, none⟩ = some (.int .i64 x) ∧ w'.cell? ⟨D, 0, none⟩ = some (.bool gv) ∧ w'.cell? ⟨D, 1, none⟩ = some (.bool gr) ∧ w'.cell? ⟨D, 2, none⟩ = some (.bool gt) ∧ w'.cell? ⟨D, 3, none⟩ = some (.int .i64 gf) ∧ w'.cell? ⟨D2, 0, none⟩ = some (.bool gv) ∧ w'.cell? ⟨D2, 1, none⟩ = some (.bool gr) ∧ w'.cell? ⟨D2, 2, none⟩ = some (.bool gt) ∧ w'.cell? ⟨D2, 3, none⟩ = some (.int .i64 gf))
                    (first
                      | assumption
                      | exact hS.out _ (Upd.refl _ _)
                      | exact hS.out _ ud
                      | exact hS.out _ u9
                      | exact hS.out _ u10)
                    (first
                      | (go_at_call 17; refine (c3.out _ Td).mono ?_; rintro e w9 ⟨rfl, u9'⟩; have u9 := ud.trans u9'; have T9 := Td.kept u9')
                      | (go_at_call 18; refine (c4.out _ T9).mono ?_; rintro e w10 ⟨rfl, u10'⟩; have u10 := u9.trans u10'; have T10 := T9.kept u10'))
                  clear hS he c3 c4 ud Td u9' u9 T9 u10 u10'
                  go_wp2
                  go_roundw
                  case rel => exact ⟨k + 1, m', by omega, by omega, by go_num, T10⟩
                  case measure => simp [intOf]; omega
              · go_wp2
                go_meet
                exact ⟨m, T⟩
            · go_wp2
              go_meet
              exact ⟨m, T⟩
        case rest =>
          obtain ⟨m, T⟩ := hcut
          clear B4 R hmost
          go_wp2_with fail
          go_loopw [19] (fun t wr => ∃ k : Nat, k ≤ n2 ∧ k ≤ 20 ∧ t = .int .i64 k ∧ Both w wr A C B1 B2 m) (fun t _ => 20 - (intOf t).toNat)
          case atStart => exact ⟨0, by omega, by omega, rfl, T⟩
          case round =>
            clear T
            obtain ⟨k, hk, hk2, rfl, T⟩ := hrel
            by_cases hlt : k < n2
            · by_cases hl2 : k < 20
              · obtain rfl := R2.place (by omega)
                have hkn : (k : Int) < (n2 : Int) := by omega
                have hk20 : (k : Int) < 20 := by omega
                go_wp2_with fail
                go_loopw [20] (fun t wr => ∃ r : Int, -1 ≤ r ∧ r ≤ 3 ∧ t = .int .i64 r ∧ Both w wr A C B1 B2 m) (fun t _ => (3 - intOf t).toNat)
                case atStart => exact ⟨-1, by omega, by omega, rfl, T⟩
                case round =>
                  clear T
                  obtain ⟨r, hr1, hr2, rfl, T⟩ := hrel
                  by_cases hr3 : r < 3
                  · obtain ⟨x, cx⟩ := one_page (R2.kept (T.U.below (Nat.le_refl _) fun _ _ => id)) k hlt
                    have c1 := Lib.hid (T.walk r x)
                    have c2 := Lib.hid (fun W (T : Both w W A C B1 B2 m) => T.kwalk r x)
                    have hL3 := m.wN_le r x
                    generalize hL : m.wN r x = L at c1 c2 hL3
                    generalize m.wX r x = X at c1 c2
                    generalize m.wE r x = G at c1 c2
                    clear hL
                    obtain ⟨v, r', t, f⟩ := G
                    go_wp2_with fail
                    refine c1.out.mono ?_
                    rintro e w5 ⟨v5, rfl, r5, u5⟩
                    clear c1
                    obtain ⟨a1, a2, a3, a4⟩ := ent_box w5 v r' t f
                    have A3 := Lib.hid a3
                    have u6 := u5.trans a2
                    have T6 := T.kept u6
                    have cx6 := u6.cell cx id
                    have r6 := wk_kept r5 a2 (fun _ _ => id)
                    obtain ⟨so, g, capg, rfl, hso, hc6⟩ := steps_cells0 r6
                    clear a2 a3 a4 u5 u6 r5 r6 T cx
                    go_upto_region 31 with ((with_reducible refine wpList_store_sz rfl 35 (.tmp 21) (.tmp 191) rfl w5.heap.size 0 #[.bool v, .bool r', .bool t, .int .i64 f] rfl rfl 4 (ent_sz _ _ _ _) A3.out size_ent (ent_one _ _ _ _) [.bool v, .bool r', .bool t, .int .i64 f] (ent_ls _ _ _ _) ?_))
                    generalize (w5.alloc (.cells #[.bool false, .bool false, .bool false, .int .i64 0] 35)).setCells w5.heap.size 0 [.bool v, .bool r', .bool t, .int .i64 f] = w6 at a1 T6 cx6 hc6 ⊢
                    generalize w5.heap.size = D at a1 ⊢
                    clear A3
                    have c2' := Lib.hid (c2.out _ T6)
                    have HC6 := Lib.hid hc6
                    clear hc6 c2
                    go_wp2_with fail
                    refine c2'.out.mono ?_
                    rintro e w7 ⟨v7, rfl, r7, u7⟩
                    clear c2'
                    obtain ⟨d1, d2, d3, d4⟩ := ent_box w7 v r' t f
                    have A3 := Lib.hid d3
                    have u8 := u7.trans d2
                    have T8 := T6.kept u8
                    have a8 := a1.kept u8 id
                    have hc8 : Hid (∀ j, j < L → _ ∧ _) := Lib.hid (fun j hj => And.intro (u8.cell (HC6.out j hj).1 id) (u8.cell (HC6.out j hj).2 id))
                    have r8 := wk_kept r7 d2 (fun _ _ => id)
                    obtain ⟨so2, g2, capg2, rfl, hso2, hk8⟩ := ksteps_cells0 r8
                    have HK8 := Lib.hid hk8
                    clear d2 d3 d4 u7 u8 r7 r8 T6 a1 HC6 cx6 hk8
                    go_upto_region 32 with ((with_reducible refine wpList_store_sz rfl 35 (.tmp 24) (.tmp 202) rfl w7.heap.size 0 #[.bool v, .bool r', .bool t, .int .i64 f] rfl rfl 4 (ent_sz _ _ _ _) A3.out size_ent (ent_one _ _ _ _) [.bool v, .bool r', .bool t, .int .i64 f] (ent_ls _ _ _ _) ?_))
                    generalize (w7.alloc (.cells #[.bool false, .bool false, .bool false, .int .i64 0] 35)).setCells w7.heap.size 0 [.bool v, .bool r', .bool t, .int .i64 f] = w8 at d1 T8 a8 hc8 HK8 ⊢
                    generalize w7.heap.size = D2 at d1 ⊢
                    clear A3
                    have cS := Lib.hid (lsteps_any so so2 g g2 capg capg2 L (m.wF r x) (fun j => idxI x j) w8 hL3 hso hso2 hc8.out HK8.out)
                    go_wp2_with fail
                    refine cS.out.mono ?_
                    rintro e w9 ⟨rfl, u9⟩
                    have T9 := T8.kept u9
                    have KA := Lib.hid (a8.kept u9 id)
                    have KD := Lib.hid (d1.kept u9 id)
                    have he := run_eqE v r' t f v r' t f true (by simp)
                    clear cS hc8 HK8 u9 T8 a8 d1
                    go_wp2_with (first
                      | (with_reducible refine wpList_load_sz rfl 35 (.tmp 21) rfl D 0 rfl [.bool v, .bool r', .bool t, .int .i64 f] _ KA.out.range Tryd.underlying35 rfl 4 (ent_len _ _ _ _) size_ent ?_)
                      | (with_reducible refine wpList_load_sz rfl 35 (.tmp 24) rfl D2 0 rfl [.bool v, .bool r', .bool t, .int .i64 f] _ KD.out.range Tryd.underlying35 rfl 4 (ent_len _ _ _ _) size_ent ?_))
                    go_roundw
                    case rel => exact ⟨r + 1, by omega, by omega, by go_num, T9⟩
                    case measure => simp [intOf]; omega
                  · go_wp2
                    exact ⟨⟨k + 1, by omega, by omega, by go_num, T⟩, by simp [intOf]; omega⟩
              · go_wp2
                go_ret
                exact ⟨rfl, T.U.below (Nat.le_refl _) fun _ _ => id⟩
            · go_wp2
              go_ret
              exact ⟨rfl, T.U.below (Nat.le_refl _) fun _ _ => id⟩
  · go_enter Tryd.func3, Tryd.ntmps3
    go_wp2_with fail
    refine (wawake_any _ T).mono ?_
    rintro e w1 ⟨rfl, U1⟩
    go_wp2_with fail
    refine (new_no N _ (by omega)).mono ?_
    rintro e w2 ⟨rfl, rfl⟩
    go_wp2_with fail
    refine (rNew_no N _ (by omega)).mono ?_
    rintro e w2 ⟨rfl, rfl⟩
    go_wp2
    go_ret
    exact ⟨rfl, U1.below (Nat.le_refl _) fun _ _ => id⟩
/-! ### the row's frame, and its tied card -/
theorem own : ownKnob Tryd.prog.godebug = none := by kernel_rfl
theorem laidOut : laidOutB Tryd.prog = true := by kernel_rfl
/-- the door's own heap meets the condition -/
theorem door_met (os : Os) (args : Array Value) : laidMetH Tryd.prog Rows.walkPlaysRow.laid ((World.doorLaid Tryd.prog 400 os).forCall (fun _ _ => 0) ⟨#[], args, []⟩).memory :=
  laidMetH_of_parts3 (fuel := 8) (laidMet_of_run' 8 (by kernel_rfl) (by kernel_rfl)) (by kernel_rfl) (by kernel_rfl)
set_option linter.unusedVariables false in
set_option maxRecDepth 100000 in
theorem lifted (os : Os) (started : os.Started) (H : Type) (enc : TypeId × Value → H) :
    ReturnsInHanded {} Tryd.checked os 3 .any (fun w args => (Rows.walkPlaysSpec.pre enc Tryd.prog Tryd.f3 [] false w args ∧ laidMetH Tryd.prog Rows.walkPlaysRow.laid w) ∧ sizedMet enc Tryd.prog Tryd.f3 (OpenSpec.ofChange Rows.walkPlaysSpec) false w args)
      (Rows.walkPlaysSpec.post enc Tryd.prog Tryd.f3 false true false false) := by
  refine returnsInHanded_of_change_and (C := Tryd.checked) (X := fun w _ => laidMetH Tryd.prog Rows.walkPlaysRow.laid w) (fun _ _ _ hh h => h.of_heap hh) own started (by kernel_rfl) Tryd.func3
    (ChangeSpec.witness_shaped (enc := enc) (C := Tryd.checked) (os := os) (X := fun w _ => laidMetH Tryd.prog Rows.walkPlaysRow.laid w) false (World.doorLaid Tryd.prog 400 os) #[.int .i64 0, .slice none 0 0, .slice none 0 0] 8 rfl (World.shaped_of_RefB (by kernel_rfl) (by kernel_rfl)) (by kernel_rfl) (by kernel_rfl) (by kernel_rfl) (door_met os _)) ?_
  intro W base args ds gs before hval0 hW _ _ hL _
  have hLd := hL
  rw [MakeChecks.laidMetH_plain _ _ _ (by kernel_rfl)] at hLd
  have T0 : Fr.VarIs W 0 (Fr.datCells (Rows.laid_trunnion_entry_fields (H := Unit))) := Fr.varIs_of_laid (t := 87) (ks := [some .i64, some .i64, some .i64, some .i64, some .i64, some .i64, some .i64, some .i64, some .i64, some .i64, some .i64, some .i64, some .i64, some .i64, some .i64, some .i64, some .i64, some .i64]) 12 (hLd : laidMet Tryd.prog Rows.walkPlaysRow.laid W) "trunnion/entry.fields" (Rows.laid_trunnion_entry_fields (H := Unit)) (by simp [Rows.walkPlaysRow]) (by kernel_rfl) (by kernel_rfl) (by kernel_rfl)
  clear hL hLd
  have hval : ∀ (j : Nat) t v, Tryd.f3.params[j]? = some t → args[j]? = some v → Value.okWide Tryd.prog W .any base t v := hval0
  have hW' := hW
  obtain ⟨p, q, hA0, hV, rfl, hfz, hnd⟩ := hW
  have hA : DataW.TrodAll enc Tryd.prog W 0 (fun _ => true) true Tryd.f3.params.toList args.toList ds p := hA0
  rw [Tryd.params3] at hA hval
  obtain ⟨v0, vs0, d0, ds0, p0, q0, hargs, rfl, rfl, h0, r0⟩ := trodAll_cons hA
  obtain ⟨v1, vs1, d1, ds1, p1, q1, rfl, rfl, rfl, h1, r1⟩ := trodAll_cons r0
  obtain ⟨v2, vs2, d2, ds2, p2, q2, rfl, rfl, rfl, h2, r2⟩ := trodAll_cons r1
  obtain ⟨rfl, rfl, rfl⟩ := trodAll_nil r2
  obtain rfl : args = #[v0, v1, v2] := by cases args; simp_all
  obtain ⟨rfl, rfl⟩ := trodVars_none hV
  have k0 := h0
  have lt0 : ∀ x ∈ p0, x.block < W.heap.size := by obtain ⟨m, hm⟩ := k0; exact DataW.trod_lt m _ _ _ hm
  obtain ⟨a0, rfl, rfl, rfl, w0⟩ := open_int Tryd.underlying3 (hval 0 3 v0 rfl rfl) h0
  have k1 := h1
  have lt1 : ∀ x ∈ p1, x.block < W.heap.size := by obtain ⟨m, hm⟩ := k1; exact DataW.trod_lt m _ _ _ hm
  obtain ⟨ao1, n1, cap1, b1, of1, E1, rfl, w1⟩ := Fr.open_rows 12 [some .i64, some .i64, none, none, none, some .i64, none, some .u64] Tryd.underlying22 (by kernel_rfl) (by kernel_rfl) (by decide) (hval 1 22 v1 rfl rfl) h1
  have k2 := h2
  have lt2 : ∀ x ∈ p2, x.block < W.heap.size := by obtain ⟨m, hm⟩ := k2; exact DataW.trod_lt m _ _ _ hm
  obtain ⟨ao2, n2, cap2, b2, of2, E2, rfl, w2⟩ := Fr.open_rows 12 [some .i64] Tryd.underlying23 (by kernel_rfl) (by kernel_rfl) (by decide) (hval 2 23 v2 rfl rfl) h2
  clear hA0 hval0
  refine (walk a0 ao1 n1 cap1 b1 of1 E1 ao2 n2 cap2 b2 of2 E2 w0 W w1 w2 T0).mono fun e W' ⟨he, bel⟩ => ?_
  subst he
  exact ⟨_, rfl, _, _, _, [], _, [], hW', trodAll_mk1 (shut_bool Tryd.underlying4 _), (trodAll_cons_mk (Below.trod laidOut (by kernel_rfl) (of_decide_eq_true (by kernel_rfl)) k0 bel lt0) (trodAll_cons_mk (Below.trod laidOut (by kernel_rfl) (of_decide_eq_true (by kernel_rfl)) k1 bel lt1) (trodAll_cons_mk (Below.trod laidOut (by kernel_rfl) (of_decide_eq_true (by kernel_rfl)) k2 bel lt2) trodAll_mk0))), rfl, bel.frame _, fun h => by cases h⟩

theorem over : Rows.walkPlaysRow.holds Tryd.pinned (OpenSpec.ofChange Rows.walkPlaysSpec) :=
  OpenClaim.holds_of_wide 3 Tryd.f3 rfl rfl rfl rfl rfl rfl rfl ⟨rfl, rfl, rfl, rfl, rfl⟩ rfl rfl rfl rfl rfl (by kernel_rfl) Tryd.func3 (by kernel_rfl)
    (of_decide_eq_true (by kernel_rfl)) (by unfold Func.isWrapper; first | (rw [if_pos (by decide +kernel)]; kernel_rfl) | (rw [if_neg (by decide +kernel)]; exact ⟨rfl, rfl⟩))
    (fun os started H enc _ => lifted os started H enc)

theorem proved : Rows.WalkPlaysCardSaid :=
  Claim7.holds_tied_plain_at .later [] [.data] true (true, "348ae7ec7ba4e62cabf024fe6591a7bb6090c65894f5278e701ebaa1b8c50ca2") false
    over (fun _ h => by cases h) (by kernel_rfl) (fun _ h => by cases h) walkPlays_row_tie rfl ⟨rfl, rfl⟩ (by kernel_rfl) rfl
    (fun f fn hf hfn => by
      obtain rfl : f = 3 := Option.some.inj ((show Tryd.prog.funcNamed "trunnion/trunnionlaw07.WalkPlays" = some 3 by kernel_rfl).symm.trans hf) |>.symm
      obtain rfl : fn = Tryd.f3 := (Option.some.inj (Tryd.func3.symm.trans hfn)).symm
      exact ⟨by kernel_rfl, fun j t ht => by
        rw [Tryd.params3] at ht
        have hm : t ∈ [3, 22, 23] := by simpa using Array.mem_of_getElem? ht
        have hall : ([3, 22, 23].all fun u => !Tryd.prog.wantsStandIn u) = true := by kernel_rfl
        exact (show Tryd.prog.wantsStandIn t = false by simpa using List.all_eq_true.1 hall t hm)⟩)
    (by kernel_rfl)
end Go.Proofs.YtbakhipabeaojaaDoor.walkPlays
