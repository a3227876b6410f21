/-
  Texts that the laws stand on, joined: CpCy, Laid.
-/
import Derived.FnData
import Derived.LaidHandle
import Derived.LaidLaws
import Derived.Test.YtcbiangocfhhlaaDoorPart4

/-
  CpuCopies, over what the laws ask of Run.
-/
namespace Go.Proofs.YtcbiangocfhhlaaDoor
open Go.ChangeShapes Go.WideShapes Go.ChangeAt Go.RowKit

theorem Upd.onTop {S T : Nat → Prop} {a b c : World} (h : Upd S a b) (k : Upd T b c) (hs : ∀ j, T j → S j ∨ a.heap.size ≤ j) : Upd S a c :=
  ⟨k.os.trans h.os, k.tape.trans h.tape, k.output.trans h.output, Nat.le_trans h.size k.size, fun j hj hn => by
    rw [k.block j (Nat.lt_of_lt_of_le hj h.size) (fun e => (hs j e).elim hn (fun q => absurd q (by omega))), h.block j hj hn]⟩
theorem info_w64 : (Tryd.prog.info? 22).map (fun i => (i.zero, i.size, i.bytes)) = some (some (.int .u64 0), 1, 8) := by kernel_rfl
/-- a row of words of one block -/
def WRow (w : World) (G : Nat) (L : List Int) : Prop := w.heap[G]? = some (.cells (ints .u64 L).toArray 22 (0, 0))
theorem WRow.at {w : World} {G : Nat} {L : List Int} (h : WRow w G L) (k : Nat) (hk : k < L.length) : w.cell? ⟨G, k, none⟩ = some (.int .u64 (L.getD k 0)) := cell_block (l := L) h k hk
theorem WRow.free {w : World} {G : Nat} {L : List Int} (h : WRow w G L) (k : Nat) : w.frozen? ⟨G, k, none⟩ = false := frozen_block h _
theorem WRow.put {w : World} {G : Nat} {L : List Int} (h : WRow w G L) (k : Nat) (x : Int) : WRow (w.setCell ⟨G, k, none⟩ (.int .u64 x)) G (L.set k x) := by
  unfold WRow
  rw [heap_setCell_same h k _]
  congr 3
  simp [ints, List.map_set]
theorem WRow.words {w : World} {G : Nat} {L : List Int} (h : WRow w G L) (cap : Nat) : WordsIn w (.slice (some ⟨G, 0, none⟩) L.length cap) L := fun _ =>
  .inr ⟨G, 0, cap, rfl, by simp [ints], fun j u hj => by
    have hj' : j < L.length := by have := (List.getElem?_eq_some_iff.1 hj).1; simpa [ints] using this
    have e : u = .int .u64 (L.getD j 0) := by
      rw [ints_at L j hj'] at hj
      injection hj with hj
      exact hj.symm
    rw [e, Nat.zero_add]
    exact h.at j hj'⟩
/-- registers made behind the words -/
theorem Cpu.behind {w0 w w' : World} {N B : Nat} {v : Value} {c : Cp} {m : Fl} (hT : Tabs w0) (hc : c.Ok) (hm : m.Ok) (F : FlAt w N B v (.slice none 0 0) m []) (hN : w0.heap.size ≤ N) (hB : w0.heap.size ≤ B) (U : Upd (fun _ => False) w0 w') (R : RegsAt w' w.heap.size c) (u : Upd (fun _ => False) w w') : Cpu w0 w' w.heap.size B v (.slice none 0 0) c m [] := by
  have hb := lt_of_heap F.at_
  exact {
    tabs := hT, up := U, hA := by omega, hB := hB, ne := by omega, ok := hc, okm := hm, regs := R
    nv := fun g hg e => by have := (F.row.lt g hg).2; omega
    nl := fun g hg => by cases hg
    fl := (⟨F.at_, F.row.mono hN, F.lds.mono hN⟩ : FlAt w w0.heap.size B v (.slice none 0 0) m []).kept u id (fun _ _ => id) (fun _ _ => id) }
set_option maxRecDepth 100000 in
set_option maxHeartbeats 8000000 in
theorem cpucopies_any (gr : GRun) (l : List Int) (o : Option Addr) (cap : Nat) (w : World) (hT : Tabs w) (hW : WordsIn w (.slice o l.length cap) l) (hr : ∀ x, x ∈ l → 0 ≤ x ∧ x < 18446744073709551616)
    (hlt : 0 < l.length → ∀ k, (Value.slice o l.length cap).ownBlock = some k → k < w.heap.size) (hmost : l.length ≤ 9223372036854775807) :
    Calls Tryd.prog 9 #[.slice o l.length cap] w fun e w' => e = .returned (.bool true) ∧ Upd (fun _ => False) w w' := by
  have HT := Lib.hid hT
  have GR := Lib.hid gr
  have HW := Lib.hid (fun W' (u : Upd (fun _ => False) w W') => hW.kept hlt u)
  have HR := Lib.hid hr
  clear hT gr hW hlt hr
  generalize hnn : l.length = n at HW hmost ⊢
  replace hnn := Lib.hid hnn
  go_enter Tryd.func9, Tryd.ntmps9
  go_wp2_with fail
  refine (cpawake_any GR.out w HT.out).mono ?_
  rintro e w1 ⟨rfl, u1⟩
  have U1 := Lib.hid u1
  clear u1
  by_cases b1 : (n : Int) < 1
  · go_wp2
    go_ret
    exact ⟨rfl, U1.out⟩
  replace b1 : 1 ≤ (n : Int) := by omega
  by_cases b2 : 30 < (n : Int)
  · go_wp2
    go_ret
    exact ⟨rfl, U1.out⟩
  replace b2 : (n : Int) ≤ 30 := by omega
  have hrun := Lib.hid (cpy_run l (by have := hnn.out; omega) (by have := hnn.out; omega))
  go_wp2_with fail
  have U2 := Lib.hid (U1.out.alloc (.cells ((copyI n).flatMap Ins.cs).toArray 50))
  refine (wwords_any w1.heap.size 0 9 (copyI n) _ (rows_ins _ _ _ (heap_alloc_last w1 (.cells ((copyI n).flatMap Ins.cs).toArray 50))) (by show 9 ≤ 100000; decide) (by simp)).mono ?_
  rintro e w3 ⟨v, rfl, hv, u3⟩
  have U3 := Lib.hid (U2.out.trans u3)
  have hv' : w3.ownsRow _ _ _ v 9 (ints .u64 (copyP n)) := hv
  obtain ⟨op, cp, rfl⟩ := rows_slice hv'
  obtain ⟨gp, rfl, hcp⟩ := rows_at hv' (by decide)
  have Vp := Lib.hid (show ∀ j, j < 9 → w3.cell? ⟨gp, j, none⟩ = some (.int .u64 ((copyP n).getD j 0)) from fun j hj => hcp j _ (ints_at (copyP n) j hj))
  have hgp := Lib.hid ((hv'.lt gp rfl).2)
  clear hv hv' u3 U2 U1 hcp
  generalize hP : copyP (n : Int) = P at Vp
  replace hP := Lib.hid hP
  have hC : Hid (madeCells (Value.int .u64 0).cells (100 * 1) = (ints .u64 (bW P l 0 0 0)).toArray) := Lib.hid (by
    rw [bW_zero]
    show madeCells (List.replicate 1 (Value.int .u64 0)).toArray 100 = _
    rw [madeCells_same _ _ _ (by decide), ints, List.map_replicate])
  go_upto_region 7 with (with_reducible refine wpList_make_exact rfl (.const (.int .i64 100)) (.const (.int .i64 100)) 26 rfl 22 _ 1 8 Tryd.underlying26 info_w64 .i64 .i64 100 rfl rfl (by omega) (by omega) _ hC.out ?_)
  have R4 := Lib.hid (show WRow (w3.alloc (.cells (ints .u64 (bW P l 0 0 0)).toArray 22)) w3.heap.size (bW P l 0 0 0) from heap_alloc_last w3 _)
  have u4 := (Upd.refl (fun _ => False) w3).alloc (.cells (ints .u64 (bW P l 0 0 0)).toArray 22)
  have U4 := Lib.hid (U3.out.trans u4)
  have V4 := Lib.hid (fun j hj => u4.cell (Vp.out j hj) id)
  have hGw := Lib.hid U3.out.size
  clear u4 U3 Vp hC
  generalize w3.alloc (.cells (ints .u64 (bW P l 0 0 0)).toArray 22) = w4 at R4 U4 V4 ⊢
  generalize w3.heap.size = G at R4 hGw hgp ⊢
  have hup := Lib.hid (show ∀ W, Upd (fun j => j = G) w4 W → Upd (fun _ => False) w W from fun W u => U4.out.onTop u (fun j e => .inr (by rw [e]; exact hGw.out)))
  go_wp2_with fail
  go_loopw [7] (fun t wr => ∃ k : Nat, k ≤ 9 ∧ t = .int .i64 k ∧ Hid (WRow wr G (bW P l k 0 0)) ∧ Hid (Upd (fun j => j = G) w4 wr)) (fun t _ => 9 - (intOf t).toNat)
  case atStart => exact ⟨0, by omega, rfl, R4, Lib.hid (Upd.refl _ _)⟩
  case round =>
    obtain ⟨k, hk, rfl, hR, hU⟩ := hrel
    clear R4
    by_cases h9 : k < 9
    · have k0 : (0 : Int) ≤ (k : Int) := by omega
      have k9 : (k : Int) < 9 := by omega
      have k100 : (k : Int) < 100 := by omega
      have ca := hU.out.cell (V4.out k h9) (by show ¬ gp = G; have := hgp.out; omega)
      have cb := hR.out.at k (by rw [bW_len]; omega)
      have fz := hR.out.free k
      have R' := Lib.hid (hR.out.put k (P.getD k 0))
      rw [← bW_a P l k h9] at R'
      generalize P.getD k 0 = x at ca R'
      have U' := Lib.hid (hU.out.setCell (p := ⟨G, k, none⟩) (.inl rfl) (.int .u64 x))
      generalize (bW P l k 0 0).getD k 0 = y at cb
      clear hR hU
      go_wp2
      go_roundw
      case rel => exact ⟨k + 1, by omega, by go_num, R', U'⟩
      case measure => simp [intOf]; omega
    · have e9 : k = 9 := by omega
      have n9 : ¬ ((k : Int) < 9) := by omega
      rw [e9] at hR
      replace e9 := Lib.hid e9
      clear h9 hk V4 hgp
      go_wp2_with fail
      (try rw [show decide ((k : Int) < 9) = false from decide_eq_false n9])
      clear n9
      go_loopw [8] (fun t wx => ∃ j : Nat, j ≤ n ∧ t = .int .i64 j ∧ Hid (WRow wx G (bW P l 9 j 0)) ∧ Hid (Upd (fun j => j = G) w4 wx)) (fun t _ => n - (intOf t).toNat)
      case atStart => exact ⟨0, by omega, rfl, hR, hU⟩
      case round =>
        obtain ⟨j, hj, rfl, hR2, hU2⟩ := hrel
        clear hR hU
        by_cases hjn : j < n
        · have j0 : (0 : Int) ≤ (j : Int) := by omega
          have jn : (j : Int) < (n : Int) := by omega
          obtain ⟨b, off, c, ec, d1⟩ := Src.at ((HW.out wr (hup.out _ hU2.out)) (by rw [hnn.out]; omega)) (by rw [hnn.out]; omega)
          simp only [Value.slice.injEq] at ec
          obtain ⟨rfl, -, -⟩ := ec
          have ca := d1 j _ (ints_at l j (by rw [hnn.out]; exact hjn))
          clear d1
          obtain ⟨q, hq⟩ : ∃ q, q = 20 + j := ⟨_, rfl⟩
          have eq : (20 : Int) + (j : Int) = (q : Int) := by omega
          have q0 : (0 : Int) ≤ (q : Int) := by omega
          have q1 : (q : Int) < 100 := by omega
          have cb := hR2.out.at q (by rw [bW_len]; omega)
          have fz := hR2.out.free q
          have R' := Lib.hid (hR2.out.put q (l.getD j 0))
          rw [hq, ← bW_b P l j (by omega), ← hq] at R'
          generalize l.getD j 0 = x at ca R'
          have U' := Lib.hid (hU2.out.setCell (p := ⟨G, q, none⟩) (.inl rfl) (.int .u64 x))
          generalize (bW P l 9 j 0).getD q 0 = y at cb
          replace hq := Lib.hid hq
          clear hR2 hU2
          go_wp2
          go_roundw
          case rel => exact ⟨j + 1, by omega, by go_num, R', U'⟩
          case measure => simp [intOf]; omega
        · have en : j = n := by omega
          have nn : ¬ ((j : Int) < (n : Int)) := by omega
          rw [en] at hR2
          replace en := Lib.hid en
          clear hjn hj
          have hWr := hup.out _ hU2.out
          have hGl := lt_of_heap hR2.out
          have cO := of_any (some ⟨G, 0, none⟩) 100 (bW P l 9 n 0) 60 wr (hR2.out.words 100) (by rw [bW_len]; decide) (fun _ b hb => by have e : G = b := Option.some.inj hb; omega)
          rw [bW_len] at cO
          replace cO := Lib.hid cO
          replace hWr := Lib.hid hWr
          replace hGl := Lib.hid hGl
          have hmok : Hid (Fl.Ok ⟨bW P l 9 n 0, 60⟩) := Lib.hid ⟨by show (bW P l 9 n 0).length ≤ 1000; rw [bW_len]; decide, bW_bd (by rw [← hP.out]; exact (wvs_ok (copyI n) 9 60 (by decide)).r) HR.out 9 n 0⟩
          have hM : Hid ((⟨bW P l 9 n 0, 60⟩ : Fl) = cpyM l 0) := Lib.hid (by unfold cpyM; rw [hnn.out, hP.out])
          have hM2 : Hid (cpyM l l.length = ⟨bW P l 9 n n, 60⟩) := Lib.hid (by unfold cpyM; rw [hnn.out, hP.out])
          go_wp2_with fail
          (try rw [show decide ((j : Int) < (n : Int)) = false from decide_eq_false nn])
          clear nn
          refine cO.out.mono ?_
          rintro e w5 ⟨B, v, rfl, F5, u5, hB⟩
          have R5 := Lib.hid (show WRow w5 G (bW P l 9 n 0) from u5.at hR2.out id)
          have U5 := Lib.hid (hWr.out.trans u5)
          have hs5 := Lib.hid u5.size
          have hv5 := Lib.hid (fun g hg => (F5.row.lt g hg).1)
          replace F5 := Lib.hid F5
          replace hB := Lib.hid hB
          clear u5 cO hR2 hU2 hup U4
          go_wp2_with fail
          have R6 := (show RegsAt (w5.alloc (.cells (ints .u64 (regs0.R ++ [regs0.pc])).toArray 25)) w5.heap.size regs0 from heap_alloc_last w5 _)
          have u6 := (Upd.refl (fun _ => False) w5).alloc (.cells (ints .u64 (regs0.R ++ [regs0.pc])).toArray 25)
          have C6 := Cpu.behind HT.out regs0_ok hmok.out F5.out hWr.out.size (Nat.le_trans hWr.out.size hB.out) (U5.out.trans u6) R6 u6
          rw [hM.out] at C6
          have G6 := Lib.hid (show WRow _ G (bW P l 9 n 0) from u6.at R5.out id)
          have nG : Hid (¬ CpuS w5.heap.size B v (.slice none 0 0) G) := Lib.hid (fun h => by
            have a1 := hGl.out
            have a2 := hs5.out
            have a3 := hB.out
            rcases h with h | h | h | h
            · omega
            · omega
            · have := hv5.out G h; omega
            · cases h)
          replace C6 := Lib.hid C6
          clear R6 u6 R5 U5 hs5 hv5 F5 hB hWr hGl hmok hM
          show Calls Tryd.prog 15 #[.pointer (some ⟨w5.heap.size, 0, none⟩), .iface 28 (.pointer (some ⟨B, 0, none⟩)), .int .i64 1000] (w5.alloc (.cells (ints .u64 (regs0.R ++ [regs0.pc])).toArray 25)) _
          generalize w5.alloc (.cells (ints .u64 (regs0.R ++ [regs0.pc])).toArray 25) = w6 at C6 G6 ⊢
          generalize w5.heap.size = A at C6 nG ⊢
          refine (GR.out w w6 A B v _ regs0 (cpyM l 0) [] 1000 C6.out (by decide) (by decide)).mono ?_
          rintro e w7 ⟨rfl, vl, C7, u7, -⟩
          obtain ⟨y, hy⟩ := hrun.out
          rw [show (1000 : Int).toNat = 1000 from rfl, hy] at C7 ⊢
          clear hy
          generalize (regs0.run (cpyM l 0) 1000).1 = cnt
          simp only at C7 ⊢
          rw [hM2.out, hnn.out] at C7
          have G7 := Lib.hid (show WRow w7 G (bW P l 9 n 0) from u7.at G6.out nG.out)
          have c1 := C7.regs.reg C7.ok 3 (by decide) (by decide)
          have c2 := C7.regs.pc C7.ok
          rw [show Int.toNat 3 = 3 from rfl, show (cc 0 y n 8).reg 3 = n from rfl] at c1
          rw [show (cc 0 y n 8).pc = 8 from rfl] at c2
          have hrow := C7.fl.row
          rw [show (Fl.W ⟨bW P l 9 n n, 60⟩).length = 100 from bW_len _ _ _ _ _] at hrow
          obtain ⟨og, cg, rfl⟩ := rows_slice hrow
          obtain ⟨g2, rfl, hc⟩ := rows_at hrow (by decide)
          have c3 : w7.cell? ⟨B, 0, none⟩ = some (.slice (some ⟨g2, 0, none⟩) 100 cg) := by rw [cell_of_row _ _ _ _ _ _ C7.fl.at_]; rfl
          have cF := Lib.hid (fun k (hk : k < 100) => hc k _ (ints_at (bW P l 9 n n) k (by rw [bW_len]; exact hk)))
          have W7 := Lib.hid (HW.out _ C7.up)
          have U7 := Lib.hid C7.up
          have hend := Lib.hid (fun i hi => bW_end P l n i (by omega) hi)
          clear C6 C7 u7 G6 nG hc hrow hM2 hrun GR HT HW
          go_wp2_with fail
          go_loopw [14] (fun t wx => ∃ i : Nat, i ≤ 100 ∧ t = .int .i64 i ∧ w7 = wx) (fun t _ => 100 - (intOf t).toNat)
          case atStart => exact ⟨0, by omega, rfl, rfl⟩
          case round =>
            obtain ⟨i, hi, rfl, rfl⟩ := hrel
            by_cases hi1 : i < 100
            · have i0 : (0 : Int) ≤ (i : Int) := by omega
              have i1 : (i : Int) < 100 := by omega
              have ca := G7.out.at i (by rw [bW_len]; exact hi1)
              have cb := cF.out i hi1
              rw [hend.out i hi1] at cb
              generalize (bW P l 9 n 0).getD i 0 = x at ca cb
              by_cases h60 : 60 ≤ i ∧ i < 60 + n
              · rw [if_pos h60] at cb
                obtain ⟨q, hq⟩ : ∃ q, q = i - 60 := ⟨_, rfl⟩
                rw [← hq] at cb
                have eq : (i : Int) - 60 = (q : Int) := by omega
                have q0 : (0 : Int) ≤ (q : Int) := by omega
                have q1 : (q : Int) < (n : Int) := by omega
                have s1 : (60 : Int) ≤ (i : Int) := by omega
                have s2 : (i : Int) < 60 + (n : Int) := by omega
                obtain ⟨b, off, c, ec, d1⟩ := Src.at (W7.out (by rw [hnn.out]; omega)) (by rw [hnn.out]; omega)
                simp only [Value.slice.injEq] at ec
                obtain ⟨rfl, -, -⟩ := ec
                have cl := d1 q _ (ints_at l q (by rw [hnn.out]; omega))
                clear d1 h60
                generalize l.getD q 0 = z at cb cl
                replace hq := Lib.hid hq
                go_wp2
                go_roundw
                case rel => exact ⟨i + 1, by omega, by go_num, trivial⟩
                case measure => simp [intOf]; omega
              · rw [if_neg h60] at cb
                by_cases h6 : i < 60
                · have s1 : ¬ (60 : Int) ≤ (i : Int) := by omega
                  clear h60
                  go_wp2
                  go_roundw
                  case rel => exact ⟨i + 1, by omega, by go_num, trivial⟩
                  case measure => simp [intOf]; omega
                · have s1 : (60 : Int) ≤ (i : Int) := by omega
                  have s2 : ¬ (i : Int) < 60 + (n : Int) := by omega
                  clear h60
                  go_wp2
                  go_roundw
                  case rel => exact ⟨i + 1, by omega, by go_num, trivial⟩
                  case measure => simp [intOf]; omega
            · have ei : i = 100 := by omega
              subst ei
              go_wp2
              go_ret
              exact ⟨rfl, U7.out⟩
end Go.Proofs.YtcbiangocfhhlaaDoor

/-
  Package-level variables of integers and bools that a row lists: their cells, out of the row's condition. Over any program.
-/
namespace Go.Proofs.YtcbiangocfhhlaaDoor.Fr
open Go.ChangeShapes Go.WideShapes Go.ChangeAt Go.RowKit
mutual
/-- the cells of a datum made of integers and bools -/
def datCells : DataW Unit → List Value
  | .lit (.int k z) => [.int k z]
  | .lit (.bool b) => [.bool b]
  | .agg ps => datAll ps
  | _ => []
def datAll : List (DataW Unit) → List Value
  | [] => []
  | d :: r => datCells d ++ datAll r
end
/-- the variable's cells -/
def VarIs (w : World) (g : Nat) (cs : List Value) : Prop := ∀ j v, cs[j]? = some v → w.cell? ⟨g, j, none⟩ = some v
theorem datAll_rows (k : Nat) : ∀ (xs : List (DataW Unit × List MemPlace)) (cs : List Value), cs.length = xs.length * k → (∀ i (h : i < xs.length), (cs.drop (i * k)).take k = datCells (xs[i]).1) → cs = datAll (xs.map (·.1))
  | [], cs, hl, _ => by
    have : cs = [] := List.eq_nil_of_length_eq_zero (by simpa using hl)
    subst this
    rfl
  | x :: xs, cs, hl, h => by
    have hl' : cs.length = xs.length * k + k := by rw [hl, List.length_cons, Nat.succ_mul]
    have h0 := h 0 (by simp)
    rw [Nat.zero_mul, List.drop_zero] at h0
    rw [← List.take_append_drop k cs, h0]
    simp only [List.map_cons, datAll, List.getElem_cons_zero]
    congr 1
    refine datAll_rows k xs _ (by rw [List.length_drop]; omega) fun i hi => ?_
    have := h (i + 1) (by simpa using hi)
    rw [Nat.succ_mul] at this
    simpa [List.drop_drop, Nat.add_comm] using this
theorem datAll_fs {P : Program} {g : TypeId → Option (List (Option IntKind))} : ∀ (fs : List Field) (o : Nat) (ks : List (Option IntKind)) (cs : List Value) (xs : List (DataW Unit × List MemPlace)), flatFs P g fs o = some ks → cs.length = ks.length → xs.length = fs.length →
      (∀ (i : Nat) (f : Field) (x : DataW Unit × List MemPlace), fs[i]? = some f → xs[i]? = some x → (cs.drop (f.offset - o)).take (P.cellsOf f.type) = datCells x.1) → cs = datAll (xs.map (·.1))
  | [], o, ks, cs, xs, hk, hl, hx, _ => by
    simp only [flatFs, Option.some.injEq] at hk
    subst hk
    have e1 : cs = [] := List.eq_nil_of_length_eq_zero (by simpa using hl)
    have e2 : xs = [] := List.eq_nil_of_length_eq_zero (by simpa using hx)
    subst e1 e2
    rfl
  | f :: fs, o, ks, cs, [], hk, hl, hx, h => by simp at hx
  | f :: fs, o, ks, cs, x :: xs, hk, hl, hx, h => by
    simp only [flatFs] at hk
    split at hk
    · rename_i l r hgl hr
      split at hk
      · rename_i hc
        obtain ⟨ho, hll⟩ := hc
        simp only [Option.some.injEq] at hk
        subst hk
        rw [List.length_append] at hl
        have h0 := h 0 f x rfl rfl
        rw [ho, Nat.sub_self, List.drop_zero] at h0
        rw [← List.take_append_drop (P.cellsOf f.type) cs, h0]
        simp only [List.map_cons, datAll]
        congr 1
        refine datAll_fs fs _ r _ xs hr (by rw [List.length_drop]; omega) (by simpa using hx) fun i f' x' hi hi' => ?_
        have hy := h (i + 1) f' x' hi hi'
        have hge : o + P.cellsOf f.type ≤ f'.offset := flatFs_ge hr i f' hi
        rw [List.drop_drop, show P.cellsOf f.type + (f'.offset - (o + P.cellsOf f.type)) = f'.offset - o from by omega]
        exact hy
      · cases hk
    · cases hk
theorem cells_flat {P : Program} {w : World} {base : Nat} {spare : Nat → Bool} {held : Bool} : ∀ (d : Nat) (t : TypeId) (ks : List (Option IntKind)) (fuel : Nat) (cs : List Value) (x : DataW Unit × List MemPlace),
    flat P d t = some ks → DataW.trod (fun _ => ()) P w base spare held fuel t cs = some x → cs = datCells x.1
  | 0, _, _, _, _, _, h, _ => by simp [flat] at h
  | d + 1, t, ks, fuel, cs, x, h, ht => by
    have hlen0 := (okLeaves_of (d + 1) t ks fuel cs x h ht).1
    unfold flat at h
    split at h
    · rename_i k hu
      obtain ⟨z, rfl, rfl, hw⟩ := DataW.trod_int hu ht
      rfl
    · rename_i hu
      obtain ⟨b, rfl, rfl⟩ := DataW.trod_bool hu ht
      rfl
    · rename_i n e hu
      split at h
      · rename_i l hl
        split at h
        · rename_i hc
          obtain ⟨c1, c2⟩ := hc
          obtain ⟨xs, m, _, rfl, hlen, hxl, hrd⟩ := DataW.trod_array hu ht
          show cs = datAll (xs.map (·.1))
          refine datAll_rows (P.cellsOf e) xs cs (by rw [hlen, c2, hxl]) fun i hi => ?_
          have := hrd i (by omega)
          rw [List.getElem?_eq_getElem hi] at this
          exact cells_flat d e l m _ _ hl this
        · cases h
      · cases h
    · rename_i fs hu
      split at h
      · rename_i l hl
        split at h
        · rename_i hc
          simp only [Option.some.injEq] at h
          subst h
          obtain ⟨xs, m, _, rfl, hlen, hxl, hrd⟩ := DataW.trod_struct hu ht
          show cs = datAll (xs.map (·.1))
          refine datAll_fs fs.toList 0 l cs xs hl hlen0 (by rw [hxl]; simp) fun i f x hi hx => ?_
          have hi' : fs[i]? = some f := by simpa using hi
          have := hrd i f hi'
          rw [hx] at this
          rw [Nat.sub_zero]
          have hfl : ∃ l', flat P d f.type = some l' := by
            clear this hi' hx hrd hlen hxl hlen0 ht
            revert i hi
            generalize (0 : Nat) = o at hl
            generalize fs.toList = F at hl
            clear hc
            induction F generalizing o l with
            | nil => intro i hi; simp at hi
            | cons a r ih =>
              intro i hi
              simp only [flatFs] at hl
              split at hl
              · rename_i l1 r1 h1 h2
                cases i with
                | zero => simp only [List.getElem?_cons_zero, Option.some.injEq] at hi; subst hi; exact ⟨_, h1⟩
                | succ i => exact ih _ _ h2 i hi
              · cases hl
          obtain ⟨l', hl'⟩ := hfl
          exact cells_flat d f.type l' m _ _ hl' this
        · cases h
      · cases h
    · cases h
/-- a listed variable's cells -/
theorem varIs_of_vars {P : Program} {w : World} (D : Nat) : ∀ (l : List (String × DataW Unit)) (ps : List MemPlace), DataW.LaidVars P w l ps → ∀ (n : String) (d : DataW Unit), (n, d) ∈ l → ∀ (g : Nat) (t : TypeId) (ks : List (Option IntKind)),
    P.globalNamed n = some g → (P.globals[g]?).map (·.type) = some t → flat P D t = some ks → VarIs w g (datCells d)
  | [], _, _, n, d, hm, _, _, _, _, _, _ => by cases hm
  | (n0, d0) :: r, ps, h, n, d, hm, g, t, ks, hg, ht, hf => by
    obtain ⟨g0, t0, cs, fuel, p, q, hg0, ht0, hv, hd, hr, _⟩ := h
    rcases List.mem_cons.1 hm with e | hm'
    · cases e
      obtain rfl := Option.some.inj (hg.symm.trans hg0)
      obtain rfl := Option.some.inj (ht.symm.trans ht0)
      have e := cells_flat D t ks fuel cs.toList _ hf hd
      intro j v hj
      rw [World.var?_cell hg0 hv j, ← hj, ← e]
      simp
    · exact varIs_of_vars D r q hr n d hm' g t ks hg ht hf
theorem varIs_of_laid {P : Program} {w : World} {l : List (String × DataW Unit)} (D : Nat) (h : laidMet P l w) (n : String) (d : DataW Unit) (hm : (n, d) ∈ l) {g : Nat} {t : TypeId} {ks : List (Option IntKind)}
    (hg : P.globalNamed n = some g) (ht : (P.globals[g]?).map (·.type) = some t) (hf : flat P D t = some ks) : VarIs w g (datCells d) := by
  obtain ⟨ps, hl, _⟩ := h
  exact varIs_of_vars D l ps hl n d hm g t ks hg ht hf
end Go.Proofs.YtcbiangocfhhlaaDoor.Fr
