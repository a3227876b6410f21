/-
  Proved: trunnionlaw11.MmuAlike answers true for every input: two pages of one frame are the same words, and a page of another frame is not changed.
  Conditions: package entry's table of fields starts as the program's text lays it (the card ties it).
-/
import Derived.Test.YtfdnfllefednjaaDoorCards
import Derived.Test.YtfdnfllefednjaaDoorTie
import Derived.SevenTiedAt
import Derived.LaidMore
import Derived.Stop.Joined
import Derived.Deep.DeepCutAuto
import Derived.Test.YtfdnfllefednjaaDoorPart10
namespace Go.Proofs.YtfdnfllefednjaaDoor.mmuAlike
open Go.ChangeShapes Go.WideShapes Go.ChangeAt Go.RowKit Go.Shelf Go.Sort
set_option linter.unusedVariables false
set_option linter.unusedSimpArgs false

theorem turn_z {w : World} {S MA A GB MB U BA : Nat} {s : Sp} {m : Mem} {b : Bud} {root asid : Int} {B : Buf} (h : Uni w S MA A GB MB U BA s m b Yu root asid B) (z : Zs s m) (q f : Int) (wb : Bool) (hf : (Lit.int .i64 f).wf = true) :
    Calls Tryd.prog 30 #[.pointer (some ⟨S, 0, none⟩), .int .i64 q, .int .i64 f, .bool wb] w fun e w' =>
      ∃ x s' m' b', e = .returned (.int .i64 x) ∧ Uni w' S MA A GB MB U BA s' m' b' Yu root asid B ∧ Upd (fun k => k = GB ∨ k = MB) w w' ∧ MapR s m b Yu q f wb x s' m' b' ∧ Zs s' m' := by
  refine (spc_map_z (show Spc w S MA A GB MB s m b Yn from h.P) z q f wb hf).mono ?_
  rintro e w' ⟨x, s', m', b', rfl, P, u, r, z'⟩
  exact ⟨x, s', m', b', rfl, h.turn P u, u, r, z'⟩
theorem map_k {s s' : Sp} {m m' : Mem} {b b' : Bud} {Y : Nat × Nat → Prop} {q f : Int} {wb : Bool} {x : Int} (h : UniK s m b 1 buf0) (r : MapR s m b Y q f wb x s' m' b') (hf : f < 32) : UniK s' m' b' 1 buf0 ∧ s'.root = s.root := by
  obtain ⟨k, hr⟩ := h.map r hf
  exact ⟨⟨k.n, k.res, k.lo, BInv.empty _ _⟩, hr⟩
set_option maxRecDepth 100000 in
set_option maxHeartbeats 8000000 in
theorem walk (p0 p1 p2 a0 a1 v : Int) (_w0 : ∀ z ∈ [p0, p1, p2], (Lit.int .i64 z).wf = true) (_w1 : ∀ z ∈ [a0, a1], (Lit.int .i64 z).wf = true) (w2 : (Lit.int .u64 v).wf = true) (w : World) (T0 : Fr.VarIs w 0 (Fr.datCells (Rows.laid_trunnion_entry_fields (H := Unit)))) :
    Calls Tryd.prog 5 #[.agg #[.int .i64 p0, .int .i64 p1, .int .i64 p2], .agg #[.int .i64 a0, .int .i64 a1], .int .u64 v] w fun e w' => e = .returned (.bool true) ∧ Below w.heap.size w w' := by
  have T := tab_of T0
  clear T0 _w0 _w1
  have hv : 0 ≤ v ∧ v < 18446744073709551616 := by
    simp only [Lit.wf, Bool.and_eq_true, decide_eq_true_eq] at w2
    have hmin : IntKind.u64.min = 0 := rfl
    have hmax : IntKind.u64.max = 18446744073709551615 := rfl
    omega
  have HV := Lib.hid hv
  clear hv w2
  have u0 := ((Upd.refl (fun _ => False) w).alloc (.cells #[.int .i64 p0, .int .i64 p1, .int .i64 p2] 77)).alloc (.cells #[.int .i64 a0, .int .i64 a1] 78)
  have hsz := Lib.hid (show (w.alloc (.cells #[.int .i64 p0, .int .i64 p1, .int .i64 p2] 77)).heap.size = w.heap.size + 1 from by show (w.heap.push _).size = _; simp)
  go_enter Tryd.func5, Tryd.ntmps5
  go_upto_region 1 with fail
  have X1 := Lib.hid (show ((w.alloc (.cells #[.int .i64 p0, .int .i64 p1, .int .i64 p2] 77)).alloc (.cells #[.int .i64 a0, .int .i64 a1] 78)).heap[w.heap.size + 1]? = some (.cells #[.int .i64 a0, .int .i64 a1] 78 (0, 0)) from by rw [← hsz.out]; exact heap_alloc_last _ _)
  have X0 := Lib.hid (show ((w.alloc (.cells #[.int .i64 p0, .int .i64 p1, .int .i64 p2] 77)).alloc (.cells #[.int .i64 a0, .int .i64 a1] 78)).heap[w.heap.size]? = some (.cells #[.int .i64 p0, .int .i64 p1, .int .i64 p2] 77 (0, 0)) from ((Upd.refl (fun _ => False) _).alloc _).at (heap_alloc_last w _) id)
  have U0 := Lib.hid u0
  have L0 := Lib.hid (show w.heap.size + 2 ≤ ((w.alloc (.cells #[.int .i64 p0, .int .i64 p1, .int .i64 p2] 77)).alloc (.cells #[.int .i64 a0, .int .i64 a1] 78)).heap.size from by have := hsz.out; show _ ≤ ((w.alloc _).heap.push _).size; rw [Array.size_push]; omega)
  generalize (w.alloc (.cells #[.int .i64 p0, .int .i64 p1, .int .i64 p2] 77)).alloc (.cells #[.int .i64 a0, .int .i64 a1] 78) = w1 at X0 X1 U0 L0 ⊢
  clear u0 hsz
  have T1 := Lib.hid (T.kept U0.out)
  obtain ⟨AB, hAB⟩ : ∃ x, x = w.heap.size + 1 := ⟨_, rfl⟩
  obtain ⟨PB, hPB⟩ : ∃ x, x = w.heap.size := ⟨_, rfl⟩
  have HB := Lib.hid (show PB < w1.heap.size ∧ AB < w1.heap.size from by have := L0.out; omega)
  rw [← hAB] at X1 ⊢
  rw [← hPB] at X0
  have hPBs := Lib.hid hPB
  rw [show (Value.pointer (some ⟨w.heap.size, 0, none⟩)) = .pointer (some ⟨PB, 0, none⟩) from by rw [hPB]]
  clear hAB hPB T
  go_wp2_with fail
  refine (uawake_any w1 T1.out).mono ?_
  rintro e w2 ⟨rfl, u2⟩
  have X0' := Lib.hid (u2.at X0.out id)
  have X1' := Lib.hid (u2.at X1.out id)
  have U2 := Lib.hid (U0.out.trans u2)
  have T2 := Lib.hid (T1.out.kept u2)
  have L2 := Lib.hid (show w1.heap.size ≤ w2.heap.size ∧ w.heap.size + 2 ≤ w1.heap.size from ⟨u2.size, L0.out⟩)
  clear u2 X0 X1 U0 T1 L0
  have c0 : w2.cell? ⟨AB, 0, none⟩ = some (.int .i64 a0) := by rw [cell_of_row w2 AB _ _ _ _ X1'.out]; rfl
  have c1 : w2.cell? ⟨AB, 1, none⟩ = some (.int .i64 a1) := by rw [cell_of_row w2 AB _ _ _ _ X1'.out]; rfl
  go_wp2_with fail
  refine (uspace_z w2 T2.out).mono ?_
  rintro e w3 ⟨S, MA, A, GB, MB, U, BA, s, m, b, rfl, h3, k3, z3, -, -, n3, u3⟩
  clear c0 c1
  have H3 := Lib.hid h3
  have K3 := Lib.hid k3
  have Z3 := Lib.hid z3
  have V3 := Lib.hid (U2.out.trans u3)
  have X3 := Lib.hid (u3.at X0'.out id)
  have NB := Lib.hid (show (w.heap.size ≤ GB ∧ w.heap.size ≤ MB ∧ w.heap.size ≤ BA) ∧ ¬ (PB = GB ∨ PB = MB) ∧ ¬ PB = BA ∧ ¬ (PB = BA ∨ PB = MB) from by
    have l1 := n3.gb
    have l2 := n3.mb
    have l3 := n3.ba
    have l4 := L2.out
    have l5 := HB.out
    omega)
  clear h3 k3 z3 n3 u3 U2 T2 L2 X0' X1' HB hPBs
  by_cases f0 : a0 < 0
  · go_wp2
    go_ret
    exact ⟨rfl, V3.out.below (Nat.le_refl _) fun _ _ => id⟩
  by_cases f1 : 30 < a0
  · go_wp2
    go_ret
    exact ⟨rfl, V3.out.below (Nat.le_refl _) fun _ _ => id⟩
  by_cases g0 : a1 < 0
  · go_wp2
    go_ret
    exact ⟨rfl, V3.out.below (Nat.le_refl _) fun _ _ => id⟩
  by_cases g1 : 15 < a1
  · go_wp2
    go_ret
    exact ⟨rfl, V3.out.below (Nat.le_refl _) fun _ _ => id⟩
  obtain ⟨f, rfl⟩ := Int.eq_ofNat_of_zero_le (show 0 ≤ a0 by omega)
  obtain ⟨pl, rfl⟩ := Int.eq_ofNat_of_zero_le (show 0 ≤ a1 by omega)
  have hf : f ≤ 30 := by omega
  have hp : pl < 16 := by omega
  obtain ⟨R0, hR0⟩ : ∃ R0, s.root = R0 := ⟨_, rfl⟩
  have H3' := Lib.hid (show Uni w3 S MA A GB MB U BA s m b Yu R0 1 buf0 from by rw [← hR0]; exact H3.out)
  have HR := Lib.hid hR0
  clear H3 hR0
  have c0 : w3.cell? ⟨PB, 0, none⟩ = some (.int .i64 p0) := by rw [cell_of_row w3 PB _ _ _ _ X3.out]; rfl
  go_wp2_with fail
  refine (turn_z H3'.out Z3.out p0 f true (frame_wf (n := 32) (by omega) ⟨by omega, by omega⟩)).mono ?_
  rintro e w4 ⟨x4, s4, m4, b4, rfl, h4, u4, r4, z4⟩
  obtain ⟨k4, hr4⟩ := map_k K3.out r4 (by omega)
  have H4 := Lib.hid h4
  have K4 := Lib.hid k4
  have Z4 := Lib.hid z4
  have R4 := Lib.hid r4
  have HR4 := Lib.hid (hr4.trans HR.out)
  have V4 := Lib.hid (V3.out.since u4 (by rintro k (rfl | rfl) <;> (have := NB.out.1; omega)))
  have X4 := Lib.hid (u4.at X3.out NB.out.2.1)
  clear h4 k4 z4 r4 hr4 u4 c0 H3' K3 Z3 V3 X3 HR
  have c1 : w4.cell? ⟨PB, 1, none⟩ = some (.int .i64 p1) := by rw [cell_of_row w4 PB _ _ _ _ X4.out]; rfl
  go_wp2_with fail
  refine (turn_z H4.out Z4.out p1 f false (frame_wf (n := 32) (by omega) ⟨by omega, by omega⟩)).mono ?_
  rintro e w5 ⟨x5, s5, m5, b5, rfl, h5, u5, r5, z5⟩
  obtain ⟨k5, hr5⟩ := map_k K4.out r5 (by omega)
  have H5 := Lib.hid h5
  have K5 := Lib.hid k5
  have Z5 := Lib.hid z5
  have R5 := Lib.hid r5
  have HR5 := Lib.hid (hr5.trans HR4.out)
  have V5 := Lib.hid (V4.out.since u5 (by rintro k (rfl | rfl) <;> (have := NB.out.1; omega)))
  have X5 := Lib.hid (u5.at X4.out NB.out.2.1)
  clear h5 k5 z5 r5 hr5 u5 c1 H4 K4 Z4 V4 X4 HR4
  have c2 : w5.cell? ⟨PB, 2, none⟩ = some (.int .i64 p2) := by rw [cell_of_row w5 PB _ _ _ _ X5.out]; rfl
  go_wp2_with fail
  refine (turn_z H5.out Z5.out p2 ((f : Int) + 1) false (frame_wf (n := 32) (by omega) ⟨by omega, by omega⟩)).mono ?_
  rintro e w6 ⟨x6, s6, m6, b6, rfl, h6, u6, r6, z6⟩
  obtain ⟨k6, hr6⟩ := map_k K5.out r6 (by omega)
  have H6 := Lib.hid h6
  have K6 := Lib.hid k6
  have Z6 := Lib.hid z6
  have R6 := Lib.hid r6
  have HR6 := Lib.hid (hr6.trans HR5.out)
  have V6 := Lib.hid (V5.out.since u6 (by rintro k (rfl | rfl) <;> (have := NB.out.1; omega)))
  have X6 := Lib.hid (u6.at X5.out NB.out.2.1)
  clear h6 k6 z6 r6 hr6 u6 c2 H5 K5 Z5 V5 X5 HR5
  by_cases y4 : ¬ x4 = 0
  · have y4' : (x4 != 0) = true := by simp [y4]
    go_wp2
    go_ret
    exact ⟨rfl, V6.out.below (Nat.le_refl _) fun _ _ => id⟩
  have y4 := Decidable.not_not.1 y4
  subst y4
  by_cases y5 : ¬ x5 = 0
  · have y5' : (x5 != 0) = true := by simp [y5]
    go_wp2
    go_ret
    exact ⟨rfl, V6.out.below (Nat.le_refl _) fun _ _ => id⟩
  have y5 := Decidable.not_not.1 y5
  subst y5
  by_cases y6 : ¬ x6 = 0
  · have y6' : (x6 != 0) = true := by simp [y6]
    go_wp2
    go_ret
    exact ⟨rfl, V6.out.below (Nat.le_refl _) fun _ _ => id⟩
  have y6 := Decidable.not_not.1 y6
  subst y6
  obtain ⟨q0, e0, q0l, E4⟩ : ∃ q0 : Nat, p0 = q0 ∧ q0 < 4096 ∧ ∀ q', s4.E 3 q' = if q' = q0 then ⟨true, true, false, f⟩ else s.E 3 q' := by
    rcases R4.out.r with ⟨h, _⟩ | ⟨_, qn, e, l, _, _, _, _, _, hE⟩
    · exact absurd rfl h
    · exact ⟨qn, e, l, hE⟩
  obtain ⟨q1, e1, q1l, v1, E5⟩ : ∃ q1 : Nat, p1 = q1 ∧ q1 < 4096 ∧ (s4.E 3 q1).v = false ∧ ∀ q', s5.E 3 q' = if q' = q1 then ⟨true, false, false, f⟩ else s4.E 3 q' := by
    rcases R5.out.r with ⟨h, _⟩ | ⟨_, qn, e, l, _, hv, _, _, _, hE⟩
    · exact absurd rfl h
    · exact ⟨qn, e, l, hv, hE⟩
  obtain ⟨q2, e2, q2l, v2, E6⟩ : ∃ q2 : Nat, p2 = q2 ∧ q2 < 4096 ∧ (s5.E 3 q2).v = false ∧ ∀ q', s6.E 3 q' = if q' = q2 then ⟨true, false, false, (f : Int) + 1⟩ else s5.E 3 q' := by
    rcases R6.out.r with ⟨h, _⟩ | ⟨_, qn, e, l, _, hv, _, _, _, hE⟩
    · exact absurd rfl h
    · exact ⟨qn, e, l, hv, hE⟩
  have n10 : q1 ≠ q0 := fun e => by rw [E4, if_pos e] at v1; cases v1
  have n21 : q2 ≠ q1 := fun e => by rw [E5, if_pos e] at v2; cases v2
  have n20 : q2 ≠ q0 := fun e => by rw [E5, if_neg n21, E4, if_pos e] at v2; cases v2
  have AK := Lib.hid (fun v' => alk_of H6.out.P.I Z6.out (BInv.empty s6 1) HR6.out q0 q1 q2 f pl v v' q0l q1l q2l hp hf K6.out.res
    (by rw [E6, if_neg (Ne.symm n20), E5, if_neg (Ne.symm n10), E4, if_pos rfl]) (by rw [E6, if_neg (Ne.symm n21), E5, if_pos rfl]) (by rw [E6, if_pos rfl]) HV)
  clear E4 E5 E6 R4 R5 R6 v1 v2 n10 n21 n20 Z6
  subst e0 e1 e2
  have i0 := IntWalk.i64_in (16 * (q0 : Int)) (by omega)
  have i0' := IntWalk.i64_in (16 * (q0 : Int) + pl) (by omega)
  have i1 := IntWalk.i64_in (16 * (q1 : Int)) (by omega)
  have i1' := IntWalk.i64_in (16 * (q1 : Int) + pl) (by omega)
  have i2 := IntWalk.i64_in (16 * (q2 : Int)) (by omega)
  have i2' := IntWalk.i64_in (16 * (q2 : Int) + pl) (by omega)
  have c0 : w6.cell? ⟨PB, 0, none⟩ = some (.int .i64 q0) := by rw [cell_of_row w6 PB _ _ _ _ X6.out]; rfl
  go_wp2_with fail
  refine (H6.out.store (16 * (q0 : Int) + pl) v 0 (AK.out 0).I1).mono ?_
  rintro e w7 ⟨rfl, h7, u7⟩
  rw [(AK.out 0).x1]
  have H7 := Lib.hid h7
  have V7 := Lib.hid (V6.out.since u7 (by rintro k (rfl | rfl) <;> (have := NB.out.1; omega)))
  have X7 := Lib.hid (u7.at X6.out NB.out.2.2.2)
  clear h7 u7 c0 V6 X6 H6
  have c1 : w7.cell? ⟨PB, 1, none⟩ = some (.int .i64 q1) := by rw [cell_of_row w7 PB _ _ _ _ X7.out]; rfl
  go_wp2_with fail
  refine (H7.out.load (16 * (q1 : Int) + pl) 1).mono ?_
  rintro e w8 ⟨rfl, h8, u8⟩
  rw [(AK.out 0).x2, (AK.out 0).w2]
  have H8 := Lib.hid h8
  have V8 := Lib.hid (V7.out.since u8 (by rintro k rfl; have := NB.out.1; omega))
  have X8 := Lib.hid (u8.at X7.out NB.out.2.2.1)
  clear h8 u8 c1 V7 X7 H7
  have c2 : w8.cell? ⟨PB, 2, none⟩ = some (.int .i64 q2) := by rw [cell_of_row w8 PB _ _ _ _ X8.out]; rfl
  go_wp2_with fail
  refine (H8.out.load (16 * (q2 : Int) + pl) 2).mono ?_
  rintro e w9 ⟨rfl, h9, u9⟩
  rw [(AK.out 0).x3, (AK.out 0).w3]
  have H9 := Lib.hid h9
  have V9 := Lib.hid (V8.out.since u9 (by rintro k rfl; have := NB.out.1; omega))
  have X9 := Lib.hid (u9.at X8.out NB.out.2.2.1)
  clear h9 u9 c2 V8 X8 H8
  have c1 : w9.cell? ⟨PB, 1, none⟩ = some (.int .i64 q1) := by rw [cell_of_row w9 PB _ _ _ _ X9.out]; rfl
  go_wp2_with fail
  refine (H9.out.store (16 * (q1 : Int) + pl) _ 3 (by rw [((AK.out _).x4 _ (AK.out 0).b4).2]; exact (AK.out 0).I1)).mono ?_
  rintro e wa ⟨rfl, ha, ua⟩
  rw [((AK.out 0).x4 _ (AK.out 0).b4).1]
  rw [((AK.out _).x4 _ (AK.out 0).b4).2] at ha
  have Va := Lib.hid (V9.out.since ua (by rintro k (rfl | rfl) <;> (have := NB.out.1; omega)))
  have cZ := Lib.hid (zero_any MA _ f wa ha.P.D.M)
  rw [(AK.out 0).z] at cZ
  clear ha ua H9 V9 X9 c1 AK HV
  go_wp2_with fail
  refine cZ.out.mono ?_
  rintro e wb ⟨rfl, rfl⟩
  by_cases hv : v = 0
  · subst hv
    go_wp2
    go_ret
    exact ⟨rfl, Va.out.below (Nat.le_refl _) fun _ _ => id⟩
  · have hv' : (v != 0) = true := by simp [hv]
    rw [decide_eq_false hv]
    go_wp2
    go_ret
    exact ⟨rfl, Va.out.below (Nat.le_refl _) fun _ _ => id⟩
/-! ### the row's frame, and its tied card -/
theorem own : ownKnob Tryd.prog.godebug = none := by kernel_rfl
theorem laidOut : laidOutB Tryd.prog = true := by kernel_rfl
/-- the door's own heap meets the condition -/
theorem door_met (os : Os) (args : Array Value) : laidMetH Tryd.prog Rows.mmuAlikeRow.laid ((World.doorLaid Tryd.prog 400 os).forCall (fun _ _ => 0) ⟨#[], args, []⟩).memory :=
  laidMetH_of_parts3 (fuel := 8) (laidMet_of_run' 8 (by kernel_rfl) (by kernel_rfl)) (by kernel_rfl) (by kernel_rfl)
set_option linter.unusedVariables false in
set_option maxRecDepth 100000 in
theorem lifted (os : Os) (started : os.Started) (H : Type) (enc : TypeId × Value → H) :
    ReturnsInHanded {} Tryd.checked os 5 .any (fun w args => (Rows.mmuAlikeSpec.pre enc Tryd.prog Tryd.f5 [] false w args ∧ laidMetH Tryd.prog Rows.mmuAlikeRow.laid w) ∧ sizedMet enc Tryd.prog Tryd.f5 (OpenSpec.ofChange Rows.mmuAlikeSpec) false w args)
      (Rows.mmuAlikeSpec.post enc Tryd.prog Tryd.f5 false true false false) := by
  refine returnsInHanded_of_change_and (C := Tryd.checked) (X := fun w _ => laidMetH Tryd.prog Rows.mmuAlikeRow.laid w) (fun _ _ _ hh h => h.of_heap hh) own started (by kernel_rfl) Tryd.func5
    (ChangeSpec.witness_shaped (enc := enc) (C := Tryd.checked) (os := os) (X := fun w _ => laidMetH Tryd.prog Rows.mmuAlikeRow.laid w) false (World.doorLaid Tryd.prog 400 os) #[.agg #[.int .i64 0, .int .i64 0, .int .i64 0], .agg #[.int .i64 0, .int .i64 0], .int .u64 0] 8 rfl (World.shaped_of_RefB (by kernel_rfl) (by kernel_rfl)) (by kernel_rfl) (by kernel_rfl) (by kernel_rfl) (door_met os _)) ?_
  intro W base args ds gs before hval0 hW _ _ hL _
  have hLd := hL
  rw [MakeChecks.laidMetH_plain _ _ _ (by kernel_rfl)] at hLd
  have T0 : Fr.VarIs W 0 (Fr.datCells (Rows.laid_trunnion_entry_fields (H := Unit))) := Fr.varIs_of_laid (t := 156) (ks := [some .i64, some .i64, some .i64, some .i64, some .i64, some .i64, some .i64, some .i64, some .i64, some .i64, some .i64, some .i64, some .i64, some .i64, some .i64, some .i64, some .i64, some .i64]) 12 (hLd : laidMet Tryd.prog Rows.mmuAlikeRow.laid W) "trunnion/entry.fields" (Rows.laid_trunnion_entry_fields (H := Unit)) (by simp [Rows.mmuAlikeRow]) (by kernel_rfl) (by kernel_rfl) (by kernel_rfl)
  clear hL hLd
  have hval : ∀ (j : Nat) t v, Tryd.f5.params[j]? = some t → args[j]? = some v → Value.okWide Tryd.prog W .any base t v := hval0
  have hW' := hW
  obtain ⟨p, q, hA0, hV, rfl, hfz, hnd⟩ := hW
  have hA : DataW.TrodAll enc Tryd.prog W 0 (fun _ => true) true Tryd.f5.params.toList args.toList ds p := hA0
  rw [Tryd.params5] at hA hval
  obtain ⟨v0, vs0, d0, ds0, p0, q0, hargs, rfl, rfl, h0, r0⟩ := trodAll_cons hA
  obtain ⟨v1, vs1, d1, ds1, p1, q1, rfl, rfl, rfl, h1, r1⟩ := trodAll_cons r0
  obtain ⟨v2, vs2, d2, ds2, p2, q2, rfl, rfl, rfl, h2, r2⟩ := trodAll_cons r1
  obtain ⟨rfl, rfl, rfl⟩ := trodAll_nil r2
  obtain rfl : args = #[v0, v1, v2] := by cases args; simp_all
  obtain ⟨rfl, rfl⟩ := trodVars_none hV
  have k0 := h0
  have lt0 : ∀ x ∈ p0, x.block < W.heap.size := by obtain ⟨m, hm⟩ := k0; exact DataW.trod_lt m _ _ _ hm
  obtain ⟨z0, l0, rfl, w0⟩ := Fr.open_intArr Tryd.underlying77 Tryd.underlying3 (by kernel_rfl) (by kernel_rfl) (hval 0 77 v0 rfl rfl) h0
  obtain ⟨a0_0, a0_1, a0_2, rfl⟩ := Fr.len3 l0
  have k1 := h1
  have lt1 : ∀ x ∈ p1, x.block < W.heap.size := by obtain ⟨m, hm⟩ := k1; exact DataW.trod_lt m _ _ _ hm
  obtain ⟨z1, l1, rfl, w1⟩ := Fr.open_intArr Tryd.underlying78 Tryd.underlying3 (by kernel_rfl) (by kernel_rfl) (hval 1 78 v1 rfl rfl) h1
  obtain ⟨a1_0, a1_1, rfl⟩ := Fr.len2 l1
  have k2 := h2
  have lt2 : ∀ x ∈ p2, x.block < W.heap.size := by obtain ⟨m, hm⟩ := k2; exact DataW.trod_lt m _ _ _ hm
  obtain ⟨a2, rfl, rfl, rfl, w2⟩ := open_int Tryd.underlying49 (hval 2 49 v2 rfl rfl) h2
  clear hA0 hval0
  refine (walk a0_0 a0_1 a0_2 a1_0 a1_1 a2 w0 w1 w2 W  T0).mono fun e W' ⟨he, bel⟩ => ?_
  subst he
  exact ⟨_, rfl, _, _, _, [], _, [], hW', trodAll_mk1 (shut_bool Tryd.underlying4 _), (trodAll_cons_mk (Below.trod laidOut (by kernel_rfl) (of_decide_eq_true (by kernel_rfl)) k0 bel lt0) (trodAll_cons_mk (Below.trod laidOut (by kernel_rfl) (of_decide_eq_true (by kernel_rfl)) k1 bel lt1) (trodAll_cons_mk (Below.trod laidOut (by kernel_rfl) (of_decide_eq_true (by kernel_rfl)) k2 bel lt2) trodAll_mk0))), rfl, bel.frame _, fun h => by cases h⟩

theorem over : Rows.mmuAlikeRow.holds Tryd.pinned (OpenSpec.ofChange Rows.mmuAlikeSpec) :=
  OpenClaim.holds_of_wide 5 Tryd.f5 rfl rfl rfl rfl rfl rfl rfl ⟨rfl, rfl, rfl, rfl, rfl⟩ rfl rfl rfl rfl rfl (by kernel_rfl) Tryd.func5 (by kernel_rfl)
    (of_decide_eq_true (by kernel_rfl)) (by unfold Func.isWrapper; first | (rw [if_pos (by decide +kernel)]; kernel_rfl) | (rw [if_neg (by decide +kernel)]; exact ⟨rfl, rfl⟩))
    (fun os started H enc _ => lifted os started H enc)

theorem proved : Rows.MmuAlikeCardSaid :=
  Claim7.holds_tied_plain_at .later [] [.data] true (true, "1fbe003839927454e2127db742a1aa9d648a46633fd1db5cf4822c9650777034") false
    over (fun _ h => by cases h) (by kernel_rfl) (fun _ h => by cases h) mmuAlike_row_tie rfl ⟨rfl, rfl⟩ (by kernel_rfl) rfl
    (fun f fn hf hfn => by
      obtain rfl : f = 5 := Option.some.inj ((show Tryd.prog.funcNamed "trunnion/trunnionlaw11.MmuAlike" = some 5 by kernel_rfl).symm.trans hf) |>.symm
      obtain rfl : fn = Tryd.f5 := (Option.some.inj (Tryd.func5.symm.trans hfn)).symm
      exact ⟨by kernel_rfl, fun j t ht => by
        rw [Tryd.params5] at ht
        have hm : t ∈ [77, 78, 49] := by simpa using Array.mem_of_getElem? ht
        have hall : ([77, 78, 49].all fun u => !Tryd.prog.wantsStandIn u) = true := by kernel_rfl
        exact (show Tryd.prog.wantsStandIn t = false by simpa using List.all_eq_true.1 hall t hm)⟩)
    (by kernel_rfl)
end Go.Proofs.YtfdnfllefednjaaDoor.mmuAlike
