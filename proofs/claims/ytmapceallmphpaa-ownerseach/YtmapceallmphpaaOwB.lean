/-
  OwnersBack over the bundle of contracts.
-/
import Derived.Test.YtmapceallmphpaaOwL
namespace Go.Proofs.Ytmapceallmphpaa.ownersBack
open Go.ChangeShapes Go.WideShapes Go.ChangeAt Go.RowKit

theorem cnto_none (v : Int) (hv : v ≠ -1) : ∀ n, cnto (fun _ => -1) v n = 0
  | 0 => rfl
  | n + 1 => by rw [cnto, cnto_none v hv n, if_neg (fun e => hv e.symm)]
theorem count0 (n : Nat) (v : Int) : (ow0 n).count v = 0 := by
  unfold Ow.count
  split
  · exact cnto_none v (by omega) n
  · rfl
theorem all0 (n f k : Nat) : (ow0 n).all f k (-1) = true := all_iff.2 fun _ _ _ => rfl
theorem giveE0 (n : Nat) (hn : n ≤ 256) (f k v : Int) : (ow0 n).giveE f k v = if ((ow0 n).are f k && who9 v) = true then 0 else 1 := by
  unfold Ow.giveE
  by_cases h : ((ow0 n).are f k && who9 v) = true
  · rw [if_pos h, if_pos h, all0, if_pos rfl, count0, if_pos]
    rw [Bool.and_eq_true] at h
    have := are_iff.1 h.1
    have e : (ow0 n).n = n := rfl
    show ((0 : Nat) : Int) + k ≤ 256
    omega
  · rw [if_neg h, if_neg h]
/-- given once: whose the frames are -/
theorem gave_f {n : Nat} {f k v : Int} (he : (ow0 n).giveE f k v = 0) : (ow0 n).give f k v = Ow.mk n (setR (fun _ => -1) f.toNat k.toNat v) (fun _ => 256) := by unfold Ow.give; rw [if_pos he]; rfl
theorem gave_count {n : Nat} {f k v : Int} (he : (ow0 n).giveE f k v = 0) : (((ow0 n).give f k v).count v : Int) = k := by
  have hv := who9_iff.1 (giveE_ok he).2.1
  obtain ⟨V, rfl⟩ := Int.eq_ofNat_of_zero_le hv.1
  rw [give_count he V, count0, if_pos rfl]
  omega
theorem gave_take {n : Nat} {f k v : Int} (he : (ow0 n).giveE f k v = 0) : ((ow0 n).give f k v).takeE f k v = 0 := by
  obtain ⟨h1, h2, _⟩ := giveE_ok he
  unfold Ow.takeE
  have ha : ((ow0 n).give f k v).are f k = true := by rw [gave_f he]; exact h1
  rw [ha, h2]
  have hall : ((ow0 n).give f k v).all f.toNat k.toNat v = true := all_iff.2 fun j j1 j2 => by
    rw [gave_f he]
    show setR (fun _ => -1) f.toNat k.toNat v j = v
    unfold setR
    rw [if_pos ⟨j1, j2⟩]
  rw [hall]
  rfl
theorem other_take {n : Nat} {f k v u : Int} (he : (ow0 n).giveE f k v = 0) (hne : v ≠ u) : ((ow0 n).give f k v).takeE f k u ≠ 0 := fun h0 => by
  obtain ⟨h1, _, h3⟩ := takeE_ok h0
  obtain ⟨a1, a2, a3, a4⟩ := are_iff.1 (giveE_ok he).1
  have := all_iff.1 h3 f.toNat (Nat.le_refl _) (by omega)
  rw [gave_f he] at this
  have e : setR (fun _ => -1) f.toNat k.toNat v f.toNat = u := this
  unfold setR at e
  rw [if_pos ⟨Nat.le_refl _, by omega⟩] at e
  exact hne e
/-- taken back: as at first -/
theorem back_f {n : Nat} {f k v : Int} (he : (ow0 n).giveE f k v = 0) : ((ow0 n).give f k v).take f k v = ow0 n := by
  unfold Ow.take
  rw [if_pos (gave_take he), gave_f he]
  show Ow.mk n (setR (setR (fun _ => -1) f.toNat k.toNat v) f.toNat k.toNat (-1)) _ = Ow.mk n (fun _ => -1) _
  congr 1
  funext j
  unfold setR
  split <;> rfl
theorem again_take {n : Nat} {f k v : Int} (he : (ow0 n).giveE f k v = 0) : (ow0 n).takeE f k v = 2 := by
  obtain ⟨h1, h2, _⟩ := giveE_ok he
  obtain ⟨a1, a2, a3, a4⟩ := are_iff.1 h1
  have hv := who9_iff.1 h2
  unfold Ow.takeE
  rw [h1, h2]
  have hall : (ow0 n).all f.toNat k.toNat v = false := by
    cases h : (ow0 n).all f.toNat k.toNat v
    · rfl
    · have := all_iff.1 h f.toNat (Nat.le_refl _) (by omega)
      have e : (-1 : Int) = v := this
      omega
  rw [hall]
  rfl
theorem of0 (n : Nat) (f : Int) : (ow0 n).of f = -1 := by unfold Ow.of; split <;> rfl
theorem heap_box (w : World) (x y : Value) (t : TypeId) : (w.alloc (.cells #[x, y] t)).cell? ⟨w.heap.size, 0, none⟩ = some x ∧ (w.alloc (.cells #[x, y] t)).cell? ⟨w.heap.size, 1, none⟩ = some y := by
  constructor <;> (rw [cell_of_row _ _ _ _ _ _ (heap_alloc_last w _)]; rfl)
theorem in64_of {x : Int} (h : (Lit.int .i64 x).wf = true) : in64 x := by
  have h' : (decide (IntKind.i64.min ≤ x) && decide (x ≤ IntKind.i64.max)) = true := h
  rw [Bool.and_eq_true, decide_eq_true_iff, decide_eq_true_iff] at h'
  exact h'

set_option maxRecDepth 100000 in
set_option maxHeartbeats 2000000 in
theorem walk0 {OAt : World → Nat → (Nat → Prop) → Ow → Prop} (K : OwC OAt) (f k u v : Int) (w0 : (Lit.int .i64 f).wf = true) (w1 : (Lit.int .i64 k).wf = true) (w2 : ∀ z ∈ [u, v], (Lit.int .i64 z).wf = true) (w : World) :
    Calls Try.prog 5 #[.int .i64 f, .int .i64 k, .agg #[.int .i64 u, .int .i64 v]] w fun e w' => e = .returned (.bool true) ∧ Below w.heap.size w w' := by
  have hf := Lib.hid (in64_of w0)
  have hk := Lib.hid (in64_of w1)
  have hu := Lib.hid (in64_of (w2 u (by simp)))
  have hv := Lib.hid (in64_of (w2 v (by simp)))
  clear w0 w1 w2
  obtain ⟨b0, b1⟩ := heap_box w (.int .i64 u) (.int .i64 v) 39
  have U0 : Upd (fun _ => False) w (w.alloc (.cells #[.int .i64 u, .int .i64 v] 39)) := (Upd.refl _ _).alloc _
  have hbl : w.heap.size < (w.alloc (.cells #[.int .i64 u, .int .i64 v] 39)).heap.size := by simp
  go_enter Try.func5, Try.ntmps5
  go_wp2_with fail
  refine (awake_any K _).mono ?_
  rintro x w1 ⟨rfl, U1⟩
  have c0 := U1.cell b0 (fun h => h)
  have c1 := U1.cell b1 (fun h => h)
  have V1 := U0.trans U1
  have hb1 : w.heap.size < w1.heap.size := Nat.lt_of_lt_of_le hbl U1.size
  clear b0 b1 U0 U1 hbl
  go_wp2_with fail
  refine (K.new_yes 16 _ (by omega) (by omega)).mono ?_
  rintro x w2 ⟨A, S, rfl, O2, hS, U2⟩
  have d0 := U2.cell c0 (fun h => h)
  have d1 := U2.cell c1 (fun h => h)
  have V2 := V1.trans U2
  have hSw : ∀ j, S j → w.heap.size ≤ j := fun j hj => Nat.le_trans (Nat.le_of_lt hb1) (hS j hj)
  have hSb : ¬ S w.heap.size := fun hj => by have := hS _ hj; omega
  clear c0 c1 V1 U2 hS hb1
  generalize w.heap.size = BX at d0 d1 hSb ⊢
  go_wp2_with fail
  refine (K.give f k u O2 hf.out hk.out hu.out).mono ?_
  rintro x w3 ⟨rfl, O3, U3⟩
  have e0 := U3.cell d0 hSb
  have e1 := U3.cell d1 hSb
  have V3 := V2.newer U3 hSw
  clear d0 d1 V2 U3 O2
  by_cases hE : (ow0 16).giveE f k u = 0
  · rw [hE]
    have hcu := Lib.hid (gave_count hE)
    have hfin := Lib.hid (back_f hE)
    have hag := Lib.hid (again_take hE)
    have hgt := Lib.hid (gave_take hE)
    have hot := Lib.hid (fun (hne : u ≠ v) => other_take (u := v) hE hne)
    go_wp2_with fail
    refine (K.count u O3 hu.out).mono ?_
    rintro x w4 ⟨rfl, U4⟩
    rw [hcu.out]
    have O4 := K.still O3 U4
    have V4 := V3.trans U4
    have g0 := U4.cell e0 (fun h => h)
    have g1 := U4.cell e1 (fun h => h)
    clear O3 V3 U4 e0 e1
    go_wp2_with fail
    refine (K.take f k v O4 hf.out hk.out hv.out).mono ?_
    rintro x w5 ⟨rfl, O5, U5⟩
    have V5 := V4.newer U5 hSw
    have p0 := U5.cell g0 hSb
    have p1 := U5.cell g1 hSb
    clear O4 V4 U5 g0 g1
    by_cases huv : u = v
    · subst huv
      rw [hfin.out] at O5
      rw [hgt.out]
      go_wp2_with fail
      refine (K.count u O5 hu.out).mono ?_
      rintro x w6 ⟨rfl, U6⟩
      rw [count0]
      have O6 := K.still O5 U6
      have V6 := V5.trans U6
      have q0 := U6.cell p0 (fun h => h)
      clear O5 V5 U6 p0 p1
      go_wp2_with fail
      refine (K.of f O6 hf.out).mono ?_
      rintro x w7 ⟨rfl, U7⟩
      rw [of0]
      have O7 := K.still O6 U7
      have V7 := V6.trans U7
      have r0 := U7.cell q0 (fun h => h)
      clear O6 V6 U7 q0
      go_wp2_with fail
      refine (K.take f k u O7 hf.out hk.out hu.out).mono ?_
      rintro x w8 ⟨rfl, O8, U8⟩
      rw [hag.out]
      have V8 := V7.newer U8 hSw
      go_wp2
      go_ret
      exact ⟨rfl, V8.below (Nat.le_refl _) (fun _ _ e => e)⟩
    · have hnz := hot.out huv
      rw [take_no hnz] at O5
      have huvb : (u != v) = true := by simpa using huv
      generalize Ow.takeE _ f k v = gz at hnz ⊢
      have hzb : (gz == 0) = false := by simpa using hnz
      go_wp2_with fail
      refine (K.count u O5 hu.out).mono ?_
      rintro x w6 ⟨rfl, U6⟩
      rw [hcu.out]
      have O6 := K.still O5 U6
      have V6 := V5.trans U6
      have q0 := U6.cell p0 (fun h => h)
      clear O5 V5 U6 p0 p1
      go_wp2_with fail
      refine (K.take f k u O6 hf.out hk.out hu.out).mono ?_
      rintro x w7 ⟨rfl, O7, U7⟩
      rw [hfin.out] at O7
      rw [hgt.out]
      have V7 := V6.newer U7 hSw
      have r0 := U7.cell q0 hSb
      clear O6 V6 U7 q0
      go_wp2_with fail
      refine (K.count u O7 hu.out).mono ?_
      rintro x w8 ⟨rfl, U8⟩
      rw [count0]
      have O8 := K.still O7 U8
      have V8 := V7.trans U8
      have s0 := U8.cell r0 (fun h => h)
      clear O7 V7 U8 r0
      go_wp2_with fail
      refine (K.of f O8 hf.out).mono ?_
      rintro x w9 ⟨rfl, U9⟩
      rw [of0]
      have O9 := K.still O8 U9
      have V9 := V8.trans U9
      have t0 := U9.cell s0 (fun h => h)
      clear O8 V8 U9 s0
      go_wp2_with fail
      refine (K.take f k u O9 hf.out hk.out hu.out).mono ?_
      rintro x w10 ⟨rfl, O10, U10⟩
      rw [hag.out]
      have V10 := V9.newer U10 hSw
      go_wp2
      go_ret
      exact ⟨rfl, V10.below (Nat.le_refl _) (fun _ _ e => e)⟩
  · have h1 : (ow0 16).giveE f k u = 1 := by
      have := giveE0 16 (by omega) f k u
      split at this
      · exact absurd this hE
      · exact this
    rw [give_no hE] at O3
    rw [h1]
    go_wp2_with fail
    refine (K.count u O3 hu.out).mono ?_
    rintro x w4 ⟨rfl, U4⟩
    rw [count0]
    go_wp2
    go_ret
    exact ⟨rfl, (V3.trans U4).below (Nat.le_refl _) (fun _ _ e => e)⟩
end Go.Proofs.Ytmapceallmphpaa.ownersBack
