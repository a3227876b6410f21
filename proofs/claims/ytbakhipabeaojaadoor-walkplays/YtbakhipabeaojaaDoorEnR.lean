/-
  Contracts of the document's own answers for entry: Right, Word, Index.
-/
import Derived.Test.YtbakhipabeaojaaDoorEnP
namespace Go.Proofs.YtbakhipabeaojaaDoor
open Go.ChangeShapes Go.WideShapes Go.ChangeAt Go.RowKit

set_option maxHeartbeats 400000 in
theorem rright_any (v r t : Bool) (f : Int) (w : World) :
    Calls Tryd.prog 37 #[entV v r t f] w fun e w' => e = .returned (.bool (rightB v r t f)) ∧ Upd (fun _ => False) w w' := by
  cases v
  · have he := run_eqE false r t f false false false 0 (rightB false r t f) (by rw [Bool.eq_iff_iff]; simp [rightB, and_assoc])
    generalize rightB false r t f = q at he ⊢
    go_enter Tryd.func37, Tryd.ntmps37
    go_wp2
    go_ret
    exact ⟨rfl, (Upd.refl _ _).alloc _⟩
  · by_cases h0 : 0 ≤ f
    · by_cases h1 : f ≤ 255
      · cases r
        · have hv := Lib.hid (show rightB true false t f = true from by simp [rightB, h0, h1])
          go_enter Tryd.func37, Tryd.ntmps37
          go_wp2
          go_ret
          exact ⟨by rw [hv.out]; rfl, (Upd.refl _ _).alloc _⟩
        · have hv := Lib.hid (show rightB true true t f = !t from by simp [rightB, h0, h1])
          go_enter Tryd.func37, Tryd.ntmps37
          go_wp2
          go_ret
          exact ⟨by rw [hv.out]; rfl, (Upd.refl _ _).alloc _⟩
      · have hv := Lib.hid (show rightB true r t f = false from by simp [rightB]; omega)
        go_enter Tryd.func37, Tryd.ntmps37
        go_wp2
        go_ret
        exact ⟨by rw [hv.out]; rfl, (Upd.refl _ _).alloc _⟩
    · have hv := Lib.hid (show rightB true r t f = false from by simp [rightB]; omega)
      go_enter Tryd.func37, Tryd.ntmps37
      go_wp2
      go_ret
      exact ⟨by rw [hv.out]; rfl, (Upd.refl _ _).alloc _⟩
set_option maxHeartbeats 1000000 in
theorem rword_any (v r t : Bool) (f : Int) (w : World) :
    Calls Tryd.prog 23 #[entV v r t f] w fun e w' => e = .returned (.tuple #[.int .u64 (wordI v r t f), .int .i64 (wordE v r t f)]) ∧ Upd (fun _ => False) w w' := by
  cases h : rightB v r t f
  · rw [wordI_no h, show wordE v r t f = 1 from by unfold wordE; rw [h]; rfl]
    have hc := Lib.hid (fun W => rright_any v r t f W)
    rw [h] at hc
    clear h
    go_enter Tryd.func23, Tryd.ntmps23
    go_wp2_with fail
    refine (hc.out _).mono ?_
    rintro e w1 ⟨rfl, u⟩
    go_wp2
    go_ret2
    exact ⟨rfl, ((Upd.refl _ _).alloc _).trans u⟩
  · rw [show wordE v r t f = 0 from by unfold wordE; rw [h]; rfl]
    have hc := Lib.hid (fun W => rright_any v r t f W)
    rw [h] at hc
    cases v
    · obtain ⟨⟨rfl, rfl⟩, rfl⟩ : (r = false ∧ t = false) ∧ f = 0 := by simpa [rightB] using h
      clear h
      go_enter Tryd.func23, Tryd.ntmps23
      go_wp2_with fail
      refine (hc.out _).mono ?_
      rintro e w1 ⟨rfl, u⟩
      have k0 : EntAt w1 w.heap.size false false false 0 := u.at (heap_alloc_last w _) id
      have k1 := k0.range 0 _ rfl
      have U := Lib.hid (((Upd.refl _ _).alloc _).trans u)
      clear u k0
      go_wp2
      go_ret2
      exact ⟨rfl, U.out⟩
    · have h' : (0 ≤ f ∧ f ≤ 255) ∧ (r && t) = false := by revert h; cases r <;> cases t <;> simp [rightB]
      rw [wordI_yes h]
      obtain ⟨⟨h0, h1⟩, hrt⟩ := h'
      clear h
      cases r
      · cases t
        · have hv := Lib.hid (show 256 * f + 1 + bI false 2 + bI false 4 = 1 + 256 * f from by simp [bI]; omega)
          go_enter Tryd.func23, Tryd.ntmps23
          go_wp2_with fail
          refine (hc.out _).mono ?_
          rintro e w1 ⟨rfl, u⟩
          have k0 : EntAt w1 w.heap.size true false false f := u.at (heap_alloc_last w _) id
          have k1 := k0.range 0 _ rfl
          have k2 := k0.range 1 _ rfl
          have k3 := k0.range 2 _ rfl
          have k4 := k0.range 3 _ rfl
          have U := Lib.hid (((Upd.refl _ _).alloc _).trans u)
          clear u k0
          go_wp2
          go_ret2
          exact ⟨by rw [hv.out]; rfl, U.out⟩
        · have hv := Lib.hid (show 256 * f + 1 + bI false 2 + bI true 4 = 1 + 256 * f + 4 from by simp [bI]; omega)
          go_enter Tryd.func23, Tryd.ntmps23
          go_wp2_with fail
          refine (hc.out _).mono ?_
          rintro e w1 ⟨rfl, u⟩
          have k0 : EntAt w1 w.heap.size true false true f := u.at (heap_alloc_last w _) id
          have k1 := k0.range 0 _ rfl
          have k2 := k0.range 1 _ rfl
          have k3 := k0.range 2 _ rfl
          have k4 := k0.range 3 _ rfl
          have U := Lib.hid (((Upd.refl _ _).alloc _).trans u)
          clear u k0
          go_wp2
          go_ret2
          exact ⟨by rw [hv.out]; rfl, U.out⟩
      · obtain rfl : t = false := by simpa using hrt
        have hv := Lib.hid (show 256 * f + 1 + bI true 2 + bI false 4 = 1 + 256 * f + 2 from by simp [bI]; omega)
        go_enter Tryd.func23, Tryd.ntmps23
        go_wp2_with fail
        refine (hc.out _).mono ?_
        rintro e w1 ⟨rfl, u⟩
        have k0 : EntAt w1 w.heap.size true true false f := u.at (heap_alloc_last w _) id
        have k1 := k0.range 0 _ rfl
        have k2 := k0.range 1 _ rfl
        have k3 := k0.range 2 _ rfl
        have k4 := k0.range 3 _ rfl
        have U := Lib.hid (((Upd.refl _ _).alloc _).trans u)
        clear u k0
        go_wp2
        go_ret2
        exact ⟨by rw [hv.out]; rfl, U.out⟩

set_option maxHeartbeats 400000 in
theorem rindex_any (q l : Int) (w : World) :
    Calls Tryd.prog 35 #[.int .i64 q, .int .i64 l] w fun e w' => e = .returned (.tuple #[.int .i64 (idxI q l), .int .i64 (errB (idxB q l))]) ∧ w = w' := by
  cases h : idxB q l
  · have e : idxI q l = 0 := by unfold idxI; rw [if_neg (by rw [h]; decide)]
    rw [e, show errB false = 1 from rfl]
    have h := of_decide_eq_false h
    clear e
    by_cases h1 : q < 0
    · clear h
      go_enter Tryd.func35, Tryd.ntmps35
      go_wp2
      go_ret2
      exact ⟨rfl, rfl⟩
    · by_cases h2 : 4095 < q
      · clear h
        go_enter Tryd.func35, Tryd.ntmps35
        go_wp2
        go_ret2
        exact ⟨rfl, rfl⟩
      · by_cases h3 : l < 0
        · clear h
          go_enter Tryd.func35, Tryd.ntmps35
          go_wp2
          go_ret2
          exact ⟨rfl, rfl⟩
        · have h4 : 2 < l := by omega
          clear h
          go_enter Tryd.func35, Tryd.ntmps35
          go_wp2
          go_ret2
          exact ⟨rfl, rfl⟩
  · obtain ⟨h1, h2, h3, h4⟩ := of_decide_eq_true h
    have e : idxI q l = (if l = 0 then q / 256 else if l = 1 then q / 16 % 16 else q % 16) := by unfold idxI; rw [if_pos h]
    rw [e, show errB true = 0 from rfl]
    clear h e
    by_cases l0 : l = 0
    · rw [if_pos l0]
      subst l0
      go_enter Tryd.func35, Tryd.ntmps35
      go_wp2
      go_ret2
      exact ⟨rfl, rfl⟩
    · rw [if_neg l0]
      by_cases l1 : l = 1
      · rw [if_pos l1]
        subst l1
        go_enter Tryd.func35, Tryd.ntmps35
        go_wp2
        go_ret2
        exact ⟨rfl, rfl⟩
      · rw [if_neg l1]
        obtain rfl : l = 2 := by omega
        go_enter Tryd.func35, Tryd.ntmps35
        go_wp2
        go_ret2
        exact ⟨rfl, rfl⟩
end Go.Proofs.YtbakhipabeaojaaDoor
