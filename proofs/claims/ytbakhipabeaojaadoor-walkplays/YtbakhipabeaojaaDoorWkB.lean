/-
  Contracts of package walk: Put, Blank.
-/
import Derived.Test.YtbakhipabeaojaaDoorWkA
namespace Go.Proofs.YtbakhipabeaojaaDoor
open Go.ChangeShapes Go.WideShapes Go.ChangeAt Go.RowKit

set_option maxHeartbeats 1000000 in
theorem wput_any (A : Nat) (m : Mem) (f p : Int) (E : En) (w : World) (h : MemAt w A m) (T : Tab w) (hw : (Lit.int .i64 E.f).wf = true) :
    Calls Tryd.prog 14 #[.pointer (some ⟨A, 0, none⟩), .int .i64 f, .int .i64 p, E.val] w fun e w' => e = .returned (.int .i64 (errB (m.putB f p E))) ∧ MemAt w' A (m.put f p E) ∧ Upd (· = m.B) w w' := by
  have c0 := Lib.hid (fun W (T : Tab W) => eword_any E.v E.r E.t E.f W T hw)
  have c1 := Lib.hid (fun W (h : MemAt W A m) => wexists_any A m f W h)
  have c2 := Lib.hid (fun W => wisPlace_any p W)
  have hP : Hid (m.put f p E = if m.putB f p E = true then m.wr (f * 16 + p) (wordI E.v E.r E.t E.f) else m) := Lib.hid rfl
  have hQ : Hid (m.putB f p E = (m.ex f 1 && plB p && rightB E.v E.r E.t E.f)) := Lib.hid rfl
  unfold wordE at c0
  clear hw
  obtain ⟨v, r, t, g⟩ := E
  simp only at c0 hP hQ
  generalize wordI v r t g = x at c0 hP
  cases hr : rightB v r t g
  · rw [hr, Bool.and_false] at hQ
    rw [hQ.out] at hP
    rw [hr] at c0
    rw [hQ.out]
    clear hQ hr c1 c2
    go_enter Tryd.func14, Tryd.ntmps14
    go_wp2_with fail
    refine (c0.out _ (T.kept ((Upd.refl _ _).alloc _))).mono ?_
    rintro e w1 ⟨rfl, u⟩
    have U := Lib.hid (((Upd.refl (fun _ => False) w).alloc _).trans u)
    clear u
    rw [show errB false = 1 from rfl]
    go_wp2
    go_ret
    exact ⟨rfl, by rw [hP.out]; exact h.kept U.out id id, U.out.none⟩
  · rw [hr, Bool.and_true] at hQ
    rw [hr] at c0
    clear hr
    cases he : m.ex f 1
    · rw [he, Bool.false_and] at hQ
      rw [hQ.out] at hP
      rw [he] at c1
      rw [hQ.out]
      clear hQ he c2
      go_enter Tryd.func14, Tryd.ntmps14
      go_wp2_with fail
      refine (c0.out _ (T.kept ((Upd.refl _ _).alloc _))).mono ?_
      rintro e w1 ⟨rfl, u⟩
      have U := Lib.hid (((Upd.refl (fun _ => False) w).alloc _).trans u)
      clear u
      rw [show errB true = 0 from rfl]
      go_wp2_with fail
      refine (c1.out _ (h.kept U.out id id)).mono ?_
      rintro e w2 ⟨rfl, rfl⟩
      go_wp2
      go_ret
      exact ⟨rfl, by rw [hP.out]; exact h.kept U.out id id, U.out.none⟩
    · rw [he, Bool.true_and] at hQ
      rw [he] at c1
      cases hp : plB p
      · rw [hp] at hQ c2
        rw [hQ.out] at hP
        rw [hQ.out]
        clear hQ he hp
        go_enter Tryd.func14, Tryd.ntmps14
        go_wp2_with fail
        refine (c0.out _ (T.kept ((Upd.refl _ _).alloc _))).mono ?_
        rintro e w1 ⟨rfl, u⟩
        have U := Lib.hid (((Upd.refl (fun _ => False) w).alloc _).trans u)
        clear u
        rw [show errB true = 0 from rfl]
        go_wp2_with fail
        refine (c1.out _ (h.kept U.out id id)).mono ?_
        rintro e w2 ⟨rfl, rfl⟩
        go_wp2_with fail
        refine (c2.out _).mono ?_
        rintro e w2 ⟨rfl, rfl⟩
        go_wp2
        go_ret
        exact ⟨rfl, by rw [hP.out]; exact h.kept U.out id id, U.out.none⟩
      · rw [hp] at hQ c2
        rw [hQ.out] at hP
        rw [hQ.out]
        have hs : m.slot f p = true := by unfold Mem.slot; rw [he, hp]; rfl
        have hi := (m.slot_iff f p).1 hs
        have hn := h.hi
        have c3 := Lib.hid (fun W => waddr_any f p W hi.1.1 (by omega) hi.2.1 hi.2.2)
        have c4 := Lib.hid (fun W (h : MemAt W A m) => write_any A m (f * 16 + p) x W h)
        rw [m.slot_has f p hs] at c4
        clear hQ he hp hi hn hs
        go_enter Tryd.func14, Tryd.ntmps14
        go_wp2_with fail
        refine (c0.out _ (T.kept ((Upd.refl _ _).alloc _))).mono ?_
        rintro e w1 ⟨rfl, u⟩
        have U := Lib.hid (((Upd.refl (fun _ => False) w).alloc _).trans u)
        clear u
        rw [show errB true = 0 from rfl]
        go_wp2_with fail
        refine (c1.out _ (h.kept U.out id id)).mono ?_
        rintro e w2 ⟨rfl, rfl⟩
        go_wp2_with fail
        refine (c2.out _).mono ?_
        rintro e w2 ⟨rfl, rfl⟩
        go_wp2_with fail
        refine (c3.out _).mono ?_
        rintro e w2 ⟨rfl, rfl⟩
        go_wp2_with fail
        refine (c4.out _ (h.kept U.out id id)).mono ?_
        rintro e w2 ⟨rfl, h2, u2⟩
        go_wp2
        go_ret
        exact ⟨rfl, by rw [hP.out]; exact h2, U.out.none.trans u2⟩

/-- a word is nought just if it is that of an entry that is not valid -/
theorem nought_iff (x : Int) (h0 : 0 ≤ x) : (ofB x = true ∧ ofV x = false) ↔ x = 0 := by
  constructor
  · rintro ⟨h1, h2⟩
    unfold ofV at h2
    rw [h1, Bool.true_and] at h2
    unfold ofB at h1
    rw [h2] at h1
    simp only [Bool.and_eq_true, decide_eq_true_eq] at h1
    obtain ⟨h3, h4⟩ := h1
    unfold wordI at h4
    rw [if_pos h3] at h4
    simpa using h4.symm
  · rintro rfl
    decide
/-- are the first k words of a frame noughts? -/
def Mem.blankTo (m : Mem) (f : Int) (k : Nat) : Prop := ∀ i : Nat, i < k → m.word f i = 0
theorem Mem.zero_blank (m : Mem) (hk : m.ok) (f : Int) (hf : m.ex f 1 = true) (h : m.blankTo f 16) : m.zero f = true := by
  refine m.zero_of hk f hf fun i hi => ?_
  have := h i hi
  unfold Mem.word at this
  obtain ⟨a1, a2, a3⟩ := of_decide_eq_true hf
  rwa [show (f * 16 + (i : Int)).toNat = f.toNat * 16 + i from by omega] at this
theorem Mem.zero_not (m : Mem) (f : Int) (i : Nat) (hi : i < 16) (hf : m.ex f 1 = true) (h : m.word f i ≠ 0) : m.zero f = false := by
  obtain ⟨a1, a2, a3⟩ := of_decide_eq_true hf
  unfold Mem.zero
  rw [hf, Bool.true_and, decide_eq_false_iff_not]
  intro e
  apply h
  unfold Mem.word
  rw [show (f * 16 + (i : Int)).toNat = f.toNat * 16 + i from by omega, ← m.fr_getD f.toNat i hi, e]
  exact getD_replicate0 16 i
theorem Mem.zero_none (m : Mem) (f : Int) (h : m.ex f 1 = false) : m.zero f = false := by unfold Mem.zero; rw [h]; rfl
theorem getX_zero {m : Mem} {f p : Int} (h : m.getX f p = 0) : m.slot f p = true ∧ ofB (m.word f p) = true := by
  unfold Mem.getX at h
  cases hs : m.slot f p
  · rw [hs] at h; simp at h
  · rw [hs] at h
    refine ⟨rfl, ?_⟩
    cases hb : ofB (m.word f p)
    · rw [hb] at h; simp at h
    · rfl
theorem getE_v {m : Mem} {f p : Int} (h : m.slot f p = true) : (m.getE f p).v = ofV (m.word f p) := by unfold Mem.getE; rw [if_pos h]; rfl
/-- what Blank asks of a place -/
theorem blank_at {m : Mem} (hg : m.good) (f : Int) (k : Nat) (hk : k < 16) : (m.getX f k = 0 ∧ (m.getE f k).v = false) ↔ (m.ex f 1 = true ∧ m.word f k = 0) := by
  have hp : plB k = true := decide_eq_true (by omega)
  constructor
  · rintro ⟨h1, h2⟩
    obtain ⟨h3, h4⟩ := getX_zero h1
    rw [getE_v h3] at h2
    refine ⟨?_, (nought_iff _ (hg _).1).1 ⟨h4, h2⟩⟩
    unfold Mem.slot at h3
    rw [hp, Bool.and_true] at h3
    exact h3
  · rintro ⟨h1, h2⟩
    have hs : m.slot f k = true := by unfold Mem.slot; rw [h1, hp]; rfl
    have := (nought_iff _ (hg (f * 16 + k).toNat).1).2 h2
    refine ⟨?_, by rw [getE_v hs]; exact this.2⟩
    unfold Mem.getX
    rw [if_pos hs]
    exact if_pos this.1
set_option maxHeartbeats 1000000 in
theorem wblank_any (A : Nat) (m : Mem) (f : Int) (w : World) (h : MemAt w A m) (T : Tab w) (hg : m.good) :
    Calls Tryd.prog 17 #[.pointer (some ⟨A, 0, none⟩), .int .i64 f] w fun e w' => e = .returned (.bool (m.zero f)) ∧ Upd (fun _ => False) w w' := by
  have c := Lib.hid (fun p W (h : MemAt W A m) (T : Tab W) => wget_any A m f p W h T hg)
  have hok := Lib.hid h.okm
  have hg' := Lib.hid hg
  clear hg
  go_enter Tryd.func17, Tryd.ntmps17
  go_wp2
  go_loopw [8] (fun t wr => ∃ k : Nat, k ≤ 16 ∧ t = .int .i64 k ∧ Upd (fun _ => False) w wr ∧ Hid (m.blankTo f k ∧ (0 < k → m.ex f 1 = true))) (fun t _ => 16 - (intOf t).toNat)
  case atStart => exact ⟨0, by omega, rfl, Upd.refl _ _, Lib.hid ⟨fun i hi => absurd hi (by omega), fun h => absurd h (by omega)⟩⟩
  case round =>
    obtain ⟨k, hk, rfl, hU, hb⟩ := hrel
    by_cases hlt : k < 16
    · have hb1 := Lib.hid (blank_at hg'.out f k hlt)
      have hM := h.kept hU id id
      have hT := T.kept hU
      have ck := Lib.hid (c.out k wr hM hT)
      obtain ⟨E, hE⟩ : ∃ E, E = m.getE f k := ⟨_, rfl⟩
      obtain ⟨x, hx⟩ : ∃ x, x = m.getX f k := ⟨_, rfl⟩
      rw [← hE, ← hx] at ck hb1
      clear hM hT hE hx
      obtain ⟨v, r, t, g⟩ := E
      go_wp2_with fail
      refine ck.out.mono ?_
      rintro e w1 ⟨rfl, u⟩
      have U := hU.trans u
      clear u hU ck c
      obtain ⟨a1, a2, a3, a4⟩ := ent_box w1 v r t g
      have A3 := Lib.hid a3
      have U2 := U.trans a2
      have b0 := a1.range 0 _ rfl
      clear a1 a2 a3 a4 U
      go_upto_region 5 with ((with_reducible refine wpList_store_sz rfl 35 (.tmp 6) (.tmp 16) rfl w1.heap.size 0 #[.bool v, .bool r, .bool t, .int .i64 g] rfl rfl 4 (ent_sz _ _ _ _) A3.out size_ent (ent_one _ _ _ _) [.bool v, .bool r, .bool t, .int .i64 g] (ent_ls _ _ _ _) ?_))
      generalize (w1.alloc (.cells #[.bool false, .bool false, .bool false, .int .i64 0] 35)).setCells w1.heap.size 0 [.bool v, .bool r, .bool t, .int .i64 g] = w2 at b0 U2 ⊢
      generalize w1.heap.size = C at b0 ⊢
      clear A3
      by_cases hx0 : x = 0
      · cases v
        · have hb2 := Lib.hid (hb1.out.1 ⟨hx0, rfl⟩)
          clear hb1
          subst hx0
          go_wp2
          refine ⟨⟨k + 1, by omega, by go_num, U2, Lib.hid ⟨fun i hi => ?_, fun _ => hb2.out.1⟩⟩, by simp [intOf]; omega⟩
          by_cases e : i = k
          · subst e; exact hb2.out.2
          · exact hb.out.1 i (by omega)
        · have hz : Hid (m.zero f = false) := Lib.hid (by
            cases hf : m.ex f 1
            · exact m.zero_none f hf
            · refine m.zero_not f k hlt hf fun e => ?_
              have := (hb1.out.2 ⟨hf, e⟩).2
              cases this)
          clear hb1 hb
          subst hx0
          go_wp2
          go_ret
          exact ⟨by rw [hz.out]; rfl, U2⟩
      · have hz : Hid (m.zero f = false) := Lib.hid (by
          cases hf : m.ex f 1
          · exact m.zero_none f hf
          · refine m.zero_not f k hlt hf fun e => ?_
            exact hx0 (hb1.out.2 ⟨hf, e⟩).1)
        clear hb1 hb
        go_wp2
        go_ret
        exact ⟨by rw [hz.out]; rfl, U2⟩
    · obtain rfl : k = 16 := by omega
      have hz := Lib.hid (m.zero_blank hok.out f (hb.out.2 (by omega)) hb.out.1)
      clear hb
      go_wp2
      go_ret
      exact ⟨by rw [hz.out]; rfl, hU⟩
end Go.Proofs.YtbakhipabeaojaaDoor
