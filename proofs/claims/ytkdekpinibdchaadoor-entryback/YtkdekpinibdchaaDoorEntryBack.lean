/-
  Proved: trunnionlaw06.EntryBack answers true for every input: entries are read of their words as they were; what is read has just that word.
  Conditions: package entry's table of fields starts as the program's text lays it (the card ties it).
-/
import Derived.Test.YtkdekpinibdchaaDoorCards
import Derived.Test.YtkdekpinibdchaaDoorTie
import Derived.Test.YtkdekpinibdchaaDoorLaid
import Derived.SevenTiedAt
import Derived.LaidMore
import Derived.Stop.Joined
import Derived.Test.YtkdekpinibdchaaDoorEnL
import Derived.Test.YtkdekpinibdchaaDoorFrame
namespace Go.Proofs.YtkdekpinibdchaaDoor.entryBack
open Go.ChangeShapes Go.WideShapes Go.ChangeAt Go.RowKit

/-- an entry's word is read as the entry -/
theorem back {v r t : Bool} {f : Int} (h : rightB v r t f = true) : ofB (wordI v r t f) = true ∧ pV (wordI v r t f) = v ∧ pR (wordI v r t f) = r ∧ pT (wordI v r t f) = t ∧ pF (wordI v r t f) = f := by
  cases v
  · obtain ⟨⟨rfl, rfl⟩, rfl⟩ : (r = false ∧ t = false) ∧ f = 0 := by simpa [rightB] using h
    decide
  · have h' : (0 ≤ f ∧ f ≤ 255) ∧ (r && t) = false := by revert h; cases r <;> cases t <;> simp [rightB]
    have e := wordI_yes h
    have e1 : pV (wordI true r t f) = true := by rw [e]; simp [pV]; cases r <;> cases t <;> simp [bI] <;> omega
    have e2 : pR (wordI true r t f) = r := by rw [e]; cases r <;> cases t <;> simp [bI, pR] <;> omega
    have e3 : pT (wordI true r t f) = t := by
      rw [e]
      cases r
      · cases t <;> simp [bI, pT] <;> omega
      · obtain rfl : t = false := by simpa using h'.2
        simp [bI, pT]; omega
    have e4 : pF (wordI true r t f) = f := by
      rw [e]
      have b1 := bI_bd r 2 (by omega)
      have b2 := bI_bd t 4 (by omega)
      unfold pF; omega
    refine ⟨?_, e1, e2, e3, e4⟩
    unfold ofB
    rw [e1, e2, e3, e4, h, decide_eq_true rfl]
    rfl
theorem word_bd (v r t : Bool) (f : Int) : 0 ≤ wordI v r t f ∧ wordI v r t f ≤ 65535 := by
  cases h : rightB v r t f
  · rw [wordI_no h]; omega
  · cases v
    · simp [wordI]
    · have h' : (0 ≤ f ∧ f ≤ 255) ∧ (r && t) = false := by revert h; cases r <;> cases t <;> simp [rightB]
      have b1 := bI_bd r 2 (by omega)
      have b2 := bI_bd t 4 (by omega)
      rw [wordI_yes h]; omega
theorem pF_bd (x : Int) : 0 ≤ pF x ∧ pF x ≤ 255 := by unfold pF; omega
theorem ofF_bd (x : Int) : 0 ≤ ofF x ∧ ofF x ≤ 255 := by
  have := pF_bd x
  unfold ofF; split <;> omega
set_option maxHeartbeats 4000000 in
theorem walk (v r t : Bool) (f x : Int) (w0 : (Lit.int .i64 f).wf = true) (w1 : (Lit.int .u64 x).wf = true) (w : World) (T0 : Fr.VarIs w 0 (Fr.datCells (Rows.laid_trunnion_entry_fields (H := Unit)))) :
    Calls Tryd.prog 5 #[.agg #[.bool v, .bool r, .bool t, .int .i64 f], .int .u64 x] w fun e w' => e = .returned (.bool true) ∧ Below w.heap.size w w' := by
  have T := tab_of T0
  clear T0
  have hb := bounds_u64 w1
  have hwb := word_bd v r t f
  have hfb := ofF_bd x
  have c1 := Lib.hid (fun W (T : Tab W) => eword_any v r t f W T w0)
  have c2 := Lib.hid (fun W (T : Tab W) => eof_any (wordI v r t f) W T (by omega) (by omega))
  have c3 := Lib.hid (fun W (T : Tab W) => eof_any x W T (by omega) (by omega))
  have c4 := Lib.hid (fun W (T : Tab W) => eword_any (ofV x) (ofR x) (ofT x) (ofF x) W T (mk_i64 (by omega) (by omega)))
  have hlast : ofB x = true → wordE (ofV x) (ofR x) (ofT x) (ofF x) = 0 ∧ wordI (ofV x) (ofR x) (ofT x) (ofF x) = x := by
    intro h
    have h2 : ofV x = pV x ∧ ofR x = pR x ∧ ofT x = pT x ∧ ofF x = pF x := by unfold ofV ofR ofT ofF; rw [h]; simp
    rw [h2.1, h2.2.1, h2.2.2.1, h2.2.2.2]
    unfold ofB at h
    rw [Bool.and_eq_true, decide_eq_true_eq] at h
    exact ⟨by unfold wordE; rw [h.1]; rfl, h.2⟩
  have hfirst : rightB v r t f = true → wordE v r t f = 0 ∧ errB (ofB (wordI v r t f)) = 0 ∧ ofV (wordI v r t f) = v ∧ ofR (wordI v r t f) = r ∧ ofT (wordI v r t f) = t ∧ ofF (wordI v r t f) = f := by
    intro h
    obtain ⟨g1, g2, g3, g4, g5⟩ := back h
    refine ⟨by unfold wordE; rw [h]; rfl, by rw [g1]; rfl, ?_, ?_, ?_, ?_⟩
    · unfold ofV; rw [g1, g2]; rfl
    · unfold ofR; rw [g1, g3]; rfl
    · unfold ofT; rw [g1, g4]; rfl
    · unfold ofF; rw [if_pos g1, g5]
  have hno : rightB v r t f = false → wordE v r t f = 1 := fun h => by unfold wordE; rw [h]; rfl
  have hfirst := Lib.hid hfirst
  have hlast := Lib.hid hlast
  have hno := Lib.hid hno
  clear w0 w1 hb hwb hfb
  obtain ⟨X, hX⟩ : ∃ z, z = wordI v r t f := ⟨_, rfl⟩
  rw [← hX] at c1 c2 hfirst
  clear hX
  obtain ⟨yv, hyv⟩ : ∃ z, z = ofV X := ⟨_, rfl⟩
  obtain ⟨yr, hyr⟩ : ∃ z, z = ofR X := ⟨_, rfl⟩
  obtain ⟨yt, hyt⟩ : ∃ z, z = ofT X := ⟨_, rfl⟩
  obtain ⟨yf, hyf⟩ : ∃ z, z = ofF X := ⟨_, rfl⟩
  obtain ⟨ye, hye⟩ : ∃ z, z = errB (ofB X) := ⟨_, rfl⟩
  rw [← hyv, ← hyr, ← hyt, ← hyf, ← hye] at c2 hfirst
  clear hyv hyr hyt hyf hye
  obtain ⟨zv, hzv⟩ : ∃ z, z = ofV x := ⟨_, rfl⟩
  obtain ⟨zr, hzr⟩ : ∃ z, z = ofR x := ⟨_, rfl⟩
  obtain ⟨zt, hzt⟩ : ∃ z, z = ofT x := ⟨_, rfl⟩
  obtain ⟨zf, hzf⟩ : ∃ z, z = ofF x := ⟨_, rfl⟩
  rw [← hzv, ← hzr, ← hzt, ← hzf] at c3 c4 hlast
  clear hzv hzr hzt hzf
  obtain ⟨V, hV⟩ : ∃ z, z = wordI zv zr zt zf := ⟨_, rfl⟩
  obtain ⟨I, hI⟩ : ∃ z, z = wordE zv zr zt zf := ⟨_, rfl⟩
  rw [← hV, ← hI] at c4 hlast
  clear hV hI
  cases hq : ofB x
  · rw [hq, show errB false = 1 from rfl] at c3
    clear hq hlast
    cases hr : rightB v r t f
    · rw [hno.out hr] at c1
      clear hr hno hfirst
      go_enter Tryd.func5, Tryd.ntmps5
      go_wp2_with fail
      refine (eawake_any _ (T.kept ((Upd.refl _ _).alloc _))).mono ?_
      rintro e wa ⟨rfl, u⟩
      have k0 : Hid (EntAt wa w.heap.size v r t f) := Lib.hid (u.at (heap_alloc_last w _) id)
      have U : Upd (fun _ => False) w wa := ((Upd.refl _ _).alloc _).trans u
      clear u
      obtain ⟨B, hB⟩ : ∃ B, B = w.heap.size := ⟨_, rfl⟩
      rw [← hB] at k0 ⊢
      have hB' := Lib.hid hB
      clear hB
      go_wp2_with (with_reducible refine wpList_load_sz rfl 23 (.tmp 2) rfl B 0 rfl [.bool v, .bool r, .bool t, .int .i64 f] _ k0.out.range Tryd.underlying23 rfl 4 (ent_len _ _ _ _) size_ent ?_)
      refine (c1.out _ (T.kept U)).mono ?_
      rintro e wb ⟨rfl, u⟩
      have k1 : Hid (EntAt wb B v r t f) := Lib.hid (k0.out.kept u id)
      have U1 := U.trans u
      clear u k0 U
      go_wp2_with fail
      refine (c2.out _ (T.kept U1)).mono ?_
      rintro e wc ⟨rfl, u⟩
      have k2 : Hid (EntAt wc B v r t f) := Lib.hid (k1.out.kept u id)
      have U2 := U1.trans u
      clear u k1 U1
      have k3 : Hid (EntAt (wc.alloc (.cells #[.bool yv, .bool yr, .bool yt, .int .i64 yf] 23)) B v r t f) := Lib.hid (k2.out.kept ((Upd.refl (fun _ => False) _).alloc _) id)
      have k4 : Hid (EntAt (wc.alloc (.cells #[.bool yv, .bool yr, .bool yt, .int .i64 yf] 23)) wc.heap.size yv yr yt yf) := Lib.hid (heap_alloc_last wc _)
      go_wp2_with (first
        | (with_reducible refine wpList_load_sz rfl 23 (.tmp 2) rfl B 0 rfl [.bool v, .bool r, .bool t, .int .i64 f] _ k3.out.range Tryd.underlying23 rfl 4 (ent_len _ _ _ _) size_ent ?_)
        | (with_reducible refine wpList_load_sz rfl 23 (.tmp 8) rfl wc.heap.size 0 rfl [.bool yv, .bool yr, .bool yt, .int .i64 yf] _ k4.out.range Tryd.underlying23 rfl 4 (ent_len _ _ _ _) size_ent ?_))
      refine (c3.out _ (T.kept (U2.alloc _))).mono ?_
      rintro e wd ⟨rfl, u⟩
      have U3 := (U2.alloc _).trans u
      clear u k2 k3 k4 U2
      have k5 : Hid (EntAt (wd.alloc (.cells #[.bool zv, .bool zr, .bool zt, .int .i64 zf] 23)) wd.heap.size zv zr zt zf) := Lib.hid (heap_alloc_last wd _)
      go_wp2_with (with_reducible refine wpList_load_sz rfl 23 (.tmp 10) rfl wd.heap.size 0 rfl [.bool zv, .bool zr, .bool zt, .int .i64 zf] _ k5.out.range Tryd.underlying23 rfl 4 (ent_len _ _ _ _) size_ent ?_)
      refine (c4.out _ (T.kept (U3.alloc _))).mono ?_
      rintro e we ⟨rfl, u⟩
      have U4 := (U3.alloc _).trans u
      clear u k5 U3
      go_wp2
      go_ret
      exact ⟨rfl, U4.below (Nat.le_refl _) fun _ _ => id⟩
    · obtain ⟨g1, rfl, rfl, rfl, rfl, rfl⟩ := hfirst.out hr
      rw [g1] at c1
      have he := run_eqE yv yr yt yf yv yr yt yf true (by simp)
      clear hr hno hfirst g1
      go_enter Tryd.func5, Tryd.ntmps5
      go_wp2_with fail
      refine (eawake_any _ (T.kept ((Upd.refl _ _).alloc _))).mono ?_
      rintro e wa ⟨rfl, u⟩
      have k0 : Hid (EntAt wa w.heap.size yv yr yt yf) := Lib.hid (u.at (heap_alloc_last w _) id)
      have U : Upd (fun _ => False) w wa := ((Upd.refl _ _).alloc _).trans u
      clear u
      obtain ⟨B, hB⟩ : ∃ B, B = w.heap.size := ⟨_, rfl⟩
      rw [← hB] at k0 ⊢
      have hB' := Lib.hid hB
      clear hB
      go_wp2_with (with_reducible refine wpList_load_sz rfl 23 (.tmp 2) rfl B 0 rfl [.bool yv, .bool yr, .bool yt, .int .i64 yf] _ k0.out.range Tryd.underlying23 rfl 4 (ent_len _ _ _ _) size_ent ?_)
      refine (c1.out _ (T.kept U)).mono ?_
      rintro e wb ⟨rfl, u⟩
      have k1 : Hid (EntAt wb B yv yr yt yf) := Lib.hid (k0.out.kept u id)
      have U1 := U.trans u
      clear u k0 U
      go_wp2_with fail
      refine (c2.out _ (T.kept U1)).mono ?_
      rintro e wc ⟨rfl, u⟩
      have k2 : Hid (EntAt wc B yv yr yt yf) := Lib.hid (k1.out.kept u id)
      have U2 := U1.trans u
      clear u k1 U1
      have k3 : Hid (EntAt (wc.alloc (.cells #[.bool yv, .bool yr, .bool yt, .int .i64 yf] 23)) B yv yr yt yf) := Lib.hid (k2.out.kept ((Upd.refl (fun _ => False) _).alloc _) id)
      have k4 : Hid (EntAt (wc.alloc (.cells #[.bool yv, .bool yr, .bool yt, .int .i64 yf] 23)) wc.heap.size yv yr yt yf) := Lib.hid (heap_alloc_last wc _)
      go_wp2_with (first
        | (with_reducible refine wpList_load_sz rfl 23 (.tmp 2) rfl B 0 rfl [.bool yv, .bool yr, .bool yt, .int .i64 yf] _ k3.out.range Tryd.underlying23 rfl 4 (ent_len _ _ _ _) size_ent ?_)
        | (with_reducible refine wpList_load_sz rfl 23 (.tmp 8) rfl wc.heap.size 0 rfl [.bool yv, .bool yr, .bool yt, .int .i64 yf] _ k4.out.range Tryd.underlying23 rfl 4 (ent_len _ _ _ _) size_ent ?_))
      refine (c3.out _ (T.kept (U2.alloc _))).mono ?_
      rintro e wd ⟨rfl, u⟩
      have U3 := (U2.alloc _).trans u
      clear u k2 k3 k4 U2
      have k5 : Hid (EntAt (wd.alloc (.cells #[.bool zv, .bool zr, .bool zt, .int .i64 zf] 23)) wd.heap.size zv zr zt zf) := Lib.hid (heap_alloc_last wd _)
      go_wp2_with (with_reducible refine wpList_load_sz rfl 23 (.tmp 10) rfl wd.heap.size 0 rfl [.bool zv, .bool zr, .bool zt, .int .i64 zf] _ k5.out.range Tryd.underlying23 rfl 4 (ent_len _ _ _ _) size_ent ?_)
      refine (c4.out _ (T.kept (U3.alloc _))).mono ?_
      rintro e we ⟨rfl, u⟩
      have U4 := (U3.alloc _).trans u
      clear u k5 U3
      go_wp2
      go_ret
      exact ⟨rfl, U4.below (Nat.le_refl _) fun _ _ => id⟩
  · rw [hq, show errB true = 0 from rfl] at c3
    obtain ⟨q1, q2⟩ := hlast.out hq
    rw [q1, q2] at c4
    clear hq hlast q1 q2
    cases hr : rightB v r t f
    · rw [hno.out hr] at c1
      clear hr hno hfirst
      go_enter Tryd.func5, Tryd.ntmps5
      go_wp2_with fail
      refine (eawake_any _ (T.kept ((Upd.refl _ _).alloc _))).mono ?_
      rintro e wa ⟨rfl, u⟩
      have k0 : Hid (EntAt wa w.heap.size v r t f) := Lib.hid (u.at (heap_alloc_last w _) id)
      have U : Upd (fun _ => False) w wa := ((Upd.refl _ _).alloc _).trans u
      clear u
      obtain ⟨B, hB⟩ : ∃ B, B = w.heap.size := ⟨_, rfl⟩
      rw [← hB] at k0 ⊢
      have hB' := Lib.hid hB
      clear hB
      go_wp2_with (with_reducible refine wpList_load_sz rfl 23 (.tmp 2) rfl B 0 rfl [.bool v, .bool r, .bool t, .int .i64 f] _ k0.out.range Tryd.underlying23 rfl 4 (ent_len _ _ _ _) size_ent ?_)
      refine (c1.out _ (T.kept U)).mono ?_
      rintro e wb ⟨rfl, u⟩
      have k1 : Hid (EntAt wb B v r t f) := Lib.hid (k0.out.kept u id)
      have U1 := U.trans u
      clear u k0 U
      go_wp2_with fail
      refine (c2.out _ (T.kept U1)).mono ?_
      rintro e wc ⟨rfl, u⟩
      have k2 : Hid (EntAt wc B v r t f) := Lib.hid (k1.out.kept u id)
      have U2 := U1.trans u
      clear u k1 U1
      have k3 : Hid (EntAt (wc.alloc (.cells #[.bool yv, .bool yr, .bool yt, .int .i64 yf] 23)) B v r t f) := Lib.hid (k2.out.kept ((Upd.refl (fun _ => False) _).alloc _) id)
      have k4 : Hid (EntAt (wc.alloc (.cells #[.bool yv, .bool yr, .bool yt, .int .i64 yf] 23)) wc.heap.size yv yr yt yf) := Lib.hid (heap_alloc_last wc _)
      go_wp2_with (first
        | (with_reducible refine wpList_load_sz rfl 23 (.tmp 2) rfl B 0 rfl [.bool v, .bool r, .bool t, .int .i64 f] _ k3.out.range Tryd.underlying23 rfl 4 (ent_len _ _ _ _) size_ent ?_)
        | (with_reducible refine wpList_load_sz rfl 23 (.tmp 8) rfl wc.heap.size 0 rfl [.bool yv, .bool yr, .bool yt, .int .i64 yf] _ k4.out.range Tryd.underlying23 rfl 4 (ent_len _ _ _ _) size_ent ?_))
      refine (c3.out _ (T.kept (U2.alloc _))).mono ?_
      rintro e wd ⟨rfl, u⟩
      have U3 := (U2.alloc _).trans u
      clear u k2 k3 k4 U2
      have k5 : Hid (EntAt (wd.alloc (.cells #[.bool zv, .bool zr, .bool zt, .int .i64 zf] 23)) wd.heap.size zv zr zt zf) := Lib.hid (heap_alloc_last wd _)
      go_wp2_with (with_reducible refine wpList_load_sz rfl 23 (.tmp 10) rfl wd.heap.size 0 rfl [.bool zv, .bool zr, .bool zt, .int .i64 zf] _ k5.out.range Tryd.underlying23 rfl 4 (ent_len _ _ _ _) size_ent ?_)
      refine (c4.out _ (T.kept (U3.alloc _))).mono ?_
      rintro e we ⟨rfl, u⟩
      have U4 := (U3.alloc _).trans u
      clear u k5 U3
      go_wp2
      go_ret
      exact ⟨rfl, U4.below (Nat.le_refl _) fun _ _ => id⟩
    · obtain ⟨g1, rfl, rfl, rfl, rfl, rfl⟩ := hfirst.out hr
      rw [g1] at c1
      have he := run_eqE yv yr yt yf yv yr yt yf true (by simp)
      clear hr hno hfirst g1
      go_enter Tryd.func5, Tryd.ntmps5
      go_wp2_with fail
      refine (eawake_any _ (T.kept ((Upd.refl _ _).alloc _))).mono ?_
      rintro e wa ⟨rfl, u⟩
      have k0 : Hid (EntAt wa w.heap.size yv yr yt yf) := Lib.hid (u.at (heap_alloc_last w _) id)
      have U : Upd (fun _ => False) w wa := ((Upd.refl _ _).alloc _).trans u
      clear u
      obtain ⟨B, hB⟩ : ∃ B, B = w.heap.size := ⟨_, rfl⟩
      rw [← hB] at k0 ⊢
      have hB' := Lib.hid hB
      clear hB
      go_wp2_with (with_reducible refine wpList_load_sz rfl 23 (.tmp 2) rfl B 0 rfl [.bool yv, .bool yr, .bool yt, .int .i64 yf] _ k0.out.range Tryd.underlying23 rfl 4 (ent_len _ _ _ _) size_ent ?_)
      refine (c1.out _ (T.kept U)).mono ?_
      rintro e wb ⟨rfl, u⟩
      have k1 : Hid (EntAt wb B yv yr yt yf) := Lib.hid (k0.out.kept u id)
      have U1 := U.trans u
      clear u k0 U
      go_wp2_with fail
      refine (c2.out _ (T.kept U1)).mono ?_
      rintro e wc ⟨rfl, u⟩
      have k2 : Hid (EntAt wc B yv yr yt yf) := Lib.hid (k1.out.kept u id)
      have U2 := U1.trans u
      clear u k1 U1
      have k3 : Hid (EntAt (wc.alloc (.cells #[.bool yv, .bool yr, .bool yt, .int .i64 yf] 23)) B yv yr yt yf) := Lib.hid (k2.out.kept ((Upd.refl (fun _ => False) _).alloc _) id)
      have k4 : Hid (EntAt (wc.alloc (.cells #[.bool yv, .bool yr, .bool yt, .int .i64 yf] 23)) wc.heap.size yv yr yt yf) := Lib.hid (heap_alloc_last wc _)
      go_wp2_with (first
        | (with_reducible refine wpList_load_sz rfl 23 (.tmp 2) rfl B 0 rfl [.bool yv, .bool yr, .bool yt, .int .i64 yf] _ k3.out.range Tryd.underlying23 rfl 4 (ent_len _ _ _ _) size_ent ?_)
        | (with_reducible refine wpList_load_sz rfl 23 (.tmp 8) rfl wc.heap.size 0 rfl [.bool yv, .bool yr, .bool yt, .int .i64 yf] _ k4.out.range Tryd.underlying23 rfl 4 (ent_len _ _ _ _) size_ent ?_))
      refine (c3.out _ (T.kept (U2.alloc _))).mono ?_
      rintro e wd ⟨rfl, u⟩
      have U3 := (U2.alloc _).trans u
      clear u k2 k3 k4 U2
      have k5 : Hid (EntAt (wd.alloc (.cells #[.bool zv, .bool zr, .bool zt, .int .i64 zf] 23)) wd.heap.size zv zr zt zf) := Lib.hid (heap_alloc_last wd _)
      go_wp2_with (with_reducible refine wpList_load_sz rfl 23 (.tmp 10) rfl wd.heap.size 0 rfl [.bool zv, .bool zr, .bool zt, .int .i64 zf] _ k5.out.range Tryd.underlying23 rfl 4 (ent_len _ _ _ _) size_ent ?_)
      refine (c4.out _ (T.kept (U3.alloc _))).mono ?_
      rintro e we ⟨rfl, u⟩
      have U4 := (U3.alloc _).trans u
      clear u k5 U3
      go_wp2
      go_ret
      exact ⟨rfl, U4.below (Nat.le_refl _) fun _ _ => id⟩
/-! ### the row's frame, and its tied card -/
theorem own : ownKnob Tryd.prog.godebug = none := by kernel_rfl
theorem laidOut : laidOutB Tryd.prog = true := by kernel_rfl
/-- the door's own heap meets the condition -/
theorem door_met (os : Os) (args : Array Value) : laidMetH Tryd.prog Rows.entryBackRow.laid ((World.doorLaid Tryd.prog 400 os).forCall (fun _ _ => 0) ⟨#[], args, []⟩).memory :=
  laidMetH_of_parts3 (fuel := 8) (laidMet_of_run' 8 (by kernel_rfl) (by kernel_rfl)) (by kernel_rfl) (by kernel_rfl)
set_option linter.unusedVariables false in
set_option maxRecDepth 100000 in
theorem lifted (os : Os) (started : os.Started) (H : Type) (enc : TypeId × Value → H) :
    ReturnsInHanded {} Tryd.checked os 5 .any (fun w args => (Rows.entryBackSpec.pre enc Tryd.prog Tryd.f5 [] false w args ∧ laidMetH Tryd.prog Rows.entryBackRow.laid w) ∧ sizedMet enc Tryd.prog Tryd.f5 (OpenSpec.ofChange Rows.entryBackSpec) false w args)
      (Rows.entryBackSpec.post enc Tryd.prog Tryd.f5 false true false false) := by
  refine returnsInHanded_of_change_and (C := Tryd.checked) (X := fun w _ => laidMetH Tryd.prog Rows.entryBackRow.laid w) (fun _ _ _ hh h => h.of_heap hh) own started (by kernel_rfl) Tryd.func5
    (ChangeSpec.witness_shaped (enc := enc) (C := Tryd.checked) (os := os) (X := fun w _ => laidMetH Tryd.prog Rows.entryBackRow.laid w) false (World.doorLaid Tryd.prog 400 os) #[.agg #[.bool false, .bool false, .bool false, .int .i64 0], .int .u64 0] 8 rfl (World.shaped_of_RefB (by kernel_rfl) (by kernel_rfl)) (by kernel_rfl) (by kernel_rfl) (by kernel_rfl) (door_met os _)) ?_
  intro W base args ds gs before hval0 hW _ _ hL _
  have hLd := hL
  rw [MakeChecks.laidMetH_plain _ _ _ (by kernel_rfl)] at hLd
  have T0 : Fr.VarIs W 0 (Fr.datCells (Rows.laid_trunnion_entry_fields (H := Unit))) := Fr.varIs_of_laid (t := 49) (ks := [some .i64, some .i64, some .i64, some .i64, some .i64, some .i64, some .i64, some .i64, some .i64, some .i64, some .i64, some .i64, some .i64, some .i64, some .i64, some .i64, some .i64, some .i64]) 12 (hLd : laidMet Tryd.prog Rows.entryBackRow.laid W) "trunnion/entry.fields" (Rows.laid_trunnion_entry_fields (H := Unit)) (by simp [Rows.entryBackRow]) (by kernel_rfl) (by kernel_rfl) (by kernel_rfl)
  clear hL hLd
  have hval : ∀ (j : Nat) t v, Tryd.f5.params[j]? = some t → args[j]? = some v → Value.okWide Tryd.prog W .any base t v := hval0
  have hW' := hW
  obtain ⟨p, q, hA0, hV, rfl, hfz, hnd⟩ := hW
  have hA : DataW.TrodAll enc Tryd.prog W 0 (fun _ => true) true Tryd.f5.params.toList args.toList ds p := hA0
  rw [Tryd.params5] at hA hval
  obtain ⟨v0, vs0, d0, ds0, p0, q0, hargs, rfl, rfl, h0, r0⟩ := trodAll_cons hA
  obtain ⟨v1, vs1, d1, ds1, p1, q1, rfl, rfl, rfl, h1, r1⟩ := trodAll_cons r0
  obtain ⟨rfl, rfl, rfl⟩ := trodAll_nil r1
  obtain rfl : args = #[v0, v1] := by cases args; simp_all
  obtain ⟨rfl, rfl⟩ := trodVars_none hV
  have k0 := h0
  have lt0 : ∀ x ∈ p0, x.block < W.heap.size := by obtain ⟨m, hm⟩ := k0; exact DataW.trod_lt m _ _ _ hm
  obtain ⟨cs0, rfl, o0⟩ := Fr.open_flat 12 [none, none, none, some .i64] Tryd.underlying23 (by kernel_rfl) (hval 0 23 v0 rfl rfl) h0
  obtain ⟨c0_0, c0_1, c0_2, c0_3, rfl⟩ := Fr.cells4 o0.1
  obtain ⟨a0_0, rfl⟩ := o0.2 0 _ _ rfl rfl
  obtain ⟨a0_1, rfl⟩ := o0.2 1 _ _ rfl rfl
  obtain ⟨a0_2, rfl⟩ := o0.2 2 _ _ rfl rfl
  obtain ⟨a0_3, rfl, w0_3⟩ := o0.2 3 _ _ rfl rfl
  have k1 := h1
  have lt1 : ∀ x ∈ p1, x.block < W.heap.size := by obtain ⟨m, hm⟩ := k1; exact DataW.trod_lt m _ _ _ hm
  obtain ⟨a1, rfl, rfl, rfl, w1⟩ := open_int Tryd.underlying24 (hval 1 24 v1 rfl rfl) h1
  clear hA0 hval0
  refine (walk a0_0 a0_1 a0_2 a0_3 a1 w0_3 w1 W  T0).mono fun e W' ⟨he, bel⟩ => ?_
  subst he
  exact ⟨_, rfl, _, _, _, [], _, [], hW', trodAll_mk1 (shut_bool Tryd.underlying4 _), (trodAll_cons_mk (Below.trod laidOut (by kernel_rfl) (of_decide_eq_true (by kernel_rfl)) k0 bel lt0) (trodAll_cons_mk (Below.trod laidOut (by kernel_rfl) (of_decide_eq_true (by kernel_rfl)) k1 bel lt1) trodAll_mk0)), rfl, bel.frame _, fun h => by cases h⟩

theorem over : Rows.entryBackRow.holds Tryd.pinned (OpenSpec.ofChange Rows.entryBackSpec) :=
  OpenClaim.holds_of_wide 5 Tryd.f5 rfl rfl rfl rfl rfl rfl rfl ⟨rfl, rfl, rfl, rfl, rfl⟩ rfl rfl rfl rfl rfl (by kernel_rfl) Tryd.func5 (by kernel_rfl)
    (of_decide_eq_true (by kernel_rfl)) (by unfold Func.isWrapper; first | (rw [if_pos (by decide +kernel)]; kernel_rfl) | (rw [if_neg (by decide +kernel)]; exact ⟨rfl, rfl⟩))
    (fun os started H enc _ => lifted os started H enc)

theorem proved : Rows.EntryBackCardSaid :=
  Claim7.holds_tied_plain_at .later [] [.data] true (true, "5a5b16462b36004e53af97d1813fe82f08f6979989b9e70f3e183766d9c78ac0") false
    over (fun _ h => by cases h) (by kernel_rfl) (fun _ h => by cases h) entryBack_row_tie rfl ⟨rfl, rfl⟩ (by kernel_rfl) rfl
    (fun f fn hf hfn => by
      obtain rfl : f = 5 := Option.some.inj ((show Tryd.prog.funcNamed "trunnion/trunnionlaw06.EntryBack" = some 5 by kernel_rfl).symm.trans hf) |>.symm
      obtain rfl : fn = Tryd.f5 := (Option.some.inj (Tryd.func5.symm.trans hfn)).symm
      exact ⟨by kernel_rfl, fun j t ht => by
        rw [Tryd.params5] at ht
        have hm : t ∈ [23, 24] := by simpa using Array.mem_of_getElem? ht
        have hall : ([23, 24].all fun u => !Tryd.prog.wantsStandIn u) = true := by kernel_rfl
        exact (show Tryd.prog.wantsStandIn t = false by simpa using List.all_eq_true.1 hall t hm)⟩)
    (by kernel_rfl)
end Go.Proofs.YtkdekpinibdchaaDoor.entryBack
