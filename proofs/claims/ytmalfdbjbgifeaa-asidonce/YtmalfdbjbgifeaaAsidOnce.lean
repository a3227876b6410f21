/-
  Proved: trunnionlaw10.AsidOnce answers true for every input: no two that are given have the same number, and no tag is told twice; what was taken back lives no more.
  Conditions: none.
-/
import Derived.Deep.DeepCutAuto
import Derived.Deep.CutBlock
import Derived.Deep.RegionHeld3
import Derived.Test.YtmalfdbjbgifeaaPart2
namespace Go.Proofs.Ytmalfdbjbgifeaa.asidOnce
open Go.ChangeShapes Go.WideShapes Go.ChangeAt Go.RowKit Go.Maps
set_option linter.unusedVariables false
set_option linter.unusedSimpArgs false

/-- the law's state: the pool, the two lists of tags -/
structure OS (w wr : World) (N A B1 B2 n K : Nat) (p : Po) (Lv Td : List (Nat × Nat)) (s8 s9 : Value) : Prop where
  P : PoolAt wr A B1 B2 p
  I : TagInv n K p Lv Td
  rl : wr.ownsRow N 33 2 s8 Lv.length (listC tagC Lv)
  rt : wr.ownsRow N 33 2 s9 Td.length (listC tagC Td)
  ap : ∀ j, s8.ownBlock = some j → s9.ownBlock ≠ some j
  U : Upd (fun _ => False) w wr
  low : A < N ∧ B1 < N ∧ B2 < N
  own : w.heap.size ≤ B1 ∧ w.heap.size ≤ B2 ∧ w.heap.size ≤ N ∧ N ≤ wr.heap.size
theorem OS.still {w wr wx : World} {N A B1 B2 n K : Nat} {p : Po} {Lv Td : List (Nat × Nat)} {s8 s9 : Value} (h : OS w wr N A B1 B2 n K p Lv Td s8 s9) (u : Upd (fun _ => False) wr wx) : OS w wx N A B1 B2 n K p Lv Td s8 s9 :=
  ⟨h.P.still u, h.I, rows_still h.rl u, rows_still h.rt u, h.ap, h.U.trans u, h.low, h.own.1, h.own.2.1, h.own.2.2.1, Nat.le_trans h.own.2.2.2 u.size⟩
/-- the pool turned: the lists are as they were -/
theorem OS.turn {w wr wx : World} {N A B1 B2 n K : Nat} {p : Po} {Lv Td : List (Nat × Nat)} {s8 s9 : Value} (h : OS w wr N A B1 B2 n K p Lv Td s8 s9) (u : Upd (fun k => k = B1 ∨ k = B2) wr wx) :
    wx.ownsRow N 33 2 s8 Lv.length (listC tagC Lv) ∧ wx.ownsRow N 33 2 s9 Td.length (listC tagC Td) ∧ Upd (fun _ => False) w wx ∧ N ≤ wx.heap.size :=
  ⟨rows_under h.rl u (fun j hj => by have := h.low; omega), rows_under h.rt u (fun j hj => by have := h.low; omega), h.U.pool (A := A) u h.own.1 h.own.2.1, Nat.le_trans h.own.2.2.2 u.size⟩
theorem below_of {w w' : World} (u : Upd (fun _ => False) w w') : Below w.heap.size w w' := u.below (Nat.le_refl _) fun _ _ h => h

set_option maxRecDepth 100000 in
set_option maxHeartbeats 4000000 in
theorem walk (m : Int) (ao : Option Addr) (ln cap b off : Nat) (E : Nat → Nat → Value) (w0 : (Lit.int .i64 m).wf = true) (w : World) (R : Fr.RowArg w ao ln b off [some .i64] E) :
    Calls Try.prog 4 #[.int .i64 m, .slice ao ln cap] w fun e w' => e = .returned (.bool true) ∧ Below w.heap.size w w' := by
  clear w0
  have hmost := R.most
  by_cases hm : 1 ≤ m ∧ m ≤ 8
  · obtain ⟨n, rfl⟩ := Int.eq_ofNat_of_zero_le (show 0 ≤ m by omega)
    have hn1 : 1 ≤ n := by omega
    have hn8 : n ≤ 8 := by omega
    clear hm
    by_cases hk : ln ≤ 120
    · clear hmost
      go_enter Try.func4, Try.ntmps4
      go_wp2_with fail
      refine (a10awake_any _).mono ?_
      rintro e w1 ⟨rfl, U1⟩
      go_wp2_with fail
      refine (anew_yes n _ hn1 hn8).mono ?_
      rintro e w2 ⟨A, B1, B2, rfl, P2, l0, l1, l2, U2⟩
      have V2 := U1.trans U2
      have l1 := Nat.le_trans U1.size l1
      have l2 := Nat.le_trans U1.size l2
      obtain ⟨N, hN⟩ : ∃ N, w2.heap.size = N := ⟨_, rfl⟩
      have O2 : OS w w2 N A B1 B2 n 0 (po0 n) [] [] (.slice none 0 0) (.slice none 0 0) :=
        ⟨P2, TagInv.zero n, rows_new _ _ _ _, rows_new _ _ _ _, fun j h => by simp [Value.ownBlock] at h, V2, by have := P2.lts; omega, l1, l2, by have := V2.size; omega, by omega⟩
      clear U1 U2 P2 V2 l0 l1 l2 hN
      go_wp2_with fail
      go_loopw [8, 9, 10] (fun s8 s9 t wr => ∃ (i : Nat) (p : Po) (Lv Td : List (Nat × Nat)), i ≤ ln ∧ t = .int .i64 i ∧ OS w wr N A B1 B2 n i p Lv Td s8 s9) (fun _ _ t _ => ln - (intOf t).toNat)
      case atStart => exact ⟨0, _, _, _, by omega, rfl, O2⟩
      case round =>
        clear O2
        obtain ⟨i, p, Lv, Td, hi, rfl, O⟩ := hrel
        by_cases hlt : i < ln
        · obtain ⟨x, hx, _⟩ := R.ok i hlt 0 _ rfl
          have hcx := O.U.cell (R.cell i hlt 0 (by decide)) (fun h => h)
          rw [hx, List.length_singleton, Nat.mul_one, Nat.add_zero] at hcx
          obtain rfl := R.place (by omega)
          obtain ⟨o8, c8, rfl⟩ := rows_slice O.rl
          obtain ⟨o9, c9, rfl⟩ := rows_slice O.rt
          obtain ⟨L, hL⟩ : ∃ L, Lv.length = L := ⟨_, rfl⟩
          obtain ⟨T, hT⟩ : ∃ T, Td.length = T := ⟨_, rfl⟩
          rw [hL] at O ⊢
          rw [hT] at O ⊢
          have hLT := Lib.hid (And.intro hL hT)
          have hL8 : L ≤ 8 := by have := O.I.le; omega
          have hT2 : T ≤ 120 := by have := O.I.tl; omega
          clear hL hT hx
          go_upto_region 9 with fail
          go_cut [62] (fun s62 wx => wx = wr ∧ ∃ c : Bool, s62 = .bool c ∧ Hid (c = true → 0 ≤ x ∧ 0 < L))
          case first =>
            by_cases h0 : 0 ≤ x
            · by_cases h1 : 0 < L
              · have h1I : (0 : Int) < (L : Int) := by omega
                go_wp2_with fail
                go_meet
                exact ⟨rfl, _, rfl, Lib.hid fun _ => ⟨h0, h1⟩⟩
              · obtain rfl : L = 0 := by omega
                clear h1
                go_wp2_with fail
                go_meet
                exact ⟨rfl, false, rfl, Lib.hid fun h => by cases h⟩
            · have h0' : decide (0 ≤ x) = false := decide_eq_false h0
              go_wp2_with fail
              go_meet
              exact ⟨rfl, false, by simp [h0'], Lib.hid fun h => by cases h⟩
          case rest =>
            obtain ⟨rfl, c, rfl, hc⟩ := hcut
            go_upto_if 62 with fail
            go_cut [8, 9] (fun s8 s9 wx => ∃ (p' : Po) (Lv' Td' : List (Nat × Nat)), OS w wx N A B1 B2 n (i + 1) p' Lv' Td' s8 s9)
            case first =>
              cases c
              · clear hc
                have hln := O.I.le
                have Tp := O.I.top
                go_wp2_with fail
                refine (atake_any A B1 B2 p i (by omega) Tp _ O.P).mono ?_
                rintro e3 w3 (⟨hb, rfl, U3⟩ | ⟨cc, hb, c1, c2, rfl, P3, U3⟩)
                · obtain ⟨k4, u4⟩ := tag_box w3 0 0
                  have hfull := O.I.full hb
                  rw [hLT.out.1] at hfull
                  have OI := O.I.stay
                  have O4 := (O.still U3).still u4
                  have O5 : OS w (w3.alloc (.cells #[.int .i64 0, .int .i64 0] 33)) N A B1 B2 n (i + 1) p Lv Td (.slice o8 L c8) (.slice o9 T c9) := ⟨O4.P, OI, O4.rl, O4.rt, O4.ap, O4.U, O4.low, O4.own⟩
                  have HF := Lib.hid hfull
                  clear O4 U3 u4 hfull OI O k4 hb
                  obtain rfl := HF.out
                  go_wp2_with fail
                  go_meet
                  exact ⟨_, _, _, O5⟩
                · obtain ⟨I', hTd, hLv, hLn⟩ := O.I.new c1 c2
                  rw [hLT.out.1] at hLn
                  obtain ⟨rl, rt, V3, N3⟩ := O.turn U3
                  have hpu := Tp cc c1
                  have hc8 : cc < 8 := by have := O.P.hi; omega
                  obtain ⟨a, ha⟩ : ∃ a, cc + 1 = a := ⟨_, rfl⟩
                  obtain ⟨u, hu⟩ : ∃ u, p.u cc + 1 = u := ⟨_, rfl⟩
                  rw [ha, hu] at I' hTd ⊢
                  rw [ha] at hLv
                  have HI := Lib.hid I'
                  have HTd := Lib.hid hTd
                  have HLv := Lib.hid hLv
                  have hap := Lib.hid O.ap
                  have hown := Lib.hid O.own
                  have hlow := Lib.hid O.low
                  have ha9 : a ≤ 9 := by omega
                  have hu9 : u ≤ 200 := by omega
                  obtain ⟨k4, u4⟩ := tag_box w3 a u
                  have P4 := P3.still u4
                  have hb9 := Lib.hid (fun j (h : (Value.slice o9 T c9).ownBlock = some j) => show j < w3.heap.size from (rt.lt j h).2)
                  have hb8 := Lib.hid (fun j (h : (Value.slice o8 L c8).ownBlock = some j) => show j < w3.heap.size from (rl.lt j h).2)
                  have rl := rows_still rl u4
                  have rt := rows_still rt u4
                  have V4 := V3.trans u4
                  have N4 : N ≤ w3.heap.size := N3
                  rw [hLT.out.1] at rl
                  rw [hLT.out.2] at rt
                  clear O I' hTd hLv U3 u4 V3 N3 ha hu hb c1 c2 hpu hc8 P3 Tp
                  have hLnI : (L : Int) < (n : Int) := by omega
                  go_upto_region 16 with fail
                  have N5 : N ≤ (w3.alloc (.cells #[.int .i64 (a : Int), .int .i64 (u : Int)] 33)).heap.size := by rw [World.size_alloc]; omega
                  generalize w3.alloc (.cells #[.int .i64 (a : Int), .int .i64 (u : Int)] 33) = w4 at k4 P4 rl rt V4 N5 ⊢
                  generalize w3.heap.size = D at k4 N4 hb8 hb9 ⊢
                  go_wp2_with fail
                  go_loopw [15] (fun t wr => ∃ (k r : Nat), k ≤ T ∧ t = .int .i64 k ∧ wr = w4.drewN r) (fun t _ => T - (intOf t).toNat)
                  case atStart => exact ⟨0, 0, by omega, rfl, rfl⟩
                  case round =>
                    obtain ⟨k, r, hk2, rfl, rfl⟩ := hrel
                    by_cases hlt2 : k < T
                    · obtain ⟨gt, rfl, hgt, g0, g1⟩ := tags_at rt hLT.out.2 k hlt2
                      have hm : Td.getD k (0, 0) ∈ Td := by rw [List.getD_eq_getElem?_getD, List.getElem?_eq_getElem (by rw [hLT.out.2]; exact hlt2)]; exact List.getElem_mem _
                      have hno := HTd.out _ hm
                      generalize Td.getD k (0, 0) = y at g0 g1 hno
                      have he := run_eqTg (y.1 : Int) (y.2 : Int) (a : Int) (u : Int) false (decide_eq_false (fun h => hno ⟨by omega, by omega⟩))
                      have kI : (0 : Int) ≤ (k : Int) := by omega
                      have kT : (k : Int) < (T : Int) := by omega
                      have d0 := k4.c0
                      have d1 := k4.c1
                      clear hno hm
                      go_wp2_with fail
                      go_quiet (fail)
                      go_wp2_with fail
                      go_roundw
                      case rel => first | exact ⟨k + 1, _, by omega, by go_num, by rw [World.drewN_drewN]⟩ | exact ⟨k + 1, _, by omega, by go_num, rfl⟩
                      case measure => simp [intOf]; omega
                    · have hkT : k = T := by omega
                      subst hkT
                      clear hlt2 hk2
                      go_wp2_with fail
                      go_loopw [16] (fun t wr => ∃ (k2 r2 : Nat), k2 ≤ L ∧ t = .int .i64 k2 ∧ wr = w4.drewN r2) (fun t _ => L - (intOf t).toNat)
                      case atStart => exact ⟨0, _, by omega, rfl, rfl⟩
                      case round =>
                        clear r
                        obtain ⟨k2, r, hk2, rfl, rfl⟩ := hrel
                        by_cases hlt2 : k2 < L
                        · obtain ⟨gt, rfl, hgt, g0, g1⟩ := tags_at rl hLT.out.1 k2 hlt2
                          have hm : Lv.getD k2 (0, 0) ∈ Lv := by rw [List.getD_eq_getElem?_getD, List.getElem?_eq_getElem (by rw [hLT.out.1]; exact hlt2)]; exact List.getElem_mem _
                          have hno := HLv.out _ hm
                          generalize Lv.getD k2 (0, 0) = y at g0 g1 hno
                          have hb1 : ((y.1 : Int) == (a : Int)) = false := by simp; omega
                          have kI : (0 : Int) ≤ (k2 : Int) := by omega
                          have kT : (k2 : Int) < (L : Int) := by omega
                          have d0 := k4.c0
                          clear hno hm
                          go_wp2_with fail
                          go_quiet (fail)
                          go_wp2_with fail
                          go_roundw
                          case rel => first | exact ⟨k2 + 1, _, by omega, by go_num, by rw [World.drewN_drewN]⟩ | exact ⟨k2 + 1, _, by omega, by go_num, rfl⟩
                          case measure => simp [intOf]; omega
                        · have hkL : k2 = L := by omega
                          subst hkL
                          have u5 := (Upd.refl (fun _ => False) w4).drewN r
                          have rl := rows_still rl u5
                          have rt := rows_still rt u5
                          have P5 := P4.still u5
                          have V5 := V4.trans u5
                          have N6 : N ≤ (w4.drewN r).heap.size := N5
                          have k5 := Lib.hid (k4.kept u5 id).range
                          clear hlt2 hk2 u5 V4 P4 N5 k4
                          generalize w4.drewN r = w5 at rl rt P5 V5 N6 k5 ⊢
                          obtain ⟨i0, hi0, hz0, hz1, hz2⟩ := info_parts info_tag
                          go_upto_region 30 with (first
                            | (with_reducible refine wpList_load_sz rfl 33 (.tmp 13) rfl D 0 rfl [.int .i64 (a : Int), .int .i64 (u : Int)] _ k5.out Try.underlying33 rfl 2 rfl size_tag ?_)
                            | (at_builtin; refine wpList_append_own_at _ rfl (.tmp 139) (.tmp 141) 31 rfl N 33 i0 (.agg #[.int .i64 0, .int .i64 0]) 2 16 Try.underlying31 hi0 hz0 hz1 hz2 rfl (by decide) _ _ _ rfl (rt.alloc _) ⟨w5.heap.size, 0, none⟩ 1 1 [.int .i64 a, .int .i64 u] rfl rfl (rows_src _ _ _) (by simp [Value.oneCell']) (by simp [maxLen]; omega) (by omega) (by simp; omega) ?_; intro v9 w6 rt6 g6 _ ap6))
                          have V6 := rows_grown rt g6 V5 (by have := hown.out; omega)
                          have s6 : w5.heap.size + 1 ≤ w6.heap.size := by have := g6.size; rwa [World.size_alloc] at this
                          have rl6 : w6.ownsRow N 33 2 (.slice o8 k2 c8) k2 (listC tagC Lv) := (rl.alloc _).kept g6 (by
                            cases hj : (Value.slice o8 k2 c8).ownBlock with
                            | none => exact .inl rfl
                            | some j => exact .inr (fun e => hap.out j hj e.symm))
                          have P6 : PoolAt w6 A B1 B2 _ := (P5.still ((Upd.refl (fun _ => False) w5).alloc (.cells #[.int .i64 (a : Int), .int .i64 (u : Int)] 33))).kept (S := fun j => (Value.slice o9 k c9).ownBlock = some j) ⟨g6.os, g6.tape, g6.output, g6.size, fun j hj hs => g6.block j hj (fun e => hs e.symm)⟩ (fun e => by have := (rt.lt _ e).1; have := hlow.out; omega) (fun e => by have := (rt.lt _ e).1; have := hlow.out; omega) (fun e => by have := (rt.lt _ e).1; have := hlow.out; omega)
                          have k6 : Hid (w6.rangeAt D 0 [.int .i64 (a : Int), .int .i64 (u : Int)]) := Lib.hid (by
                            have u6 : Upd (fun j => (Value.slice o9 k c9).ownBlock = some j) w5 w6 := ⟨g6.os, g6.tape, g6.output, by omega, fun j hj hs => by rw [g6.block j (by rw [World.size_alloc]; omega) (fun e => hs e.symm)]; exact Below.heap_alloc _ _ _ hj⟩
                            exact u6.rangeAt k5.out (fun e => by have := hb9.out _ e; omega))
                          obtain ⟨o9', c9', rfl⟩ := rows_slice rt6
                          have N7 : N ≤ w6.heap.size := by omega
                          have hn6 : Hid (∀ j, (Value.slice o8 k2 c8).ownBlock = some j → (Value.slice o9' (k + 1) c9').ownBlock ≠ some j) := Lib.hid (fun j hj e => by
                            rcases ap6 with h | h
                            · rw [h] at e; exact hap.out j hj e
                            · rw [h] at e; have := (rl.lt j hj).2; injection e with e; rw [World.size_alloc] at *; omega)
                          have hl8 : (Lv ++ [(a, u)]).length = k2 + 1 := by rw [List.length_append, hLT.out.1]; rfl
                          have hl9 : (Td ++ [(a, u)]).length = k + 1 := by rw [List.length_append, hLT.out.2]; rfl
                          have rt6' : Hid (w6.ownsRow N 33 2 (.slice o9' (k + 1) c9') (k + 1) (listC tagC (Td ++ [(a, u)]))) := Lib.hid (by rw [listC_app]; exact rt6)
                          have Hl := Lib.hid (And.intro hl8 hl9)
                          clear hl8 hl9 rt6 rl rt ap6 g6 P5 V5 k5
                          go_wp2_with (first
                            | (with_reducible refine wpList_load_sz rfl 33 (.tmp 13) rfl D 0 rfl [.int .i64 (a : Int), .int .i64 (u : Int)] _ k6.out Try.underlying33 rfl 2 rfl size_tag ?_)
                            | (at_builtin; refine wpList_append_own_at _ rfl (.tmp 143) (.tmp 145) 31 rfl N 33 i0 (.agg #[.int .i64 0, .int .i64 0]) 2 16 Try.underlying31 hi0 hz0 hz1 hz2 rfl (by decide) _ _ _ rfl (rl6.alloc _) ⟨w6.heap.size, 0, none⟩ 1 1 [.int .i64 a, .int .i64 u] rfl rfl (rows_src _ _ _) (by simp [Value.oneCell']) (by simp [maxLen]; omega) (by omega) (by simp; omega) ?_; intro v10 w7 rl7 g7 _ ap7))
                          have V7 := rows_grown rl6 g7 V6 (by have := hown.out; omega)
                          have s7 : w6.heap.size + 1 ≤ w7.heap.size := by have := g7.size; rwa [World.size_alloc] at this
                          have rt7 : w7.ownsRow N 33 2 (.slice o9' (k + 1) c9') (k + 1) (listC tagC (Td ++ [(a, u)])) := (rt6'.out.alloc _).kept g7 (by
                            cases hj : (Value.slice o9' (k + 1) c9').ownBlock with
                            | none => exact .inl rfl
                            | some j => exact .inr (fun e => hn6.out j e.symm hj))
                          have P7 := (P6.still ((Upd.refl (fun _ => False) w6).alloc (.cells #[.int .i64 (a : Int), .int .i64 (u : Int)] 33))).kept (w' := w7) (S := fun j => (Value.slice o8 k2 c8).ownBlock = some j) ⟨g7.os, g7.tape, g7.output, g7.size, fun j hj hs => g7.block j hj (fun e => hs e.symm)⟩ (fun e => by have := (rl6.lt _ e).1; have := hlow.out; omega) (fun e => by have := (rl6.lt _ e).1; have := hlow.out; omega) (fun e => by have := (rl6.lt _ e).1; have := hlow.out; omega)
                          obtain ⟨o8', c8', rfl⟩ := rows_slice rl7
                          have hn7 : ∀ j, (Value.slice o8' (k2 + 1) c8').ownBlock = some j → (Value.slice o9' (k + 1) c9').ownBlock ≠ some j := fun j hj e => by
                            rcases ap7 with h | h
                            · rw [h] at hj; exact hn6.out j hj e
                            · rw [h] at hj; have := (rt6'.out.lt j e).2; injection hj with hj; rw [World.size_alloc] at *; omega
                          go_meet
                          exact ⟨_, _, _, P7, HI.out, by rw [Hl.out.1, listC_app]; exact rl7, by rw [Hl.out.2]; exact rt7, hn7, V7, hlow.out, hown.out.1, hown.out.2.1, hown.out.2.2.1, by omega⟩
              · obtain ⟨h0, h1⟩ := hc.out rfl
                obtain ⟨X, rfl⟩ := Int.eq_ofNat_of_zero_le h0
                obtain ⟨q, hq⟩ : ∃ q, X % L = q := ⟨_, rfl⟩
                have hql : q < L := by rw [← hq]; exact Nat.mod_lt _ h1
                have hqI : (X : Int) % (L : Int) = (q : Int) := by rw [← hq]; omega
                have hne : ¬ (L : Int) = 0 := by omega
                have hrow := O.rl
                rw [hLT.out.1] at hrow
                obtain ⟨ga, rfl, hga, g0, g1⟩ := tags_at hrow hLT.out.1 q hql
                obtain ⟨cc, c1, c2, e, hat⟩ := O.I.at (j := q) (by rw [hLT.out.1]; exact hql)
                obtain ⟨I', hno⟩ := O.I.gone (j := q) (by rw [hLT.out.1]; exact hql) c1 c2 e
                rw [e] at hat g0 g1
                have HI := Lib.hid I'
                have Hat := Lib.hid hat
                have Hno := Lib.hid hno
                clear hc hq hrow I' hat hno
                obtain ⟨a, ha⟩ : ∃ a, cc + 1 = a := ⟨_, rfl⟩
                obtain ⟨u, hu⟩ : ∃ u, p.u cc = u := ⟨_, rfl⟩
                simp only [ha, hu] at g0 g1 Hat Hno
                have hau : a ≤ 8 := by have := O.P.hi; omega
                go_upto_region 12 with fail
                obtain ⟨k3, u3⟩ := tag_box wc a u
                have O3 := O.still u3
                have hDN := O.own.2.2.2
                have hwa := Lib.hid (wf_frame (n := a) (by omega))
                clear O u3 e
                generalize wc.alloc (.cells #[.int .i64 (a : Int), .int .i64 (u : Int)] 33) = w3 at k3 O3 ⊢
                generalize wc.heap.size = D at k3 hDN ⊢
                have hr3 := Lib.hid k3.range
                have hnB : ∀ k, k = B1 ∨ k = B2 → k < N := by have := O3.low; omega
                go_wp2_with (with_reducible refine wpList_load_sz rfl 33 (.tmp 12) rfl D 0 rfl [.int .i64 (a : Int), .int .i64 (u : Int)] _ hr3.out Try.underlying33 rfl 2 rfl size_tag ?_)
                refine (aback_any A B1 B2 _ i (by omega) O3.I.top a u hwa.out _ O3.P).mono ?_
                rintro e4 w4 (⟨hb, _⟩ | ⟨c', hb, rfl, P4, U4⟩)
                · rw [Hat.out] at hb; cases hb
                rw [Hat.out] at hb
                obtain rfl : cc = c' := by injection hb
                have k4 := k3.kept U4 (fun h => by have := hnB _ h; omega)
                have O4 := O3.turn U4
                have hr4 := Lib.hid k4.range
                clear hb hr3 k3 U4
                go_wp2_with (with_reducible refine wpList_load_sz rfl 33 (.tmp 12) rfl D 0 rfl [.int .i64 (a : Int), .int .i64 (u : Int)] _ hr4.out Try.underlying33 rfl 2 rfl size_tag ?_)
                refine (aback_any A B1 B2 _ (i + 1) (by omega) HI.out.top a u hwa.out _ P4).mono ?_
                rintro e5 w5 (⟨_, rfl, U5⟩ | ⟨c', hb, _⟩)
                rotate_left
                · rw [Hno.out] at hb; cases hb
                have k5 := k4.kept U5 id
                have P5 := P4.still U5
                have hr5 := Lib.hid k5.range
                clear hr4 k4 P4
                go_wp2_with (with_reducible refine wpList_load_sz rfl 33 (.tmp 12) rfl D 0 rfl [.int .i64 (a : Int), .int .i64 (u : Int)] _ hr5.out Try.underlying33 rfl 2 rfl size_tag ?_)
                refine (alives_any A B1 B2 _ a u hwa.out _ P5).mono ?_
                rintro e6 w6 ⟨rfl, U6⟩
                rw [Hno.out]
                have P6 := P5.still U6
                have U56 := U5.trans U6
                obtain ⟨rl, rt, V4, N4⟩ := O4
                have rl := rows_still rl U56
                have rt := rows_still rt U56
                have V6 := V4.trans U56
                have N6 := Nat.le_trans N4 U56.size
                have hap := Lib.hid O3.ap
                have hown := Lib.hid O3.own
                have hlow := Lib.hid O3.low
                clear hr5 k5 P5 U5 U6 U56 V4 N4 O3 hnB
                rw [hLT.out.1] at rl
                have hcap : L ≤ c8 := cut_cap rl
                have hdr : ((w6.alloc (.cells #[] 33)).drew).ownsRow N 33 2 (.slice (some ⟨ga, 0, none⟩) L c8) L (listC tagC Lv) := cut_row rl _
                have hmade := cut_made w6 33 2
                obtain ⟨y1, hy1, hs1⟩ := cut_to tagC_len 31 Try.underlying31 run_size_tags (some ⟨ga, 0, none⟩) L c8 q (by omega)
                obtain ⟨y2, hy2, hs2⟩ := cut_from tagC_len 31 Try.underlying31 run_size_tags (some ⟨ga, 0, none⟩) L c8 (q + 1) (by omega) hcap
                have Hs1 := Lib.hid hs1
                have Hs2 := Lib.hid hs2
                have hy2' : ∀ w : World, (Instr.sliceAt 31 (.slice (some ⟨ga, 0, none⟩) L c8) (some (.int .i64 ((q : Int) + 1))) none none).run Try.prog w = .ok y2 w := hy2
                have hw1 : IntKind.i64.wrap ((q : Int) + 1) = q + 1 := IntWalk.i64_in _ (by omega)
                obtain ⟨i0, hi0, hz0, hz1, hz2⟩ := info_parts info_tag
                have hil : Lv.length = L := hLT.out.1
                have Hq := Lib.hid hql
                clear hs1 hs2 hy2
                go_upto_region 14 with fail
                go_region_law (first
                  | (refine step_append_src _ (by rfl) (.tmp 89) (.tmp 92) 31 (by rfl) w6.heap.size 33 i0 (.agg #[.int .i64 0, .int .i64 0]) 2 16 Try.underlying31 hi0 hz0 hz1 hz2 rfl (by decide) (.slice (some ⟨w6.heap.size, 0, none⟩) 0 0) 0 [] (by rfl) hmade y1 q (listC tagC (Lv.take q)) (by rfl) (Hs1.out _ _ (Src.of_row hdr) (by omega) hil) (listC_all tagC_one _) (by simp [maxLen]; omega) (by omega) (by simp) ?_; intro v4 w4' own4 grow4; rw [Nat.zero_add, List.nil_append] at own4; obtain ⟨og4, cap4, rfl⟩ := rows_slice own4; have u4' := cut_upd grow4)
                  | (refine step_append_src _ (by rfl) (.tmp 93) (.tmp 97) 31 (by rfl) w6.heap.size 33 i0 (.agg #[.int .i64 0, .int .i64 0]) 2 16 Try.underlying31 hi0 hz0 hz1 hz2 rfl (by decide) (.slice og4 q cap4) q (listC tagC (Lv.take q)) (by rfl) own4 y2 (L - (q + 1)) (listC tagC (Lv.drop (q + 1))) (by rfl) (Hs2.out _ _ (Src.of_row (rows_still rl u4')) hil) (listC_all tagC_one _) (by simp [maxLen]; omega) (by omega) (by have := u4'.size; omega) ?_; intro v5 w5' own5 grow5; rw [← listC_app] at own5; obtain ⟨og5, cap5, rfl⟩ := rows_slice own5; have u5' := cut_upd2 u4' grow5 (fun k hk => (own4.lt k hk).1)))
                all_goals (go_wp2_with fail)
                all_goals go_meet
                have hlen : (Lv.take q ++ Lv.drop (q + 1)).length = q + (L - (q + 1)) := by
                  rw [List.length_append, List.length_take, List.length_drop, hil]
                  omega
                refine ⟨_, _, Td, P6.still u5', HI.out, by rw [hlen]; exact cut_base own5 N6, rows_still rt u5', fun j hj e => ?_, V6.trans u5', hlow.out, hown.out.1, hown.out.2.1, hown.out.2.2.1, Nat.le_trans N6 u5'.size⟩
                have h1 := (own5.lt j hj).1
                have h2 := (rt.lt j e).2
                omega
            case rest =>
              clear hc
              obtain ⟨p', Lv', Td', O'⟩ := hcut
              obtain ⟨o8', c8', rfl⟩ := rows_slice O'.rl
              obtain ⟨o9', c9', rfl⟩ := rows_slice O'.rt
              have hlen := O'.I.len
              go_wp2_with fail
              refine (aleft_any A B1 B2 _ _ O'.P).mono ?_
              rintro e5 w5 ⟨rfl, rfl⟩
              obtain ⟨L', hL'⟩ : ∃ L, Lv'.length = L := ⟨_, rfl⟩
              obtain ⟨T', hT'⟩ : ∃ L, Td'.length = L := ⟨_, rfl⟩
              obtain ⟨F, hF⟩ : ∃ F, p'.left = F := ⟨_, rfl⟩
              rw [hF, hL'] at hlen
              have HO := Lib.hid O'
              rw [hL'] at HO ⊢
              rw [hT'] at HO ⊢
              rw [hF]
              have hb2 : ((F : Int) != (n : Int) - (L' : Int)) = false := by simp; omega
              clear O' hL' hT' hF O
              go_wp2_with fail
              exact ⟨⟨i + 1, p', Lv', Td', by omega, by go_num, HO.out⟩, by simp [intOf]; omega⟩
        · obtain rfl : i = ln := by omega
          obtain ⟨o8, c8, rfl⟩ := rows_slice O.rl
          obtain ⟨o9, c9, rfl⟩ := rows_slice O.rt
          obtain ⟨L, hL⟩ : ∃ L, Lv.length = L := ⟨_, rfl⟩
          rw [hL]
          have hL8 : L ≤ 8 := by have := O.I.le; omega
          have rl := O.rl
          rw [hL] at rl
          have HL := Lib.hid hL
          have hat := Lib.hid (fun j hj => O.I.at (j := j) hj)
          have P := O.P
          have U := O.U
          have hN := O.low
          clear O hL hlt hi
          go_wp2_with fail
          go_loopw [17] (fun t wx => ∃ j : Nat, j ≤ L ∧ t = .int .i64 j ∧ Upd (fun _ => False) wr wx) (fun t _ => L - (intOf t).toNat)
          case atStart => exact ⟨0, by omega, rfl, Upd.refl _ _⟩
          case round =>
            obtain ⟨j, hj, rfl, V⟩ := hrel
            by_cases hlt : j < L
            · obtain ⟨g, rfl, hg, g0, g1⟩ := tags_at (rows_still rl V) HL.out j hlt
              obtain ⟨c, c1, c2, e, hc⟩ := hat.out j (by rw [HL.out]; exact hlt)
              rw [e] at g0 g1 hc
              have Hc := Lib.hid hc
              have hc8 : c < 8 := by have := P.hi; omega
              obtain ⟨a, ha⟩ : ∃ a, c + 1 = a := ⟨_, rfl⟩
              obtain ⟨u, hu⟩ : ∃ u, p.u c = u := ⟨_, rfl⟩
              simp only [ha, hu] at g0 g1 Hc
              have hwa := Lib.hid (wf_frame (n := a) (by omega))
              have kI : (0 : Int) ≤ (j : Int) := by omega
              have kT : (j : Int) < (L : Int) := by omega
              clear e hc ha hu c2
              go_wp2_with fail
              refine (alives_any A B1 B2 _ a u hwa.out _ (P.still V)).mono ?_
              rintro e6 w6 ⟨rfl, U6⟩
              rw [Hc.out]
              have V6 := V.trans U6
              go_wp2_with fail
              exact ⟨⟨j + 1, by omega, by go_num, V6⟩, by simp [intOf]; omega⟩
            · have V2 := U.trans V
              obtain rfl : j = L := by omega
              go_wp2_with fail
              go_ret
              exact ⟨rfl, below_of V2⟩
    · have hk2 : (120 : Int) < (ln : Int) := by omega
      clear hk
      go_enter Try.func4, Try.ntmps4
      go_wp2_with fail
      refine (a10awake_any _).mono ?_
      rintro e w1 ⟨rfl, U1⟩
      go_wp2_with fail
      refine (anew_yes n _ hn1 hn8).mono ?_
      rintro e w2 ⟨A, B1, B2, rfl, P2, l0, l1, l2, U2⟩
      have V2 := U1.trans U2
      go_wp2
      go_ret
      exact ⟨rfl, below_of V2⟩
  · go_enter Try.func4, Try.ntmps4
    go_wp2_with fail
    refine (a10awake_any _).mono ?_
    rintro e w1 ⟨rfl, U1⟩
    go_wp2_with fail
    refine (anew_no m _ (by omega)).mono ?_
    rintro e w2 ⟨rfl, rfl⟩
    clear hm
    go_wp2
    go_ret
    exact ⟨rfl, below_of U1⟩
/-! ### the row's frame -/
theorem own : ownKnob Try.prog.godebug = none := by kernel_rfl
theorem laidOut : laidOutB Try.prog = true := by kernel_rfl
set_option linter.unusedVariables false in
set_option maxRecDepth 100000 in
theorem lifted (os : Os) (started : os.Started) (H : Type) (enc : TypeId × Value → H) :
    ReturnsInHanded {} Try.checked os 4 .any (Rows.asidOnceSpec.pre6 enc Try.prog Try.f4 Rows.asidOnceRow.domain false) (Rows.asidOnceSpec.post enc Try.prog Try.f4 false true false false) := by
  refine returnsInHanded_of_change (C := Try.checked) own started (by kernel_rfl) Try.func4
    (ChangeSpec.witness6 (enc := enc) (C := Try.checked) false ⟨#[], #[.int .i64 0, .slice none 0 0], []⟩ 8 (by kernel_rfl) (by kernel_rfl) (by kernel_rfl) (by kernel_rfl)) ?_
  intro W base args ds gs before hval0 hW hcnd _
  have hval : ∀ (j : Nat) t v, Try.f4.params[j]? = some t → args[j]? = some v → Value.okWide Try.prog W .any base t v := hval0
  have hW' := hW
  obtain ⟨p, q, hA0, hV, rfl, hfz, hnd⟩ := hW
  have hA : DataW.TrodAll enc Try.prog W 0 (fun _ => true) true Try.f4.params.toList args.toList ds p := hA0
  rw [Try.params4] at hA hval
  obtain ⟨v0, vs0, d0, ds0, p0, q0, hargs, rfl, rfl, h0, r0⟩ := trodAll_cons hA
  obtain ⟨v1, vs1, d1, ds1, p1, q1, rfl, rfl, rfl, h1, r1⟩ := trodAll_cons r0
  obtain ⟨rfl, rfl, rfl⟩ := trodAll_nil r1
  obtain rfl : args = #[v0, v1] := by cases args; simp_all
  obtain ⟨rfl, rfl⟩ := trodVars_none hV
  have k0 := h0
  have lt0 : ∀ x ∈ p0, x.block < W.heap.size := by obtain ⟨m, hm⟩ := k0; exact DataW.trod_lt m _ _ _ hm
  obtain ⟨a0, rfl, rfl, rfl, w0⟩ := open_int Try.underlying3 (hval 0 3 v0 rfl rfl) h0
  have k1 := h1
  have lt1 : ∀ x ∈ p1, x.block < W.heap.size := by obtain ⟨m, hm⟩ := k1; exact DataW.trod_lt m _ _ _ hm
  obtain ⟨ao1, n1, cap1, b1, of1, E1, rfl, w1⟩ := Fr.open_rows 12 [some .i64] Try.underlying47 (by kernel_rfl) (by kernel_rfl) (by decide) (hval 1 47 v1 rfl rfl) h1
  clear hA0 hval0
  refine (walk a0 ao1 n1 cap1 b1 of1 E1 w0 W w1).mono fun e W' ⟨he, bel⟩ => ?_
  subst he
  exact ⟨_, rfl, _, _, _, [], _, [], hW', trodAll_mk1 (shut_bool Try.underlying4 _), (trodAll_cons_mk (Below.trod laidOut (by kernel_rfl) (of_decide_eq_true (by kernel_rfl)) k0 bel lt0) (trodAll_cons_mk (Below.trod laidOut (by kernel_rfl) (of_decide_eq_true (by kernel_rfl)) k1 bel lt1) trodAll_mk0)), rfl, bel.frame _, fun h => by cases h⟩

theorem over : Rows.asidOnceRow.holds Try.pinned (OpenSpec.ofChange Rows.asidOnceSpec) :=
  OpenClaim.holds_of_wide 4 Try.f4 rfl rfl rfl rfl rfl rfl rfl ⟨rfl, rfl, rfl, rfl, rfl⟩ rfl rfl rfl rfl rfl (by kernel_rfl) Try.func4 (by kernel_rfl)
    (of_decide_eq_true (by kernel_rfl)) (by unfold Func.isWrapper; first | (rw [if_pos (by decide +kernel)]; kernel_rfl) | (rw [if_neg (by decide +kernel)]; exact ⟨rfl, rfl⟩))
    (fun os started H enc _ => lifted os started H enc)

theorem proved : Rows.AsidOnceSaid :=
  over
end Go.Proofs.Ytmalfdbjbgifeaa.asidOnce
