/-
  Proved: trunnionlaw10.AsidPlays answers true for every input: any calls, one by one, tell what the document's own pool tells.
  Conditions: none.
-/
import Derived.Deep.DeepCutAuto
import Derived.Deep.CutBlock
import Derived.Deep.RegionHeld3
import Derived.Test.YtmalfdbjbgifeaaPart2
namespace Go.Proofs.Ytmalfdbjbgifeaa.asidPlays
open Go.ChangeShapes Go.WideShapes Go.ChangeAt Go.RowKit Go.Maps
set_option linter.unusedVariables false
set_option linter.unusedSimpArgs false

/-- both pools side by side, the tags that were told -/
structure PS (w wr : World) (N1 N A B1 B2 C UB GB K : Nat) (p : Po) (Td : List (Nat × Nat)) (s10 : Value) : Prop where
  P : PoolAt wr A B1 B2 p
  Q : RPo wr C UB GB p
  top : p.top K
  rt : wr.ownsRow N 33 2 s10 Td.length (listC tagC Td)
  tl : Td.length ≤ K
  sm : ∀ x, x ∈ Td → x.1 ≤ 8
  U : Upd (fun _ => False) w wr
  low : A < N1 ∧ B1 < N1 ∧ B2 < N1 ∧ N1 ≤ C ∧ N1 ≤ UB ∧ N1 ≤ GB ∧ C < N ∧ UB < N ∧ GB < N
  own : w.heap.size ≤ B1 ∧ w.heap.size ≤ B2 ∧ w.heap.size ≤ N1 ∧ N ≤ wr.heap.size
theorem PS.still {w wr wx : World} {N1 N A B1 B2 C UB GB K : Nat} {p : Po} {Td : List (Nat × Nat)} {s : Value} (h : PS w wr N1 N A B1 B2 C UB GB K p Td s) (u : Upd (fun _ => False) wr wx) : PS w wx N1 N A B1 B2 C UB GB K p Td s :=
  ⟨h.P.still u, h.Q.still u, h.top, rows_still h.rt u, h.tl, h.sm, h.U.trans u, h.low, h.own.1, h.own.2.1, h.own.2.2.1, Nat.le_trans h.own.2.2.2 u.size⟩
/-- both turned -/
theorem PS.turn {w wr wx wy : World} {N1 N A B1 B2 C UB GB K : Nat} {p p' : Po} {Td : List (Nat × Nat)} {s : Value} (h : PS w wr N1 N A B1 B2 C UB GB K p Td s) (u : Upd (fun k => k = B1 ∨ k = B2) wr wx) (hP : PoolAt wx A B1 B2 p') (v : Upd (fun k => k = UB ∨ k = GB) wx wy) (hQ : RPo wy C UB GB p') (ht : p'.top (K + 1)) :
    PS w wy N1 N A B1 B2 C UB GB (K + 1) p' Td s := by
  have l := h.low
  have o := h.own
  refine ⟨hP.kept v (by omega) (by omega) (by omega), hQ, ht, rows_under (rows_under h.rt u (fun j hj => by omega)) v (fun j hj => by omega), Nat.le_succ_of_le h.tl, h.sm, ?_, l, o.1, o.2.1, o.2.2.1, Nat.le_trans o.2.2.2 (Nat.le_trans u.size v.size)⟩
  have a := h.U.pool (A := A) u o.1 o.2.1
  exact a.pool (A := A) v (by omega) (by omega)
theorem PS.mid {w wr wx : World} {N1 N A B1 B2 C UB GB K : Nat} {p : Po} {Td : List (Nat × Nat)} {s : Value} (h : PS w wr N1 N A B1 B2 C UB GB K p Td s) (u : Upd (fun k => k = B1 ∨ k = B2) wr wx) : RPo wx C UB GB p := by
  have l := h.low
  exact h.Q.kept u (by omega) (by omega) (by omega)
theorem PS.more {w wr : World} {N1 N A B1 B2 C UB GB K : Nat} {p : Po} {Td : List (Nat × Nat)} {s : Value} (h : PS w wr N1 N A B1 B2 C UB GB K p Td s) : PS w wr N1 N A B1 B2 C UB GB (K + 1) p Td s :=
  ⟨h.P, h.Q, Po.top_succ h.top, h.rt, Nat.le_succ_of_le h.tl, h.sm, h.U, h.low, h.own⟩
theorem PS.other {w wr wx : World} {N1 N A B1 B2 C UB GB K k : Nat} {p : Po} {Td : List (Nat × Nat)} {s : Value} (h : PS w wr N1 N A B1 B2 C UB GB K p Td s) (u : Upd (· = k) wr wx) (hk : N ≤ k) (hr : s.ownBlock ≠ some k) : PS w wx N1 N A B1 B2 C UB GB K p Td s := by
  have l := h.low
  have o := h.own
  exact ⟨h.P.kept u (by show ¬ A = k; omega) (by show ¬ B1 = k; omega) (by show ¬ B2 = k; omega), h.Q.kept u (by show ¬ C = k; omega) (by show ¬ UB = k; omega) (by show ¬ GB = k; omega), h.top, rows_kept h.rt u (fun j hj e => hr (by rw [hj]; exact congrArg some e)), h.tl, h.sm, h.U.onto u (by omega), l, o.1, o.2.1, o.2.2.1, Nat.le_trans o.2.2.2 u.size⟩
theorem PS.app {w wr wx : World} {N1 N A B1 B2 C UB GB K : Nat} {p : Po} {Td : List (Nat × Nat)} {s v : Value} {o : Obj} {x : Nat × Nat} (h : PS w wr N1 N A B1 B2 C UB GB K p Td s) (g : (wr.alloc o).grownBy wx s.ownBlock) (rt : wx.ownsRow N 33 2 v (Td ++ [x]).length (listC tagC (Td ++ [x]))) (hx : x.1 ≤ 8) (hl : Td.length + 1 ≤ K) :
    PS w wx N1 N A B1 B2 C UB GB K p (Td ++ [x]) v := by
  have l := h.low
  have n := h.own
  have hb : ∀ j, s.ownBlock = some j → N ≤ j := fun j hj => (h.rt.lt j hj).1
  have u : Upd (fun j => s.ownBlock = some j) wr wx := ⟨g.os, g.tape, g.output, by have := g.size; rw [World.size_alloc] at this; omega, fun j hj hs => by rw [g.block j (by rw [World.size_alloc]; omega) (fun e => hs e.symm)]; exact Below.heap_alloc _ _ _ hj⟩
  refine ⟨h.P.kept u (fun e => by have := hb _ e; omega) (fun e => by have := hb _ e; omega) (fun e => by have := hb _ e; omega), h.Q.kept u (fun e => by have := hb _ e; omega) (fun e => by have := hb _ e; omega) (fun e => by have := hb _ e; omega), h.top, rt, by rw [List.length_append]; exact hl, fun y hy => ?_, rows_grown h.rt g h.U (by omega), l, n.1, n.2.1, n.2.2.1, Nat.le_trans n.2.2.2 u.size⟩
  rcases List.mem_append.1 hy with hy | hy
  · exact h.sm y hy
  · simp only [List.mem_singleton] at hy; subst hy; exact hx
theorem below_of {w w' : World} (u : Upd (fun _ => False) w w') : Below w.heap.size w w' := u.below (Nat.le_refl _) fun _ _ h => h
theorem op_cells {w : World} {ao : Option Addr} {n b off : Nat} {E : Nat → Nat → Value} (R : Fr.RowArg w ao n b off [some .i64, some .i64, some .i64, some .i64] E) (i : Nat) (hi : i < n) :
    ∃ (d x a t : Int), w.cell? ⟨b, off + i * 4, none⟩ = some (.int .i64 d) ∧ w.cell? ⟨b, off + i * 4 + 1, none⟩ = some (.int .i64 x) ∧ w.cell? ⟨b, off + i * 4 + 2, none⟩ = some (.int .i64 a) ∧ w.cell? ⟨b, off + i * 4 + 3, none⟩ = some (.int .i64 t) ∧ (Lit.int .i64 a).wf = true := by
  obtain ⟨d, hd, _⟩ := R.ok i hi 0 _ rfl
  obtain ⟨x, hx, _⟩ := R.ok i hi 1 _ rfl
  obtain ⟨a, ha, wa⟩ := R.ok i hi 2 _ rfl
  obtain ⟨t, ht, _⟩ := R.ok i hi 3 _ rfl
  exact ⟨d, x, a, t, by rw [← hd]; exact R.cell i hi 0 (by decide), by rw [← hx]; exact R.cell i hi 1 (by decide), by rw [← ha]; exact R.cell i hi 2 (by decide), by rw [← ht]; exact R.cell i hi 3 (by decide), wa⟩
theorem wf_bd {a : Int} (h : (Lit.int .i64 a).wf = true) : -9223372036854775808 ≤ a ∧ a ≤ 9223372036854775807 := by
  have h : (decide (IntKind.i64.min ≤ a) && decide (a ≤ IntKind.i64.max)) = true := h
  rw [Bool.and_eq_true, decide_eq_true_eq, decide_eq_true_eq] at h
  exact h

set_option maxRecDepth 100000 in
set_option maxHeartbeats 4000000 in
theorem walk (m : Int) (ao : Option Addr) (ln cap b off : Nat) (E : Nat → Nat → Value) (w0 : (Lit.int .i64 m).wf = true) (w : World) (R : Fr.RowArg w ao ln b off [some .i64, some .i64, some .i64, some .i64] E) :
    Calls Try.prog 3 #[.int .i64 m, .slice ao ln cap] w fun e w' => e = .returned (.bool true) ∧ Below w.heap.size w w' := by
  clear w0
  have hmost := R.most
  by_cases hm : 1 ≤ m ∧ m ≤ 8
  · obtain ⟨n, rfl⟩ := Int.eq_ofNat_of_zero_le (show 0 ≤ m by omega)
    have hn1 : 1 ≤ n := by omega
    have hn8 : n ≤ 8 := by omega
    clear hm
    go_enter Try.func3, Try.ntmps3
    go_wp2_with fail
    refine (a10awake_any _).mono ?_
    rintro e w1 ⟨rfl, U1⟩
    go_wp2_with fail
    refine (anew_yes n _ hn1 hn8).mono ?_
    rintro e w2 ⟨A, B1, B2, rfl, P2, l0, l1, l2, U2⟩
    go_wp2_with fail
    refine (rnew10_yes n _ hn1 hn8).mono ?_
    rintro e w3 ⟨C, UB, GB, rfl, Q3, l3, l4, l5, U3⟩
    have O3 : PS w w3 w2.heap.size w3.heap.size A B1 B2 C UB GB 0 (po0 n) [] (.slice none 0 0) :=
      ⟨P2.still U3, Q3, top_po0 n, rows_new _ _ _ _, Nat.le_refl _, fun x hx => absurd hx List.not_mem_nil, (U1.trans U2).trans U3, ⟨P2.lts.1, P2.lts.2.1, P2.lts.2.2, l3, l4, l5, Q3.lts.1, Q3.lts.2.1, Q3.lts.2.2⟩, Nat.le_trans U1.size l1, Nat.le_trans U1.size l2, (U1.trans U2).size, Nat.le_refl _⟩
    clear U1 U2 U3 P2 Q3 l0 l1 l2 l3 l4 l5
    generalize w2.heap.size = N1 at O3
    generalize w3.heap.size = N at O3
    go_wp2_with fail
    go_loopw [10, 11] (fun s10 t wr => ∃ (i : Nat) (p : Po) (Td : List (Nat × Nat)), i ≤ ln ∧ i ≤ 120 ∧ t = .int .i64 i ∧ PS w wr N1 N A B1 B2 C UB GB i p Td s10) (fun _ t _ => 120 - (intOf t).toNat)
    case atStart => exact ⟨0, _, _, by omega, by omega, rfl, O3⟩
    case round =>
      clear O3
      obtain ⟨i, p, Td, hi, hi2, rfl, O⟩ := hrel
      have hend := O.U
      by_cases hlt : i < ln
      · by_cases hlt2 : i < 120
        · obtain ⟨d, x, a0, t0, g0, g1, g2, g3, hwa⟩ := op_cells R i hlt
          have g0 := O.U.cell g0 (fun h => h)
          have g1 := O.U.cell g1 (fun h => h)
          have g2 := O.U.cell g2 (fun h => h)
          have g3 := O.U.cell g3 (fun h => h)
          obtain rfl := R.place (by omega)
          obtain ⟨o9, c9, rfl⟩ := rows_slice O.rt
          obtain ⟨T, hT⟩ : ∃ T, Td.length = T := ⟨_, rfl⟩
          rw [hT] at O ⊢
          have HT := Lib.hid hT
          have hT2 : T ≤ 120 := by have := O.tl; omega
          have hTi : T ≤ i := by have := O.tl; have := HT.out; omega
          have Hwa := Lib.hid hwa
          clear hT hend hmost hwa
          go_upto_region 12 with fail
          obtain ⟨k1, k2, u2⟩ := step_boxes wr d x a0 t0 35
          have hD := O.own.2.2.2
          have hb9 := Lib.hid (fun j (h : (Value.slice o9 T c9).ownBlock = some j) => show j < wr.heap.size from (O.rt.lt j h).2)
          have O := O.still u2
          generalize (wr.alloc (.cells #[.int .i64 d, .int .i64 x, .int .i64 a0, .int .i64 t0] 35)).alloc (.cells #[.int .i64 a0, .int .i64 t0] 33) = W at k1 k2 O ⊢
          generalize wr.heap.size = D at k1 k2 hD hb9 ⊢
          have c0 : W.cell? ⟨D, 0, none⟩ = some (.int .i64 d) := by rw [cell_of_row W D 0 _ _ _ k1]; rfl
          have c1 : W.cell? ⟨D, 1, none⟩ = some (.int .i64 x) := by rw [cell_of_row W D 1 _ _ _ k1]; rfl
          clear g0 g1 g2 g3 u2
          go_cut [72] (fun s72 wx => wx = W ∧ ∃ c : Bool, s72 = .bool c ∧ Hid (c = true → 0 ≤ x ∧ 0 < T))
          case first =>
            by_cases hd : d = 2
            · subst hd
              by_cases h1 : 0 < T
              · have h1I : (0 : Int) < (T : Int) := by omega
                by_cases h0 : 0 ≤ x
                · go_wp2_with fail
                  go_meet
                  exact ⟨rfl, _, rfl, Lib.hid fun _ => ⟨h0, h1⟩⟩
                · have h0' : decide (0 ≤ x) = false := decide_eq_false h0
                  go_wp2_with fail
                  go_meet
                  exact ⟨rfl, false, by simp [h0'], Lib.hid fun h => by cases h⟩
              · obtain rfl : T = 0 := by omega
                clear h1
                go_wp2_with fail
                go_meet
                exact ⟨rfl, false, rfl, Lib.hid fun h => by cases h⟩
            · have hd' : (d == 2) = false := by simpa using hd
              go_wp2_with fail
              go_meet
              exact ⟨rfl, false, by simp [hd'], Lib.hid fun h => by cases h⟩
          case rest =>
            obtain ⟨rfl, c, rfl, hc⟩ := hcut
            go_upto_if 72 with fail
            go_cut [80] (fun _ wx => ∃ a t : Int, Hid ((Lit.int .i64 a).wf = true) ∧ TagAt 33 wx (D + 1) a t ∧ Hid (wx.heap[D]? = some (.cells #[.int .i64 d, .int .i64 x, .int .i64 a0, .int .i64 t0] 35 (0, 0))) ∧ PS w wx N1 N A B1 B2 C UB GB i p Td (.slice o9 T c9))
            case first =>
              cases c
              · go_wp2_with fail
                go_meet
                exact ⟨_, _, Hwa, k2, Lib.hid k1, O⟩
              · obtain ⟨h0, h1⟩ := hc.out rfl
                obtain ⟨X, rfl⟩ := Int.eq_ofNat_of_zero_le h0
                obtain ⟨q, hq⟩ : ∃ q, X % T = q := ⟨_, rfl⟩
                have hql : q < T := by rw [← hq]; exact Nat.mod_lt _ h1
                have hqI : (X : Int) % (T : Int) = (q : Int) := by rw [← hq]; omega
                have hne : ¬ (T : Int) = 0 := by omega
                have hrow := O.rt
                rw [HT.out] at hrow
                obtain ⟨ga, rfl, hga, g0, g1⟩ := tags_at hrow HT.out q hql
                have hm : Td.getD q (0, 0) ∈ Td := by rw [List.getD_eq_getElem?_getD, List.getElem?_eq_getElem (by rw [HT.out]; exact hql)]; exact List.getElem_mem _
                have hsm := O.sm _ hm
                generalize Td.getD q (0, 0) = y at g0 g1 hsm
                have hy := Lib.hid (wf_frame (n := y.1) (by omega))
                have hth := Lib.hid k2.there
                have hset := Lib.hid (k2.set (y.1 : Int) (y.2 : Int))
                have us := Lib.hid (Upd.setCells (S := (· = D + 1)) (.inl rfl) [.int .i64 (y.1 : Int), .int .i64 (y.2 : Int)] 0 (Upd.refl (· = D + 1) wc))
                clear hm hc hq hrow
                go_wp2_with (with_reducible refine wpList_store_sz rfl 33 (.tmp 13) (.tmp 80) rfl (D + 1) 0 #[.int .i64 (y.1 : Int), .int .i64 (y.2 : Int)] rfl rfl 2 (tag_sz _ _) hth.out size_tag (tag_one _ _) [.int .i64 (y.1 : Int), .int .i64 (y.2 : Int)] (tag_ls _ _) ?_)
                go_meet
                exact ⟨_, _, hy, hset.out, Lib.hid (us.out.at k1 (by show ¬ D = D + 1; omega)), O.other us.out (by omega) (fun e => by have := hb9.out _ e; omega)⟩
            case rest =>
              obtain ⟨a, t, hwa, k2, k1, O⟩ := hcut
              clear hc
              have c0 : wc.cell? ⟨D, 0, none⟩ = some (.int .i64 d) := by rw [cell_of_row wc D 0 _ _ _ k1.out]; rfl
              go_upto_region 15 with fail
              go_cut [88] (fun s88 wx => wx = wc ∧ ∃ c : Bool, s88 = .bool c)
              case first =>
                by_cases hd : d = 0
                · subst hd
                  go_wp2_with fail
                  go_meet
                  exact ⟨rfl, _, rfl⟩
                · have hd' : (d == 0) = false := by simpa using hd
                  go_wp2_with fail
                  go_meet
                  exact ⟨rfl, _, rfl⟩
              case rest =>
                obtain ⟨rfl, c2, rfl⟩ := hcut
                go_upto_if 88 with fail
                go_cut [10, 14] (fun s10 s14 wx => s14 = .bool true ∧ ∃ (a t : Int) (p' : Po) (Td' : List (Nat × Nat)), Hid ((Lit.int .i64 a).wf = true) ∧ TagAt 33 wx (D + 1) a t ∧ PS w wx N1 N A B1 B2 C UB GB (i + 1) p' Td' s10 ∧ Hid (∀ j, s10.ownBlock = some j → j ≠ D + 1))
                case first =>
                  clear c0 k1
                  cases c2
                  · have Tp := O.top
                    have Od := O.still (Upd.refl (fun _ => False) wc).drew
                    have kd := k2.kept (Upd.refl (fun _ => False) wc).drew id
                    have d0 := kd.c0
                    have d1 := kd.c1
                    have e0 := k2.c0
                    have e1 := k2.c1
                    have hlow := O.low
                    obtain ⟨er, hE⟩ : ∃ er, p.bkE a t = er := ⟨_, rfl⟩
                    have cA := Lib.hid (fun W hP => aback_all A B1 B2 p i (by omega) Tp a t hwa.out W hP)
                    have cB := Lib.hid (fun W hP => rback_all C UB GB p a t (wf_bd hwa.out) W hP)
                    rw [hE] at cA cB
                    clear hE
                    go_wp2_with fail
                    go_region_held3 (fun w' => w'.cell? ⟨D + 1, 0, none⟩ = some (.int .i64 a) ∧ w'.cell? ⟨D + 1, 1, none⟩ = some (.int .i64 t))
                      (first
                        | exact ⟨d0, d1⟩
                        | exact ⟨e0, e1⟩
                        | exact ⟨q0, q1⟩
                        | exact ⟨p0, p1⟩)
                      (first
                        | (go_at_call 11; refine (cA.out _ Od.P).mono ?_; rintro e3 w3 ⟨rfl, P3, U3⟩; have R3 := Od.mid U3; have p0 := U3.cell d0 (by show ¬ (D + 1 = B1 ∨ D + 1 = B2); omega); have p1 := U3.cell d1 (by show ¬ (D + 1 = B1 ∨ D + 1 = B2); omega); have kk := kd.kept U3 (by omega))
                        | (go_at_call 12; refine (cB.out _ R3).mono ?_; rintro e4 w4 ⟨rfl, Q4, U4⟩; have q0 := U4.cell p0 (by show ¬ (D + 1 = UB ∨ D + 1 = GB); omega); have q1 := U4.cell p1 (by show ¬ (D + 1 = UB ∨ D + 1 = GB); omega); have kq := kk.kept U4 (by omega)))
                    go_wp2_with fail
                    go_meet
                    exact ⟨by simp, _, _, _, _, hwa, kq, Od.turn U3 P3 U4 Q4 (Po.bk_top Tp a t), Lib.hid fun j hj => by have := hb9.out _ hj; omega⟩
                  · have Tp := O.top
                    have hA8 := Po.tkA_le O.Q.hi
                    go_wp2_with fail
                    refine (atake_all A B1 B2 p i (by omega) Tp _ O.P).mono ?_
                    rintro e4 w4 ⟨rfl, P4, U4⟩
                    have Q4 := O.mid U4
                    obtain ⟨m5, u5⟩ := tag_box w4 p.tkA p.tkT
                    have Q5 := Q4.still u5
                    have hs4 := U4.size
                    go_upto_region 17 with fail
                    have hD5 : Hid (D + 1 < w4.heap.size) := Lib.hid (by have := lt_of_heap k2; omega)
                    generalize hW5 : w4.alloc (.cells #[.int .i64 (p.tkA : Int), .int .i64 (p.tkT : Int)] 33) = w5 at m5 u5 Q5 ⊢
                    have hs5 : Hid (w5.heap.size = w4.heap.size + 1) := Lib.hid (by rw [← hW5]; simp)
                    clear hW5
                    go_wp2_with fail
                    refine (rtake_all C UB GB p i (by omega) Tp _ Q5).mono ?_
                    rintro e6 w6 ⟨rfl, Q6, U6⟩
                    have hlow := O.low
                    have hown := O.own
                    have O6 := O.turn (U4.trans (u5.mono fun _ _ x => x.elim)) (P4.still u5) U6 Q6 (Po.tk_top Tp)
                    have hs5' := hs5.out
                    have hD5' := hD5.out
                    have m6 := m5.kept U6 (by omega)
                    have k6 := ((k2.kept U4 (by omega)).kept u5 id).kept U6 (by omega)
                    have h56 := U6.size
                    obtain ⟨X, hX⟩ : ∃ X, p.tkA = X := ⟨_, rfl⟩
                    obtain ⟨Y, hY⟩ : ∃ Y, p.tkT = Y := ⟨_, rfl⟩
                    obtain ⟨er, hE⟩ : ∃ er, p.tkE = er := ⟨_, rfl⟩
                    rw [hX, hY] at m6
                    rw [hX] at hA8
                    rw [hX, hY, hE]
                    clear hX hY hE P4 U4 Q4 m5 u5 Q5 U6 Q6 Tp O k2
                    generalize w4.heap.size = R5 at m6 hs4 hs5' hD5' ⊢
                    obtain ⟨m7, u7⟩ := rtag_box w6 X Y
                    have O7 := O6.still u7
                    have mm7 := m6.kept u7 id
                    have k7 := k6.kept u7 id
                    have h67 : R5 < w6.heap.size := by omega
                    have h7 : D + 1 < w6.heap.size := by omega
                    clear O6 m6 k6 u7 hs5 hD5
                    go_upto_region 18 with fail
                    generalize w6.alloc (.cells #[.int .i64 (X : Int), .int .i64 (Y : Int)] 38) = w7 at m7 O7 mm7 k7 ⊢
                    generalize w6.heap.size = R7 at m7 h67 h7 h56 ⊢
                    have e0 := m7.c0
                    have e1 := m7.c1
                    have f0 := mm7.c0
                    have f1 := mm7.c1
                    have hq0 := Lib.hid mm7.range
                    go_upto_region 19 with fail
                    have hth := Lib.hid k7.there
                    have hset := Lib.hid (k7.set (X : Int) (Y : Int))
                    have us := Lib.hid (Upd.setCells (S := (· = D + 1)) (.inl rfl) [.int .i64 (X : Int), .int .i64 (Y : Int)] 0 (Upd.refl (· = D + 1) w7))
                    go_upto_region 20 with (first
                      | (with_reducible refine wpList_load_sz rfl 33 (.tmp 15) rfl R5 0 rfl [.int .i64 (X : Int), .int .i64 (Y : Int)] _ hq0.out Try.underlying33 rfl 2 rfl size_tag ?_)
                      | (with_reducible refine wpList_store_sz rfl 33 (.tmp 13) (.tmp 116) rfl (D + 1) 0 #[.int .i64 (X : Int), .int .i64 (Y : Int)] rfl rfl 2 (tag_sz _ _) hth.out size_tag (tag_one _ _) [.int .i64 (X : Int), .int .i64 (Y : Int)] (tag_ls _ _) ?_))
                    have O9 := O7.other us.out (by omega) (fun e => by have := hb9.out _ e; omega)
                    have k9 := hset.out
                    have m9 := mm7.kept us.out (by show ¬ R5 = D + 1; omega)
                    have hq9 := Lib.hid m9.range
                    have hs9 := us.out.size
                    generalize w7.setCells (D + 1) 0 [.int .i64 (X : Int), .int .i64 (Y : Int)] = w9 at O9 k9 m9 hq9 hs9 ⊢
                    have rt9 := O9.rt
                    rw [HT.out] at rt9
                    have hN9 := O9.own.2.2.2
                    obtain ⟨i0, hi0, hz0, hz1, hz2⟩ := info_parts info_tag
                    clear O7 us hset hth hq0 e0 e1 f0 f1 m7 mm7 k7
                    go_wp2_with (first
                      | (with_reducible refine wpList_load_sz rfl 33 (.tmp 15) rfl R5 0 rfl [.int .i64 (X : Int), .int .i64 (Y : Int)] _ hq9.out Try.underlying33 rfl 2 rfl size_tag ?_)
                      | (at_builtin; refine wpList_append_own_at _ rfl (.tmp 117) (.tmp 119) 31 rfl N 33 i0 (.agg #[.int .i64 0, .int .i64 0]) 2 16 Try.underlying31 hi0 hz0 hz1 hz2 rfl (by decide) _ _ _ rfl (rt9.alloc _) ⟨w9.heap.size, 0, none⟩ 1 1 [.int .i64 X, .int .i64 Y] rfl rfl (rows_src _ _ _) (by simp [Value.oneCell']) (by simp [maxLen]; omega) (by omega) (by simp; omega) ?_; intro v10 w10 rt10 g10 _ ap10))
                    have hl : (Td ++ [(X, Y)]).length = T + 1 := by rw [List.length_append, HT.out]; rfl
                    have O10 := O9.app (x := (X, Y)) g10 (by rw [hl, listC_app, listC_one]; exact rt10) hA8 (by rw [HT.out]; omega)
                    have k10 : TagAt 33 w10 (D + 1) X Y := by
                      have u : Upd (fun j => (Value.slice o9 T c9).ownBlock = some j) w9 w10 := ⟨g10.os, g10.tape, g10.output, by have := g10.size; rw [World.size_alloc] at this; omega, fun j hj hs => by rw [g10.block j (by rw [World.size_alloc]; omega) (fun e => hs e.symm)]; exact Below.heap_alloc _ _ _ hj⟩
                      exact k9.kept u (fun e => by have := hb9.out _ e; omega)
                    have hwX := Lib.hid (wf_frame (n := X) (by omega))
                    go_meet
                    exact ⟨rfl, _, _, _, _, hwX, k10, O10, Lib.hid fun j hj => by
                      rcases ap10 with h | h
                      · rw [h] at hj; have := hb9.out _ hj; omega
                      · rw [h] at hj; injection hj with hj; have := lt_of_heap k9; rw [World.size_alloc] at hj; omega⟩
                case rest =>
                  obtain ⟨rfl, a', t', p', Td', hwa', k3, O', hne⟩ := hcut
                  clear O k1 k2 hwa c0
                  have Od := O'.still (Upd.refl (fun _ => False) wc).drew
                  have kd := k3.kept (Upd.refl (fun _ => False) wc).drew id
                  have d0 := kd.c0
                  have d1 := kd.c1
                  have e0 := k3.c0
                  have e1 := k3.c1
                  have HF : ∃ F : Nat, p'.left = F := ⟨_, rfl⟩
                  obtain ⟨F, hF⟩ := HF
                  obtain ⟨bl, hbl⟩ : ∃ bl, (p'.at a' t').isSome = bl := ⟨_, rfl⟩
                  have cL := Lib.hid (fun W hP => aleft_any A B1 B2 p' W hP)
                  have cR := Lib.hid (fun W hP => rleft10_any C UB GB p' W hP)
                  have cA := Lib.hid (fun W hP => alives_any A B1 B2 p' a' t' hwa'.out W hP)
                  have cB := Lib.hid (fun W hP => rlives_any C UB GB p' a' t' (wf_bd hwa'.out) W hP)
                  rw [hF] at cL cR
                  rw [hbl] at cA cB
                  clear hF hbl
                  go_wp2_with fail
                  go_region_held3 (fun w' => w'.cell? ⟨D + 1, 0, none⟩ = some (.int .i64 a') ∧ w'.cell? ⟨D + 1, 1, none⟩ = some (.int .i64 t'))
                    (first
                      | exact ⟨d0, d1⟩
                      | exact ⟨e0, e1⟩
                      | exact ⟨q0, q1⟩
                      | exact ⟨p0, p1⟩)
                    (first
                      | (go_at_call 13; refine (cL.out _ Od.P).mono ?_; rintro e3 w3 ⟨rfl, rfl⟩)
                      | (go_at_call 14; refine (cR.out _ Od.Q).mono ?_; rintro e3 w3 ⟨rfl, rfl⟩)
                      | (go_at_call 15; refine (cA.out _ Od.P).mono ?_; rintro e3 w3 ⟨rfl, U3⟩; have Oe := Od.still U3; have p0 := U3.cell d0 id; have p1 := U3.cell d1 id)
                      | (go_at_call 16; refine (cB.out _ Oe.Q).mono ?_; rintro e4 w4 ⟨rfl, U4⟩; have Of := Oe.still U4; have q0 := U4.cell p0 id; have q1 := U4.cell p1 id))
                  clear d0 d1 e0 e1 p0 p1 q0 q1 cA cB cL cR k3 kd
                  go_wp2_with fail
                  exact ⟨⟨i + 1, p', Td', by omega, by omega, by go_num, Of⟩, by simp [intOf]; omega⟩
        · obtain rfl : i = 120 := by omega
          have h120 : (120 : Int) < (ln : Int) := by omega
          clear O hmost
          go_wp2_with fail
          go_ret
          exact ⟨rfl, below_of hend⟩
      · obtain rfl : i = ln := by omega
        clear O hmost
        go_wp2_with fail
        go_ret
        exact ⟨rfl, below_of hend⟩
  · go_enter Try.func3, Try.ntmps3
    go_wp2_with fail
    refine (a10awake_any _).mono ?_
    rintro e w1 ⟨rfl, U1⟩
    go_wp2_with fail
    refine (anew_no m _ (by omega)).mono ?_
    rintro e w2 ⟨rfl, rfl⟩
    go_wp2_with fail
    refine (rnew10_no m _ (by omega)).mono ?_
    rintro e w2 ⟨rfl, rfl⟩
    clear hm
    go_wp2_with fail
    go_loopw [11] (fun t wr => t = .int .i64 0 ∧ Upd (fun _ => False) w wr) (fun _ _ => 0)
    case atStart => exact ⟨rfl, U1⟩
    case round =>
      obtain ⟨rfl, V⟩ := hrel
      by_cases h0 : 0 < ln
      · have h0I : (0 : Int) < (ln : Int) := by omega
        go_wp2_with fail
        go_ret
        exact ⟨rfl, below_of V⟩
      · obtain rfl : ln = 0 := by omega
        go_wp2_with fail
        go_ret
        exact ⟨rfl, below_of V⟩
/-! ### the row's frame -/
theorem own : ownKnob Try.prog.godebug = none := by kernel_rfl
theorem laidOut : laidOutB Try.prog = true := by kernel_rfl
set_option linter.unusedVariables false in
set_option maxRecDepth 100000 in
theorem lifted (os : Os) (started : os.Started) (H : Type) (enc : TypeId × Value → H) :
    ReturnsInHanded {} Try.checked os 3 .any (Rows.asidPlaysSpec.pre6 enc Try.prog Try.f3 Rows.asidPlaysRow.domain false) (Rows.asidPlaysSpec.post enc Try.prog Try.f3 false true false false) := by
  refine returnsInHanded_of_change (C := Try.checked) own started (by kernel_rfl) Try.func3
    (ChangeSpec.witness6 (enc := enc) (C := Try.checked) false ⟨#[], #[.int .i64 0, .slice none 0 0], []⟩ 8 (by kernel_rfl) (by kernel_rfl) (by kernel_rfl) (by kernel_rfl)) ?_
  intro W base args ds gs before hval0 hW hcnd _
  have hval : ∀ (j : Nat) t v, Try.f3.params[j]? = some t → args[j]? = some v → Value.okWide Try.prog W .any base t v := hval0
  have hW' := hW
  obtain ⟨p, q, hA0, hV, rfl, hfz, hnd⟩ := hW
  have hA : DataW.TrodAll enc Try.prog W 0 (fun _ => true) true Try.f3.params.toList args.toList ds p := hA0
  rw [Try.params3] at hA hval
  obtain ⟨v0, vs0, d0, ds0, p0, q0, hargs, rfl, rfl, h0, r0⟩ := trodAll_cons hA
  obtain ⟨v1, vs1, d1, ds1, p1, q1, rfl, rfl, rfl, h1, r1⟩ := trodAll_cons r0
  obtain ⟨rfl, rfl, rfl⟩ := trodAll_nil r1
  obtain rfl : args = #[v0, v1] := by cases args; simp_all
  obtain ⟨rfl, rfl⟩ := trodVars_none hV
  have k0 := h0
  have lt0 : ∀ x ∈ p0, x.block < W.heap.size := by obtain ⟨m, hm⟩ := k0; exact DataW.trod_lt m _ _ _ hm
  obtain ⟨a0, rfl, rfl, rfl, w0⟩ := open_int Try.underlying3 (hval 0 3 v0 rfl rfl) h0
  have k1 := h1
  have lt1 : ∀ x ∈ p1, x.block < W.heap.size := by obtain ⟨m, hm⟩ := k1; exact DataW.trod_lt m _ _ _ hm
  obtain ⟨ao1, n1, cap1, b1, of1, E1, rfl, w1⟩ := Fr.open_rows 12 [some .i64, some .i64, some .i64, some .i64] Try.underlying22 (by kernel_rfl) (by kernel_rfl) (by decide) (hval 1 22 v1 rfl rfl) h1
  clear hA0 hval0
  refine (walk a0 ao1 n1 cap1 b1 of1 E1 w0 W w1).mono fun e W' ⟨he, bel⟩ => ?_
  subst he
  exact ⟨_, rfl, _, _, _, [], _, [], hW', trodAll_mk1 (shut_bool Try.underlying4 _), (trodAll_cons_mk (Below.trod laidOut (by kernel_rfl) (of_decide_eq_true (by kernel_rfl)) k0 bel lt0) (trodAll_cons_mk (Below.trod laidOut (by kernel_rfl) (of_decide_eq_true (by kernel_rfl)) k1 bel lt1) trodAll_mk0)), rfl, bel.frame _, fun h => by cases h⟩

theorem over : Rows.asidPlaysRow.holds Try.pinned (OpenSpec.ofChange Rows.asidPlaysSpec) :=
  OpenClaim.holds_of_wide 3 Try.f3 rfl rfl rfl rfl rfl rfl rfl ⟨rfl, rfl, rfl, rfl, rfl⟩ rfl rfl rfl rfl rfl (by kernel_rfl) Try.func3 (by kernel_rfl)
    (of_decide_eq_true (by kernel_rfl)) (by unfold Func.isWrapper; first | (rw [if_pos (by decide +kernel)]; kernel_rfl) | (rw [if_neg (by decide +kernel)]; exact ⟨rfl, rfl⟩))
    (fun os started H enc _ => lifted os started H enc)

theorem proved : Rows.AsidPlaysSaid :=
  over
end Go.Proofs.Ytmalfdbjbgifeaa.asidPlays
