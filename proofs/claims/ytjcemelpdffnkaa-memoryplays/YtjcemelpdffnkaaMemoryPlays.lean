/-
  Proved: trunnionlaw02.MemoryPlays answers true for every input: whatever calls are made one by one, the memory answers and holds just what the document's own memory does.
  Conditions: none.
-/
import Derived.Test.YtjcemelpdffnkaaMemR
import Derived.Test.YtjcemelpdffnkaaFrame
import Derived.Deep.RegionHeld3
import Derived.Deep.DeepCutAuto
import Derived.Deep.CutBlock
namespace Go.Proofs.Ytjcemelpdffnkaa.memoryPlays
open Go.ChangeShapes Go.WideShapes Go.ChangeAt Go.RowKit
set_option linter.unusedVariables false
set_option linter.unusedSimpArgs false

theorem below_none {w w' : World} (h : Upd (fun _ => False) w w') : Below w.heap.size w w' := h.below (Nat.le_refl _) (fun _ _ e => e)
/-- one step's four numbers, where they lie -/
theorem op_cells {w : World} {ao : Option Addr} {n b off : Nat} {E : Nat → Nat → Value} (R : Fr.RowArg w ao n b off [some .i64, some .i64, some .i64, some .u64] E) (i : Nat) (hi : i < n) :
    ∃ d x y v : Int, w.cell? ⟨b, off + i * 4, none⟩ = some (.int .i64 d) ∧ w.cell? ⟨b, off + i * 4 + 1, none⟩ = some (.int .i64 x) ∧ w.cell? ⟨b, off + i * 4 + 2, none⟩ = some (.int .i64 y) ∧ w.cell? ⟨b, off + i * 4 + 3, none⟩ = some (.int .u64 v) ∧
      (Lit.int .i64 d).wf = true ∧ (Lit.int .i64 x).wf = true ∧ (Lit.int .i64 y).wf = true ∧ (Lit.int .u64 v).wf = true := by
  obtain ⟨d, hd, wd⟩ := R.ok i hi 0 _ rfl
  obtain ⟨x, hx, wx⟩ := R.ok i hi 1 _ rfl
  obtain ⟨y, hy, wy⟩ := R.ok i hi 2 _ rfl
  obtain ⟨v, hv, wv⟩ := R.ok i hi 3 _ rfl
  exact ⟨d, x, y, v, by rw [← hd]; exact R.cell i hi 0 (by decide), by rw [← hx]; exact R.cell i hi 1 (by decide), by rw [← hy]; exact R.cell i hi 2 (by decide), by rw [← hv]; exact R.cell i hi 3 (by decide), wd, wx, wy, wv⟩
/-- the same memory elsewhere -/
def re (m : Mem) (B : Nat) : Mem := { m with B := B }
theorem re_wr (m : Mem) (B : Nat) (a v : Int) : (re m B).wr a v = re (m.wr a v) B := by
  unfold Mem.wr
  show (if m.has a then _ else _) = _
  split <;> rfl
theorem re_scrub (m : Mem) (B : Nat) (f k : Int) : (re m B).scrub f k = re (m.scrub f k) B := by
  unfold Mem.scrub
  show (if m.ex f k then _ else _) = _
  split <;> rfl
theorem re_fill (m : Mem) (B : Nat) (f : Int) (vs : List Int) : (re m B).fill f vs = re (m.fill f vs) B := by
  unfold Mem.fill
  show (if m.ex f 1 then _ else _) = _
  split <;> rfl
theorem re_has (m : Mem) (B : Nat) (a : Int) : (re m B).has a = m.has a := rfl
theorem re_ex (m : Mem) (B : Nat) (f k : Int) : (re m B).ex f k = m.ex f k := rfl
theorem re_rd (m : Mem) (B : Nat) (a : Int) : (re m B).rd a = m.rd a := rfl
theorem re_zero (m : Mem) (B : Nat) (f : Int) : (re m B).zero f = m.zero f := rfl
theorem re_new (B B' n : Nat) : memNew B' n = re (memNew B n) B' := rfl
theorem re_B (m : Mem) (B : Nat) : (re m B).B = B := rfl
theorem re_n (m : Mem) (B : Nat) : (re m B).n = m.n := rfl
theorem re_at (m : Mem) (B i : Nat) : (re m B).at i = m.at i := rfl
theorem box4 {w : World} {b t : Nat} {x y z u : Value} (h : w.heap[b]? = some (.cells #[x, y, z, u] t (0, 0))) : w.cell? ⟨b, 0, none⟩ = some x ∧ w.cell? ⟨b, 1, none⟩ = some y ∧ w.cell? ⟨b, 2, none⟩ = some z ∧ w.cell? ⟨b, 3, none⟩ = some u := by
  refine ⟨?_, ?_, ?_, ?_⟩ <;> (rw [cell_of_row w b _ _ _ _ h]; rfl)
/-- both memories, the same words in both -/
structure Two (w wr : World) (A C B1 B2 : Nat) (m : Mem) : Prop where
  M : MemAt wr A m
  R : RefAt wr C (re m B2)
  U : Upd (fun _ => False) w wr
  b : m.B = B1
  l0 : w.heap.size ≤ B1
  l1 : B1 < A
  l2 : A < B2
  l3 : B2 < C
theorem Two.kept {w wr w' : World} {A C B1 B2 : Nat} {m : Mem} (h : Two w wr A C B1 B2 m) (u : Upd (fun _ => False) wr w') : Two w w' A C B1 B2 m :=
  ⟨h.M.kept u (fun h => h) (fun h => h), h.R.kept u (fun h => h) (fun h => h), h.U.trans u, h.b, h.l0, h.l1, h.l2, h.l3⟩
theorem Two.lt {w wr : World} {A C B1 B2 : Nat} {m : Mem} (h : Two w wr A C B1 B2 m) : C < wr.heap.size := lt_of_heap h.R.head
/-- a call on the one, then on the other -/
theorem Two.step {w w1 w2 w3 : World} {A C B1 B2 : Nat} {m m' : Mem} (h : Two w w1 A C B1 B2 m) (hM : MemAt w2 A m') (u : Upd (· = B1) w1 w2) (hR : RefAt w3 C (re m' B2)) (u' : Upd (· = B2) w2 w3) (hb : m'.B = B1) : Two w w3 A C B1 B2 m' :=
  ⟨hM.kept u' (by have := h.l2; omega) (by rw [hb]; have := h.l1; have := h.l2; omega), hR, (h.U.new (u.one h.l0)).new (u'.one (by have := h.l0; have := h.l1; have := h.l2; omega)), hb, h.l0, h.l1, h.l2, h.l3⟩
theorem frI_len (m : Mem) (h : m.ok) (f : Int) : (m.frI f).length = 16 := by
  unfold Mem.frI
  cases hE : m.ex f 1
  · rfl
  · obtain ⟨a1, a2, a3⟩ := of_decide_eq_true hE
    exact m.fr_len h _ (by omega)
theorem frI_at (m : Mem) (F j : Nat) (hE : m.ex F 1 = true) (hj : j < 16) : (m.frI F).getD j 0 = m.at (16 * F + j) := by
  unfold Mem.frI
  rw [hE, if_pos rfl, Int.toNat_natCast, m.fr_getD F j hj, Nat.mul_comm]
set_option maxRecDepth 100000 in
set_option maxHeartbeats 4000000 in
theorem walk (N : Int) (ao : Option Addr) (n cap b off : Nat) (E : Nat → Nat → Value) (w0 : (Lit.int .i64 N).wf = true) (w : World) (R : Fr.RowArg w ao n b off [some .i64, some .i64, some .i64, some .u64] E) :
    Calls Try.prog 3 #[.int .i64 N, .slice ao n cap] w fun e w' => e = .returned (.bool true) ∧ Below w.heap.size w w' := by
  clear w0
  have hmost := R.most
  by_cases hN : 1 ≤ N ∧ N ≤ 256
  · obtain ⟨n1, n2⟩ := hN
    obtain ⟨F, rfl⟩ := Int.eq_ofNat_of_zero_le (by omega : 0 ≤ N)
    go_enter Try.func3, Try.ntmps3
    go_wp2_with fail
    refine (awake_any _).mono ?_
    rintro e w1 ⟨rfl, U1⟩
    go_wp2_with fail
    refine (new_yes F _ (by omega) (by omega)).mono ?_
    rintro e w2 ⟨rfl, M2, U2, s2⟩
    have S2 := Lib.hid s2
    clear s2
    go_wp2_with fail
    refine (rNew_yes F _ (by omega) (by omega)).mono ?_
    rintro e w3 ⟨rfl, R3, U3, -⟩
    rw [re_new w1.heap.size w2.heap.size F] at R3
    have T0 : Two w w3 (w1.heap.size + 1) (w2.heap.size + 1) w1.heap.size w2.heap.size (memNew w1.heap.size F) :=
      ⟨M2.kept U3 (fun h => h) (fun h => h), R3, (U1.trans U2).trans U3, rfl, U1.size, by omega, by rw [S2.out]; omega, by omega⟩
    clear M2 R3 U1 U2 U3 S2
    generalize memNew w1.heap.size F = m at T0
    generalize w1.heap.size + 1 = A at T0 ⊢
    generalize w2.heap.size + 1 = C at T0 ⊢
    generalize w1.heap.size = B1 at T0
    generalize w2.heap.size = B2 at T0
    go_wp2_with fail
    go_loopw [10] (fun t wr => ∃ (k : Nat) (m' : Mem), k ≤ n ∧ k ≤ 60 ∧ t = .int .i64 k ∧ Two w wr A C B1 B2 m') (fun t _ => 60 - (intOf t).toNat)
    case atStart => exact ⟨0, m, by omega, by omega, rfl, T0⟩
    case round =>
      obtain ⟨k, m, hk, hk6, rfl, T⟩ := hrel
      clear T0
      by_cases hlt : k < n
      · by_cases hl6 : k < 60
        · obtain rfl := R.place (by omega)
          have R' := R.kept (below_none T.U)
          obtain ⟨d, x, y, v, c0, c1, c2, c3, wd, wx, wy, wv⟩ := op_cells R' k hlt
          have hy := Lib.hid (bounds_i64 wy)
          clear wd wx wy wv R'
          go_upto_region 10 with fail
          go_upto_region 11 with fail
          have Tw := T.kept ((Upd.refl (fun _ => False) wr).alloc (.cells #[.int .i64 d, .int .i64 x, .int .i64 y, .int .u64 v] 33))
          have X := heap_alloc_last wr (.cells #[.int .i64 d, .int .i64 x, .int .i64 y, .int .u64 v] 33)
          have hg := T.lt
          generalize wr.alloc (.cells #[.int .i64 d, .int .i64 x, .int .i64 y, .int .u64 v] 33) = W at Tw X ⊢
          generalize wr.heap.size = g at X hg ⊢
          clear T c0 c1 c2 c3
          obtain ⟨o0, o1, o2, o3⟩ := box4 X
          have HX := Lib.hid X
          clear X
          have hgB : B1 < g ∧ B2 < g := ⟨by have := Tw.l1; have := Tw.l2; have := Tw.l3; omega, by have := Tw.l3; omega⟩
          obtain ⟨hg1, hg2⟩ := hgB
          go_upto_block 2 with fail
          go_cut [12] (fun s12 wx => s12 = .bool true ∧ ∃ m' : Mem, Two w wx A C B1 B2 m' ∧ Hid (wx.heap[g]? = some (.cells #[.int .i64 d, .int .i64 x, .int .i64 y, .int .u64 v] 33 (0, 0))))
          case first =>
            have Td := Tw.kept (Upd.refl (fun _ => False) W).drew
            by_cases d01 : d = 0 ∨ d = 1
            · rcases d01 with rfl | rfl
              all_goals
                go_wp2_with fail
                go_region_held3 (fun w' => w'.cell? ⟨g, 1, none⟩ = some (.int .i64 x) ∧ w'.cell? ⟨g, 3, none⟩ = some (.int .u64 v))
                  (first
                    | exact ⟨by simpa using o1, by simpa using o3⟩
                    | exact ⟨U4.cell p1 (by show g ≠ B2; omega), U4.cell p3 (by show g ≠ B2; omega)⟩
                    | exact ⟨p1, p3⟩)
                  (first
                    | (go_at_call 10; refine (write_any _ _ _ _ _ Td.M).mono ?_; rintro e w3 ⟨rfl, M3, U3⟩; rw [Td.b] at U3; have R3 := Td.R.kept U3 (by have := Td.l1; have := Td.l2; have := Td.l3; omega) (by rw [re_B]; have := Td.l1; have := Td.l2; omega); have p1 := U3.cell (p := ⟨g, 1, none⟩) (show W.drew.cell? _ = _ from by simpa using o1) (by show g ≠ B1; omega); have p3 := U3.cell (p := ⟨g, 3, none⟩) (show W.drew.cell? _ = _ from by simpa using o3) (by show g ≠ B1; omega))
                    | (go_at_call 11; refine (rWrite_any _ _ _ _ _ R3).mono ?_; rintro e w4 ⟨rfl, R4, U4⟩; rw [re_B] at U4; rw [re_wr] at R4; rw [re_has]))
                go_wp2_with fail
                go_meet
                exact ⟨rfl, _, Td.step M3 U3 R4 U4 (by rw [Mem.wr_B]; exact Td.b), (U4.at (U3.at (show W.drew.heap[g]? = _ from HX.out) (by omega)) (by omega) : _ = _)⟩
            · have e0 : (d == 0) = false := by simp; omega
              have e1 : (d == 1) = false := by simp; omega
              by_cases d2 : d = 2
              · subst d2
                clear d01
                go_wp2_with fail
                go_region_held3 (fun w' => w'.cell? ⟨g, 1, none⟩ = some (.int .i64 x) ∧ w'.cell? ⟨g, 2, none⟩ = some (.int .i64 y))
                  (first
                    | exact ⟨by simpa using o1, by simpa using o2⟩
                    | exact ⟨U4.cell p1 (by show g ≠ B2; omega), U4.cell p2 (by show g ≠ B2; omega)⟩
                    | exact ⟨p1, p2⟩)
                  (first
                    | (go_at_call 12; refine (scrub_any _ _ _ _ _ Td.M hy.out.2).mono ?_; rintro e w3 ⟨rfl, M3, U3⟩; rw [Td.b] at U3; have R3 := Td.R.kept U3 (by have := Td.l1; have := Td.l2; have := Td.l3; omega) (by rw [re_B]; have := Td.l1; have := Td.l2; omega); have p1 := U3.cell (p := ⟨g, 1, none⟩) (show W.drew.cell? _ = _ from by simpa using o1) (by show g ≠ B1; omega); have p2 := U3.cell (p := ⟨g, 2, none⟩) (show W.drew.cell? _ = _ from by simpa using o2) (by show g ≠ B1; omega))
                    | (go_at_call 13; refine (rScrub_any _ _ _ _ _ R3).mono ?_; rintro e w4 ⟨rfl, R4, U4⟩; rw [re_B] at U4; rw [re_scrub] at R4; rw [re_ex]))
                go_wp2_with fail
                go_meet
                exact ⟨rfl, _, Td.step M3 U3 R4 U4 (by rw [Mem.scrub_B]; exact Td.b), (U4.at (U3.at (show W.drew.heap[g]? = _ from HX.out) (by omega)) (by omega) : _ = _)⟩
              · have e2 : (d == 2) = false := by simp; omega
                clear d01 d2
                go_wp2_with fail
                go_region_held3 (fun w' => w'.cell? ⟨g, 1, none⟩ = some (.int .i64 x) ∧ w'.cell? ⟨g, 3, none⟩ = some (.int .u64 v))
                  (first
                    | exact ⟨by simpa using o1, by simpa using o3⟩
                    | exact ⟨U4.cell p1 (by show g ≠ B2; omega), U4.cell p3 (by show g ≠ B2; omega)⟩
                    | exact ⟨p1, p3⟩
                    | exact ⟨q1, q3⟩)
                  (first
                    | (go_at_call 15; refine (second_any _ _).mono ?_; rintro e w2 ⟨rfl, U2⟩; have Te := Td.kept U2; have q1 := U2.cell (p := ⟨g, 1, none⟩) (show W.drew.cell? _ = _ from by simpa using o1) (fun h => h); have q3 := U2.cell (p := ⟨g, 3, none⟩) (show W.drew.cell? _ = _ from by simpa using o3) (fun h => h))
                    | (go_at_call 14; refine (fill_any _ _ _ _ _ Te.M rfl).mono ?_; rintro e w3 ⟨rfl, M3, U3⟩; rw [Te.b] at U3; have R3 := Te.R.kept U3 (by have := Td.l1; have := Td.l2; have := Td.l3; omega) (by rw [re_B]; have := Td.l1; have := Td.l2; omega); have p1 := U3.cell (p := ⟨g, 1, none⟩) q1 (by show g ≠ B1; omega); have p3 := U3.cell (p := ⟨g, 3, none⟩) q3 (by show g ≠ B1; omega))
                    | (go_at_call 16; refine (lawFill_any _ _ _ _ _ R3).mono ?_; rintro e w4 ⟨rfl, R4, U4⟩; rw [re_B] at U4; rw [re_fill] at R4; rw [re_ex]))
                go_wp2_with fail
                go_meet
                exact ⟨rfl, _, Te.step M3 U3 R4 U4 (by rw [Mem.fill_B]; exact Td.b), (U4.at (U3.at (U2.at (show W.drew.heap[g]? = _ from HX.out) (fun h => h)) (by omega)) (by omega) : _ = _)⟩
          case rest =>
            obtain ⟨rfl, m', T', HX'⟩ := hcut
            clear Tw HX o0 o1 o2 o3
            obtain ⟨o0, o1, o2, o3⟩ := box4 HX'.out
            clear o0 o2 o3
            go_wp2_with fail
            refine (read_any _ _ _ _ T'.M).mono ?_
            rintro e w5 ⟨rfl, rfl⟩
            go_wp2_with fail
            refine (rRead_any _ _ _ _ T'.R).mono ?_
            rintro e w5 ⟨rfl, rfl⟩
            rw [re_rd, re_has]
            go_wp2_with fail
            refine (frame_any _ _ _ _ T'.M).mono ?_
            rintro e w5 ⟨rfl, M5, U5⟩
            have T5 := T'.kept U5
            replace HX' := Lib.hid (U5.at HX'.out (fun h => h))
            have hln := Lib.hid (frI_len m' T'.M.okm x)
            obtain ⟨g1, g2, g3⟩ := alloc16 w5 (m'.frI x) 37 hln.out
            have G3 := Lib.hid g3
            have G1 := Lib.hid g1
            have T6 := T5.kept g2
            replace HX' := Lib.hid (g2.at HX'.out (fun h => h))
            clear g1 g2 g3 U5 M5 T5 T' o1
            go_upto_region 21 with (with_reducible refine wpList_store_sz rfl 37 (.tmp 17) (.tmp 125) rfl w5.heap.size 0 (ints .u64 (m'.frI x)).toArray rfl rfl 16 (by rw [List.size_toArray, ints_length]; exact hln.out) G3.out size_arr (ints_one _ _) _ rfl ?_)
            generalize hW : World.setCells _ w5.heap.size 0 (ints .u64 (m'.frI x)) = W6 at G1 T6 HX' ⊢
            clear hW G3
            generalize w5.heap.size = g2 at *
            obtain ⟨o0, o1, o2, o3⟩ := box4 HX'.out
            clear o0 o2 o3
            have hcC := T6.R.cellA
            rw [re_B, re_n] at hcC
            have hlo := T6.M.lo
            have hhi := T6.M.hi
            have Z1 := Lib.hid (show ∀ q, Calls Try.prog 20 #[.pointer (some ⟨A, 0, none⟩), .int .i64 x] (W6.drewN q) fun e w'' => e = .returned (.bool (m'.zero x)) ∧ ∃ p, w'' = W6.drewN p from fun q => still0 (zero_any _ _ _ _ (T6.kept ((Upd.refl (fun _ => False) _).drewN q)).M))
            have Z2 := Lib.hid (show ∀ q, Calls Try.prog 21 #[.pointer (some ⟨C, 0, none⟩), .int .i64 x] (W6.drewN q) fun e w'' => e = .returned (.bool (m'.zero x)) ∧ ∃ p, w'' = W6.drewN p from fun q => still0 (rZero_any C (re m' B2) x _ (T6.kept ((Upd.refl (fun _ => False) _).drewN q)).R))
            have Z3 := Lib.hid (show ∀ q, Calls Try.prog 22 #[.pointer (some ⟨C, 0, none⟩), .int .i64 x] (W6.drewN q) fun e w'' => e = .returned (.bool (m'.ex x 1)) ∧ ∃ p, w'' = W6.drewN p from fun q => still0 (rHas_any C (re m' B2) x _ (T6.kept ((Upd.refl (fun _ => False) _).drewN q)).R))
            have Z4 := Lib.hid (show ∀ q, Calls Try.prog 23 #[.pointer (some ⟨A, 0, none⟩)] (W6.drewN q) fun e w'' => e = .returned (.int .i64 m'.n) ∧ ∃ p, w'' = W6.drewN p from fun q => still0 (frames_any _ _ _ (T6.kept ((Upd.refl (fun _ => False) _).drewN q)).M))
            cases hE : m'.ex x 1
            · rw [hE] at Z3
              simp only [errI_f]
              generalize m'.zero x = zb at Z1 Z2
              generalize m'.rd x = rx
              generalize m'.frI x = L at *
              clear hE
              go_quiet ((first | (go_at_call 20; exact Z1.out _) | (go_at_call 21; exact Z2.out _) | (go_at_call 22; exact Z3.out _) | (go_at_call 23; exact Z4.out _)))
              have T7 := T6.kept ((Upd.refl (fun _ => False) _).drewN nq)
              generalize W6.drewN nq = W7 at T7 ⊢
              clear Z1 Z2 Z3 Z4 T6 o1 hcC HX' G1
              go_wp2_with fail
              go_loop [19] (fun t => t = .int .i64 0) (fun _ => 0)
              case atStart => exact rfl
              case round =>
                obtain rfl := hrel
                go_wp2
                go_roundw
                case rel => exact ⟨k + 1, m', by omega, by omega, by go_num, T7⟩
                case measure => simp [intOf]; omega
            · obtain ⟨b1, b2, b3⟩ := of_decide_eq_true hE
              obtain ⟨X, rfl⟩ := Int.eq_ofNat_of_zero_le b2
              rw [hE] at Z3
              have HE := Lib.hid hE
              simp only [errI_t]
              generalize m'.zero X = zb at Z1 Z2
              generalize m'.rd X = rx
              clear hE
              go_quiet ((first | (go_at_call 20; exact Z1.out _) | (go_at_call 21; exact Z2.out _) | (go_at_call 22; exact Z3.out _) | (go_at_call 23; exact Z4.out _)))
              have G7 := Lib.hid (((Upd.refl (fun _ => False) W6).drewN nq).at G1.out (fun h => h))
              have O7 := ((Upd.refl (fun _ => False) W6).drewN nq).cell o1 (fun h => h)
              have T7 := T6.kept ((Upd.refl (fun _ => False) _).drewN nq)
              generalize W6.drewN nq = W7 at T7 G7 O7 ⊢
              clear Z1 Z2 Z3 Z4 T6 o1 hcC HX' G1
              have hcC := T7.R.cellA
              rw [re_B, re_n] at hcC
              go_wp2_with fail
              go_loopw [19] (fun t wr => ∃ j q : Nat, j ≤ 16 ∧ t = .int .i64 j ∧ wr = W7.drewN q) (fun t _ => 16 - (intOf t).toNat)
              case atStart => exact ⟨0, 0, by omega, rfl, rfl⟩
              case round =>
                obtain ⟨j, q, hj, rfl, rfl⟩ := hrel
                by_cases hj6 : j < 16
                · have hz := cell_block G7.out j (by rw [hln.out]; exact hj6)
                  rw [frI_at m' X j HE.out hj6] at hz
                  have hr := T7.R.cellB (16 * X + j) (by show _ < 16 * m'.n; omega)
                  rw [re_B, re_at] at hr
                  generalize m'.at (16 * X + j) = val at hz hr
                  have hjs : (j : Int) < 16 := by omega
                  have hix : (16 * (X : Int) + (j : Int)) < 16 * (m'.n : Int) := by omega
                  have hw1 : IntKind.i64.wrap (16 * (X : Int)) = 16 * (X : Int) := IntWalk.i64_in _ (by omega)
                  have hw2 : IntKind.i64.wrap (16 * (X : Int) + (j : Int)) = 16 * (X : Int) + (j : Int) := IntWalk.i64_in _ (by omega)
                  have h0 : 0 ≤ 16 * (X : Int) + (j : Int) := by omega
                  have ht : (16 * (X : Int) + (j : Int)).toNat = 16 * X + j := by omega
                  go_wp2_with fail
                  go_quiet (fail)
                  go_wp2
                  go_roundw
                  case rel => exact ⟨j + 1, _, by omega, by go_num, rfl⟩
                  case measure => simp [intOf]; omega
                · have e : j = 16 := by omega
                  subst e
                  have T8 := T7.kept ((Upd.refl (fun _ => False) _).drewN q)
                  go_wp2
                  go_roundw
                  case rel => exact ⟨k + 1, m', by omega, by omega, by go_num, T8⟩
                  case measure => simp [intOf]; omega
        · have e : k = 60 := by omega
          subst e
          go_wp2
          go_ret
          exact ⟨rfl, below_none T.U⟩
      · have e : k = n := by omega
        subst e
        go_wp2
        go_ret
        exact ⟨rfl, below_none T.U⟩
  · have hN' : N < 1 ∨ 256 < N := by omega
    clear R
    go_enter Try.func3, Try.ntmps3
    go_wp2_with fail
    refine (awake_any _).mono ?_
    rintro e w1 ⟨rfl, U1⟩
    go_wp2_with fail
    refine (new_no _ _ hN').mono ?_
    rintro e w2 ⟨rfl, rfl⟩
    go_wp2_with fail
    refine (rNew_no _ _ hN').mono ?_
    rintro e w2 ⟨rfl, rfl⟩
    clear hN hN'
    go_wp2_with fail
    go_loop [10] (fun t => t = .int .i64 0) (fun _ => 0)
    case atStart => exact rfl
    case round =>
      obtain rfl := hrel
      by_cases hn : 0 < n
      · go_wp2
        go_ret
        exact ⟨rfl, below_none U1⟩
      · go_wp2
        go_ret
        exact ⟨rfl, below_none U1⟩
/-! ### the row's frame -/
theorem own : ownKnob Try.prog.godebug = none := by kernel_rfl
theorem laidOut : laidOutB Try.prog = true := by kernel_rfl
set_option linter.unusedVariables false in
set_option maxRecDepth 100000 in
theorem lifted (os : Os) (started : os.Started) (H : Type) (enc : TypeId × Value → H) :
    ReturnsInHanded {} Try.checked os 3 .any (Rows.memoryPlaysSpec.pre6 enc Try.prog Try.f3 Rows.memoryPlaysRow.domain false) (Rows.memoryPlaysSpec.post enc Try.prog Try.f3 false true false false) := by
  refine returnsInHanded_of_change (C := Try.checked) own started (by kernel_rfl) Try.func3
    (ChangeSpec.witness6 (enc := enc) (C := Try.checked) false ⟨#[], #[.int .i64 0, .slice none 0 0], []⟩ 8 (by kernel_rfl) (by kernel_rfl) (by kernel_rfl) (by kernel_rfl)) ?_
  intro W base args ds gs before hval0 hW hcnd _
  have hval : ∀ (j : Nat) t v, Try.f3.params[j]? = some t → args[j]? = some v → Value.okWide Try.prog W .any base t v := hval0
  have hW' := hW
  obtain ⟨p, q, hA0, hV, rfl, hfz, hnd⟩ := hW
  have hA : DataW.TrodAll enc Try.prog W 0 (fun _ => true) true Try.f3.params.toList args.toList ds p := hA0
  rw [Try.params3] at hA hval
  obtain ⟨v0, vs0, d0, ds0, p0, q0, hargs, rfl, rfl, h0, r0⟩ := trodAll_cons hA
  obtain ⟨v1, vs1, d1, ds1, p1, q1, rfl, rfl, rfl, h1, r1⟩ := trodAll_cons r0
  obtain ⟨rfl, rfl, rfl⟩ := trodAll_nil r1
  obtain rfl : args = #[v0, v1] := by cases args; simp_all
  obtain ⟨rfl, rfl⟩ := trodVars_none hV
  have k0 := h0
  have lt0 : ∀ x ∈ p0, x.block < W.heap.size := by obtain ⟨m, hm⟩ := k0; exact DataW.trod_lt m _ _ _ hm
  obtain ⟨a0, rfl, rfl, rfl, w0⟩ := open_int Try.underlying3 (hval 0 3 v0 rfl rfl) h0
  have k1 := h1
  have lt1 : ∀ x ∈ p1, x.block < W.heap.size := by obtain ⟨m, hm⟩ := k1; exact DataW.trod_lt m _ _ _ hm
  obtain ⟨ao1, n1, cap1, b1, of1, E1, rfl, w1⟩ := Fr.open_rows 12 [some .i64, some .i64, some .i64, some .u64] Try.underlying22 (by kernel_rfl) (by kernel_rfl) (by decide) (hval 1 22 v1 rfl rfl) h1
  clear hA0 hval0
  refine (walk a0 ao1 n1 cap1 b1 of1 E1 w0 W w1).mono fun e W' ⟨he, bel⟩ => ?_
  subst he
  exact ⟨_, rfl, _, _, _, [], _, [], hW', trodAll_mk1 (shut_bool Try.underlying4 _), (trodAll_cons_mk (Below.trod laidOut (by kernel_rfl) (of_decide_eq_true (by kernel_rfl)) k0 bel lt0) (trodAll_cons_mk (Below.trod laidOut (by kernel_rfl) (of_decide_eq_true (by kernel_rfl)) k1 bel lt1) trodAll_mk0)), rfl, bel.frame _, fun h => by cases h⟩

theorem over : Rows.memoryPlaysRow.holds Try.pinned (OpenSpec.ofChange Rows.memoryPlaysSpec) :=
  OpenClaim.holds_of_wide 3 Try.f3 rfl rfl rfl rfl rfl rfl rfl ⟨rfl, rfl, rfl, rfl, rfl⟩ rfl rfl rfl rfl rfl (by kernel_rfl) Try.func3 (by kernel_rfl)
    (of_decide_eq_true (by kernel_rfl)) (by unfold Func.isWrapper; first | (rw [if_pos (by decide +kernel)]; kernel_rfl) | (rw [if_neg (by decide +kernel)]; exact ⟨rfl, rfl⟩))
    (fun os started H enc _ => lifted os started H enc)

theorem proved : Rows.MemoryPlaysSaid :=
  over
end Go.Proofs.Ytjcemelpdffnkaa.memoryPlays
