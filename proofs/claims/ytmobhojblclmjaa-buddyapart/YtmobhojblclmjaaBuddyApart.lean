/-
  Proved: trunnionlaw04.BuddyApart answers true for every input: blocks that are given, and free ones, have no frame in common, and are all that is not reserved.
  Conditions: none.
-/
import Derived.Test.YtmobhojblclmjaaBgJ
namespace Go.Proofs.Ytmobhojblclmjaa.buddyApart
open Go.ChangeShapes Go.WideShapes Go.ChangeAt Go.RowKit Go.Maps
set_option linter.unusedVariables false
set_option linter.unusedSimpArgs false

/-- a row of counts -/
def ncells (n : Nat) (H : Nat → Nat) : List Value := (List.range n).map fun j => .int .i64 (H j : Int)
def updN (H : Nat → Nat) (i v : Nat) : Nat → Nat := fun j => if j = i then v else H j
theorem ncells_set (n : Nat) (H : Nat → Nat) (i v : Nat) : (ncells n H).set i (.int .i64 (v : Int)) = ncells n (updN H i v) := by
  apply List.ext_getElem
  · simp [ncells]
  · intro j h1 h2
    simp only [ncells, List.getElem_set, List.getElem_map, List.getElem_range, updN]
    by_cases h : i = j
    · simp [h]
    · rw [if_neg h, if_neg (fun e => h e.symm)]
theorem ncells_congr {n : Nat} {H G : Nat → Nat} (h : ∀ j, j < n → H j = G j) : ncells n H = ncells n G := by
  unfold ncells
  exact List.map_congr_left fun j hj => by rw [h j (by simpa using hj)]
theorem ncell {w : World} {B n : Nat} {H : Nat → Nat} {t : TypeId} (h : w.heap[B]? = some (.cells (ncells n H).toArray t (0, 0))) (i : Nat) (hi : i < n) : w.cell? ⟨B, i, none⟩ = some (.int .i64 (H i : Int)) := by
  rw [cell_of_row w B i _ _ _ h, List.getElem?_toArray]
  simp [ncells, hi]
theorem ncells_zero (n : Nat) : ncells n (fun _ => 0) = List.replicate n (.int .i64 0) := by
  apply List.ext_getElem
  · simp [ncells]
  · intro i h1 h2
    simp [ncells]
theorem hits_le (l : List (Nat × Nat)) (j : Nat) : hits l j ≤ l.length := by unfold hits; exact List.length_filter_le _ _
theorem hits_snoc (l : List (Nat × Nat)) (x : Nat × Nat) (j : Nat) : hits (l ++ [x]) j = hits l j + (if x.1 ≤ j ∧ j < x.1 + 2 ^ x.2 then 1 else 0) := by
  rw [hits_app]
  congr 1
  unfold hits
  by_cases h : x.1 ≤ j ∧ j < x.1 + 2 ^ x.2
  · rw [if_pos h]; simp [inBlk_iff.2 h]
  · rw [if_neg h]; simp [inBlk_no.2 h]
theorem hits_ins (l : List (Nat × Nat)) (x : Nat × Nat) (j : Nat) : hits (ins l x) j = hits l j + hits [x] j := by
  unfold ins
  have h := List.takeWhile_append_dropWhile (p := fun y : Nat × Nat => decide (y.1 < x.1)) (l := l)
  rw [hits_app, hits_app]
  have h2 := congrArg (fun z => hits z j) h
  simp only [hits_app] at h2
  omega
theorem hits_held (g : List (Nat × Nat)) (j : Nat) : hits (heldOf g) j = hits g j := by
  induction g using snoc_induction with
  | h0 => rfl
  | h1 l x ih => rw [heldOf_snoc, hits_ins, hits_app, ih]
/-- all blocks -/
def allB (b : Bud) : List (Nat × Nat) := blocks b.F b.n ++ b.held
theorem allB_once {b : Bud} (h : b.Ok) (j : Nat) : hits (allB b) j = if b.res ≤ j ∧ j < b.n then 1 else 0 := by
  have := each_once h j
  rw [hits_app] at this
  unfold allB Bud.held
  rw [hits_app, hits_held]
  exact this
theorem allB_blk {b : Bud} (h : b.Ok) {i : Nat} (hi : i < (allB b).length) : ((allB b).getD i (0, 0)).2 ≤ 8 ∧ ((allB b).getD i (0, 0)).1 % 2 ^ ((allB b).getD i (0, 0)).2 = 0 ∧ b.res ≤ ((allB b).getD i (0, 0)).1 ∧ ((allB b).getD i (0, 0)).1 + 2 ^ ((allB b).getD i (0, 0)).2 ≤ b.n := by
  have hm : (allB b).getD i (0, 0) ∈ allB b := by rw [List.getD_eq_getElem?_getD, List.getElem?_eq_getElem hi]; exact List.getElem_mem _
  rcases List.mem_append.1 hm with hm | hm
  · exact blocks_blk h hm
  · exact h.blk _ ((heldOf_mem _).1 hm)
theorem allB_len {b : Bud} (h : b.Ok) : (allB b).length ≤ 512 := by
  have h1 := blocks_len b.F b.n
  have h2 := h.hi
  have h3 := h.gave_len
  unfold allB
  rw [List.length_append, held_len]
  omega
/-- the counts while a block is gone through -/
def part (H : Nat → Nat) (f k : Nat) : Nat → Nat := fun j => H j + (if f ≤ j ∧ j < f + k then 1 else 0)
theorem part_zero (H : Nat → Nat) (f : Nat) : part H f 0 = H := by funext j; unfold part; rw [if_neg (by omega)]; rfl
theorem part_step (n : Nat) (H : Nat → Nat) (f k : Nat) : ncells n (updN (part H f k) (f + k) (part H f k (f + k) + 1)) = ncells n (part H f (k + 1)) := ncells_congr fun j _ => by
  unfold updN part
  by_cases h : j = f + k
  · rw [if_pos h, if_neg (by omega), if_pos (by omega)]; subst h; rfl
  · rw [if_neg h]
    by_cases h2 : f ≤ j ∧ j < f + k
    · rw [if_pos h2, if_pos (by omega)]
    · rw [if_neg h2, if_neg (by omega)]
theorem part_at (H : Nat → Nat) (f k : Nat) : part H f k (f + k) = H (f + k) := by unfold part; rw [if_neg (by omega)]; rfl
theorem empty_row (w : World) (base : Nat) (hb : base ≤ w.heap.size) (e : TypeId) : (w.alloc (.cells #[] e)).ownsRow base e 2 (.slice (some ⟨w.heap.size, 0, none⟩) 0 0) 0 [] :=
  ⟨rfl, .inr ⟨w.heap.size, 0, #[], rfl, hb, heap_alloc_last w _, Nat.le_refl _, Nat.zero_le _, rfl, rfl⟩⟩
theorem upd_row {W w' : World} {base sz k : Nat} {e : TypeId} {v : Value} {xs : List Value} (hrow : W.ownsRow base e sz v k xs) (hg : W.grownBy w' v.ownBlock) : Upd (base ≤ ·) W w' :=
  ⟨hg.os, hg.tape, hg.output, hg.size, fun j hj hs => hg.block j hj fun e => hs (hrow.lt j e.symm).1⟩
theorem info_int : (Try.prog.info? 3).map (fun i => (i.zero, i.size, i.bytes)) = some (some (.int .i64 0), 1, 8) := by kernel_rfl

set_option maxRecDepth 100000 in
set_option maxHeartbeats 8000000 in
theorem walk (fs rs : Int) (ao : Option Addr) (n cap b off : Nat) (E : Nat → Nat → Value) (w0 : (Lit.int .i64 fs).wf = true) (w1 : (Lit.int .i64 rs).wf = true) (w : World) (R : Fr.RowArg w ao n b off [some .i64, some .i64, some .i64, some .u64] E) :
    Calls Try.prog 4 #[.int .i64 fs, .int .i64 rs, .slice ao n cap] w fun e w' => e = .returned (.bool true) ∧ Below w.heap.size w w' := by
  clear w0 w1
  have hmost := R.most
  go_enter Try.func4, Try.ntmps4
  go_wp2_with fail
  refine (awake_any _).mono ?_
  rintro x w1 ⟨rfl, U1⟩
  go_wp2_with fail
  refine (begun_any fs rs _).mono ?_
  rintro x w2 (⟨hno, rfl, U2⟩ | ⟨fn, r, A, MA, GB, MB, rfl, rfl, n1, n2, n3, rfl, D2, S2, U2⟩)
  · clear hno hmost
    go_wp2
    go_ret
    exact ⟨rfl, below_none (U1.trans U2)⟩
  have V2 := U1.trans U2
  have hs1 := U1.size
  have hge : w.heap.size ≤ GB := Nat.le_trans hs1 S2.gb
  have hmb : w.heap.size ≤ MB := Nat.le_trans hs1 S2.mb
  clear U1 U2 hs1 S2
  by_cases hn : 60 < n
  · have hnI : (60 : Int) < (n : Int) := by omega
    clear hmost
    go_wp2
    go_ret
    exact ⟨rfl, below_none V2⟩
  clear hmost
  go_wp2
  go_loopw [10] (fun t wr => ∃ (i : Nat) (bu : Bud) (m : Mem), i ≤ n ∧ t = .int .i64 i ∧ m.B = MB ∧ bu.n = fn ∧ bu.res = r ∧ Duo wr A MA GB m bu ∧ Upd (fun _ => False) w wr) (fun t _ => n - (intOf t).toNat)
  case atStart => exact ⟨0, bud0 fn r, memNew MB fn, by omega, rfl, rfl, rfl, rfl, D2, V2⟩
  case round =>
    clear D2 V2
    obtain ⟨i, bu, m, hi, rfl, hmB, hbn, hbr, hD, hU⟩ := hrel
    by_cases hlt : i < n
    · obtain ⟨d, N, o, W, c0, c1, c2, c3, _⟩ := op_cells R i hlt
      have hao := R.place (by omega)
      subst hao
      clear c3
      go_wp2_with fail
      refine (bHeld_any A MA GB bu _ hD.B).mono ?_
      rintro x w3 ⟨v, rfl, hrow, U3⟩
      have D3 := hD.still U3
      have V3 := hU.trans U3
      have p0 := V3.cell c0 (fun h => h)
      have p1 := V3.cell c1 (fun h => h)
      have p2 := V3.cell c2 (fun h => h)
      obtain ⟨oa, cap', rfl, hc⟩ := brow_of hrow
      have hmem := Lib.hid (fun j (hj : j < bu.held.length) => show bu.held.getD j (0, 0) ∈ bu.gave from (heldOf_mem _).1 (by rw [List.getD_eq_getElem?_getD, List.getElem?_eq_getElem hj]; exact List.getElem_mem _))
      have hLn : bu.held.length ≤ 256 := by rw [held_len]; exact hD.B.ok.gave_len
      obtain ⟨ln, hln⟩ : ∃ ln, bu.held.length = ln := ⟨_, rfl⟩
      rw [hln] at hc hLn hmem ⊢
      clear hrow hD hU U3 hln c0 c1 c2
      go_upto_region 9 with fail
      go_cut [71] (fun s71 wx => wx = w3 ∧ ∃ c : Bool, s71 = .bool c ∧ Hid (c = true → 0 < ln ∧ 0 ≤ N))
      case first =>
        by_cases hd : d = 2
        · subst hd
          by_cases h0 : 0 < ln
          · have h0I : (0 : Int) < (ln : Int) := by omega
            by_cases hN : 0 ≤ N
            · go_wp2_with fail
              go_meet
              exact ⟨rfl, _, rfl, Lib.hid fun _ => ⟨h0, hN⟩⟩
            · have hN' : decide (0 ≤ N) = false := decide_eq_false hN
              go_wp2_with fail
              go_meet
              exact ⟨rfl, false, by simp [hN'], Lib.hid fun h => by cases h⟩
          · obtain rfl : ln = 0 := by omega
            clear h0
            go_wp2_with fail
            go_meet
            exact ⟨rfl, false, rfl, Lib.hid fun h => by cases h⟩
        · have hd' : (d == 2) = false := by simpa using hd
          go_wp2_with fail
          go_meet
          exact ⟨rfl, false, by simp [hd'], Lib.hid fun h => by cases h⟩
      case rest =>
        obtain ⟨rfl, c, rfl, hcc⟩ := hcut
        · cases c
          · clear hcc hc hmem
            go_wp2_with fail
            refine (balloc_all A MA GB _ bu o _ D3).mono ?_
            rintro x w4 ⟨y1, y2, bu', rfl, D4, e1, e2, U4⟩
            have V4 : Upd (fun _ => False) w w4 := V3.trans' U4 hge
            go_wp2
            go_roundw
            case rel => exact ⟨i + 1, bu', m, by omega, by go_num, hmB, by rw [e1]; exact hbn, by rw [e2]; exact hbr, D4, V4⟩
            case measure => simp [intOf]; omega
          · obtain ⟨hl0, hN⟩ := hcc.out rfl
            obtain ⟨N', rfl⟩ := Int.eq_ofNat_of_zero_le hN
            obtain ⟨q, hq⟩ : ∃ q, N' % ln = q := ⟨_, rfl⟩
            have hql : q < ln := by rw [← hq]; exact Nat.mod_lt _ hl0
            have hqI : (N' : Int) % (ln : Int) = (q : Int) := by rw [← hq]; omega
            have hne : ¬ (ln : Int) = 0 := by omega
            obtain ⟨ga, rfl, g0, g1⟩ := hc q hql
            have hx := hmem.out q hql
            generalize bu.held.getD q (0, 0) = x at g0 g1 hx
            obtain ⟨a1, a2, a3⟩ := alloc_two wc x.1 x.2 60
            have A3 := Lib.hid a3
            have D4 := D3.still a2
            have V4 := V3.trans a2
            clear a3 a2 hc hmem hcc hq hN D3 V3
            go_upto_region 11 with ((with_reducible refine wpList_store_sz rfl 60 (.tmp 12) (.tmp 82) rfl wc.heap.size 0 #[.int .i64 x.1, .int .i64 x.2] rfl rfl 2 (two_sz _ _) A3.out size_block (two_one _ _) [.int .i64 x.1, .int .i64 x.2] (two_ls _ _) ?_))
            generalize (wc.alloc (.cells #[.int .i64 0, .int .i64 0] 60)).setCells wc.heap.size 0 [.int .i64 x.1, .int .i64 x.2] = W4 at a1 D4 V4 ⊢
            generalize wc.heap.size = M at a1 ⊢
            obtain ⟨b0, b1⟩ := box2 a1
            clear A3
            go_wp2_with fail
            refine (bfree_yes A MA GB _ bu x _ D4 hx).mono ?_
            rintro z w5 ⟨rfl, D5, U5⟩
            have V5 : Upd (fun _ => False) w w5 := V4.since U5 (fun k hk => by rcases hk with rfl | rfl; exact hge; rw [hmB]; exact hmb)
            go_wp2
            go_roundw
            case rel => exact ⟨i + 1, bu.take x, m.scrub x.1 ((2 ^ x.2 : Nat) : Int), by omega, by go_num, by rw [Mem.scrub_B]; exact hmB, hbn, hbr, D5, V5⟩
            case measure => simp [intOf]; omega
    · have e : i = n := by omega
      subst e
      go_wp2_with fail
      refine (frames_any MA m _ hD.M).mono ?_
      rintro x w3 ⟨rfl, rfl⟩
      rw [hD.n, hbn]
      have hC := Lib.hid (show madeCells (Value.int .i64 0).cells (fn * 1) = (ncells fn fun _ => 0).toArray from by
        show madeCells #[.int .i64 0] (fn * 1) = _
        rw [ncells_zero, Nat.mul_one]
        exact madeCells_same (.int .i64 0) 1 fn (by decide))
      go_upto_region 14 with ((with_reducible refine wpList_make_exact rfl (.tmp 97) (.tmp 97) 61 rfl 3 _ 1 8 Try.underlying61 info_int .i64 .i64 fn rfl rfl (by omega) (by omega) _ hC.out ?_))
      have hmk := heap_alloc_last wr (.cells (ncells fn fun _ => 0).toArray 3)
      have Uk : Upd (fun _ => False) wr (wr.alloc (.cells (ncells fn fun _ => 0).toArray 3)) := (Upd.refl _ _).alloc _
      have hQs : (wr.alloc (.cells (ncells fn fun _ => 0).toArray 3)).heap.size = wr.heap.size + 1 := by simp
      generalize wr.alloc (.cells (ncells fn fun _ => 0).toArray 3) = W3 at hmk Uk hQs ⊢
      have hQw : w.heap.size ≤ wr.heap.size := hU.size
      have q1 : A < wr.heap.size := hD.B.lts.1
      have q2 : GB < wr.heap.size := hD.B.lts.2
      have q3 : MA < wr.heap.size := lt_of_heap hD.M.head
      have q4 : m.B < wr.heap.size := lt_of_heap hD.M.body
      have D3 := hD.still Uk
      have V3 := hU.trans Uk
      generalize wr.heap.size = QB at hmk hQs hQw q1 q2 q3 q4 ⊢
      have Hmk := Lib.hid hmk
      clear hmk Uk hD hU hC
      obtain ⟨i0, hinf, hz0, hz1, hz2⟩ := info_parts info_block
      have l1 : A < QB + 1 := by rw [← hQs]; exact D3.B.lts.1
      have l2 : GB < QB + 1 := by rw [← hQs]; exact D3.B.lts.2
      have l3 : MA < QB + 1 := by rw [← hQs]; exact lt_of_heap D3.M.head
      have l4 : m.B < QB + 1 := by rw [← hQs]; exact lt_of_heap D3.M.body
      have row0 : (W3.alloc (.cells #[] 60)).ownsRow (QB + 1) 60 2 (.slice (some ⟨QB + 1, 0, none⟩) 0 0) 0 [] := by rw [← hQs]; exact empty_row W3 _ (Nat.le_refl _) _
      have U4 : Upd (fun _ => False) W3 (W3.alloc (.cells #[] 60)) := (Upd.refl _ _).alloc _
      go_wp2_with fail
      have D4 := D3.still U4
      refine (bBlocks_any A MA GB m bu _ D4.B D4.M D4.n).mono ?_
      rintro x w5 ⟨v, rfl, hrow, U5⟩
      obtain ⟨o5, cap5, rfl⟩ := slice2 hrow
      have row5 := row_kept row0 U5 (fun _ _ h => h)
      have D5 := D4.still U5
      have V5 := V3.trans (U4.trans U5)
      have Hmk5 := Lib.hid (U5.at (U4.at Hmk.out (fun h => h)) (fun h => h))
      have src5 := Src.of_row hrow
      have hL1 : (blocks bu.F bu.n).length ≤ 256 := Nat.le_trans (blocks_len _ _) D3.B.ok.hi
      have hs5 : QB + 1 ≤ w5.heap.size := by have e1 := U4.size; have e2 := U5.size; omega
      clear row0 D4 U5 U4 hrow D3 V3 Hmk
      obtain ⟨L1, hL1e⟩ : ∃ L1, blocks bu.F bu.n = L1 := ⟨_, rfl⟩
      have HL1 := Lib.hid hL1e
      rw [hL1e] at src5 hL1 ⊢
      clear hL1e
      go_wp2_with (at_builtin; refine wpList_append_src _ rfl (.tmp 99) (.tmp 101) 51 rfl (QB + 1) 60 i0 (.agg #[.int .i64 0, .int .i64 0]) 2 16 Try.underlying51 hinf hz0 hz1 hz2 rfl (by decide) (.slice (some ⟨QB + 1, 0, none⟩) 0 0) 0 [] (by rfl) row5 (.slice o5 L1.length cap5) L1.length (bcells L1) (by rfl) src5 (bcells_one _) (by simp [maxLen]; omega) (by omega) hs5 ?_; intro v6 w6 row6 hg6)
      have U6 := upd_row row5 hg6
      have D6 := D5.kept U6 (by omega) (by omega) (by omega) (by omega)
      have V6 : Upd (fun _ => False) w w6 := V5.since U6 (fun k hk => by omega)
      have Hmk6 := Lib.hid (U6.at Hmk5.out (by omega))
      rw [List.nil_append, Nat.zero_add] at row6
      clear D5 V5 Hmk5 hg6 row5 src5 U6
      refine (bHeld_any A MA GB bu _ D6.B).mono ?_
      rintro x w7 ⟨v7, rfl, hrow7, U7⟩
      obtain ⟨o7, cap7, rfl⟩ := slice2 hrow7
      have row7 := row_kept row6 U7 (fun _ _ h => h)
      have D7 := D6.still U7
      have V7 := V6.trans U7
      have Hmk7 := Lib.hid (U7.at Hmk6.out (fun h => h))
      have src7 := Src.of_row hrow7
      have hL2 : bu.held.length ≤ 256 := by rw [held_len]; exact D6.B.ok.gave_len
      have hs7 : QB + 1 ≤ w7.heap.size := by have e1 := U7.size; have e2 := (row6).lt; have e3 := V6.size; have e4 := lt_of_heap Hmk7.out; omega
      obtain ⟨L2, hL2e⟩ : ∃ L2, bu.held = L2 := ⟨_, rfl⟩
      have HL2 := Lib.hid hL2e
      rw [hL2e] at src7 hL2 ⊢
      obtain ⟨o6, cap6, rfl⟩ := slice2 row7
      clear hL2e D6 V6 Hmk6 U7 hrow7 row6
      go_wp2_with (at_builtin; refine wpList_append_src _ rfl (.tmp 102) (.tmp 104) 51 rfl (QB + 1) 60 i0 (.agg #[.int .i64 0, .int .i64 0]) 2 16 Try.underlying51 hinf hz0 hz1 hz2 rfl (by decide) (.slice o6 L1.length cap6) L1.length (bcells L1) (by rfl) row7 (.slice o7 L2.length cap7) L2.length (bcells L2) (by rfl) src7 (bcells_one _) (by simp [maxLen]; omega) (by omega) hs7 ?_; intro v8 w8 row8 hg8; obtain ⟨o8, cap8, rfl⟩ := slice2 row8)
      have U8 := upd_row row7 hg8
      have D8 := D7.kept U8 (by omega) (by omega) (by omega) (by omega)
      have V8 : Upd (fun _ => False) w w8 := V7.since U8 (fun k hk => by omega)
      have Hmk8 := Lib.hid (show w8.heap[QB]? = some (.cells (ncells fn (hits ((allB bu).take 0))).toArray 3 (0, 0)) from U8.at Hmk7.out (by omega))
      have hAL : allB bu = L1 ++ L2 := by unfold allB; rw [HL1.out, HL2.out]
      have hlA : L1.length + L2.length = (allB bu).length := by rw [hAL, List.length_append]
      rw [← bcells_app, ← hAL, hlA] at row8
      have hge := fun j ej => (row8.lt j ej).1
      obtain ⟨o8', cap8', ho8, hc⟩ := brow_of row8
      have hblk := Lib.hid (fun i (hi : i < (allB bu).length) => allB_blk D8.B.ok hi)
      have honce := Lib.hid (fun j => allB_once D8.B.ok j)
      have hl512 := allB_len D8.B.ok
      rw [hbn, hbr] at hblk honce
      have hfr := Lib.hid (show ∀ W, Upd (· = QB) w8 W → Calls Try.prog 31 #[.pointer (some ⟨MA, 0, none⟩)] W fun e w'' => e = .returned (.int .i64 fn) ∧ W = w'' from fun W hW => by
        have := frames_any MA m W (D8.M.kept hW (by show ¬ MA = QB; omega) (by show ¬ m.B = QB; omega))
        rwa [D8.n, hbn] at this)
      rw [hlA]
      injection ho8 with ho8a ho8b ho8c
      subst ho8a
      clear U8 hg8 row7 row8 src7 D7 V7 Hmk7 hAL HL1 HL2 hL1 hL2 hs7 D8 ho8b ho8c
      generalize allB bu = AL at hc hblk honce hl512 Hmk8 hge ⊢
      obtain ⟨lA, hlA'⟩ : ∃ lA, AL.length = lA := ⟨_, rfl⟩
      rw [hlA'] at hc hblk hl512 hge ⊢
      have HlA := Lib.hid hlA'
      clear hlA'
      go_loopw [15] (fun t wr => ∃ i : Nat, i ≤ lA ∧ t = .int .i64 i ∧ Hid (wr.heap[QB]? = some (.cells (ncells fn (hits (AL.take i))).toArray 3 (0, 0))) ∧ Upd (· = QB) w8 wr) (fun t _ => lA - (intOf t).toNat)
      case atStart => exact ⟨0, by omega, rfl, Hmk8, Upd.refl _ _⟩
      case round =>
        obtain ⟨k, hk, rfl, hQ, hW⟩ := hrel
        by_cases hkl : k < lA
        · obtain ⟨ga, rfl, g0, g1⟩ := hc k hkl
          have hgQ : ¬ ga = QB := by have := hge ga rfl; omega
          obtain ⟨x8, xal, xr, xn⟩ := hblk.out k hkl
          have hsn := Lib.hid (take_snoc AL k (by rw [HlA.out]; exact hkl))
          generalize AL.getD k (0, 0) = x at g0 g1 x8 xal xr xn hsn
          have h0 := hW.cell g0 hgQ
          have h1 := hW.cell g1 hgQ
          have hbd := pw_bd x.2 x8
          have hpw := Lib.hid (show pw x.2 = ((2 ^ x.2 : Nat) : Int) from rfl)
          have hmod : (x.1 : Int) % pw x.2 = 0 := by rw [hpw.out]; omega
          have hfit : (x.1 : Int) + pw x.2 ≤ (fn : Int) := by have := hpw.out; omega
          have hwa : IntKind.i64.wrap ((x.1 : Int) + pw x.2) = (x.1 : Int) + pw x.2 := IntWalk.i64_in _ (by omega)
          have hne : ¬ pw x.2 = 0 := by omega
          have hkI : (k : Int) < (lA : Int) := by omega
          have e1 : decide (x.1 < r) = false := decide_eq_false (by omega)
          have e3 : (x.1 : Int).tmod (pw x.2) = 0 := by rw [Int.tmod_eq_emod_of_nonneg (by omega)]; exact hmod
          have e2 : decide ((fn : Int) < (x.1 : Int) + pw x.2) = false := decide_eq_false (by omega)
          have hF := Lib.hid (show ∀ q, Calls Try.prog 31 #[.pointer (some ⟨MA, 0, none⟩)] (wr.drewN q) fun e w'' => e = .returned (.int .i64 fn) ∧ ∃ p, w'' = wr.drewN p from fun q => still0 (hfr.out _ (hW.drewN q)))
          clear hc hblk honce hfr g0 g1 xal xn
          go_upto_region 21 with ((with_reducible refine wpList_shl1 rfl _ _ _ _ rfl rfl x.2 x8 rfl ?_))
          go_quiet ((go_at_call 31; exact hF.out _))
          have hQ2 := Lib.hid (show (wr.drewN nq).heap[QB]? = some (.cells (ncells fn (hits (AL.take k))).toArray 3 (0, 0)) from hQ.out)
          have hW2 := hW.drewN nq
          have h02 : (wr.drewN nq).cell? ⟨ga, k * 2, none⟩ = some (.int .i64 (x.1 : Int)) := h0
          clear hQ hW h0 h1 e1 e2 e3 hF hwa hmod
          generalize wr.drewN nq = wq at hQ2 hW2 h02 ⊢
          go_wp2
          go_loopw [17] (fun t wr => ∃ j : Nat, (j : Int) ≤ pw x.2 ∧ t = .int .i64 j ∧ Hid (wr.heap[QB]? = some (.cells (ncells fn (part (hits (AL.take k)) x.1 j)).toArray 3 (0, 0))) ∧ Upd (· = QB) wq wr) (fun t _ => 256 - (intOf t).toNat)
          case atStart => exact ⟨0, by omega, rfl, by rw [part_zero]; exact hQ2, Upd.refl _ _⟩
          case round =>
            obtain ⟨j, hj, rfl, hP, hV⟩ := hrel
            by_cases hjl : (j : Int) < pw x.2
            · have hci := ncell hP.out (x.1 + j) (by omega)
              have hfz := frozen_block hP.out (x.1 + j)
              have hset := Lib.hid (show (wr.setCell ⟨QB, x.1 + j, none⟩ (.int .i64 ((hits (AL.take k) (x.1 + j) + 1 : Nat) : Int))).heap[QB]? = some (.cells (ncells fn (part (hits (AL.take k)) x.1 (j + 1))).toArray 3 (0, 0)) from by
                rw [heap_setCell_same hP.out (x.1 + j), ncells_set, ← part_step, part_at])
              have hV' := hV.setCell (p := ⟨QB, x.1 + j, none⟩) (.inl rfl) (.int .i64 ((hits (AL.take k) (x.1 + j) + 1 : Nat) : Int))
              have hle : hits (AL.take k) (x.1 + j) ≤ 512 := Nat.le_trans (hits_le _ _) (by rw [List.length_take, HlA.out]; omega)
              have hg := hV.cell h02 hgQ
              rw [part_at] at hci
              generalize hits (AL.take k) (x.1 + j) = hh at hci hset hV' hle
              rw [show ((hh + 1 : Nat) : Int) = (hh : Int) + 1 from by omega] at hset hV'
              clear hP hV
              go_wp2
              exact ⟨⟨j + 1, by omega, by go_num, hset, hV'⟩, by simp [intOf]; omega⟩
            · have hje : j = 2 ^ x.2 := by have := hpw.out; omega
              have hfin := Lib.hid (show wr.heap[QB]? = some (.cells (ncells fn (hits (AL.take (k + 1)))).toArray 3 (0, 0)) from by
                have e := hP.out
                rw [hje] at e
                rw [e, ncells_congr (G := hits (AL.take (k + 1))) fun z _ => by rw [hsn.out, hits_snoc]; rfl])
              have hjI : ¬ (j : Int) < pw x.2 := hjl
              clear hP hje
              go_wp2
              exact ⟨⟨k + 1, by omega, by go_num, hfin, hW2.trans hV⟩, by simp [intOf]; omega⟩
        · have e : k = lA := by omega
          subst e
          have hAll : AL.take k = AL := List.take_of_length_le (by rw [HlA.out]; exact Nat.le_refl _)
          rw [hAll] at hQ
          have V9 : Upd (fun _ => False) w wr := V8.trans' hW hQw
          have hfr9 := Lib.hid (hfr.out wr hW)
          clear hc hblk hfr hW Hmk8 hge
          go_wp2
          go_loop [18] (fun t => ∃ j : Nat, j ≤ fn ∧ t = .int .i64 j) (fun t => fn - (intOf t).toNat)
          case atStart => exact ⟨0, by omega, rfl⟩
          case round =>
            obtain ⟨j, hj, rfl⟩ := hrel
            by_cases hjl : j < fn
            · have hci := ncell hQ.out j hjl
              rw [honce.out j] at hci
              by_cases hjr : r ≤ j
              · rw [if_pos ⟨hjr, hjl⟩] at hci
                have hr1 : ¬ (j : Int) < (r : Int) := by omega
                have hr2 : (r : Int) ≤ (j : Int) := by omega
                go_wp2_with fail
                refine hfr9.out.mono ?_
                rintro x w10 ⟨rfl, rfl⟩
                go_wp2
                exact ⟨⟨j + 1, by omega, by go_num⟩, by simp [intOf]; omega⟩
              · rw [if_neg (fun h => hjr h.1)] at hci
                have hr1 : (j : Int) < (r : Int) := by omega
                have hr2 : ¬ (r : Int) ≤ (j : Int) := by omega
                go_wp2_with fail
                refine hfr9.out.mono ?_
                rintro x w10 ⟨rfl, rfl⟩
                go_wp2
                exact ⟨⟨j + 1, by omega, by go_num⟩, by simp [intOf]; omega⟩
            · have e : j = fn := by omega
              subst e
              go_wp2_with fail
              refine hfr9.out.mono ?_
              rintro x w10 ⟨rfl, rfl⟩
              go_wp2
              go_ret
              exact ⟨rfl, below_none V9⟩
/-! ### the row's frame -/
theorem own : ownKnob Try.prog.godebug = none := by kernel_rfl
theorem laidOut : laidOutB Try.prog = true := by kernel_rfl
set_option linter.unusedVariables false in
set_option maxRecDepth 100000 in
theorem lifted (os : Os) (started : os.Started) (H : Type) (enc : TypeId × Value → H) :
    ReturnsInHanded {} Try.checked os 4 .any (Rows.buddyApartSpec.pre6 enc Try.prog Try.f4 Rows.buddyApartRow.domain false) (Rows.buddyApartSpec.post enc Try.prog Try.f4 false true false false) := by
  refine returnsInHanded_of_change (C := Try.checked) own started (by kernel_rfl) Try.func4
    (ChangeSpec.witness6 (enc := enc) (C := Try.checked) false ⟨#[], #[.int .i64 0, .int .i64 0, .slice none 0 0], []⟩ 8 (by kernel_rfl) (by kernel_rfl) (by kernel_rfl) (by kernel_rfl)) ?_
  intro W base args ds gs before hval0 hW hcnd _
  have hval : ∀ (j : Nat) t v, Try.f4.params[j]? = some t → args[j]? = some v → Value.okWide Try.prog W .any base t v := hval0
  have hW' := hW
  obtain ⟨p, q, hA0, hV, rfl, hfz, hnd⟩ := hW
  have hA : DataW.TrodAll enc Try.prog W 0 (fun _ => true) true Try.f4.params.toList args.toList ds p := hA0
  rw [Try.params4] at hA hval
  obtain ⟨v0, vs0, d0, ds0, p0, q0, hargs, rfl, rfl, h0, r0⟩ := trodAll_cons hA
  obtain ⟨v1, vs1, d1, ds1, p1, q1, rfl, rfl, rfl, h1, r1⟩ := trodAll_cons r0
  obtain ⟨v2, vs2, d2, ds2, p2, q2, rfl, rfl, rfl, h2, r2⟩ := trodAll_cons r1
  obtain ⟨rfl, rfl, rfl⟩ := trodAll_nil r2
  obtain rfl : args = #[v0, v1, v2] := by cases args; simp_all
  obtain ⟨rfl, rfl⟩ := trodVars_none hV
  have k0 := h0
  have lt0 : ∀ x ∈ p0, x.block < W.heap.size := by obtain ⟨m, hm⟩ := k0; exact DataW.trod_lt m _ _ _ hm
  obtain ⟨a0, rfl, rfl, rfl, w0⟩ := open_int Try.underlying3 (hval 0 3 v0 rfl rfl) h0
  have k1 := h1
  have lt1 : ∀ x ∈ p1, x.block < W.heap.size := by obtain ⟨m, hm⟩ := k1; exact DataW.trod_lt m _ _ _ hm
  obtain ⟨a1, rfl, rfl, rfl, w1⟩ := open_int Try.underlying3 (hval 1 3 v1 rfl rfl) h1
  have k2 := h2
  have lt2 : ∀ x ∈ p2, x.block < W.heap.size := by obtain ⟨m, hm⟩ := k2; exact DataW.trod_lt m _ _ _ hm
  obtain ⟨ao2, n2, cap2, b2, of2, E2, rfl, w2⟩ := Fr.open_rows 12 [some .i64, some .i64, some .i64, some .u64] Try.underlying22 (by kernel_rfl) (by kernel_rfl) (by decide) (hval 2 22 v2 rfl rfl) h2
  clear hA0 hval0
  refine (walk a0 a1 ao2 n2 cap2 b2 of2 E2 w0 w1 W w2).mono fun e W' ⟨he, bel⟩ => ?_
  subst he
  exact ⟨_, rfl, _, _, _, [], _, [], hW', trodAll_mk1 (shut_bool Try.underlying4 _), (trodAll_cons_mk (Below.trod laidOut (by kernel_rfl) (of_decide_eq_true (by kernel_rfl)) k0 bel lt0) (trodAll_cons_mk (Below.trod laidOut (by kernel_rfl) (of_decide_eq_true (by kernel_rfl)) k1 bel lt1) (trodAll_cons_mk (Below.trod laidOut (by kernel_rfl) (of_decide_eq_true (by kernel_rfl)) k2 bel lt2) trodAll_mk0))), rfl, bel.frame _, fun h => by cases h⟩

theorem over : Rows.buddyApartRow.holds Try.pinned (OpenSpec.ofChange Rows.buddyApartSpec) :=
  OpenClaim.holds_of_wide 4 Try.f4 rfl rfl rfl rfl rfl rfl rfl ⟨rfl, rfl, rfl, rfl, rfl⟩ rfl rfl rfl rfl rfl (by kernel_rfl) Try.func4 (by kernel_rfl)
    (of_decide_eq_true (by kernel_rfl)) (by unfold Func.isWrapper; first | (rw [if_pos (by decide +kernel)]; kernel_rfl) | (rw [if_neg (by decide +kernel)]; exact ⟨rfl, rfl⟩))
    (fun os started H enc _ => lifted os started H enc)

theorem proved : Rows.BuddyApartSaid :=
  over
end Go.Proofs.Ytmobhojblclmjaa.buddyApart
