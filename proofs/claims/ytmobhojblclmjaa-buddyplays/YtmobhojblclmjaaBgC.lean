/-
  Package buddy: free, which tells of each frame whether it is free.
-/
import Derived.Test.YtmobhojblclmjaaBgB
namespace Go.Proofs.Ytmobhojblclmjaa
open Go.ChangeShapes Go.WideShapes Go.ChangeAt Go.RowKit Go.Maps

/-! a block that is a row of whatever cells -/
theorem row_range {w : World} {b t : Nat} {C : List Value} (h : w.heap[b]? = some (.cells C.toArray t (0, 0))) : w.rangeAt b 0 C := by
  intro j v hv
  rw [Nat.zero_add, cell_of_row w b j _ _ _ h, List.getElem?_toArray]
  exact hv
theorem row_there {w : World} {b t : Nat} {C : List Value} (h : w.heap[b]? = some (.cells C.toArray t (0, 0))) (n : Nat) (hn : n ≤ C.length) : w.there b 0 n := fun j hj => by
  refine ⟨?_, frozen_block h _⟩
  rw [Nat.zero_add, cell_of_row w b j _ _ _ h, List.getElem?_toArray, List.getElem?_eq_getElem (by omega)]
  rfl
theorem fcells_len (n : Nat) (F : Nat → Bool) : (fcells n F).length = n := by simp [fcells]
theorem fcells_one (n : Nat) (F : Nat → Bool) : (fcells n F).toArray.all (·.oneCell') = true := all_oneCell_toArray fun v hv => by
  simp only [fcells, List.mem_map] at hv
  obtain ⟨i, _, rfl⟩ := hv
  rfl
theorem Upd.trans' {S : Nat → Prop} {a c d : World} {j : Nat} (h : Upd S a c) (k : Upd (· = j) c d) (hj : a.heap.size ≤ j) : Upd S a d :=
  ⟨k.os.trans h.os, k.tape.trans h.tape, k.output.trans h.output, Nat.le_trans h.size k.size, fun i hi hs => (k.block i (Nat.lt_of_lt_of_le hi h.size) (by omega)).trans (h.block i hi hs)⟩
theorem grown_setCell (w : World) (p : Addr) (u : Value) : w.grownBy (w.setCell p u) (some p.block) := ⟨rfl, rfl, rfl, by simp [World.setCell], fun k _ hne => Below.heap_setCell _ _ _ _ fun e => hne (by rw [e])⟩
/-- which frames are free, of the blocks that the loop has met -/
def metF (b : Bud) (left : Lit → Bool) : Nat → Bool := fun j => betw b.res b.n j && b.gave.all fun x => left (kf x.1) || !inBlk x j
theorem metF_start {b : Bud} {left : Lit → Bool} (h : ∀ x, x ∈ b.gave → left (kf x.1) = true) : metF b left = betw b.res b.n := by
  funext j
  unfold metF
  rw [List.all_eq_true.2 fun x hx => by rw [h x hx]; rfl, Bool.and_true]
theorem metF_end {b : Bud} (hb : b.Ok) {left : Lit → Bool} (h : ∀ kl, left kl = false) : metF b left = b.F := by
  funext j
  have e : metF b left j = true ↔ b.F j = true := by
    rw [hb.fr]
    unfold metF betw
    simp only [h, Bool.false_or, Bool.and_eq_true, decide_eq_true_eq, List.all_eq_true, Bool.not_eq_true', and_assoc]
  cases h1 : metF b left j <;> cases h2 : b.F j <;> simp_all
theorem metF_step {b : Bud} (hb : b.Ok) (left : Lit → Bool) {x : Nat × Nat} (hx : x ∈ b.gave) : cutTo (metF b left) x.1 (x.1 + 2 ^ x.2) = metF b (fun z => left z && !z.sameKey (kf x.1)) := by
  funext j
  have e : cutTo (metF b left) x.1 (x.1 + 2 ^ x.2) j = true ↔ metF b (fun z => left z && !z.sameKey (kf x.1)) j = true := by
    show (metF b left j && !inBlk x j) = true ↔ _
    unfold metF
    simp only [Bool.and_eq_true, List.all_eq_true, Bool.or_eq_true, Bool.not_eq_true', kf_same, decide_eq_false_iff_not]
    constructor
    · rintro ⟨⟨a1, a2⟩, a3⟩
      refine ⟨a1, fun y hy => ?_⟩
      by_cases hxy : y.1 = x.1
      · rw [hb.key hy hx hxy]; exact .inr a3
      · rcases a2 y hy with h | h
        · exact .inl ⟨h, hxy⟩
        · exact .inr h
    · rintro ⟨a1, a2⟩
      refine ⟨⟨a1, fun y hy => ?_⟩, ?_⟩
      · rcases a2 y hy with h | h
        · exact .inl h.1
        · exact .inr h
      · rcases a2 x hx with h | h
        · exact absurd rfl h.2
        · exact h
  cases h1 : cutTo (metF b left) x.1 (x.1 + 2 ^ x.2) j <;> cases h2 : metF b (fun z => left z && !z.sameKey (kf x.1)) j <;> simp_all

theorem zero_bools (w : World) : (zeroValue 80).run Try.prog w = .ok (.agg (fcells 256 fun _ => false).toArray) w := by kernel_rfl
theorem size_bools : (Try.prog.info? 80).map (·.size) = some 256 := by kernel_rfl

set_option maxRecDepth 100000 in
set_option maxHeartbeats 2000000 in
theorem bfree_any (A MA GB : Nat) (m : Mem) (b : Bud) (w : World) (h : BudAt w A MA GB b) (hm : MemAt w MA m) (hn : m.n = b.n) :
    Calls Try.prog 37 #[.pointer (some ⟨A, 0, none⟩)] w fun e w' => e = .returned (.agg (fcells 256 b.F).toArray) ∧ Upd (fun _ => False) w w' := by
  obtain ⟨N, hN⟩ : ∃ N, w.heap.size = N := ⟨_, rfl⟩
  have hz := zero_bools
  obtain ⟨Z, hZ⟩ : ∃ Z, (fcells 256 fun _ => false).toArray = Z := ⟨_, rfl⟩
  rw [hZ] at hz
  have HZ := Lib.hid hZ
  clear hZ
  go_enter Try.func37, Try.ntmps37
  go_upto_region 2 with fail
  obtain ⟨W, hWe⟩ : ∃ W, (w.alloc (.cells Z 80)).alloc (.cells Z 80) = W := ⟨_, rfl⟩
  have hU0 : Upd (fun _ => False) w W := by rw [← hWe]; exact ((Upd.refl _ _).alloc _).alloc _
  have hW0 : W.heap[N]? = some (.cells Z 80 (0, 0)) := by
    rw [← hWe, ← hN, Below.heap_alloc _ _ _ (by simp)]
    exact heap_alloc_last w _
  have hW1 : W.heap[N + 1]? = some (.cells (fcells 256 (betw b.res b.res)).toArray 80 (0, 0)) := by
    have := heap_alloc_last (w.alloc (.cells Z 80)) (.cells Z 80)
    rw [World.size_alloc, hN, hWe] at this
    rw [this, ← HZ.out, fcells_congr (F := betw b.res b.res) (G := fun _ => false) fun j _ => by unfold betw; simp]
  have hWs : W.heap.size = N + 2 := by rw [← hWe, ← hN]; simp
  rw [hWe]
  have hB0 := h.kept hU0 (fun h => h) (fun h => h)
  have hM0 := hm.kept hU0 (fun h => h) (fun h => h)
  have hc0 := hB0.c0
  have hc1 := hB0.c1
  have hb1 := h.ok.rs
  have hb2 := h.ok.hi
  have hl := h.lts
  clear hWe hz
  try rw [hN]
  go_wp2
  go_loopw [4] (fun t wr => ∃ i : Nat, b.res ≤ i ∧ i ≤ b.n ∧ t = .int .i64 i ∧ Hid (wr.heap[N]? = some (.cells Z 80 (0, 0))) ∧ Hid (wr.heap[N + 1]? = some (.cells (fcells 256 (betw b.res i)).toArray 80 (0, 0))) ∧ Upd (fun _ => False) w wr ∧ wr.heap.size = N + 2) (fun t _ => 256 - (intOf t).toNat)
  case atStart => exact ⟨b.res, Nat.le_refl _, hb1, rfl, Lib.hid hW0, Lib.hid hW1, hU0, hWs⟩
  case round =>
    obtain ⟨i, i1, i2, rfl, f0, f1, hU, hs⟩ := hrel
    have hB := h.kept hU (fun h => h) (fun h => h)
    have hM := hm.kept hU (fun h => h) (fun h => h)
    have hc0 := hB.c0
    have hc2 := hB.c2
    by_cases hlt : i < b.n
    · have hci := fcell f1.out i (by omega)
      have hfz := frozen_block f1.out i
      have hset := Lib.hid (show (wr.setCell ⟨N + 1, i, none⟩ (.bool true)).heap[N + 1]? = some (.cells (fcells 256 (betw b.res (i + 1))).toArray 80 (0, 0)) from by rw [heap_setCell_same f1.out i (.bool true), fcells_set, betw_step 256 b.res i i1])
      have hoth := Lib.hid (show (wr.setCell ⟨N + 1, i, none⟩ (.bool true)).heap[N]? = _ from (Below.heap_setCell _ _ _ _ (by simp)).trans f0.out)
      have hU' := hU.setCell (p := ⟨N + 1, i, none⟩) (by right; show w.heap.size ≤ N + 1; omega) (.bool true)
      have hs' := Lib.hid (show (wr.setCell ⟨N + 1, i, none⟩ (.bool true)).heap.size = N + 2 from by simp [World.setCell, hs])
      generalize betw b.res i i = bi at hci
      clear f0 f1 hU hB
      go_wp2_with fail
      refine (frames_any MA m _ hM).mono ?_
      rintro e w' ⟨rfl, rfl⟩
      rw [hn]
      go_wp2
      go_roundw
      case rel => exact ⟨i + 1, by omega, by omega, by go_num, hoth, hset, hU', hs'.out⟩
      case measure => simp [intOf]; omega
    · have e : i = b.n := by omega
      subst e
      obtain ⟨D, hD, hMp⟩ := hB.mp
      have hok := Lib.hid h.ok
      clear hB hlt
      go_wp2_with fail
      refine (frames_any MA m _ hM).mono ?_
      rintro e w' ⟨rfl, rfl⟩
      rw [hn]
      go_wp2_with (first
        | (at_range; refine wpList_range_own _ rfl _ 73 rfl 3 3 keyLaw Try.underlying73 _ GB 256 D rfl hD ?_; intro w0 hrg0 hg0 hs0)
        | go_in)
      go_frame
      rw [hs] at hrg0 ⊢
      have V1 : Upd (fun _ => False) w w0 := hU.trans (upd_grown0 hg0)
      have V2 := Lib.hid ((upd_grown0 (S := fun _ => False) hg0).at f0.out (fun h => h))
      have V3 := Lib.hid ((upd_grown0 (S := fun _ => False) hg0).at f1.out (fun h => h))
      have hst := Lib.hid (metF_start (b := b) (left := Maps.has D) fun x hx => hMp.mem hx)
      clear hg0 f0 f1 hU hs hs0 hD hc0 hc2 hM
      go_loopw [5, 6] (fun _ _ wr => ∃ (left : Lit → Bool) (cnt : Nat), Hid (wr.heap[N]? = some (.cells Z 80 (0, 0))) ∧ Hid (wr.heap[N + 1]? = some (.cells (fcells 256 (metF b left)).toArray 80 (0, 0))) ∧ wr.ranges Try.prog 3 (plainElem Try.prog 3) GB (N + 2) 256 D left cnt ∧ Upd (fun _ => False) w wr) (fun _ _ wr => wr.rangeLeft GB (N + 2))
      case atStart => exact ⟨_, _, V2, by rw [hst.out]; exact V3, hrg0, V1⟩
      case round =>
        obtain ⟨left, cnt, g0, g1, hrg, hU⟩ := hrel
        go_wp2_with (first
          | (at_next; refine wpList_next_ranges_ii _ rfl _ rfl 3 3 .i64 .i64 keyLaw Try.underlying3 Try.underlying3 GB (N + 2) 256 _ _ _ rfl hrg ?_ ?_)
          | go_in)
        · intro _ hl0
          obtain ⟨L, hL⟩ : ∃ L, fcells 256 b.F = L := ⟨_, rfl⟩
          have HL := Lib.hid (show L.length = 256 from by rw [← hL]; exact fcells_len _ _)
          have R1 := Lib.hid (show wr.rangeAt (N + 1) 0 L from row_range (t := 80) (by rw [← hL, ← metF_end hok.out hl0]; exact g1.out))
          have Z0 := Lib.hid (show wr.heap[N]? = some (.cells (fcells 256 fun _ => false).toArray 80 (0, 0)) from by rw [HZ.out]; exact g0.out)
          have T1 := Lib.hid (row_there Z0.out 256 (by rw [fcells_len]; exact Nat.le_refl _))
          have O1 := Lib.hid (show L.toArray.all (·.oneCell') = true from by rw [← hL]; exact fcells_one _ _)
          have hNN : w.heap.size ≤ N := by omega
          have HL0 := Lib.hid hL
          clear hL g0 g1 hrg hl0 hst V1 V2 V3 hrg0
          go_wp2_with (first
            | (with_reducible refine wpList_load_sz rfl 80 (.tmp 3) rfl (N + 1) 0 rfl L _ R1.out Try.underlying80 rfl 256 HL.out size_bools ?_)
            | (with_reducible refine wpList_store_sz rfl 80 (.tmp 2) (.tmp 43) rfl N 0 L.toArray rfl rfl 256 (by simpa using HL.out) T1.out size_bools O1.out _ rfl ?_))
          have hld := heap_setCells_same N 80 L 0 wr _ Z0.out (by rw [fcells_len, HL.out]; exact Nat.le_refl _)
          rw [splice_all _ _ (by rw [fcells_len, HL.out])] at hld
          have hU2 : Upd (fun _ => False) w (wr.setCells N 0 L) := Upd.setCells (by right; exact hNN) _ _ hU
          exact bodyPost_ret (results_cell_row rfl _ _ N _ L.toArray _ _ rfl hld Try.underlying80 rfl (by rw [size_bools]; simp [HL.out])) rfl ⟨by rw [HL0.out], hU2⟩
        · intro x c w1 cnt1 hwx hwc hlx hat hrg1 hlt hg1 hs1 hen
          obtain ⟨y, hy, rfl, rfl⟩ := hMp.entry hat
          obtain ⟨y8, yal, yr, yn⟩ := hok.out.blk y hy
          have V4 : Upd (fun _ => False) w w1 := hU.trans' (upd_grown hg1) (by omega)
          have V5 := Lib.hid ((upd_grown hg1).at g0.out (by show ¬ N = N + 2; omega))
          have V6 := Lib.hid ((upd_grown hg1).at g1.out (by show ¬ N + 1 = N + 2; omega))
          have hst2 := Lib.hid (metF_step hok.out left hy)
          have hpw := Lib.hid (show pw y.2 = ((2 ^ y.2 : Nat) : Int) from rfl)
          have hbd := pw_bd y.2 y8
          have hyn : (y.1 : Int) + pw y.2 ≤ 256 := by have := hpw.out; omega
          have Hrg1 := Lib.hid (show w1.ranges Try.prog 3 (plainElem Try.prog 3) GB (N + 2) 256 D (fun z => left z && !z.sameKey (kf y.1)) cnt1 from hrg1)
          have hcnt : Hid (wr.rangeLeft GB (N + 2) = cnt) := Lib.hid hrg.left_eq
          have hGB := hrg.ne
          have hG2 := h.lts.2
          clear hrg1 hwx hwc hlx hat hg1 hs1 g0 g1 hU hrg hst V1 V2 V3 hrg0 yal yr yn
          go_wp2_with (first
            | (with_reducible refine wpList_shl1 rfl _ _ _ _ rfl rfl y.2 y8 rfl ?_)
            | go_in)
          go_loopw [35, 7] (fun t _ wr => ∃ k : Nat, (k : Int) ≤ pw y.2 ∧ t = .int .i64 k ∧ Hid (wr.heap[N]? = some (.cells Z 80 (0, 0))) ∧ Hid (wr.heap[N + 1]? = some (.cells (fcells 256 (cutTo (metF b left) y.1 (y.1 + k))).toArray 80 (0, 0))) ∧ Hid (wr.ranges Try.prog 3 (plainElem Try.prog 3) GB (N + 2) 256 D (fun z => left z && !z.sameKey (kf y.1)) cnt1) ∧ Upd (fun _ => False) w wr) (fun t _ _ => 256 - (intOf t).toNat)
          case atStart => exact ⟨0, by omega, rfl, V5, Lib.hid (by have := V6.out; rw [← cutTo_start (metF b left) y.1] at this; exact this), Hrg1, V4⟩
          case round =>
            obtain ⟨k, hk, rfl, k0, k1, hrg, hU⟩ := hrel
            by_cases hkl : (k : Int) < pw y.2
            · have hci := fcell k1.out (y.1 + k) (by omega)
              have hfz := frozen_block k1.out (y.1 + k)
              have hset := Lib.hid (show (wr.setCell ⟨N + 1, y.1 + k, none⟩ (.bool false)).heap[N + 1]? = some (.cells (fcells 256 (cutTo (metF b left) y.1 (y.1 + (k + 1)))).toArray 80 (0, 0)) from by rw [heap_setCell_same k1.out (y.1 + k) (.bool false), fcells_set, cutTo_step 256 _ y.1 (y.1 + k) (by omega)]; rfl)
              have hoth := Lib.hid (show (wr.setCell ⟨N + 1, y.1 + k, none⟩ (.bool false)).heap[N]? = _ from (Below.heap_setCell _ _ _ _ (by simp)).trans k0.out)
              have hrg' := Lib.hid (hrg.out.kept (grown_setCell wr ⟨N + 1, y.1 + k, none⟩ (.bool false)) (by intro e; injection e with e; simp only at e; omega) (by intro e; injection e with e; simp only at e; omega))
              have hU' := hU.setCell (p := ⟨N + 1, y.1 + k, none⟩) (by right; show w.heap.size ≤ N + 1; omega) (.bool false)
              generalize cutTo (metF b left) y.1 (y.1 + k) (y.1 + k) = bi at hci
              clear k0 k1 hrg hU
              go_wp2
              exact ⟨⟨k + 1, by omega, by go_num, hoth, hset, hrg', hU'⟩, by simp [intOf]; omega⟩
            · have e : (k : Int) = pw y.2 := by omega
              have hfin := Lib.hid (show wr.heap[N + 1]? = some (.cells (fcells 256 (metF b fun z => left z && !z.sameKey (kf y.1))).toArray 80 (0, 0)) from by rw [← hst2.out, show 2 ^ y.2 = k from by have := hpw.out; omega]; exact k1.out)
              clear k1 hst2 hpw
              go_wp2
              exact ⟨⟨_, cnt1, k0, hfin, hrg.out, hU⟩, by rw [hrg.out.left_eq, hcnt.out]; exact hlt⟩
end Go.Proofs.Ytmobhojblclmjaa
