/-
  Proved: trunnionlaw04.BuddyWhole answers true for every input: when all were taken back, the free blocks are those of the beginning, and all free frames are noughts.
  Conditions: none.
-/
import Derived.Test.YtmobhojblclmjaaBgJ
namespace Go.Proofs.Ytmobhojblclmjaa.buddyWhole
open Go.ChangeShapes Go.WideShapes Go.ChangeAt Go.RowKit Go.Maps
set_option linter.unusedVariables false
set_option linter.unusedSimpArgs false

/-- the free frames are noughts -/
def Zr (m : Mem) (b : Bud) : Prop := ∀ f, b.F f = true → ∀ i, i < 16 → m.at (f * 16 + i) = 0
theorem zr_new (B n : Nat) (b : Bud) : Zr (memNew B n) b := fun f _ i _ => by
  show (List.replicate (16 * n) (0 : Int)).getD _ 0 = 0
  exact getD_replicate0 _ _
theorem at_lay (m : Mem) (h : m.ok) (o : Nat) (vs : List Int) (hf : o + vs.length ≤ 16 * m.n) (i : Nat) : (m.lay o vs).at i = if o ≤ i ∧ i < o + vs.length then vs.getD (i - o) 0 else m.at i := by
  show (splice m.ws o vs).getD i 0 = _
  unfold Mem.ok at h
  rw [getD_splice _ _ _ (by omega)]
  rfl
theorem Zr.give {m : Mem} {b : Bud} (h : Zr m b) (x : Nat × Nat) : Zr m (b.give x) := fun f hf i hi => by
  have hf' : (b.F f && !inBlk x f) = true := hf
  rw [Bool.and_eq_true] at hf'
  exact h f hf'.1 i hi
theorem Zr.wr {m : Mem} {b : Bud} (h : Zr m b) (hm : m.ok) (f0 s : Nat) (hs : s < 16) (hF : b.F f0 = false) (v : Int) : Zr (m.wr ((16 * f0 + s : Nat) : Int) v) b := fun f hf i hi => by
  unfold Mem.wr
  split
  · rename_i hh
    obtain ⟨a1, a2⟩ := of_decide_eq_true hh
    rw [Int.toNat_natCast, at_lay m hm _ _ (by simp; omega), if_neg]
    · exact h f hf i hi
    · simp only [List.length_singleton]
      intro hx
      have hne : f ≠ f0 := fun e => by rw [e, hF] at hf; cases hf
      omega
  · exact h f hf i hi
theorem Zr.take {m : Mem} {b : Bud} (h : Zr m b) (hm : m.ok) (hb : b.Ok) (hn : m.n = b.n) {x : Nat × Nat} (hx : x ∈ b.gave) : Zr (m.scrub x.1 ((2 ^ x.2 : Nat) : Int)) (b.take x) := fun f hf i hi => by
  obtain ⟨x8, xal, xr, xn⟩ := hb.blk x hx
  have hp := Nat.two_pow_pos x.2
  have hex : m.ex x.1 ((2 ^ x.2 : Nat) : Int) = true := decide_eq_true (by omega)
  unfold Mem.scrub
  rw [hex, if_pos rfl]
  show (m.lay ((x.1 : Int).toNat * 16) (List.replicate (((2 ^ x.2 : Nat) : Int).toNat * 16) 0)).at _ = 0
  rw [Int.toNat_natCast, Int.toNat_natCast, at_lay m hm _ _ (by rw [List.length_replicate]; omega), List.length_replicate]
  split
  · exact getD_replicate0 _ _
  · rename_i hno
    have hf' : (b.F f || inBlk x f) = true := hf
    rw [Bool.or_eq_true] at hf'
    rcases hf' with hf' | hf'
    · exact h f hf' i hi
    · exfalso
      have := inBlk_iff.1 hf'
      apply hno
      constructor
      · have : x.1 * 16 ≤ f * 16 := Nat.mul_le_mul_right _ this.1
        omega
      · have : (f + 1) * 16 ≤ (x.1 + 2 ^ x.2) * 16 := Nat.mul_le_mul_right _ (by omega)
        rw [Nat.add_mul, Nat.add_mul] at this
        omega
theorem Zr.zero {m : Mem} {b : Bud} (h : Zr m b) (hm : m.ok) (hn : m.n = b.n) {f : Nat} (hf : b.F f = true) (hl : f < b.n) : m.zero (f : Int) = true :=
  m.zero_of hm f (decide_eq_true (by omega)) fun i hi => by rw [Int.toNat_natCast]; exact h f hf i hi
/-- nothing is given: all is as at first -/
theorem none_F {b : Bud} (hb : b.Ok) (hg : b.gave = []) : b.F = (bud0 b.n b.res).F := hb.ext (bud0_ok hb.lo hb.hi hb.rs) rfl rfl fun x => by rw [hg]; exact Iff.rfl
theorem none_left {b : Bud} (hb : b.Ok) (hg : b.gave = []) : b.left = b.n - b.res := by
  have := left_sum hb
  rw [hg] at this
  simpa using this
/-- taken back it is given no more -/
theorem not_again {b : Bud} (hb : b.Ok) {x : Nat × Nat} (hx : x ∈ b.gave) : ∀ y, y ∈ (b.take x).gave → isB y (x.1 : Int) (x.2 : Int) = false := fun y hy => by
  have h1 := hb.nodup.mem_erase_iff.1 hy
  refine decide_eq_false fun e => h1.1 (Prod.ext (by omega) (by omega))

set_option maxRecDepth 100000 in
set_option maxHeartbeats 8000000 in
theorem walk (fs rs : Int) (ao : Option Addr) (n cap b off : Nat) (E : Nat → Nat → Value) (w0 : (Lit.int .i64 fs).wf = true) (w1 : (Lit.int .i64 rs).wf = true) (w : World) (R : Fr.RowArg w ao n b off [some .i64, some .i64, some .i64, some .u64] E) :
    Calls Try.prog 5 #[.int .i64 fs, .int .i64 rs, .slice ao n cap] w fun e w' => e = .returned (.bool true) ∧ Below w.heap.size w w' := by
  clear w0 w1
  have hmost := R.most
  go_enter Try.func5, Try.ntmps5
  go_wp2_with fail
  refine (awake_any _).mono ?_
  rintro x w1 ⟨rfl, U1⟩
  go_wp2_with fail
  refine (begun_any fs rs _).mono ?_
  rintro x w2 (⟨hno, rfl, U2⟩ | ⟨fn, r, A, MA, GB, MB, rfl, rfl, n1, n2, n3, rfl, D2, S2, U2⟩)
  · clear hno hmost
    go_wp2
    go_ret
    exact ⟨rfl, below_none (U1.trans U2)⟩
  have V2 := U1.trans U2
  have hs1 := U1.size
  have hge : w.heap.size ≤ GB := Nat.le_trans hs1 S2.gb
  have hmb : w.heap.size ≤ MB := Nat.le_trans hs1 S2.mb
  clear U1 U2 hs1 S2
  by_cases hn : 60 < n
  · have hnI : (60 : Int) < (n : Int) := by omega
    clear hmost
    go_wp2
    go_ret
    exact ⟨rfl, below_none V2⟩
  clear hmost
  go_wp2_with fail
  refine (bBlocks_any A MA GB _ _ _ D2.B D2.M D2.n).mono ?_
  rintro x w3 ⟨v, rfl, hrow, U3⟩
  have D3 := D2.still U3
  have V3 := V2.trans U3
  have hlo := fun j ej => (show GB < j ∧ MB < j from ⟨Nat.lt_of_lt_of_le D2.B.lts.2 (hrow.lt j ej).1, Nat.lt_of_lt_of_le (lt_of_heap D2.M.body) (hrow.lt j ej).1⟩)
  have hL0 : (blocks (bud0 fn r).F fn).length ≤ 256 := Nat.le_trans (blocks_len _ _) n2
  have row3 : w3.ownsRow w2.heap.size 60 2 v (blocks (bud0 fn r).F fn).length (bcells (blocks (bud0 fn r).F fn)) := hrow
  obtain ⟨o3, cap3, rfl, hc3⟩ := brow_of row3
  have hlo3 : ∀ g, o3 = some ⟨g, 0, none⟩ → GB < g ∧ MB < g := fun g e => hlo g (by rw [e]; rfl)
  obtain ⟨L0, hL0e⟩ : ∃ L0, blocks (bud0 fn r).F fn = L0 := ⟨_, rfl⟩
  have HL0 := Lib.hid hL0e
  rw [hL0e] at hc3 hL0 ⊢
  obtain ⟨l0, hl0e⟩ : ∃ l0, L0.length = l0 := ⟨_, rfl⟩
  have Hl0 := Lib.hid hl0e
  rw [hl0e] at hc3 hL0 ⊢
  clear hrow row3 hL0e hl0e hlo D2 V2 U3
  go_wp2
  go_loopw [11] (fun t wr => ∃ (i : Nat) (bu : Bud) (m : Mem), i ≤ n ∧ t = .int .i64 i ∧ m.B = MB ∧ bu.n = fn ∧ bu.res = r ∧ Duo wr A MA GB m bu ∧ Hid (Zr m bu) ∧ Upd (fun k => k = GB ∨ k = MB) w3 wr) (fun t _ => n - (intOf t).toNat)
  case atStart => exact ⟨0, bud0 fn r, memNew MB fn, by omega, rfl, rfl, rfl, rfl, D3, Lib.hid (zr_new _ _ _), Upd.refl _ _⟩
  case round =>
    clear D3
    obtain ⟨i, bu, m, hi, rfl, hmB, hbn, hbr, hD, hZ, hX⟩ := hrel
    have hU : Upd (fun _ => False) w wr := V3.since hX (fun k hk => by rcases hk with rfl | rfl; exact hge; exact hmb)
    by_cases hlt : i < n
    · obtain ⟨d, N, o, W, c0, c1, c2, c3, _⟩ := op_cells R i hlt
      have hao := R.place (by omega)
      subst hao
      have hc2 := hU.cell c2 (fun h => h)
      by_cases hob : 0 ≤ o ∧ o ≤ 8
      · obtain ⟨k, rfl⟩ := Int.eq_ofNat_of_zero_le hob.1
        have hk8 : k ≤ 8 := by omega
        go_wp2_with fail
        refine (bAlloc_any A MA GB m bu k _ hD.B hD.M hD.n hk8).mono ?_
        rintro x w4 (⟨_, rfl, U4⟩ | ⟨y, hs, rfl, B4, U4⟩)
        · have D4 := hD.still U4
          have X4 := hX.trans (U4.mono fun _ _ h => h.elim)
          clear hD hX hU U4 c0 c1 c2 c3 hc2
          go_wp2
          go_quiet (fail)
          go_wp2
          go_roundw
          case rel => exact ⟨i + 1, bu, m, by omega, by go_num, hmB, hbn, hbr, D4.still ((Upd.refl _ _).drewN _), hZ, X4.drewN _⟩
          case measure => simp [intOf]; omega
        · have D4 := hD.gb B4 U4 rfl
          have X4 : Upd (fun k => k = GB ∨ k = MB) w3 w4 := hX.trans (U4.mono fun _ _ h => .inl h)
          have V4 : Upd (fun _ => False) w w4 := hU.trans' U4 hge
          have p1 := V4.cell c1 (fun h => h)
          have p3 := V4.cell c3 (fun h => h)
          have hgv := sel_give hD.B.ok hk8 hs
          have hy256 : y.1 ≤ 255 := by have := hgv.2.le; have := Nat.two_pow_pos k; omega
          have hyn : y.1 < m.n := by rw [hD.n]; have := hgv.2.le; have := Nat.two_pow_pos k; omega
          have hyF := Lib.hid (show (bu.give (y.1, k)).F y.1 = false from by
            show (bu.F y.1 && !inBlk (y.1, k) y.1) = false
            rw [inBlk_iff.2 ⟨Nat.le_refl _, by show y.1 < y.1 + 2 ^ k; have := Nat.two_pow_pos k; omega⟩]
            simp)
          clear hD hX hU U4 c0 c1 c2 c3 hc2 hs B4 hgv
          go_upto_region 10 with fail
          obtain ⟨s, hs16, hsI⟩ : ∃ s : Nat, s < 16 ∧ N % 16 = (s : Int) := ⟨(N % 16).toNat, by omega, by omega⟩
          have hand : bits BinOp.and IntKind.i64 N 15 = (s : Int) := by rw [and15, hsI]
          have hmul : IntKind.i64.wrap (16 * (y.1 : Int)) = ((16 * y.1 : Nat) : Int) := by rw [IntWalk.i64_in _ (by omega)]; omega
          have hadd : IntKind.i64.wrap (((16 * y.1 : Nat) : Int) + (s : Int)) = ((16 * y.1 + s : Nat) : Int) := by rw [IntWalk.i64_in _ (by omega)]; omega
          have hiI : (i : Int) < (n : Int) := by omega
          refine wp_region_tail 18 (by kernel_rfl) (by kernel_rfl) ?_
          simp only [List.take_succ_cons, List.take_zero, List.drop_succ_cons, List.drop_zero]
          intro w5 hw5
          have D5 := D4.still (Upd.refl (fun _ => False) w4).drew
          have X5 := X4.drew
          have q1 : w4.drew.cell? ⟨b, off + i * 4 + 1, none⟩ = some (.int .i64 N) := p1
          have q3 : w4.drew.cell? ⟨b, off + i * 4 + 3, none⟩ = some (.int .u64 W) := p3
          rw [← hw5] at D5 X5 q1 q3
          clear hw5 D4 X4 p1 p3 V4
          repeat still_step
          refine wpStill_nil ?_
          go_wp2_with fail
          have hw : 16 * (y.1 : Int) + (s : Int) = ((16 * y.1 + s : Nat) : Int) := by omega
          rw [hw]
          have hhas : m.has ((16 * y.1 + s : Nat) : Int) = true := decide_eq_true (by omega)
          refine (write_any MA m _ W _ D5.M).mono ?_
          rintro x w6 ⟨rfl, M6, U6⟩
          rw [hhas, errI_t]
          have hne5 := D5.ne
          have D6 : Duo w6 A MA GB (m.wr ((16 * y.1 + s : Nat) : Int) W) (bu.give (y.1, k)) := ⟨D5.B.kept U6 hne5.2.2.1 hne5.2.2.2.2.1, M6, by rw [Mem.wr_n]; exact D5.n⟩
          have X6 : Upd (fun k => k = GB ∨ k = MB) w3 w6 := X5.trans (U6.mono fun _ _ e => .inr (by rw [e, hmB]))
          have Z6 := Lib.hid ((hZ.out.give (y.1, k)).wr D5.M.okm y.1 s hs16 hyF.out W)
          clear hw hhas hand hmul hadd D5 X5 U6 M6 hZ hyF q1 q3 hne5
          go_wp2
          go_roundw
          case rel => exact ⟨i + 1, bu.give (y.1, k), m.wr ((16 * y.1 + s : Nat) : Int) W, by omega, by go_num, by rw [Mem.wr_B]; exact hmB, hbn, hbr, D6, Z6, X6⟩
          case measure => simp [intOf]; omega
      · go_wp2_with fail
        refine (bAlloc_bad A o _ (by omega)).mono ?_
        rintro x w4 ⟨rfl, rfl⟩
        clear c0 c1 c2 c3 hc2
        go_wp2
        go_quiet (fail)
        go_wp2
        go_roundw
        case rel => exact ⟨i + 1, bu, m, by omega, by go_num, hmB, hbn, hbr, hD.still ((Upd.refl _ _).drewN _), hZ, hX.drewN _⟩
        case measure => simp [intOf]; omega
    · have e : i = n := by omega
      subst e
      clear V3
      go_wp2
      go_loopg [14] (bu.gave.length) (fun g t wr => ∃ (j : Nat) (bu : Bud) (m : Mem), j + g ≤ 256 ∧ t = .int .i64 j ∧ bu.gave.length = g ∧ m.B = MB ∧ bu.n = fn ∧ bu.res = r ∧ Duo wr A MA GB m bu ∧ Hid (Zr m bu) ∧ Upd (fun _ => False) w wr ∧ Upd (fun k => k = GB ∨ k = MB) w3 wr)
      case atStart => exact ⟨0, bu, m, by have := hD.B.ok.gave_len; omega, rfl, rfl, hmB, hbn, hbr, hD, hZ, hU, hX⟩
      case round =>
        clear hD hZ hX hU hmB hbn hbr
        obtain ⟨j, bu, m, hjg, rfl, hgl, hmB, hbn, hbr, hD, hZ, hU, hX⟩ := hrel
        go_wp2_with fail
        refine (bHeld_any A MA GB bu _ hD.B).mono ?_
        rintro x w4 ⟨v, rfl, hrow, U4⟩
        obtain ⟨o4, cap4, rfl⟩ := slice2 hrow
        have D4 := hD.still U4
        have V4 := hU.trans U4
        have X4 := hX.trans (U4.mono fun _ _ h => h.elim)
        rw [show bu.held.length = gk from by rw [held_len, hgl]]
        clear hD hU hX U4 hrow
        by_cases hg0 : gk = 0
        · have hg : bu.gave = [] := List.length_eq_zero_iff.1 (by omega)
          subst hg0
          have hF := none_F D4.B.ok hg
          have hbl : blocks bu.F bu.n = L0 := by rw [hF, hbn, hbr]; exact HL0.out
          have hleft : (bu.left : Int) = (fn : Int) - (r : Int) := by rw [none_left D4.B.ok hg, hbn, hbr]; omega
          have hzero := Lib.hid (fun (f : Nat) (h1 : r ≤ f) (h2 : f < fn) => show m.zero (f : Int) = true from hZ.out.zero D4.M.okm D4.n (by rw [hF, hbn, hbr]; show (decide (r ≤ f) && decide (f < fn)) = true; simp [h1, h2]) (by omega))
          clear hF hZ hg hjg
          go_wp2_with fail
          refine (bBlocks_any A MA GB m bu _ D4.B D4.M D4.n).mono ?_
          rintro x w5 ⟨v5, rfl, hrow5, U5⟩
          rw [hbl] at hrow5
          obtain ⟨o5, cap5, rfl, hc5⟩ := brow_of hrow5
          rw [Hl0.out] at hc5 ⊢
          have D5 := D4.still U5
          have V5 := V4.trans U5
          have X5 := X4.trans (U5.mono fun _ _ h => h.elim)
          clear D4 V4 X4 U5 hrow5 hbl
          go_wp2_with fail
          refine (bLeft_any A MA GB m bu _ D5.B D5.M D5.n).mono ?_
          rintro x w6 ⟨rfl, U6⟩
          rw [hleft]
          have D6 := D5.still U6
          have V6 := V5.trans U6
          have X6 := X5.trans (U6.mono fun _ _ h => h.elim)
          have hc6 : ∀ i, i < l0 → (∃ g, o5 = some ⟨g, 0, none⟩ ∧ w6.cell? ⟨g, i * 2, none⟩ = some (.int .i64 ((L0.getD i (0, 0)).1 : Int)) ∧ w6.cell? ⟨g, i * 2 + 1, none⟩ = some (.int .i64 ((L0.getD i (0, 0)).2 : Int))) ∧ (∃ g, o3 = some ⟨g, 0, none⟩ ∧ w6.cell? ⟨g, i * 2, none⟩ = some (.int .i64 ((L0.getD i (0, 0)).1 : Int)) ∧ w6.cell? ⟨g, i * 2 + 1, none⟩ = some (.int .i64 ((L0.getD i (0, 0)).2 : Int))) := fun i hi => by
            obtain ⟨g, e1, e2, e3⟩ := hc5 i hi
            obtain ⟨g', e1', e2', e3'⟩ := hc3 i hi
            have hl := hlo3 g' e1'
            exact ⟨⟨g, e1, U6.cell e2 (fun h => h), U6.cell e3 (fun h => h)⟩, ⟨g', e1', X6.cell e2' (by rintro (e | e); { exact absurd e (by show ¬ g' = GB; omega) }; { exact absurd e (by show ¬ g' = MB; omega) }), X6.cell e3' (by rintro (e | e); { exact absurd e (by show ¬ g' = GB; omega) }; { exact absurd e (by show ¬ g' = MB; omega) })⟩⟩
          clear D5 V5 X5 U6 hc5 hc3 X6
          have hfr := Lib.hid (fun W (hW : Upd (fun _ => False) w6 W) => show Calls Try.prog 31 #[.pointer (some ⟨MA, 0, none⟩)] W fun e w'' => e = .returned (.int .i64 fn) ∧ W = w'' from by
            have := frames_any MA m W (D6.M.kept hW (fun h => h) (fun h => h))
            rwa [D6.n, hbn] at this)
          go_wp2_with fail
          refine (hfr.out _ (Upd.refl _ _)).mono ?_
          rintro x w7 ⟨rfl, rfl⟩
          go_wp2
          go_loopw [18] (fun t wr => ∃ (k q : Nat), k ≤ l0 ∧ t = .int .i64 k ∧ wr = w6.drewN q) (fun t _ => l0 - (intOf t).toNat)
          case atStart => exact ⟨0, 0, by omega, rfl, rfl⟩
          case round =>
            obtain ⟨k, q, hk, rfl, rfl⟩ := hrel
            by_cases hkl : k < l0
            · obtain ⟨⟨ga, rfl, g0, g1⟩, ⟨gb, rfl, g2, g3⟩⟩ := hc6 k hkl
              generalize L0.getD k (0, 0) = x at g0 g1 g2 g3
              have hkI : (k : Int) < (l0 : Int) := by omega
              clear hc6 hfr hzero
              go_wp2
              go_quiet (fail)
              go_wp2
              go_roundw
              case rel => exact ⟨k + 1, _, by omega, by go_num, rfl⟩
              case measure => simp [intOf]; omega
            · have e : k = l0 := by omega
              subst e
              have Mq := D6.M.kept ((Upd.refl (fun _ => False) w6).drewN q) (fun h => h) (fun h => h)
              have Vq := V6.drewN q
              have hfq := Lib.hid (hfr.out _ ((Upd.refl (fun _ => False) w6).drewN q))
              clear hfr hc6
              generalize w6.drewN q = wq at Mq Vq hfq ⊢
              go_wp2
              go_loop [19] (fun t => ∃ z : Nat, r ≤ z ∧ z ≤ fn ∧ t = .int .i64 z) (fun t => fn - (intOf t).toNat)
              case atStart => exact ⟨r, Nat.le_refl _, n3, rfl⟩
              case round =>
                obtain ⟨z, hz1, hz2, rfl⟩ := hrel
                by_cases hzl : z < fn
                · go_wp2_with fail
                  refine hfq.out.mono ?_
                  rintro x w8 ⟨rfl, rfl⟩
                  go_wp2_with fail
                  refine (zero_any MA m z _ Mq).mono ?_
                  rintro x w8 ⟨rfl, rfl⟩
                  rw [hzero.out z hz1 hzl]
                  go_wp2
                  exact ⟨⟨z + 1, by omega, by omega, by go_num⟩, by simp [intOf]; omega⟩
                · have e : z = fn := by omega
                  subst e
                  go_wp2_with fail
                  refine hfq.out.mono ?_
                  rintro x w8 ⟨rfl, rfl⟩
                  go_wp2
                  go_ret
                  exact ⟨rfl, below_none Vq⟩
        · have hgI : (0 : Int) < (gk : Int) := by omega
          have hgk : gk ≤ 256 := by omega
          go_wp2_with fail
          refine (bHeld_any A MA GB bu _ D4.B).mono ?_
          rintro x w5 ⟨v5, rfl, hrow5, U5⟩
          obtain ⟨o5, cap5, rfl, hc5⟩ := brow_of hrow5
          have hlo5 := fun j ej => (show GB < j ∧ MB < j from ⟨Nat.lt_of_lt_of_le D4.B.lts.2 (hrow5.lt j ej).1, by rw [← hmB]; exact Nat.lt_of_lt_of_le (lt_of_heap D4.M.body) (hrow5.lt j ej).1⟩)
          have D5 := D4.still U5
          have V5 := V4.trans U5
          have X5 := X4.trans (U5.mono fun _ _ h => h.elim)
          have hmem := Lib.hid (fun j (hj : j < bu.held.length) => show bu.held.getD j (0, 0) ∈ bu.gave from (heldOf_mem _).1 (by rw [List.getD_eq_getElem?_getD, List.getElem?_eq_getElem hj]; exact List.getElem_mem _))
          have hhl : bu.held.length = gk := by rw [held_len, hgl]
          rw [hhl] at hc5 hlo5 hmem ⊢
          clear D4 V4 X4 U5 hrow5 hhl
          go_upto_region 17 with fail
          go_cut [104] (fun s104 wx => wx = w5 ∧ ∃ c : Bool, s104 = .bool c ∧ Hid (c = true → j < i ∧ ∃ N : Nat, w5.cell? ⟨b, off + j * 4 + 1, none⟩ = some (.int .i64 (N : Int))))
          case first =>
            by_cases hji : j < i
            · obtain ⟨d, N, o, W, c0, c1, c2, c3, _⟩ := op_cells R j hji
              have hao := R.place (by omega)
              subst hao
              have p1 := V5.cell c1 (fun h => h)
              clear c0 c1 c2 c3
              have hjI : (j : Int) < (i : Int) := by omega
              by_cases hN : 0 ≤ N
              · obtain ⟨N', rfl⟩ := Int.eq_ofNat_of_zero_le hN
                go_wp2_with fail
                go_meet
                exact ⟨rfl, _, rfl, Lib.hid fun _ => ⟨hji, N', p1⟩⟩
              · have hN' : decide (0 ≤ N) = false := decide_eq_false hN
                go_wp2_with fail
                go_meet
                exact ⟨rfl, false, by simp [hN'], Lib.hid fun h => by cases h⟩
            · have hji' : decide ((j : Int) < (i : Int)) = false := decide_eq_false (by omega)
              have hjI : ¬ (j : Int) < (i : Int) := by omega
              go_wp2_with fail
              go_meet
              exact ⟨rfl, false, by first | rfl | simp, Lib.hid fun h => by cases h⟩
          case rest =>
            obtain ⟨rfl, c, rfl, hcc⟩ := hcut
            go_upto_if 104 with fail
            go_cut [16] (fun s16 wx => wx = wc ∧ ∃ q : Nat, q < gk ∧ s16 = .int .i64 q)
            case first =>
              cases c
              · clear hcc hc5
                go_wp2_with fail
                go_meet
                exact ⟨rfl, 0, by omega, rfl⟩
              · obtain ⟨hji, N, p1⟩ := hcc.out rfl
                have hao := R.place (by omega)
                subst hao
                obtain ⟨q, hq⟩ : ∃ q, N % gk = q := ⟨_, rfl⟩
                have hql : q < gk := by rw [← hq]; exact Nat.mod_lt _ (by omega)
                have hqI : (N : Int) % (gk : Int) = (q : Int) := by rw [← hq]; omega
                have hne : ¬ (gk : Int) = 0 := by omega
                clear hq hcc hc5
                go_wp2_with fail
                go_meet
                exact ⟨rfl, q, hql, by rw [hqI]⟩
            case rest =>
              obtain ⟨e0, q, hq, rfl⟩ := hcut
              subst e0
              clear hcc
              obtain ⟨ga, rfl, g0, g1⟩ := hc5 q hq
              have hx := hmem.out q hq
              obtain ⟨l1, l2⟩ := hlo5 ga rfl
              generalize bu.held.getD q (0, 0) = x at g0 g1 hx
              obtain ⟨x8, xal, xr, xn⟩ := D5.B.ok.blk x hx
              have hhi := D5.B.ok.hi
              have hwx := Lib.hid (wf_frame (n := x.1) (by have := Nat.two_pow_pos x.2; omega))
              have hqI : (q : Int) < (gk : Int) := by omega
              have h300 : decide ((300 : Int) < (j : Int)) = false := decide_eq_false (by omega)
              have h300n : decide (300 < j) = false := decide_eq_false (by omega)
              have Hno := Lib.hid (not_again D5.B.ok hx)
              have Zt := Lib.hid (hZ.out.take D5.M.okm D5.B.ok D5.n hx)
              have hglt : (bu.take x).gave.length = gk - 1 := by
                show (bu.gave.erase x).length = gk - 1
                rw [List.length_erase_of_mem hx, hgl]
              have D5d := D5.still (Upd.refl (fun _ => False) wc).drew
              have V5d := V5.drew
              have X5d := X5.drew
              have g0d : wc.drew.cell? ⟨ga, q * 2, none⟩ = some (.int .i64 (x.1 : Int)) := g0
              have g1d : wc.drew.cell? ⟨ga, q * 2 + 1, none⟩ = some (.int .i64 (x.2 : Int)) := g1
              have Hx := Lib.hid hx
              have Hjg := Lib.hid hjg
              have hj256 : j ≤ 256 := by omega
              clear hc5 hmem hlo5 D5 V5 X5 xal xr xn hx hZ hjg
              go_upto_region 19 with fail
              go_region_held3 (fun w' => w'.cell? ⟨ga, q * 2, none⟩ = some (.int .i64 (x.1 : Int)) ∧ w'.cell? ⟨ga, q * 2 + 1, none⟩ = some (.int .i64 (x.2 : Int)))
                (first
                  | exact ⟨g0, g1⟩
                  | exact ⟨g0d, g1d⟩
                  | exact ⟨k0, k1⟩)
                (first
                  | (go_at_call 17; refine (bFree_any A MA GB _ _ (x.1 : Int) (x.2 : Int) _ D6.B D6.M hwx.out).mono ?_; rintro e w7 (⟨_, rfl, rfl⟩ | ⟨y, hy, e0, e1, _⟩); rotate_left; { have := Hno.out y hy; simp [isB] at this; omega })
                  | (go_at_call 17; refine (bfree_yes A MA GB _ bu x _ D5d Hx.out).mono ?_; rintro e w6 ⟨rfl, D6, U6⟩; have V6 := V5d.since U6 (fun z hz => by { rcases hz with rfl | rfl; exact hge; rw [hmB]; exact hmb }); have X6 := X5d.trans (U6.mono fun z _ hz => by { rcases hz with rfl | rfl; exact .inl rfl; exact .inr hmB }); have k0 := U6.cell g0d (by rintro (e | e); { exact absurd e (by show ¬ ga = GB; omega) }; { exact absurd e (by show ¬ ga = m.B; omega) }); have k1 := U6.cell g1d (by rintro (e | e); { exact absurd e (by show ¬ ga = GB; omega) }; { exact absurd e (by show ¬ ga = m.B; omega) })))
              have hmB6 : (m.scrub (x.1 : Int) ((2 ^ x.2 : Nat) : Int)).B = MB := by rw [Mem.scrub_B]; exact hmB
              clear k0 k1 g0 g1 g0d g1d h300 h300n D5d V5d X5d U6
              go_wp2
              go_roundg (gk - 1)
              case measure => omega
              case rel => exact ⟨j + 1, bu.take x, m.scrub (x.1 : Int) ((2 ^ x.2 : Nat) : Int), by have := Hjg.out; omega, by go_num, hglt, hmB6, hbn, hbr, D6, Zt, V6, X6⟩
/-! ### the row's frame -/
theorem own : ownKnob Try.prog.godebug = none := by kernel_rfl
theorem laidOut : laidOutB Try.prog = true := by kernel_rfl
set_option linter.unusedVariables false in
set_option maxRecDepth 100000 in
theorem lifted (os : Os) (started : os.Started) (H : Type) (enc : TypeId × Value → H) :
    ReturnsInHanded {} Try.checked os 5 .any (Rows.buddyWholeSpec.pre6 enc Try.prog Try.f5 Rows.buddyWholeRow.domain false) (Rows.buddyWholeSpec.post enc Try.prog Try.f5 false true false false) := by
  refine returnsInHanded_of_change (C := Try.checked) own started (by kernel_rfl) Try.func5
    (ChangeSpec.witness6 (enc := enc) (C := Try.checked) false ⟨#[], #[.int .i64 0, .int .i64 0, .slice none 0 0], []⟩ 8 (by kernel_rfl) (by kernel_rfl) (by kernel_rfl) (by kernel_rfl)) ?_
  intro W base args ds gs before hval0 hW hcnd _
  have hval : ∀ (j : Nat) t v, Try.f5.params[j]? = some t → args[j]? = some v → Value.okWide Try.prog W .any base t v := hval0
  have hW' := hW
  obtain ⟨p, q, hA0, hV, rfl, hfz, hnd⟩ := hW
  have hA : DataW.TrodAll enc Try.prog W 0 (fun _ => true) true Try.f5.params.toList args.toList ds p := hA0
  rw [Try.params5] at hA hval
  obtain ⟨v0, vs0, d0, ds0, p0, q0, hargs, rfl, rfl, h0, r0⟩ := trodAll_cons hA
  obtain ⟨v1, vs1, d1, ds1, p1, q1, rfl, rfl, rfl, h1, r1⟩ := trodAll_cons r0
  obtain ⟨v2, vs2, d2, ds2, p2, q2, rfl, rfl, rfl, h2, r2⟩ := trodAll_cons r1
  obtain ⟨rfl, rfl, rfl⟩ := trodAll_nil r2
  obtain rfl : args = #[v0, v1, v2] := by cases args; simp_all
  obtain ⟨rfl, rfl⟩ := trodVars_none hV
  have k0 := h0
  have lt0 : ∀ x ∈ p0, x.block < W.heap.size := by obtain ⟨m, hm⟩ := k0; exact DataW.trod_lt m _ _ _ hm
  obtain ⟨a0, rfl, rfl, rfl, w0⟩ := open_int Try.underlying3 (hval 0 3 v0 rfl rfl) h0
  have k1 := h1
  have lt1 : ∀ x ∈ p1, x.block < W.heap.size := by obtain ⟨m, hm⟩ := k1; exact DataW.trod_lt m _ _ _ hm
  obtain ⟨a1, rfl, rfl, rfl, w1⟩ := open_int Try.underlying3 (hval 1 3 v1 rfl rfl) h1
  have k2 := h2
  have lt2 : ∀ x ∈ p2, x.block < W.heap.size := by obtain ⟨m, hm⟩ := k2; exact DataW.trod_lt m _ _ _ hm
  obtain ⟨ao2, n2, cap2, b2, of2, E2, rfl, w2⟩ := Fr.open_rows 12 [some .i64, some .i64, some .i64, some .u64] Try.underlying22 (by kernel_rfl) (by kernel_rfl) (by decide) (hval 2 22 v2 rfl rfl) h2
  clear hA0 hval0
  refine (walk a0 a1 ao2 n2 cap2 b2 of2 E2 w0 w1 W w2).mono fun e W' ⟨he, bel⟩ => ?_
  subst he
  exact ⟨_, rfl, _, _, _, [], _, [], hW', trodAll_mk1 (shut_bool Try.underlying4 _), (trodAll_cons_mk (Below.trod laidOut (by kernel_rfl) (of_decide_eq_true (by kernel_rfl)) k0 bel lt0) (trodAll_cons_mk (Below.trod laidOut (by kernel_rfl) (of_decide_eq_true (by kernel_rfl)) k1 bel lt1) (trodAll_cons_mk (Below.trod laidOut (by kernel_rfl) (of_decide_eq_true (by kernel_rfl)) k2 bel lt2) trodAll_mk0))), rfl, bel.frame _, fun h => by cases h⟩

theorem over : Rows.buddyWholeRow.holds Try.pinned (OpenSpec.ofChange Rows.buddyWholeSpec) :=
  OpenClaim.holds_of_wide 5 Try.f5 rfl rfl rfl rfl rfl rfl rfl ⟨rfl, rfl, rfl, rfl, rfl⟩ rfl rfl rfl rfl rfl (by kernel_rfl) Try.func5 (by kernel_rfl)
    (of_decide_eq_true (by kernel_rfl)) (by unfold Func.isWrapper; first | (rw [if_pos (by decide +kernel)]; kernel_rfl) | (rw [if_neg (by decide +kernel)]; exact ⟨rfl, rfl⟩))
    (fun os started H enc _ => lifted os started H enc)

theorem proved : Rows.BuddyWholeSaid :=
  over
end Go.Proofs.Ytmobhojblclmjaa.buddyWhole
