/-
  Texts that the laws stand on, joined: IsW, IsX, CpO, CpG, CpQ, CpY, CpSp, CpCp, CpSm.
-/
import Derived.Test.YtcbiangocfhhlaaDoorPart3

/-
  The program's instructions: Word.
-/
namespace Go.Proofs.YtcbiangocfhhlaaDoor
open Go.ChangeShapes Go.WideShapes Go.ChangeAt Go.RowKit

/-- the word of an operation's first k parts -/
def Ins.wk (i : Ins) : Nat → Int
  | 0 => i.op
  | 1 => i.op + 256 * i.a
  | 2 => i.op + 256 * i.a + 2048 * i.b
  | 3 => i.op + 256 * i.a + 2048 * i.b + 16384 * i.c
  | _ => i.word
def topK : Nat → Int
  | 0 => 7
  | 1 => 7
  | 2 => 7
  | _ => 65535
def fits (z : Int) (k : Nat) : Bool := decide (0 ≤ z ∧ z ≤ topK k)
theorem fine_iff (i : Ins) (k : Nat) (hk : k < 4) : i.fine k ↔ fits (i.p k) k = true ∧ (hasK i.op k = false → i.p k = 0) := by
  unfold Ins.fine fits
  rw [decide_eq_true_eq, Ins.h_eq]
  have hd : k = 0 ∨ k = 1 ∨ k = 2 ∨ k = 3 := by omega
  rcases hd with rfl | rfl | rfl | rfl <;> simp only [topK] <;> constructor <;> rintro ⟨h1, h2⟩ <;> refine ⟨?_, h2⟩ <;> omega
theorem putB_k (z : Int) (h0 : -9223372036854775808 ≤ z) (h1 : z ≤ 9223372036854775807) (k : Nat) (hk : k < 4) : putB (IntKind.u64.wrap z) (frK k) (mnK k) = fits z k := by
  have hw : IntKind.u64.wrap z = if z < 0 then z + 18446744073709551616 else z := by
    by_cases hz : z < 0
    · rw [if_pos hz]
      show z % 18446744073709551616 = _
      omega
    · rw [if_neg hz]
      exact IntWalk.u64_in _ ⟨by omega, by omega⟩
  have hd : k = 0 ∨ k = 1 ∨ k = 2 ∨ k = 3 := by omega
  rcases hd with rfl | rfl | rfl | rfl
  all_goals
    unfold putB fits
    rw [show fieldB (frK _) (mnK _) = true from by decide, Bool.true_and, hw]
    unfold withinB
    rw [decide_eq_decide]
    simp only [mnK, topK, onesI]
    split <;> constructor <;> intro h <;> simp at h ⊢ <;> omega
theorem putV_k (i : Ins) (ho : 0 ≤ i.op ∧ i.op ≤ 11) (k : Nat) (hk : k < 4) (hf : ∀ j, j < k + 1 → fits (i.p j) j = true) : putV (i.wk k) (IntKind.u64.wrap (i.p k)) (frK k) (mnK k) = i.wk (k + 1) := by
  have hz := hf k (by omega)
  have hb : fits (i.p k) k = true := hz
  have hin : 0 ≤ i.p k ∧ i.p k ≤ topK k := of_decide_eq_true hz
  have hk7 : topK k ≤ 65535 := by
    have hd : k = 0 ∨ k = 1 ∨ k = 2 ∨ k = 3 := by omega
    rcases hd with rfl | rfl | rfl | rfl <;> simp [topK]
  rw [← putB_k (i.p k) (by omega) (by omega) k hk] at hb
  rw [putV_yes hb, IntWalk.u64_in _ ⟨by omega, by omega⟩]
  have ha := fun h : 0 < k + 1 => (of_decide_eq_true (hf 0 h) : 0 ≤ i.p 0 ∧ i.p 0 ≤ topK 0)
  have hb1 := fun h : 1 < k + 1 => (of_decide_eq_true (hf 1 h) : 0 ≤ i.p 1 ∧ i.p 1 ≤ topK 1)
  have hc := fun h : 2 < k + 1 => (of_decide_eq_true (hf 2 h) : 0 ≤ i.p 2 ∧ i.p 2 ≤ topK 2)
  obtain ⟨op, a, b, c, m⟩ := i
  have hd : k = 0 ∨ k = 1 ∨ k = 2 ∨ k = 3 := by omega
  unfold putI M.putN
  rcases hd with rfl | rfl | rfl | rfl
  · simp only [Ins.wk, Ins.p, frK, mnK, topK] at *
    rw [show Int.toNat 8 = 8 from rfl, show Int.toNat 3 = 3 from rfl]
    simp
    omega
  · have := ha (by omega)
    simp only [Ins.wk, Ins.p, frK, mnK, topK] at *
    rw [show Int.toNat 11 = 11 from rfl, show Int.toNat 3 = 3 from rfl]
    simp
    omega
  · have := ha (by omega)
    have := hb1 (by omega)
    simp only [Ins.wk, Ins.p, frK, mnK, topK] at *
    rw [show Int.toNat 14 = 14 from rfl, show Int.toNat 3 = 3 from rfl]
    simp
    omega
  · have := ha (by omega)
    have := hb1 (by omega)
    have := hc (by omega)
    simp only [Ins.wk, Ins.p, Ins.word, frK, mnK, topK] at *
    rw [show Int.toNat 24 = 24 from rfl, show Int.toNat 16 = 16 from rfl]
    simp
    omega
theorem wk_bd (i : Ins) (ho : 0 ≤ i.op ∧ i.op ≤ 11) (k : Nat) (hk : k ≤ 4) (hf : ∀ j, j < k → fits (i.p j) j = true) : 0 ≤ i.wk k ∧ i.wk k < 18446744073709551616 := by
  have ha := fun h : 0 < k => (of_decide_eq_true (hf 0 h) : 0 ≤ i.p 0 ∧ i.p 0 ≤ topK 0)
  have hb := fun h : 1 < k => (of_decide_eq_true (hf 1 h) : 0 ≤ i.p 1 ∧ i.p 1 ≤ topK 1)
  have hc := fun h : 2 < k => (of_decide_eq_true (hf 2 h) : 0 ≤ i.p 2 ∧ i.p 2 ≤ topK 2)
  have hm := fun h : 3 < k => (of_decide_eq_true (hf 3 h) : 0 ≤ i.p 3 ∧ i.p 3 ≤ topK 3)
  obtain ⟨op, a, b, c, m⟩ := i
  have hd : k = 0 ∨ k = 1 ∨ k = 2 ∨ k = 3 ∨ k = 4 := by omega
  rcases hd with rfl | rfl | rfl | rfl | rfl <;> simp [Ins.wk, Ins.p, Ins.word, topK] at * <;> omega
theorem wk_zero (i : Ins) : i.wk 0 = i.op := rfl
theorem wk_four (i : Ins) : i.wk 4 = i.word := rfl
theorem fine_all {i : Ins} (ho : 0 ≤ i.op ∧ i.op ≤ 11) (h : ∀ k, k < 4 → fits (i.p k) k = true ∧ (hasK i.op k = false → i.p k = 0)) : i.right = true :=
  Ins.ok_of ho fun k hk => (fine_iff i k hk).2 (h k hk)
theorem not_fine {i : Ins} (k : Nat) (hk : k < 4) (h : ¬ (fits (i.p k) k = true ∧ (hasK i.op k = false → i.p k = 0))) : i.right = false :=
  Ins.bad_of (k := k) fun hf => h ((fine_iff i k hk).1 hf)
set_option maxRecDepth 100000 in
set_option maxHeartbeats 4000000 in
theorem wword_any (i : Ins) (hi : i.In) (w : World) (hT : Tabs w) : Calls Tryd.prog 30 #[.agg #[.int .i64 i.op, .int .i64 i.a, .int .i64 i.b, .int .i64 i.c, .int .i64 i.m]] w fun e w' => e = .returned (.tuple #[.int .u64 i.wv, .int .i64 i.we]) ∧ Upd (fun _ => False) w w' := by
  have U0 := Lib.hid ((Upd.refl (fun _ => False) w).alloc (.cells #[.int .i64 i.op, .int .i64 i.a, .int .i64 i.b, .int .i64 i.c, .int .i64 i.m] 50))
  by_cases o1 : i.op < 0
  · have hr : i.right = false := by unfold Ins.right; rw [decide_eq_false (by omega)]; rfl
    have h1 : i.wv = 0 := by unfold Ins.wv; rw [hr]; rfl
    have h2 : i.we = 1 := by unfold Ins.we; rw [hr]; rfl
    rw [h1, h2]
    clear hT hi hr h1 h2
    go_enter Tryd.func30, Tryd.ntmps30
    go_wp2
    go_ret2
    exact ⟨rfl, U0.out⟩
  by_cases o2 : 11 < i.op
  · have hr : i.right = false := by unfold Ins.right; rw [decide_eq_false (by omega)]; rfl
    have h1 : i.wv = 0 := by unfold Ins.wv; rw [hr]; rfl
    have h2 : i.we = 1 := by unfold Ins.we; rw [hr]; rfl
    rw [h1, h2]
    clear hT hi hr h1 h2
    go_enter Tryd.func30, Tryd.ntmps30
    go_wp2
    go_ret2
    exact ⟨rfl, U0.out⟩
  have hOp : 0 ≤ i.op ∧ i.op ≤ 11 := ⟨by omega, by omega⟩
  have hyes : Hid ((∀ k, k < 4 → fits (i.p k) k = true ∧ (hasK i.op k = false → i.p k = 0)) → i.wv = i.word ∧ i.we = 0) := Lib.hid (fun h => by have hr := fine_all hOp h; unfold Ins.wv Ins.we; rw [hr]; exact ⟨rfl, rfl⟩)
  have hno : Hid (∀ k, k < 4 → ¬ (fits (i.p k) k = true ∧ (hasK i.op k = false → i.p k = 0)) → i.wv = 0 ∧ i.we = 1) := Lib.hid (fun k hk h => by have hr := not_fine k hk h; unfold Ins.wv Ins.we; rw [hr]; exact ⟨rfl, rfl⟩)
  have hput : Hid (∀ k, k < 4 → putB (IntKind.u64.wrap (i.p k)) (frK k) (mnK k) = fits (i.p k) k ∧ ((∀ j, j < k + 1 → fits (i.p j) j = true) → putV (i.wk k) (IntKind.u64.wrap (i.p k)) (frK k) (mnK k) = i.wk (k + 1))) := Lib.hid (fun k hk => ⟨putB_k (i.p k) (hi.p k).1 (hi.p k).2 k hk, putV_k i hOp k hk⟩)
  have hbd := Lib.hid (wk_bd i hOp)
  have h0 := Lib.hid (wk_zero i)
  have h4 := Lib.hid (wk_four i)
  have cN := Lib.hid (fun W => numbers_any i W)
  have hT1 := Lib.hid (hT.kept U0.out)
  obtain ⟨on, hon⟩ := Int.eq_ofNat_of_zero_le hOp.1
  have hon2 : on < 12 := by omega
  rw [hon] at hyes hno h0 U0 cN hT1 ⊢
  have hh : Hid (∀ W, Tabs W → ∀ k, k < 4 → W.cell? ⟨1, on * 5 + 1 + k, none⟩ = some (.bool (hasK on k))) := Lib.hid (fun W h k hk => h.has on hon2 k hk)
  have honb : (on : Int) ≤ 11 := by omega
  generalize hasK (on : Int) = hb at hyes hno hh
  generalize i.p = p at hyes hno hput hbd cN
  generalize i.wk = wk at hput hbd h0 h4
  generalize i.word = wd at hyes h4
  generalize i.wv = wv at hyes hno ⊢
  generalize i.we = we at hyes hno ⊢
  generalize i.a = a at U0 cN hT1 ⊢
  generalize i.b = b at U0 cN hT1 ⊢
  generalize i.c = c at U0 cN hT1 ⊢
  generalize i.m = m at U0 cN hT1 ⊢
  clear hT hi hOp o1 o2 hon i hon2
  have X := heap_alloc_last w (.cells #[.int .i64 (on : Int), .int .i64 a, .int .i64 b, .int .i64 c, .int .i64 m] 50)
  have i0 := Lib.hid (show ∀ W, Upd (fun _ => False) (w.alloc (.cells #[.int .i64 (on : Int), .int .i64 a, .int .i64 b, .int .i64 c, .int .i64 m] 50)) W → W.cell? ⟨w.heap.size, 0, none⟩ = some (.int .i64 on) from fun W u => by rw [cell_of_row _ _ _ _ _ _ (u.at X id)]; rfl)
  have R0 := Lib.hid (show (w.alloc (.cells #[.int .i64 (on : Int), .int .i64 a, .int .i64 b, .int .i64 c, .int .i64 m] 50)).rangeAt w.heap.size 0 [.int .i64 (on : Int), .int .i64 a, .int .i64 b, .int .i64 c, .int .i64 m] from World.rangeAt_of_block X 0 5)
  clear X
  go_enter Tryd.func30, Tryd.ntmps30
  go_upto_region 4 with fail
  go_wp2_with (with_reducible refine wpList_load_sz rfl 50 (.tmp 1) rfl w.heap.size 0 rfl [.int .i64 (on : Int), .int .i64 a, .int .i64 b, .int .i64 c, .int .i64 m] _ R0.out Tryd.underlying50 rfl 5 (ins_len _ _ _ _ _) size_ins ?_)
  refine (cN.out _).mono ?_
  rintro e w2 ⟨rfl, u2⟩
  have hT2 := Lib.hid (hT1.out.kept u2)
  have V2 := Lib.hid (U0.out.trans u2)
  have i2 := Lib.hid (i0.out _ u2)
  clear hT1 U0 u2 i0 R0 cN
  generalize w.heap.size = XI at i2 ⊢
  have hx : Hid (∀ k, k < 4 → ∀ w, (Instr.index 69 (.agg #[.int .i64 (p 0), .int .i64 (p 1), .int .i64 (p 2), .int .i64 (p 3)]) (.int .i64 (k : Nat))).run Tryd.prog w = .ok (.int .i64 (p k)) w) := Lib.hid (fun k hk => run_index_ints (P := Tryd.prog) Tryd.underlying69 Tryd.underlying3 (by kernel_rfl) [p 0, p 1, p 2, p 3] rfl .i64 k hk (p k) (by
    have hd : k = 0 ∨ k = 1 ∨ k = 2 ∨ k = 3 := by omega
    rcases hd with rfl | rfl | rfl | rfl <;> rfl))
  generalize p 0 = p0 at hx ⊢
  generalize p 1 = p1 at hx ⊢
  generalize p 2 = p2 at hx ⊢
  generalize p 3 = p3 at hx ⊢
  go_wp2_with fail
  go_loopw [4, 22] (fun t4 t22 wr => ∃ k : Nat, k ≤ 4 ∧ t4 = .int .u64 (wk k) ∧ t22 = .int .i64 k ∧ Hid (Upd (fun _ => False) w2 wr) ∧ Hid (∀ j, j < k → fits (p j) j = true ∧ (hb j = false → p j = 0))) (fun _ t22 _ => 4 - (intOf t22).toNat)
  case atStart => exact ⟨0, by omega, by rw [h0.out], rfl, Lib.hid (Upd.refl _ _), Lib.hid (fun j hj => absurd hj (by omega))⟩
  case round =>
    obtain ⟨k, hk, rfl, rfl, hU, hall⟩ := hrel
    by_cases h4k : k < 4
    · have hxk := hx.out k h4k
      have c1 := hh.out _ (hT2.out.kept hU.out) k h4k
      obtain ⟨c2, c3, -⟩ := (hT2.out.kept hU.out).pl k h4k
      have c0 := hU.out.cell i2.out id
      obtain ⟨e1, e2⟩ := hput.out k h4k
      have hn := hno.out k h4k
      have k0 : (0 : Int) ≤ (k : Int) := by omega
      have k4 : (k : Int) < 4 := by omega
      have hV := Lib.hid (V2.out.trans hU.out)
      clear hx hh hput hno
      by_cases hz : p k = 0
      · skip
        have hg : hb k = false → p k = 0 := fun _ => hz
        cases hf : fits (p k) k
        · obtain ⟨rfl, rfl⟩ := hn (fun h => by have h1 := h.1; rw [hf] at h1; cases h1)
          have hc := Lib.hid (fun q => put_any (wk k) (IntKind.u64.wrap (p k)) (frK k) (mnK k) (wr.drewN q) (hbd.out k (by omega) (fun j hj => (hall.out j hj).1)).1 (hbd.out k (by omega) (fun j hj => (hall.out j hj).1)).2)
          rw [e1, hf] at hc
          clear hn e1 e2 hg hall hbd h0 h4 hyes hf
          generalize putV (wk k) (IntKind.u64.wrap (p k)) (frK k) (mnK k) = nx at hc
          rw [hz] at hc hxk
          generalize wk k = W4 at hc ⊢
          go_wp2_with fail
          go_quiet ((go_at_call 35; exact draws0 (hc.out _)))
          go_wp2
          go_ret2
          exact ⟨rfl, hV.out.drewN _⟩
        · have hc := Lib.hid (fun q => put_any (wk k) (IntKind.u64.wrap (p k)) (frK k) (mnK k) (wr.drewN q) (hbd.out k (by omega) (fun j hj => (hall.out j hj).1)).1 (hbd.out k (by omega) (fun j hj => (hall.out j hj).1)).2)
          have hall' := Lib.hid (show ∀ j, j < k + 1 → fits (p j) j = true ∧ (hb j = false → p j = 0) from fun j hj => (Nat.lt_succ_iff_lt_or_eq.1 hj).elim (hall.out j) (fun e => e ▸ ⟨hf, hg⟩))
          rw [e1, hf, e2 (fun j hj => (hall'.out j hj).1)] at hc
          have hnx := Lib.hid (show wk (k + 1) = wk (k + 1) from rfl)
          clear hn e1 e2 hg hall hbd h0 h4 hyes hf
          generalize hnw : wk (k + 1) = nx at hc
          replace hnw := Lib.hid hnw
          rw [hz] at hc hxk
          generalize wk k = W4 at hc ⊢
          go_wp2_with fail
          go_quiet ((go_at_call 35; exact draws0 (hc.out _)))
          go_wp2
          go_roundw
          case rel => exact ⟨k + 1, by omega, by rw [hnw.out], by go_num, Lib.hid (hU.out.drewN _), hall'⟩
          case measure => simp [intOf]; omega
      · have hz' : (p k != 0) = true := by simp [hz]
        generalize hbe : hb k = b1 at c1
        cases b1
        · obtain ⟨rfl, rfl⟩ := hn (fun h => hz (h.2 hbe))
          clear hn e1 e2 hall hbd h0 h4 hyes
          generalize p k = z at hxk hz'
          generalize wk k = W4
          go_wp2
          go_ret2
          exact ⟨rfl, hV.out⟩
        · skip
          have hg : hb k = false → p k = 0 := fun h => by rw [hbe] at h; cases h
          cases hf : fits (p k) k
          · obtain ⟨rfl, rfl⟩ := hn (fun h => by have h1 := h.1; rw [hf] at h1; cases h1)
            have hc := Lib.hid (fun q => put_any (wk k) (IntKind.u64.wrap (p k)) (frK k) (mnK k) (wr.drewN q) (hbd.out k (by omega) (fun j hj => (hall.out j hj).1)).1 (hbd.out k (by omega) (fun j hj => (hall.out j hj).1)).2)
            rw [e1, hf] at hc
            clear hn e1 e2 hg hall hbd h0 h4 hyes hf
            generalize putV (wk k) (IntKind.u64.wrap (p k)) (frK k) (mnK k) = nx at hc
            clear hbe hz; generalize p k = z at hc hxk hz'
            generalize wk k = W4 at hc ⊢
            go_wp2_with fail
            go_quiet ((go_at_call 35; exact draws0 (hc.out _)))
            go_wp2
            go_ret2
            exact ⟨rfl, hV.out.drewN _⟩
          · have hc := Lib.hid (fun q => put_any (wk k) (IntKind.u64.wrap (p k)) (frK k) (mnK k) (wr.drewN q) (hbd.out k (by omega) (fun j hj => (hall.out j hj).1)).1 (hbd.out k (by omega) (fun j hj => (hall.out j hj).1)).2)
            have hall' := Lib.hid (show ∀ j, j < k + 1 → fits (p j) j = true ∧ (hb j = false → p j = 0) from fun j hj => (Nat.lt_succ_iff_lt_or_eq.1 hj).elim (hall.out j) (fun e => e ▸ ⟨hf, hg⟩))
            rw [e1, hf, e2 (fun j hj => (hall'.out j hj).1)] at hc
            have hnx := Lib.hid (show wk (k + 1) = wk (k + 1) from rfl)
            clear hn e1 e2 hg hall hbd h0 h4 hyes hf
            generalize hnw : wk (k + 1) = nx at hc
            replace hnw := Lib.hid hnw
            clear hbe hz; generalize p k = z at hc hxk hz'
            generalize wk k = W4 at hc ⊢
            go_wp2_with fail
            go_quiet ((go_at_call 35; exact draws0 (hc.out _)))
            go_wp2
            go_roundw
            case rel => exact ⟨k + 1, by omega, by rw [hnw.out], by go_num, Lib.hid (hU.out.drewN _), hall'⟩
            case measure => simp [intOf]; omega
    · have e : k = 4 := by omega
      subst e
      obtain ⟨rfl, rfl⟩ := hyes.out hall.out
      rw [h4.out]
      have hV := Lib.hid (V2.out.trans hU.out)
      clear hx hh hput hno hyes hbd h0 h4 hall
      go_wp2
      go_ret2
      exact ⟨rfl, hV.out⟩
end Go.Proofs.YtcbiangocfhhlaaDoor

/-
  The program's instructions: Of.
-/
namespace Go.Proofs.YtcbiangocfhhlaaDoor
open Go.ChangeShapes Go.WideShapes Go.ChangeAt Go.RowKit

/-- four numbers in a row -/
def four (f : Nat → Int) : List Value := [.int .i64 (f 0), .int .i64 (f 1), .int .i64 (f 2), .int .i64 (f 3)]
def FourAt (w : World) (A : Nat) (f : Nat → Int) : Prop := w.heap[A]? = some (.cells (four f).toArray 69 (0, 0))
theorem FourAt.kept {S : Nat → Prop} {w w' : World} {A : Nat} {f : Nat → Int} (h : FourAt w A f) (u : Upd S w w') (hs : ¬ S A) : FourAt w' A f := u.at h hs
theorem four_at (f : Nat → Int) (k : Nat) (hk : k < 4) : (four f)[k]? = some (.int .i64 (f k)) := by
  have hd : k = 0 ∨ k = 1 ∨ k = 2 ∨ k = 3 := by omega
  rcases hd with rfl | rfl | rfl | rfl <;> rfl
theorem FourAt.cell {w : World} {A : Nat} {f : Nat → Int} (h : FourAt w A f) (k : Nat) (hk : k < 4) : w.cell? ⟨A, k, none⟩ = some (.int .i64 (f k)) := by
  rw [cell_of_row _ _ _ _ _ _ h]
  simpa using four_at f k hk
theorem FourAt.range {w : World} {A : Nat} {f : Nat → Int} (h : FourAt w A f) : w.rangeAt A 0 [.int .i64 (f 0), .int .i64 (f 1), .int .i64 (f 2), .int .i64 (f 3)] := World.rangeAt_of_block h 0 4
theorem FourAt.free {w : World} {A : Nat} {f : Nat → Int} (h : FourAt w A f) (k : Nat) : w.frozen? ⟨A, k, none⟩ = false := frozen_block h _
theorem four_set (f : Nat → Int) (k : Nat) (hk : k < 4) (z : Int) : (four f).set k (.int .i64 z) = four (fun j => if j = k then z else f j) := by
  have hd : k = 0 ∨ k = 1 ∨ k = 2 ∨ k = 3 := by omega
  rcases hd with rfl | rfl | rfl | rfl <;> rfl
theorem FourAt.set {w : World} {A : Nat} {f : Nat → Int} (h : FourAt w A f) (k : Nat) (hk : k < 4) (z : Int) : FourAt (w.setCell ⟨A, k, none⟩ (.int .i64 z)) A (fun j => if j = k then z else f j) := by
  unfold FourAt
  rw [← four_set f k hk z]
  exact heap_setCell_same h k _
theorem four_len (f : Nat → Int) : ([.int .i64 (f 0), .int .i64 (f 1), .int .i64 (f 2), .int .i64 (f 3)] : List Value).length = 4 := rfl
/-- a word's part -/
theorem getV_k (v : Int) (h0 : 0 ≤ v) (k : Nat) (hk : k < 4) : getV v (frK k) (mnK k) = (Ins.of v).p k ∧ 0 ≤ (Ins.of v).p k ∧ (Ins.of v).p k ≤ 65535 := by
  have hd : k = 0 ∨ k = 1 ∨ k = 2 ∨ k = 3 := by omega
  rcases hd with rfl | rfl | rfl | rfl
  all_goals
    rw [getV_yes (by decide)]
    unfold getI M.getN
    simp only [Ins.of, Ins.p, frK, mnK]
    obtain ⟨n, rfl⟩ := Int.eq_ofNat_of_zero_le h0
    simp only [show (2 : Nat) ^ Int.toNat 8 = 256 from rfl, show (2 : Nat) ^ Int.toNat 11 = 2048 from rfl, show (2 : Nat) ^ Int.toNat 14 = 16384 from rfl, show (2 : Nat) ^ Int.toNat 24 = 16777216 from rfl, show (2 : Nat) ^ Int.toNat 3 = 8 from rfl, show (2 : Nat) ^ Int.toNat 16 = 65536 from rfl, Int.toNat_natCast]
    omega
theorem getV_op (v : Int) (h0 : 0 ≤ v) : getV v 0 8 = (Ins.of v).op ∧ 0 ≤ (Ins.of v).op ∧ (Ins.of v).op ≤ 255 := by
  rw [getV_yes (by decide)]
  unfold getI M.getN
  simp only [Ins.of]
  obtain ⟨n, rfl⟩ := Int.eq_ofNat_of_zero_le h0
  simp only [show (2 : Nat) ^ Int.toNat 0 = 1 from rfl, show (2 : Nat) ^ Int.toNat 8 = 256 from rfl, Int.toNat_natCast]
  omega
theorem of_in (v : Int) (h0 : 0 ≤ v) : (Ins.of v).In := by
  have := (getV_op v h0).2
  have h1 := (getV_k v h0 0 (by omega)).2
  have h2 := (getV_k v h0 1 (by omega)).2
  have h3 := (getV_k v h0 2 (by omega)).2
  have h4 := (getV_k v h0 3 (by omega)).2
  simp only [Ins.p] at h1 h2 h3 h4
  exact ⟨by omega, by omega, by omega, by omega, by omega⟩
def upd4 (v : Int) (k : Nat) : Nat → Int := fun j => if j < k then (Ins.of v).p j else 0
theorem upd4_step (v : Int) (k : Nat) : (fun j => if j = k then (Ins.of v).p k else upd4 v k j) = upd4 v (k + 1) := by
  funext j
  unfold upd4
  by_cases h1 : j = k
  · subst h1; rw [if_pos rfl, if_pos (by omega)]
  · rw [if_neg h1]
    by_cases h2 : j < k
    · rw [if_pos h2, if_pos (by omega)]
    · rw [if_neg h2, if_neg (by omega)]
theorem upd4_all (v : Int) : upd4 v 4 0 = (Ins.of v).a ∧ upd4 v 4 1 = (Ins.of v).b ∧ upd4 v 4 2 = (Ins.of v).c ∧ upd4 v 4 3 = (Ins.of v).m := ⟨rfl, rfl, rfl, rfl⟩
set_option maxRecDepth 100000 in
set_option maxHeartbeats 2000000 in
theorem wof_any (v : Int) (h0 : 0 ≤ v) (h1 : v < 18446744073709551616) (w : World) (hT : Tabs w) : Calls Tryd.prog 26 #[.int .u64 v] w fun e w' => e = .returned (.tuple #[.agg #[.int .i64 (Ins.ov v).op, .int .i64 (Ins.ov v).a, .int .i64 (Ins.ov v).b, .int .i64 (Ins.ov v).c, .int .i64 (Ins.ov v).m], .int .i64 (Ins.oe v)]) ∧ Upd (fun _ => False) w w' := by
  have k0 := Lib.hid (show InsAt (w.alloc (.cells #[.int .i64 0, .int .i64 0, .int .i64 0, .int .i64 0, .int .i64 0] 50)) w.heap.size Ins.zero from heap_alloc_last w _)
  have U0 := Lib.hid ((Upd.refl (fun _ => False) w).alloc (.cells #[.int .i64 0, .int .i64 0, .int .i64 0, .int .i64 0, .int .i64 0] 50))
  have cW := Lib.hid (fun W (h : Tabs W) => wword_any (Ins.of v) (of_in v h0) W h)
  have hg := Lib.hid (fun k hk => getV_k v h0 k hk)
  have hg0 := Lib.hid (getV_op v h0)
  have cG := Lib.hid (fun f m W => get_any v f m W h0 h1)
  have hy : Hid (Ins.hit v = true → Ins.ov v = Ins.of v ∧ Ins.oe v = 0 ∧ (Ins.of v).we = 0 ∧ (Ins.of v).wv = v) := Lib.hid (fun h => by
    have h2 := h
    unfold Ins.hit at h2
    simp only [Bool.and_eq_true, decide_eq_true_eq] at h2
    refine ⟨by unfold Ins.ov; rw [h]; rfl, by unfold Ins.oe; rw [h]; rfl, by unfold Ins.we; rw [h2.1]; rfl, by unfold Ins.wv; rw [h2.1, if_pos rfl]; exact h2.2⟩)
  have hn : Hid (Ins.hit v = false → Ins.ov v = Ins.zero ∧ Ins.oe v = 11 ∧ ((Ins.of v).we = 1 ∨ ((Ins.of v).we = 0 ∧ (Ins.of v).wv ≠ v))) := Lib.hid (fun h => by
    refine ⟨by unfold Ins.ov; rw [h]; rfl, by unfold Ins.oe; rw [h]; rfl, ?_⟩
    unfold Ins.hit at h
    cases hr : (Ins.of v).right
    · exact .inl (by unfold Ins.we; rw [hr]; rfl)
    · rw [hr, Bool.true_and] at h
      exact .inr ⟨by unfold Ins.we; rw [hr]; rfl, by unfold Ins.wv; rw [hr, if_pos rfl]; exact of_decide_eq_false h⟩)
  have hs := Lib.hid (upd4_step v)
  have hl := Lib.hid (upd4_all v)
  generalize Ins.ov v = ov at hy hn ⊢
  generalize Ins.oe v = oe at hy hn ⊢
  have hz : upd4 v 0 = fun _ => 0 := by funext j; unfold upd4; rw [if_neg (by omega)]
  replace hz := Lib.hid hz
  generalize upd4 v = up at hs hl hz
  obtain ⟨u, hu⟩ : ∃ u, Ins.of v = u := ⟨_, rfl⟩
  rw [hu] at cW hg hg0 hs hl hy hn
  clear hu
  go_enter Tryd.func26, Tryd.ntmps26
  go_upto_region 1 with fail
  obtain ⟨w1, hw1⟩ : ∃ w1, w1 = w.alloc (.cells #[.int .i64 0, .int .i64 0, .int .i64 0, .int .i64 0, .int .i64 0] 50) := ⟨_, rfl⟩
  obtain ⟨N, hN⟩ : ∃ N, N = w.heap.size := ⟨_, rfl⟩
  have HN := Lib.hid (Nat.le_of_eq hN.symm)
  rw [← hw1, ← hN] at k0
  rw [← hw1] at U0 ⊢
  rw [← hN]
  clear hw1 hN
  go_wp2_with fail
  refine (cG.out _ _ _).mono ?_
  rintro e w2 ⟨rfl, n2, rfl⟩
  rw [hg0.out.1]
  have ob := hg0.out.2.1
  have ob2 := hg0.out.2.2
  go_upto_region 3 with fail
  have hA : (w1.drewN n2).heap.size = w1.heap.size := rfl
  have F3 := Lib.hid (show FourAt ((w1.drewN n2).alloc (.cells #[.int .i64 0, .int .i64 0, .int .i64 0, .int .i64 0] 69)) w1.heap.size (up 0) from by rw [hz.out]; exact heap_alloc_last (w1.drewN n2) _)
  have k3 := Lib.hid (k0.out.kept (((Upd.refl (fun _ => False) w1).drewN n2).alloc (.cells #[.int .i64 0, .int .i64 0, .int .i64 0, .int .i64 0] 69)) id)
  have V3 := Lib.hid ((U0.out.drewN n2).alloc (.cells #[.int .i64 0, .int .i64 0, .int .i64 0, .int .i64 0] 69))
  have HA := Lib.hid (show N ≠ w1.heap.size ∧ w.heap.size ≤ w1.heap.size from ⟨Nat.ne_of_lt (lt_of_heap k0.out), U0.out.size⟩)
  clear k0 U0 hA hz hg0
  generalize (w1.drewN n2).alloc (.cells #[.int .i64 0, .int .i64 0, .int .i64 0, .int .i64 0] 69) = w3 at F3 k3 V3 ⊢
  generalize w1.heap.size = A at F3 HA ⊢
  generalize fieldB 0 8 = fb0
  go_wp2_with fail
  go_loopw [18] (fun t wr => ∃ k : Nat, k ≤ 4 ∧ t = .int .i64 k ∧ Hid (Upd (fun _ => False) w wr) ∧ Hid (FourAt wr A (up k)) ∧ Hid (InsAt wr N Ins.zero)) (fun t _ => 4 - (intOf t).toNat)
  case atStart => exact ⟨0, by omega, rfl, V3, F3, k3⟩
  case round =>
    obtain ⟨k, hk, rfl, hU, hF, hI⟩ := hrel
    clear V3 F3 k3
    by_cases h4k : k < 4
    · obtain ⟨g1, g2, g3⟩ := hg.out k h4k
      obtain ⟨c2, c3, -⟩ := (hT.kept hU.out).pl k h4k
      have hc := Lib.hid (fun q => cG.out (frK k) (mnK k) (wr.drewN q))
      rw [g1] at hc
      have hst := hs.out k
      have k0 : (0 : Int) ≤ (k : Int) := by omega
      have k4 : (k : Int) < 4 := by omega
      have ce : ∀ q, (wr.drewN q).cell? ⟨A, k, none⟩ = some (.int .i64 (up k k)) := fun q => hF.out.cell k h4k
      have fz : ∀ q, (wr.drewN q).frozen? ⟨A, k, none⟩ = false := fun q => hF.out.free k
      have hF' := Lib.hid (fun q => FourAt.set (w := wr.drewN q) (A := A) (f := up k) hF.out k h4k (u.p k))
      rw [hst] at hF'
      have hI' := Lib.hid (fun q => show InsAt ((wr.drewN q).setCell ⟨A, k, none⟩ (.int .i64 (u.p k))) N Ins.zero from by
        unfold InsAt
        rw [Below.heap_setCell _ _ _ _ HA.out.1]
        exact hI.out)
      have hU' := Lib.hid (fun q => (hU.out.drewN q).setCell (p := ⟨A, k, none⟩) (.inr HA.out.2) (.int .i64 (u.p k)))
      clear hg hs hst g1 hU hF hI
      generalize u.p k = z at hc g2 g3 hF' hI' hU'
      go_wp2_with fail
      go_quiet ((go_at_call 28; exact draws0 (hc.out _)))
      go_wp2
      go_roundw
      case rel => exact ⟨k + 1, by omega, by go_num, Lib.hid (hU'.out _), Lib.hid (hF'.out _), Lib.hid (hI'.out _)⟩
      case measure => simp [intOf]; omega
    · have e : k = 4 := by omega
      subst e
      have R4 := hF.out.range
      rw [hl.out.1, hl.out.2.1, hl.out.2.2.1, hl.out.2.2.2] at R4
      clear hg hs hl hF
      have cI := Lib.hid (fun W => instr_any u.op u.a u.b u.c u.m W)
      go_wp2_with (with_reducible refine wpList_load_sz rfl 69 (.tmp 6) rfl A 0 rfl [.int .i64 u.a, .int .i64 u.b, .int .i64 u.c, .int .i64 u.m] _ R4 Tryd.underlying69 rfl 4 rfl size_i4 ?_)
      refine (cI.out _).mono ?_
      rintro e w5 ⟨rfl, u5⟩
      have k5 := Lib.hid (hI.out.kept u5 id)
      have V5 := Lib.hid (hU.out.trans u5)
      clear cI R4 hI hU u5
      go_upto_region 10 with fail
      have X6 := Lib.hid (show InsAt (w5.alloc (.cells #[.int .i64 u.op, .int .i64 u.a, .int .i64 u.b, .int .i64 u.c, .int .i64 u.m] 50)) w5.heap.size u from heap_alloc_last w5 _)
      have u6 := (Upd.refl (fun _ => False) w5).alloc (.cells #[.int .i64 u.op, .int .i64 u.a, .int .i64 u.b, .int .i64 u.c, .int .i64 u.m] 50)
      have k6 := Lib.hid (k5.out.kept u6 id)
      have V6 := Lib.hid (V5.out.trans u6)
      clear k5 V5 u6
      generalize w5.alloc (.cells #[.int .i64 u.op, .int .i64 u.a, .int .i64 u.b, .int .i64 u.c, .int .i64 u.m] 50) = w6 at X6 k6 V6 ⊢
      generalize w5.heap.size = D at X6 ⊢
      have T6 := Lib.hid (hT.kept V6.out)
      go_wp2_with (with_reducible refine wpList_load_sz rfl 50 (.tmp 10) rfl D 0 rfl [.int .i64 u.op, .int .i64 u.a, .int .i64 u.b, .int .i64 u.c, .int .i64 u.m] _ X6.out.range Tryd.underlying50 rfl 5 (ins_len _ _ _ _ _) size_ins ?_)
      refine (cW.out _ T6.out).mono ?_
      rintro e w7 ⟨rfl, u7⟩
      have X7 := Lib.hid (X6.out.kept u7 id)
      have k7 := Lib.hid (k6.out.kept u7 id)
      have V7 := Lib.hid (V6.out.trans u7)
      clear X6 k6 V6 u7 cW T6 hT
      have K := k7.out.there
      generalize u.wv = wv at hy hn ⊢
      generalize u.we = we at hy hn ⊢
      have HN' := HN.out
      cases hh : Ins.hit v
      · obtain ⟨rfl, rfl, hd⟩ := hn.out hh
        clear hy hn hh
        rcases hd with rfl | ⟨rfl, hne⟩
        · go_wp2_with (with_reducible refine wpList_store_sz rfl 50 (.tmp 2) (.tmp 55) rfl N 0 #[.int .i64 0, .int .i64 0, .int .i64 0, .int .i64 0, .int .i64 0] rfl rfl 5 (ins_sz _ _ _ _ _) K size_ins (ins_one _ _ _ _ _) [.int .i64 0, .int .i64 0, .int .i64 0, .int .i64 0, .int .i64 0] (ins_ls _ _ _ _ _) ?_)
          (try simp only [Exit.inBlock, Exit.then])
          refine bodyPost_ret (ret_ins rfl _ _ N Ins.zero rfl (k7.out.set Ins.zero)) rfl ⟨rfl, ?_⟩
          exact Upd.setCells (.inr HN') _ _ V7.out
        · have hb : (wv != v) = true := by simp [hne]
          go_wp2_with (with_reducible refine wpList_store_sz rfl 50 (.tmp 2) (.tmp 55) rfl N 0 #[.int .i64 0, .int .i64 0, .int .i64 0, .int .i64 0, .int .i64 0] rfl rfl 5 (ins_sz _ _ _ _ _) K size_ins (ins_one _ _ _ _ _) [.int .i64 0, .int .i64 0, .int .i64 0, .int .i64 0, .int .i64 0] (ins_ls _ _ _ _ _) ?_)
          (try simp only [Exit.inBlock, Exit.then])
          refine bodyPost_ret (ret_ins rfl _ _ N Ins.zero rfl (k7.out.set Ins.zero)) rfl ⟨rfl, ?_⟩
          exact Upd.setCells (.inr HN') _ _ V7.out
      · obtain ⟨rfl, rfl, rfl, rfl⟩ := hy.out hh
        clear hy hn hh
        go_wp2_with (first
          | (with_reducible refine wpList_load_sz rfl 50 (.tmp 10) rfl D 0 rfl [.int .i64 ov.op, .int .i64 ov.a, .int .i64 ov.b, .int .i64 ov.c, .int .i64 ov.m] _ X7.out.range Tryd.underlying50 rfl 5 (ins_len _ _ _ _ _) size_ins ?_)
          | (with_reducible refine wpList_store_sz rfl 50 (.tmp 2) (.tmp 56) rfl N 0 #[.int .i64 ov.op, .int .i64 ov.a, .int .i64 ov.b, .int .i64 ov.c, .int .i64 ov.m] rfl rfl 5 (ins_sz _ _ _ _ _) K size_ins (ins_one _ _ _ _ _) [.int .i64 ov.op, .int .i64 ov.a, .int .i64 ov.b, .int .i64 ov.c, .int .i64 ov.m] (ins_ls _ _ _ _ _) ?_))
        (try simp only [Exit.inBlock, Exit.then])
        refine bodyPost_ret (ret_ins rfl _ _ N ov rfl (k7.out.set ov)) rfl ⟨rfl, ?_⟩
        exact Upd.setCells (.inr HN') _ _ V7.out
end Go.Proofs.YtcbiangocfhhlaaDoor

/-
  The program's fetch; registers and the laws' flat words, kept by a load, a store, a register set.
-/
namespace Go.Proofs.YtcbiangocfhhlaaDoor
open Go.ChangeShapes Go.WideShapes Go.ChangeAt Go.RowKit

theorem gaddress_eq (x : Int) (h0 : 0 ≤ x) (h1 : x < 18446744073709551616) (w : World) : Calls Tryd.prog 25 #[.int .u64 x] w fun e w' => e = .returned (.int .i64 (adr x)) ∧ w' = w := by
  obtain ⟨ad0, ad1⟩ := adr_bd x
  have pm : x % 65536 = adr x := rfl
  generalize adr x = a at pm ad0 ad1 ⊢
  go_enter Tryd.func25, Tryd.ntmps25
  go_wp2
  go_ret
  exact ⟨rfl, rfl⟩
/-- behind a load -/
theorem Cpu.load {w0 w w' : World} {A B : Nat} {v vl vl' : Value} {c : Cp} {m : Fl} {l l' : List Int} (h : Cpu w0 w A B v vl c m l) (F : FlAt w' w0.heap.size B v vl' m l') (u : Upd (fun k => k = B ∨ vl.ownBlock = some k) w w') (hv : ∀ g, vl'.ownBlock = some g → vl.ownBlock = some g ∨ w.heap.size ≤ g) : Cpu w0 w' A B v vl' c m l' :=
  { h with
    up := h.onto (u.mono fun _ _ hk => by rcases hk with rfl | hk; exact .inr (.inl rfl); exact .inr (.inr (.inr hk)))
    nl := fun g hg e => by
      rcases hv g hg with h1 | h1
      · exact h.nl g h1 e
      · have := lt_of_heap h.regs; omega
    regs := h.regs.kept u (fun e => by rcases e with e | e; exact h.ne e; exact h.nl _ e rfl)
    fl := F }
/-- behind a store -/
theorem Cpu.store {w0 w w' : World} {A B : Nat} {v vl : Value} {c : Cp} {m : Fl} {l : List Int} (h : Cpu w0 w A B v vl c m l) (a x : Int) (hx : 0 ≤ x ∧ x < 18446744073709551616) (F : FlAt w' w0.heap.size B v vl (m.st a x) l) (u : Upd (fun k => v.ownBlock = some k) w w') : Cpu w0 w' A B v vl c (m.st a x) l :=
  { h with
    up := h.onto (u.mono fun _ _ hk => .inr (.inr (.inl hk)))
    okm := h.okm.st a hx
    regs := h.regs.kept u (fun e => h.nv _ e rfl)
    fl := F }
/-- registers turned -/
theorem Cpu.turn {w0 w w' : World} {A B : Nat} {v vl : Value} {c d : Cp} {m : Fl} {l : List Int} (h : Cpu w0 w A B v vl c m l) (R : RegsAt w' A d) (hd : d.Ok) (u : Upd (fun k => k = A) w w') : Cpu w0 w' A B v vl d m l :=
  { h with
    up := h.onto (u.mono fun _ _ hk => .inl hk)
    ok := hd
    regs := R
    fl := h.fl.kept u (fun e => h.ne e.symm) (fun j hj e => h.nv j hj e) (fun j hj e => h.nl j hj e) }
theorem Cpu.drew {w0 w : World} {A B : Nat} {v vl : Value} {c : Cp} {m : Fl} {l : List Int} (h : Cpu w0 w A B v vl c m l) (n : Nat) : Cpu w0 (w.drewN n) A B v vl c m l := h.still ((Upd.refl _ _).drewN n)
/-- what is fetched -/
def Fl.fi (m : Fl) (a : Int) : Ins := if m.ldE a = 0 then Ins.ov (m.ld a) else Ins.zero
def Fl.fe (m : Fl) (a : Int) : Int := if m.ldE a = 0 then Ins.oe (m.ld a) else m.ldE a
theorem nil_load (a : Addr) (w : World) : (nilAhead 202 28 (.pointer (some a)) "Load").run Tryd.prog w = .ok (some false) w := by kernel_rfl
theorem nil_store (a : Addr) (w : World) : (nilAhead 202 28 (.pointer (some a)) "Store").run Tryd.prog w = .ok (some false) w := by kernel_rfl
theorem met_load (a : Addr) (w : World) : (method 202 28 (.pointer (some a)) "Load").run Tryd.prog w = .ok (53, .pointer (some a)) w := by kernel_rfl
theorem met_store (a : Addr) (w : World) : (method 202 28 (.pointer (some a)) "Store").run Tryd.prog w = .ok (54, .pointer (some a)) w := by kernel_rfl
set_option maxRecDepth 100000 in
set_option maxHeartbeats 4000000 in
theorem gfetch_any (w0 w : World) (A B : Nat) (v vl : Value) (c : Cp) (m : Fl) (l : List Int) (h : Cpu w0 w A B v vl c m l) (hl : l.length ≤ 99000) :
    Calls Tryd.prog 18 #[.int .u64 c.pc, .iface 28 (.pointer (some ⟨B, 0, none⟩))] w fun e w' => e = .returned (.tuple #[.agg #[.int .i64 (m.fi (adr c.pc)).op, .int .i64 (m.fi (adr c.pc)).a, .int .i64 (m.fi (adr c.pc)).b, .int .i64 (m.fi (adr c.pc)).c, .int .i64 (m.fi (adr c.pc)).m], .int .i64 (m.fe (adr c.pc))]) ∧
      ∃ vl', Cpu w0 w' A B v vl' c m (l ++ [adr c.pc]) ∧ Upd (CpuS A B v vl) w w' ∧ ∀ g, vl'.ownBlock = some g → vl.ownBlock = some g ∨ w.heap.size ≤ g := by
  have n1 := nil_load
  have m1 := met_load
  have HC := Lib.hid h
  have cA := Lib.hid (fun W => gaddress_eq c.pc h.ok.p.1 h.ok.p.2 W)
  have cL := Lib.hid (fun W (hF : FlAt W w0.heap.size B v vl m l) hb => fload_any w0.heap.size B v vl m l (adr c.pc) W hF (by omega) hb)
  have hb := Lib.hid h.up.size
  have cO := Lib.hid (fun (he : m.ldE (adr c.pc) = 0) W (hT : Tabs W) => wof_any (m.ld (adr c.pc)) (h.okm.ld _).1 (h.okm.ld _).2 W hT)
  have hfi : Hid (m.ldE (adr c.pc) = 0 → m.fi (adr c.pc) = Ins.ov (m.ld (adr c.pc)) ∧ m.fe (adr c.pc) = Ins.oe (m.ld (adr c.pc))) := Lib.hid (fun e => ⟨by unfold Fl.fi; rw [if_pos e], by unfold Fl.fe; rw [if_pos e]⟩)
  have hfn : Hid (m.ldE (adr c.pc) ≠ 0 → m.fi (adr c.pc) = Ins.zero ∧ m.fe (adr c.pc) = m.ldE (adr c.pc)) := Lib.hid (fun e => ⟨by unfold Fl.fi; rw [if_neg e], by unfold Fl.fe; rw [if_neg e]⟩)
  clear h
  generalize hap : adr c.pc = ap at cA cL cO hfi hfn ⊢
  clear hap
  generalize hpc : c.pc = pc at cA ⊢
  clear hpc
  generalize m.fi ap = fi at hfi hfn ⊢
  generalize m.fe ap = fe at hfi hfn ⊢
  go_enter Tryd.func18, Tryd.ntmps18
  go_upto_region 1 with fail
  have k1 := Lib.hid (show InsAt (w.alloc (.cells #[.int .i64 0, .int .i64 0, .int .i64 0, .int .i64 0, .int .i64 0] 50)) w.heap.size Ins.zero from heap_alloc_last w _)
  have u1 := ((Upd.refl (fun _ => False) w).alloc (.cells #[.int .i64 0, .int .i64 0, .int .i64 0, .int .i64 0, .int .i64 0] 50))
  have C1 := Lib.hid (HC.out.still u1)
  have U1 := Lib.hid (u1.mono (T := CpuS A B v vl) (fun _ _ h => h.elim))
  have hN := Lib.hid (Nat.le_refl w.heap.size)
  have hlo := Lib.hid (show ∀ k, CpuS A B v vl k → k < w.heap.size from fun k hk => by
    rcases hk with rfl | rfl | e | e
    · exact lt_of_heap HC.out.regs
    · exact lt_of_heap HC.out.fl.at_
    · exact (HC.out.fl.row.lt k e).2
    · exact (HC.out.fl.lds.lt k e).2)
  have nf := Lib.hid (show ∀ (W : World) (F : Upd (fun _ => False) (w.alloc (.cells #[.int .i64 0, .int .i64 0, .int .i64 0, .int .i64 0, .int .i64 0] 50)) W), True from fun _ _ => trivial)
  clear u1 HC nf
  generalize w.alloc (.cells #[.int .i64 0, .int .i64 0, .int .i64 0, .int .i64 0, .int .i64 0] 50) = w1 at k1 C1 U1 ⊢
  generalize hNe : w.heap.size = N at k1 hN hlo ⊢
  replace hNe := Lib.hid hNe
  have hb1 := Lib.hid (C1.out.up.size)
  by_cases he : m.ldE ap = 0
  · rw [he] at cL
    have cO' := Lib.hid (cO.out he)
    have hh := hfi.out he
    rw [← hh.1, ← hh.2] at cO'
    clear cO hfi hfn he hh
    generalize m.ld ap = lv at cL cO'
    go_region_with (first
      | (go_at_call 25; refine (cA.out _).mono ?_; rintro e w6 ⟨rfl, rfl⟩)
      | (go_at_call 53; refine (cL.out w1.drew ⟨C1.out.fl.at_, C1.out.fl.row, C1.out.fl.lds⟩ hb1.out).mono ?_; rintro e w7 ⟨rfl, vl', F7, u7, hv7⟩))
    all_goals
      have u7' : Upd (fun k => k = B ∨ vl.ownBlock = some k) w1 w7 := ⟨u7.os, u7.tape, u7.output, u7.size, u7.block⟩
      have C7 := Lib.hid (C1.out.load F7 u7' hv7)
      have U7 := Lib.hid (U1.out.trans (u7'.mono (T := CpuS A B v vl) fun _ _ hk => by rcases hk with rfl | hk; exact .inr (.inl rfl); exact .inr (.inr (.inr hk))))
      have k7 := Lib.hid (k1.out.kept u7' (fun hk => by
        have h2 := hlo.out N (by rcases hk with e | hk; exact .inr (.inl e); exact .inr (.inr (.inr hk)))
        omega))
      have hv7' := Lib.hid (show ∀ g, vl'.ownBlock = some g → vl.ownBlock = some g ∨ w.heap.size ≤ g from fun g hg => (hv7 g hg).imp id (fun h => by have := U1.out.size; have h' : w1.heap.size ≤ g := h; omega))
      have hne7 := Lib.hid (show ∀ k, CpuS A B v vl' k → ¬ k = N from fun k hk e => by
        have hN1 := lt_of_heap k1.out
        rcases hk with h | h | h | h
        · have := hlo.out k (.inl h); omega
        · have := hlo.out k (.inr (.inl h)); omega
        · have := hlo.out k (.inr (.inr (.inl h))); omega
        · rcases hv7 k h with h' | h'
          · have := hlo.out k (.inr (.inr (.inr h'))); omega
          · have h' : w1.heap.size ≤ k := h'
            omega)
      clear F7 u7 hv7 u7' C1 U1 k1 cL cA
      go_wp2_with fail
      refine (cO'.out _ (C7.out.tabs.kept C7.out.up)).mono ?_
      rintro e w8 ⟨rfl, u8⟩
      have C8 := Lib.hid (C7.out.still u8)
      have U8 := Lib.hid (U7.out.trans (u8.mono (T := CpuS A B v vl) (fun _ _ h => h.elim)))
      have k8 := Lib.hid (k7.out.kept u8 id)
      clear C7 U7 k7 u8 cO'
      have K := k8.out.there
      go_wp2_with (with_reducible refine wpList_store_sz rfl 50 (.tmp 4) (.tmp 24) rfl N 0 #[.int .i64 fi.op, .int .i64 fi.a, .int .i64 fi.b, .int .i64 fi.c, .int .i64 fi.m] rfl rfl 5 (ins_sz _ _ _ _ _) K size_ins (ins_one _ _ _ _ _) [.int .i64 fi.op, .int .i64 fi.a, .int .i64 fi.b, .int .i64 fi.c, .int .i64 fi.m] (ins_ls _ _ _ _ _) ?_)
      (try simp only [Exit.inBlock, Exit.then])
      refine bodyPost_ret (ret_ins rfl _ _ N fi rfl (k8.out.set fi)) rfl ⟨rfl, vl', ?_, ?_, hv7'.out⟩
      · exact C8.out.kept (Upd.setCells (S := fun k => k = N) (.inl rfl) _ _ (Upd.refl _ _)) (fun k hk e => hne7.out k hk e) (fun k e => by have := hb.out; have := hNe.out; omega)
      · exact Upd.setCells (.inr (by have := hNe.out; omega)) _ _ U8.out
  · have hl' : (m.ldE ap != 0) = true := by simp [he]
    have hh := hfn.out he
    rw [← hh.2] at cL hl'
    have hz := Lib.hid hh.1
    clear cO hfi hfn he hh
    generalize m.ld ap = lv at cL
    go_region_with (first
      | (go_at_call 25; refine (cA.out _).mono ?_; rintro e w6 ⟨rfl, rfl⟩)
      | (go_at_call 53; refine (cL.out w1.drew ⟨C1.out.fl.at_, C1.out.fl.row, C1.out.fl.lds⟩ hb1.out).mono ?_; rintro e w7 ⟨rfl, vl', F7, u7, hv7⟩))
    all_goals
      have u7' : Upd (fun k => k = B ∨ vl.ownBlock = some k) w1 w7 := ⟨u7.os, u7.tape, u7.output, u7.size, u7.block⟩
      have C7 := Lib.hid (C1.out.load F7 u7' hv7)
      have U7 := Lib.hid (U1.out.trans (u7'.mono (T := CpuS A B v vl) fun _ _ hk => by rcases hk with rfl | hk; exact .inr (.inl rfl); exact .inr (.inr (.inr hk))))
      have k7 := Lib.hid (k1.out.kept u7' (fun hk => by
        have h2 := hlo.out N (by rcases hk with e | hk; exact .inr (.inl e); exact .inr (.inr (.inr hk)))
        omega))
      have hv7' := Lib.hid (show ∀ g, vl'.ownBlock = some g → vl.ownBlock = some g ∨ w.heap.size ≤ g from fun g hg => (hv7 g hg).imp id (fun h => by have := U1.out.size; have h' : w1.heap.size ≤ g := h; omega))
      have hne7 := Lib.hid (show ∀ k, CpuS A B v vl' k → ¬ k = N from fun k hk e => by
        have hN1 := lt_of_heap k1.out
        rcases hk with h | h | h | h
        · have := hlo.out k (.inl h); omega
        · have := hlo.out k (.inr (.inl h)); omega
        · have := hlo.out k (.inr (.inr (.inl h))); omega
        · rcases hv7 k h with h' | h'
          · have := hlo.out k (.inr (.inr (.inr h'))); omega
          · have h' : w1.heap.size ≤ k := h'
            omega)
      clear F7 u7 hv7 u7' C1 U1 k1 cL cA
      have C8 := C7
      have U8 := U7
      have k8 := k7
      clear C7 U7 k7
      have K := k8.out.there
      go_wp2_with (with_reducible refine wpList_store_sz rfl 50 (.tmp 4) (.tmp 20) rfl N 0 #[.int .i64 0, .int .i64 0, .int .i64 0, .int .i64 0, .int .i64 0] rfl rfl 5 (ins_sz _ _ _ _ _) K size_ins (ins_one _ _ _ _ _) [.int .i64 0, .int .i64 0, .int .i64 0, .int .i64 0, .int .i64 0] (ins_ls _ _ _ _ _) ?_)
      (try simp only [Exit.inBlock, Exit.then])
      refine bodyPost_ret (ret_ins rfl _ _ N Ins.zero rfl (k8.out.set Ins.zero)) rfl ⟨by rw [hz.out]; rfl, vl', ?_, ?_, hv7'.out⟩
      · exact C8.out.kept (Upd.setCells (S := fun k => k = N) (.inl rfl) _ _ (Upd.refl _ _)) (fun k hk e => hne7.out k hk e) (fun k e => by have := hb.out; have := hNe.out; omega)
      · exact Upd.setCells (.inr (by have := hNe.out; omega)) _ _ U8.out
end Go.Proofs.YtcbiangocfhhlaaDoor

/-
  The program's Step: as the laws ask.
-/
namespace Go.Proofs.YtcbiangocfhhlaaDoor
open Go.ChangeShapes Go.WideShapes Go.ChangeAt Go.RowKit

theorem Upd.trans2 {S T : Nat → Prop} {a b c : World} (h : Upd S a b) (k : Upd T b c) (hs : ∀ j, T j → S j ∨ a.heap.size ≤ j) : Upd S a c :=
  ⟨k.os.trans h.os, k.tape.trans h.tape, k.output.trans h.output, Nat.le_trans h.size k.size, fun j hj hn => by
    rw [k.block j (Nat.lt_of_lt_of_le hj h.size) (fun e => (hs j e).elim hn (fun q => absurd q (by omega))), h.block j hj hn]⟩
theorem lds_no {c : Cp} {m : Fl} (h : m.ldE (adr c.pc) ≠ 0) : c.lds m = [adr c.pc] := by unfold Cp.lds; rw [if_neg (fun e => h e.1)]
theorem lds_bad {c : Cp} {m : Fl} (hh : Ins.hit (m.ld (adr c.pc)) = false) : c.lds m = [adr c.pc] := by unfold Cp.lds; rw [if_neg (fun e => by rw [hh] at e; exact absurd e.2.1 (by decide))]
theorem lds_yes {c : Cp} {m : Fl} (h : m.ldE (adr c.pc) = 0) (hh : Ins.hit (m.ld (adr c.pc)) = true) : c.lds m = adr c.pc :: (if (Ins.of (m.ld (adr c.pc))).op = 6 then [adr (IntKind.u64.wrap (c.reg (Ins.of (m.ld (adr c.pc))).b + (Ins.of (m.ld (adr c.pc))).m))] else []) := by
  unfold Cp.lds
  congr 1
  by_cases e : (Ins.of (m.ld (adr c.pc))).op = 6
  · rw [if_pos ⟨h, hh, e⟩, if_pos e]
  · rw [if_neg (fun q => e q.2.2), if_neg e]
/-- where it goes on, set -/
theorem Cpu.pcTo {w0 w : World} {A B : Nat} {v vl : Value} {c : Cp} {m : Fl} {l : List Int} (h : Cpu w0 w A B v vl c m l) (n : Int) (hn : 0 ≤ n ∧ n < 65536) : Cpu w0 (w.setCell ⟨A, 8, none⟩ (.int .u64 n)) A B v vl ⟨c.R, n⟩ m l :=
  h.turn (h.regs.setPc h.ok.n n) ⟨h.ok.n, h.ok.r, by show 0 ≤ n ∧ n < _; omega⟩ ((Upd.refl (fun k => k = A) w).setCell (p := ⟨A, 8, none⟩) (.inl rfl) _)
/-- a register, set -/
theorem Cpu.regTo {w0 w : World} {A B : Nat} {v vl : Value} {c : Cp} {m : Fl} {l : List Int} (h : Cpu w0 w A B v vl c m l) (k : Int) (h0 : 0 ≤ k) (h7 : k ≤ 7) (x : Int) (hx : 0 ≤ x ∧ x < 18446744073709551616) : Cpu w0 (w.setCell ⟨A, k.toNat, none⟩ (.int .u64 x)) A B v vl (c.set k x c.pc) m l :=
  h.turn (h.regs.setReg h.ok.n k h0 h7 x) (h.ok.set k hx h.ok.p) ((Upd.refl (fun j => j = A) w).setCell (p := ⟨A, k.toNat, none⟩) (.inl rfl) _)
def Ins.ldL (c : Cp) (u : Ins) : List Int := if u.op = 6 then [adr (IntKind.u64.wrap (c.reg u.b + u.m))] else []
/-- what an instruction leaves, and what it loads -/
def ExL (c : Cp) (m : Fl) (u : Ins) (T : St) (L : List Int) : Prop := c.exec m u = T ∧ Ins.ldL c u = L
theorem ex_post {w0 w w' : World} {A B : Nat} {v vl vl' : Value} {c : Cp} {m : Fl} {l : List Int} {u : Ins} {T : St} {L : List Int} {ap : Int} (hex : ExL c m u T L) (C : Cpu w0 w' A B v vl' T.c T.m ((l ++ [ap]) ++ L)) (U : Upd (CpuS A B v vl) w w') (hv : ∀ g, vl'.ownBlock = some g → vl.ownBlock = some g ∨ w.heap.size ≤ g) :
    ∃ vl', Cpu w0 w' A B v vl' (c.exec m u).c (c.exec m u).m (l ++ (ap :: Ins.ldL c u)) ∧ Upd (CpuS A B v vl) w w' ∧ ∀ g, vl'.ownBlock = some g → vl.ownBlock = some g ∨ w.heap.size ≤ g := by
  rw [hex.1, hex.2]
  refine ⟨vl', ?_, U, hv⟩
  rw [show l ++ ap :: L = (l ++ [ap]) ++ L from by simp]
  exact C
theorem val_bd {c : Cp} {u : Ins} (hu : u.Ok) : 0 ≤ c.val u ∧ c.val u < 18446744073709551616 := by
  have := hu.m
  unfold Cp.val
  split
  · omega
  · exact wrap_bd _
  · exact wrap_bd _
  · exact land_bd _ _
  · exact lxor_bd _ _
  · split <;> omega
  · omega
theorem exec_val {c : Cp} {m : Fl} {u : Ins} (h : u.op = 1 ∨ u.op = 2 ∨ u.op = 3 ∨ u.op = 4 ∨ u.op = 5 ∨ u.op = 10) : c.exec m u = ⟨c.set u.a (c.val u) c.next, m, 0, 0⟩ := by
  unfold Cp.exec Cp.val
  rcases h with h | h | h | h | h | h <;> rw [h] <;> rfl
theorem ex_nil {c : Cp} {m : Fl} {u : Ins} {T : St} (h : c.exec m u = T) (h6 : u.op ≠ 6) : ExL c m u T [] := ⟨h, by unfold Ins.ldL; rw [if_neg h6]⟩
theorem next_of {c : Cp} (h : c.Ok) : IntKind.u64.wrap (c.pc + 1) % 65536 = c.next := by
  have := h.p
  show (c.pc + 1) % 18446744073709551616 % 65536 = (c.pc % 65536 + 1) % 65536
  omega
set_option maxRecDepth 100000 in
set_option maxHeartbeats 8000000 in
theorem gstep_any : GStep := by
  intro w0 w A B v vl c m l h hl
  have HC := Lib.hid h
  have p0 := h.regs.pc h.ok
  have cF := Lib.hid (gfetch_any w0 w A B v vl c m l h (by omega))
  by_cases he : m.ldE (adr c.pc) = 0
  case neg =>
    rw [step_no he, lds_no he]
    have e1 : m.fe (adr c.pc) = m.ldE (adr c.pc) := by unfold Fl.fe; rw [if_neg he]
    rw [e1] at cF
    have hl' : (m.ldE (adr c.pc) != 0) = true := by simp [he]
    clear he e1 h
    generalize m.fi (adr c.pc) = fi at cF
    generalize m.ldE (adr c.pc) = er at cF hl' ⊢
    generalize adr c.pc = ap at cF ⊢
    go_enter Tryd.func12, Tryd.ntmps12
    go_wp2_with fail
    refine cF.out.mono ?_
    rintro e w1 ⟨rfl, vl1, C1, U1, hv1⟩
    have V := (Upd.refl (fun _ => False) w1).alloc (.cells #[.int .i64 fi.op, .int .i64 fi.a, .int .i64 fi.b, .int .i64 fi.c, .int .i64 fi.m] 50)
    have C2 := Lib.hid (C1.still V)
    have U2 := Lib.hid (U1.trans (V.mono (fun _ _ h => h.elim)))
    replace hv1 := Lib.hid hv1
    clear C1 U1 V cF
    go_wp2
    go_ret2
    exact ⟨rfl, vl1, C2.out, U2.out, hv1.out⟩
  case pos =>
    cases hh : Ins.hit (m.ld (adr c.pc))
    · rw [step_bad he hh, lds_bad hh]
      have e1 : m.fe (adr c.pc) = 11 := by unfold Fl.fe; rw [if_pos he, miss_ins hh]
      rw [e1] at cF
      clear he hh e1 h
      generalize m.fi (adr c.pc) = fi at cF
      generalize adr c.pc = ap at cF ⊢
      go_enter Tryd.func12, Tryd.ntmps12
      go_wp2_with fail
      refine cF.out.mono ?_
      rintro e w1 ⟨rfl, vl1, C1, U1, hv1⟩
      have V := (Upd.refl (fun _ => False) w1).alloc (.cells #[.int .i64 fi.op, .int .i64 fi.a, .int .i64 fi.b, .int .i64 fi.c, .int .i64 fi.m] 50)
      have C2 := Lib.hid (C1.still V)
      have U2 := Lib.hid (U1.trans (V.mono (fun _ _ h => h.elim)))
      replace hv1 := Lib.hid hv1
      clear C1 U1 V cF
      go_wp2
      go_ret2
      exact ⟨rfl, vl1, C2.out, U2.out, hv1.out⟩
    · rw [step_yes he hh, lds_yes he hh]
      obtain ⟨hu, q1, q2⟩ := hit_ins hh
      have e1 : m.fe (adr c.pc) = 0 := by unfold Fl.fe; rw [if_pos he, q2]
      have e2 : m.fi (adr c.pc) = Ins.of (m.ld (adr c.pc)) := by unfold Fl.fi; rw [if_pos he, q1]
      rw [e1, e2] at cF
      clear he hh e1 e2 q1 q2
      generalize Ins.of (m.ld (adr c.pc)) = u at cF hu ⊢
      change Calls _ _ _ _ fun e w' => e = .returned (.tuple #[.int .i64 (c.exec m u).call, .int .i64 (c.exec m u).e]) ∧ ∃ vl', Cpu w0 w' A B v vl' (c.exec m u).c (c.exec m u).m (l ++ (adr c.pc :: Ins.ldL c u)) ∧ Upd (CpuS A B v vl) w w' ∧ ∀ g, vl'.ownBlock = some g → vl.ownBlock = some g ∨ w.heap.size ≤ g
      generalize adr c.pc = ap at cF ⊢
      have hnx := next_of h.ok
      have hnb := c.next_bd
      clear h
      go_enter Tryd.func12, Tryd.ntmps12
      go_wp2_with fail
      refine cF.out.mono ?_
      rintro e w2 ⟨rfl, vl2, C2, U2, hv2⟩
      go_upto_region 2 with fail
      have X3 := Lib.hid (show InsAt (w2.alloc (.cells #[.int .i64 u.op, .int .i64 u.a, .int .i64 u.b, .int .i64 u.c, .int .i64 u.m] 50)) w2.heap.size u from heap_alloc_last w2 _)
      have V := (Upd.refl (fun _ => False) w2).alloc (.cells #[.int .i64 u.op, .int .i64 u.a, .int .i64 u.b, .int .i64 u.c, .int .i64 u.m] 50)
      have C3 := Lib.hid (C2.still V)
      have U3 := Lib.hid (U2.trans (V.mono (fun _ _ h => h.elim)))
      have hXB := Lib.hid (show ∀ k, CpuS A B v vl2 k → k < w2.heap.size from fun k hk => by
        rcases hk with rfl | rfl | e | e
        · exact lt_of_heap C2.regs
        · exact lt_of_heap C2.fl.at_
        · exact (C2.fl.row.lt k e).2
        · exact (C2.fl.lds.lt k e).2)
      replace hv2 := Lib.hid hv2
      have hgw := Lib.hid U2.size
      clear C2 U2 V cF HC p0
      generalize w2.alloc (.cells #[.int .i64 u.op, .int .i64 u.a, .int .i64 u.b, .int .i64 u.c, .int .i64 u.m] 50) = w3 at X3 C3 U3 ⊢
      generalize w2.heap.size = XB at X3 hXB hgw ⊢
      obtain ⟨d0, d1, d2, d3, d4⟩ := X3.out.c
      have HU := Lib.hid hu
      obtain ⟨⟨ho0, ho1⟩, ⟨ha0, ha1⟩, -, -, ⟨hm0, hm1⟩, -, -, -, -⟩ := hu
      have rA := C3.out.regs.reg C3.out.ok u.a ha0 ha1
      have p8 := C3.out.regs.pc C3.out.ok
      obtain ⟨aa, ea⟩ := Int.eq_ofNat_of_zero_le ha0
      rw [show u.a.toNat = aa from by omega] at rA
      rw [ea] at d1 ha1
      obtain ⟨kA0, kA8⟩ : (0 : Int) ≤ (aa : Int) ∧ (aa : Int) < 8 := by omega
      have hk := Lib.hid (show 0 ≤ u.a ∧ u.a ≤ 7 ∧ u.a.toNat = aa from by omega)
      replace ea := Lib.hid ea
      have bA := C3.out.ok.reg u.a
      obtain ⟨av, eav⟩ : ∃ x, c.reg u.a = x := ⟨_, rfl⟩
      rw [eav] at rA bA
      replace eav := Lib.hid eav
      clear ha0 ha1
      obtain ⟨nx, enx⟩ : ∃ x, c.next = x := ⟨_, rfl⟩
      rw [enx] at hnx hnb
      obtain ⟨nb0, nb1⟩ := hnb
      replace enx := Lib.hid enx
      go_upto_region 5 with fail
      have fz8 := C3.out.regs.free 8
      have fz := C3.out.regs.free aa
      have hd : u.op = 0 ∨ u.op = 1 ∨ u.op = 2 ∨ u.op = 3 ∨ u.op = 4 ∨ u.op = 5 ∨ u.op = 6 ∨ u.op = 7 ∨ u.op = 8 ∨ u.op = 9 ∨ u.op = 10 ∨ u.op = 11 := by omega
      clear ho0 ho1
      rw [show (IntKind.u64.wrap (c.pc + 1)).tmod 65536 = nx from by rw [Int.tmod_eq_emod_of_nonneg (wrap_bd _).1]; exact hnx]
      clear hnx
      obtain ⟨at', eat⟩ : ∃ x, adr (IntKind.u64.wrap (c.reg u.b + u.m)) = x := ⟨_, rfl⟩
      replace eat := Lib.hid eat
      rcases hd with hop | hop | hop | hop | hop | hop | hop | hop | hop | hop | hop | hop
      all_goals
        rw [hop] at d0
        replace hop := Lib.hid hop
      · have hex := Lib.hid (ex_nil (m := m) (show c.exec m u = ⟨c, m, 0, 13⟩ from by simp only [Cp.exec, show u.op.toNat = 0 from by have := hop.out; omega]) (by have := hop.out; omega))
        clear hop
        go_wp2
        go_ret2
        exact ⟨by rw [hex.out.1]; rfl, ex_post hex.out (by rw [List.append_nil]; exact C3.out) U3.out hv2.out⟩
      · have hex := Lib.hid (ex_nil (m := m) (show c.exec m u = ⟨c.set u.a (c.val u) nx, m, 0, 0⟩ from by rw [exec_val (by have := hop.out; omega), enx.out]) (by have := hop.out; omega))
        have cV := Lib.hid (fun W (hR : RegsAt W A c) => gcomputed_any A c u C3.out.ok HU.out W hR (by have := hop.out; omega))
        have bV := Lib.hid (val_bd (c := c) HU.out)
        rw [hop.out, ea.out] at cV
        clear hop
        generalize c.val u = x at hex cV bV
        go_upto_region 6 with fail
        go_region_with (go_at_call 20; refine (cV.out w3.drew C3.out.regs).mono ?_; rintro e w6 ⟨rfl, u6⟩; have u6' := ((Upd.refl (fun _ => False) w3).drew.trans u6); have C6 := Lib.hid (C3.out.still u6'); have U6 := Lib.hid (U3.out.trans (u6'.mono (fun _ _ h => h.elim))); have d1' := (X3.out.kept u6' id).c.2.1; rw [ea.out] at d1'; have fz' := C6.out.regs.free aa; have rA' := C6.out.regs.reg C6.out.ok u.a hk.out.1 hk.out.2.1; rw [hk.out.2.2] at rA')
        all_goals
          go_upto_region 25 with fail
          have C7 := C6.out.regTo u.a hk.out.1 hk.out.2.1 x bV.out
          have U7 := Lib.hid (U6.out.setCell (p := ⟨A, aa, none⟩) (.inl (.inl rfl)) (.int .u64 x))
          rw [hk.out.2.2] at C7
          clear d0 d1 d2 d3 d4 rA p8 fz fz8 C6 U6 d1' fz' rA' u6 u6' C3 U3 X3 cV
          generalize w6.setCell ⟨A, aa, none⟩ (.int .u64 x) = w7 at C7 U7 ⊢
          have p8 := C7.regs.pc C7.ok
          have fz8 := C7.regs.free 8
          have C8 := Lib.hid (C7.pcTo nx ⟨nb0, nb1⟩)
          have U8 := Lib.hid (U7.out.setCell (p := ⟨A, 8, none⟩) (.inl (.inl rfl)) (.int .u64 nx))
          clear C7 U7
          go_wp2
          go_ret2
          exact ⟨by rw [hex.out.1]; rfl, ex_post hex.out (by rw [List.append_nil]; exact C8.out) U8.out hv2.out⟩
      · have hex := Lib.hid (ex_nil (m := m) (show c.exec m u = ⟨c.set u.a (c.val u) nx, m, 0, 0⟩ from by rw [exec_val (by have := hop.out; omega), enx.out]) (by have := hop.out; omega))
        have cV := Lib.hid (fun W (hR : RegsAt W A c) => gcomputed_any A c u C3.out.ok HU.out W hR (by have := hop.out; omega))
        have bV := Lib.hid (val_bd (c := c) HU.out)
        rw [hop.out, ea.out] at cV
        clear hop
        generalize c.val u = x at hex cV bV
        go_upto_region 6 with fail
        go_region_with (go_at_call 20; refine (cV.out w3.drew C3.out.regs).mono ?_; rintro e w6 ⟨rfl, u6⟩; have u6' := ((Upd.refl (fun _ => False) w3).drew.trans u6); have C6 := Lib.hid (C3.out.still u6'); have U6 := Lib.hid (U3.out.trans (u6'.mono (fun _ _ h => h.elim))); have d1' := (X3.out.kept u6' id).c.2.1; rw [ea.out] at d1'; have fz' := C6.out.regs.free aa; have rA' := C6.out.regs.reg C6.out.ok u.a hk.out.1 hk.out.2.1; rw [hk.out.2.2] at rA')
        all_goals
          go_upto_region 25 with fail
          have C7 := C6.out.regTo u.a hk.out.1 hk.out.2.1 x bV.out
          have U7 := Lib.hid (U6.out.setCell (p := ⟨A, aa, none⟩) (.inl (.inl rfl)) (.int .u64 x))
          rw [hk.out.2.2] at C7
          clear d0 d1 d2 d3 d4 rA p8 fz fz8 C6 U6 d1' fz' rA' u6 u6' C3 U3 X3 cV
          generalize w6.setCell ⟨A, aa, none⟩ (.int .u64 x) = w7 at C7 U7 ⊢
          have p8 := C7.regs.pc C7.ok
          have fz8 := C7.regs.free 8
          have C8 := Lib.hid (C7.pcTo nx ⟨nb0, nb1⟩)
          have U8 := Lib.hid (U7.out.setCell (p := ⟨A, 8, none⟩) (.inl (.inl rfl)) (.int .u64 nx))
          clear C7 U7
          go_wp2
          go_ret2
          exact ⟨by rw [hex.out.1]; rfl, ex_post hex.out (by rw [List.append_nil]; exact C8.out) U8.out hv2.out⟩
      · have hex := Lib.hid (ex_nil (m := m) (show c.exec m u = ⟨c.set u.a (c.val u) nx, m, 0, 0⟩ from by rw [exec_val (by have := hop.out; omega), enx.out]) (by have := hop.out; omega))
        have cV := Lib.hid (fun W (hR : RegsAt W A c) => gcomputed_any A c u C3.out.ok HU.out W hR (by have := hop.out; omega))
        have bV := Lib.hid (val_bd (c := c) HU.out)
        rw [hop.out, ea.out] at cV
        clear hop
        generalize c.val u = x at hex cV bV
        go_upto_region 6 with fail
        go_region_with (go_at_call 20; refine (cV.out w3.drew C3.out.regs).mono ?_; rintro e w6 ⟨rfl, u6⟩; have u6' := ((Upd.refl (fun _ => False) w3).drew.trans u6); have C6 := Lib.hid (C3.out.still u6'); have U6 := Lib.hid (U3.out.trans (u6'.mono (fun _ _ h => h.elim))); have d1' := (X3.out.kept u6' id).c.2.1; rw [ea.out] at d1'; have fz' := C6.out.regs.free aa; have rA' := C6.out.regs.reg C6.out.ok u.a hk.out.1 hk.out.2.1; rw [hk.out.2.2] at rA')
        all_goals
          go_upto_region 25 with fail
          have C7 := C6.out.regTo u.a hk.out.1 hk.out.2.1 x bV.out
          have U7 := Lib.hid (U6.out.setCell (p := ⟨A, aa, none⟩) (.inl (.inl rfl)) (.int .u64 x))
          rw [hk.out.2.2] at C7
          clear d0 d1 d2 d3 d4 rA p8 fz fz8 C6 U6 d1' fz' rA' u6 u6' C3 U3 X3 cV
          generalize w6.setCell ⟨A, aa, none⟩ (.int .u64 x) = w7 at C7 U7 ⊢
          have p8 := C7.regs.pc C7.ok
          have fz8 := C7.regs.free 8
          have C8 := Lib.hid (C7.pcTo nx ⟨nb0, nb1⟩)
          have U8 := Lib.hid (U7.out.setCell (p := ⟨A, 8, none⟩) (.inl (.inl rfl)) (.int .u64 nx))
          clear C7 U7
          go_wp2
          go_ret2
          exact ⟨by rw [hex.out.1]; rfl, ex_post hex.out (by rw [List.append_nil]; exact C8.out) U8.out hv2.out⟩
      · have hex := Lib.hid (ex_nil (m := m) (show c.exec m u = ⟨c.set u.a (c.val u) nx, m, 0, 0⟩ from by rw [exec_val (by have := hop.out; omega), enx.out]) (by have := hop.out; omega))
        have cV := Lib.hid (fun W (hR : RegsAt W A c) => gcomputed_any A c u C3.out.ok HU.out W hR (by have := hop.out; omega))
        have bV := Lib.hid (val_bd (c := c) HU.out)
        rw [hop.out, ea.out] at cV
        clear hop
        generalize c.val u = x at hex cV bV
        go_upto_region 6 with fail
        go_region_with (go_at_call 20; refine (cV.out w3.drew C3.out.regs).mono ?_; rintro e w6 ⟨rfl, u6⟩; have u6' := ((Upd.refl (fun _ => False) w3).drew.trans u6); have C6 := Lib.hid (C3.out.still u6'); have U6 := Lib.hid (U3.out.trans (u6'.mono (fun _ _ h => h.elim))); have d1' := (X3.out.kept u6' id).c.2.1; rw [ea.out] at d1'; have fz' := C6.out.regs.free aa; have rA' := C6.out.regs.reg C6.out.ok u.a hk.out.1 hk.out.2.1; rw [hk.out.2.2] at rA')
        all_goals
          go_upto_region 25 with fail
          have C7 := C6.out.regTo u.a hk.out.1 hk.out.2.1 x bV.out
          have U7 := Lib.hid (U6.out.setCell (p := ⟨A, aa, none⟩) (.inl (.inl rfl)) (.int .u64 x))
          rw [hk.out.2.2] at C7
          clear d0 d1 d2 d3 d4 rA p8 fz fz8 C6 U6 d1' fz' rA' u6 u6' C3 U3 X3 cV
          generalize w6.setCell ⟨A, aa, none⟩ (.int .u64 x) = w7 at C7 U7 ⊢
          have p8 := C7.regs.pc C7.ok
          have fz8 := C7.regs.free 8
          have C8 := Lib.hid (C7.pcTo nx ⟨nb0, nb1⟩)
          have U8 := Lib.hid (U7.out.setCell (p := ⟨A, 8, none⟩) (.inl (.inl rfl)) (.int .u64 nx))
          clear C7 U7
          go_wp2
          go_ret2
          exact ⟨by rw [hex.out.1]; rfl, ex_post hex.out (by rw [List.append_nil]; exact C8.out) U8.out hv2.out⟩
      · have hex := Lib.hid (ex_nil (m := m) (show c.exec m u = ⟨c.set u.a (c.val u) nx, m, 0, 0⟩ from by rw [exec_val (by have := hop.out; omega), enx.out]) (by have := hop.out; omega))
        have cV := Lib.hid (fun W (hR : RegsAt W A c) => gcomputed_any A c u C3.out.ok HU.out W hR (by have := hop.out; omega))
        have bV := Lib.hid (val_bd (c := c) HU.out)
        rw [hop.out, ea.out] at cV
        clear hop
        generalize c.val u = x at hex cV bV
        go_upto_region 6 with fail
        go_region_with (go_at_call 20; refine (cV.out w3.drew C3.out.regs).mono ?_; rintro e w6 ⟨rfl, u6⟩; have u6' := ((Upd.refl (fun _ => False) w3).drew.trans u6); have C6 := Lib.hid (C3.out.still u6'); have U6 := Lib.hid (U3.out.trans (u6'.mono (fun _ _ h => h.elim))); have d1' := (X3.out.kept u6' id).c.2.1; rw [ea.out] at d1'; have fz' := C6.out.regs.free aa; have rA' := C6.out.regs.reg C6.out.ok u.a hk.out.1 hk.out.2.1; rw [hk.out.2.2] at rA')
        all_goals
          go_upto_region 25 with fail
          have C7 := C6.out.regTo u.a hk.out.1 hk.out.2.1 x bV.out
          have U7 := Lib.hid (U6.out.setCell (p := ⟨A, aa, none⟩) (.inl (.inl rfl)) (.int .u64 x))
          rw [hk.out.2.2] at C7
          clear d0 d1 d2 d3 d4 rA p8 fz fz8 C6 U6 d1' fz' rA' u6 u6' C3 U3 X3 cV
          generalize w6.setCell ⟨A, aa, none⟩ (.int .u64 x) = w7 at C7 U7 ⊢
          have p8 := C7.regs.pc C7.ok
          have fz8 := C7.regs.free 8
          have C8 := Lib.hid (C7.pcTo nx ⟨nb0, nb1⟩)
          have U8 := Lib.hid (U7.out.setCell (p := ⟨A, 8, none⟩) (.inl (.inl rfl)) (.int .u64 nx))
          clear C7 U7
          go_wp2
          go_ret2
          exact ⟨by rw [hex.out.1]; rfl, ex_post hex.out (by rw [List.append_nil]; exact C8.out) U8.out hv2.out⟩
      · have hexY : Hid (m.ldE at' = 0 → ExL c m u ⟨c.set u.a (m.ld at') nx, m, 0, 0⟩ [at']) := Lib.hid (fun h6 => ⟨by simp only [Cp.exec, show u.op.toNat = 6 from by have := hop.out; omega, eat.out, enx.out]; rw [if_pos h6], by unfold Ins.ldL; rw [if_pos hop.out, eat.out]⟩)
        have hexN : Hid (m.ldE at' ≠ 0 → ExL c m u ⟨c, m, 0, m.ldE at'⟩ [at']) := Lib.hid (fun h6 => ⟨by simp only [Cp.exec, show u.op.toNat = 6 from by have := hop.out; omega, eat.out]; rw [if_neg h6], by unfold Ins.ldL; rw [if_pos hop.out, eat.out]⟩)
        have cP := Lib.hid (fun W (hR : RegsAt W A c) => goperand_any A c u C3.out.ok HU.out W hR)
        have cL := Lib.hid (fun W (hF : FlAt W w0.heap.size B v vl2 m (l ++ [ap])) hb => fload_any w0.heap.size B v vl2 m (l ++ [ap]) at' W hF (by simp; omega) hb)
        have bL := Lib.hid (C3.out.okm.ld at')
        rw [eat.out] at cP
        rw [hop.out, ea.out] at cP
        clear hop
        have n1 := nil_load
        have m1 := met_load
        by_cases h6 : m.ldE at' = 0
        · have hex := Lib.hid (hexY.out h6)
          rw [h6] at cL
          clear hexY hexN h6
          generalize m.ld at' = x at hex cL bL
          go_upto_region 17 with fail
          go_region_with (first
            | (go_at_call 19; refine (cP.out w3.drew C3.out.regs).mono ?_; rintro e w6 ⟨rfl, u6⟩; have u6' := ((Upd.refl (fun _ => False) w3).drew.trans u6); have C6 := Lib.hid (C3.out.still u6'))
            | (go_at_call 53; refine (cL.out w6 C6.out.fl C6.out.up.size).mono ?_; rintro e w7 ⟨rfl, vl', F7, u7, hv7⟩))
          all_goals
            go_upto_region 20 with fail
            have C7 := Lib.hid (C6.out.load F7 u7 hv7)
            have U7 := Lib.hid ((U3.out.trans (u6'.mono (T := CpuS A B v vl) (fun _ _ h => h.elim))).trans2 u7 (fun k hk => by
              rcases hk with rfl | hk
              · exact .inl (.inr (.inl rfl))
              · rcases hv2.out k hk with h | h
                · exact .inl (.inr (.inr (.inr h)))
                · exact .inr h))
            have X7 := Lib.hid ((X3.out.kept u6' id).kept u7 (fun hk => by
              have h2 := hXB.out XB (by rcases hk with e | hk; exact .inr (.inl e); exact .inr (.inr (.inr hk)))
              omega))
            have hv9 := Lib.hid (show ∀ g, vl'.ownBlock = some g → vl.ownBlock = some g ∨ w.heap.size ≤ g from fun g hg => by
              rcases hv7 g hg with h | h
              · exact hv2.out g h
              · have := U3.out.size; have := u6'.size; exact .inr (by omega))
            clear d0 d1 d2 d3 d4 rA p8 fz fz8 C6 u6 u6' C3 U3 X3 cP cL F7 u7 hv7
            have d1 := X7.out.c.2.1
            rw [ea.out] at d1
            have fz := C7.out.regs.free aa
            have rA := C7.out.regs.reg C7.out.ok u.a hk.out.1 hk.out.2.1
            rw [hk.out.2.2, eav.out] at rA
            have C8 := C7.out.regTo u.a hk.out.1 hk.out.2.1 x bL.out
            rw [hk.out.2.2] at C8
            have C8d := C8.drew 1
            have U8 := Lib.hid ((U7.out.setCell (p := ⟨A, aa, none⟩) (.inl (.inl rfl)) (.int .u64 x)).drewN 1)
            go_still_tail 7, (by kernel_rfl)
            change wpList _ _ _ _ _ w7.drew
            go_upto_region 25 with fail
            change Code.wp _ _ _ _ ((w7.setCell ⟨A, aa, none⟩ (.int .u64 x)).drewN 1)
            clear C8 d1 fz rA C7 U7 X7
            generalize (w7.setCell ⟨A, aa, none⟩ (.int .u64 x)).drewN 1 = w8 at C8d U8 ⊢
            have p8 := C8d.regs.pc C8d.ok
            have fz8 := C8d.regs.free 8
            have C9 := Lib.hid (C8d.pcTo nx ⟨nb0, nb1⟩)
            have U9 := Lib.hid (U8.out.setCell (p := ⟨A, 8, none⟩) (.inl (.inl rfl)) (.int .u64 nx))
            clear C8d U8
            go_wp2
            go_ret2
            exact ⟨by rw [hex.out.1]; rfl, ex_post hex.out C9.out U9.out hv9.out⟩
        · have hex := Lib.hid (hexN.out h6)
          have hl6 : (m.ldE at' != 0) = true := by simp [h6]
          clear hexY hexN h6
          generalize m.ld at' = x at cL bL
          generalize m.ldE at' = er at hex cL hl6
          go_upto_region 17 with fail
          go_region_with (first
            | (go_at_call 19; refine (cP.out w3.drew C3.out.regs).mono ?_; rintro e w6 ⟨rfl, u6⟩; have u6' := ((Upd.refl (fun _ => False) w3).drew.trans u6); have C6 := Lib.hid (C3.out.still u6'))
            | (go_at_call 53; refine (cL.out w6 C6.out.fl C6.out.up.size).mono ?_; rintro e w7 ⟨rfl, vl', F7, u7, hv7⟩))
          all_goals
            have C7 := Lib.hid (C6.out.load F7 u7 hv7)
            have U7 := Lib.hid ((U3.out.trans (u6'.mono (T := CpuS A B v vl) (fun _ _ h => h.elim))).trans2 u7 (fun k hk => by
              rcases hk with rfl | hk
              · exact .inl (.inr (.inl rfl))
              · rcases hv2.out k hk with h | h
                · exact .inl (.inr (.inr (.inr h)))
                · exact .inr h))
            have X7 := Lib.hid ((X3.out.kept u6' id).kept u7 (fun hk => by
              have h2 := hXB.out XB (by rcases hk with e | hk; exact .inr (.inl e); exact .inr (.inr (.inr hk)))
              omega))
            have hv9 := Lib.hid (show ∀ g, vl'.ownBlock = some g → vl.ownBlock = some g ∨ w.heap.size ≤ g from fun g hg => by
              rcases hv7 g hg with h | h
              · exact hv2.out g h
              · have := U3.out.size; have := u6'.size; exact .inr (by omega))
            clear d0 d1 d2 d3 d4 rA p8 fz fz8 C6 u6 u6' C3 U3 X3 cP cL F7 u7 hv7
            go_wp2
            go_ret2
            exact ⟨by rw [hex.out.1]; rfl, ex_post hex.out C7.out U7.out hv9.out⟩
      · have hexY : Hid (m.stE at' = 0 → ExL c m u ⟨⟨c.R, nx⟩, m.st at' av, 0, 0⟩ []) := Lib.hid (fun h7 => ex_nil (by simp only [Cp.exec, show u.op.toNat = 7 from by have := hop.out; omega, eat.out, enx.out, eav.out]; rw [if_pos h7]) (by have := hop.out; omega))
        have hexN : Hid (m.stE at' ≠ 0 → ExL c m u ⟨c, m, 0, m.stE at'⟩ []) := Lib.hid (fun h7 => ex_nil (by simp only [Cp.exec, show u.op.toNat = 7 from by have := hop.out; omega, eat.out]; rw [if_neg h7]) (by have := hop.out; omega))
        have cP := Lib.hid (fun W (hR : RegsAt W A c) => goperand_any A c u C3.out.ok HU.out W hR)
        have cS := Lib.hid (fun W (hF : FlAt W w0.heap.size B v vl2 m (l ++ [ap])) => fstore_any w0.heap.size B v vl2 m (l ++ [ap]) at' av W hF)
        have hno : Hid (m.stE at' ≠ 0 → m.st at' av = m) := Lib.hid (fun h => by unfold Fl.st; rw [if_neg h])
        rw [eat.out] at cP
        rw [hop.out, ea.out] at cP
        clear hop
        have hvX := Lib.hid (show ¬ v.ownBlock = some XB from fun e => Nat.lt_irrefl _ (hXB.out XB (.inr (.inr (.inl e)))))
        have hvA := Lib.hid (show ¬ v.ownBlock = some A from fun e => C3.out.nv A e rfl)
        have hS := Lib.hid (show ∀ (W' : World) (T : Nat → Prop), Upd T w3 W' → ¬ T XB → ¬ T A → W'.cell? ⟨XB, 0, none⟩ = some (.int .i64 7) ∧ W'.cell? ⟨XB, 1, none⟩ = some (.int .i64 aa) ∧ W'.cell? ⟨XB, 2, none⟩ = some (.int .i64 u.b) ∧ W'.cell? ⟨XB, 3, none⟩ = some (.int .i64 u.c) ∧ W'.cell? ⟨XB, 4, none⟩ = some (.int .i64 u.m) ∧ W'.cell? ⟨A, aa, none⟩ = some (.int .u64 av) from fun W' T q h1 h2 => ⟨q.cell d0 h1, q.cell d1 h1, q.cell d2 h1, q.cell d3 h1, q.cell d4 h1, q.cell rA h2⟩)
        have n1 := nil_store
        have m1 := met_store
        by_cases h7 : m.stE at' = 0
        · have hex := Lib.hid (hexY.out h7)
          rw [h7] at cS
          clear hexY hexN h7 hno
          go_upto_region 22 with fail
          go_region_held3 (fun w' => w'.cell? ⟨XB, 0, none⟩ = some (.int .i64 7) ∧ w'.cell? ⟨XB, 1, none⟩ = some (.int .i64 aa) ∧ w'.cell? ⟨XB, 2, none⟩ = some (.int .i64 u.b) ∧ w'.cell? ⟨XB, 3, none⟩ = some (.int .i64 u.c) ∧ w'.cell? ⟨XB, 4, none⟩ = some (.int .i64 u.m) ∧ w'.cell? ⟨A, aa, none⟩ = some (.int .u64 av))
            (first
              | assumption
              | exact hS.out _ _ (Upd.refl (fun _ => False) w3).drew id id
              | exact hS.out _ _ u6' id id
              | exact hS.out _ _ u8 hvX.out hvA.out)
            (first
              | (go_at_call 19; refine (cP.out w3.drew C3.out.regs).mono ?_; rintro e w6 ⟨rfl, u6⟩; have u6' := ((Upd.refl (fun _ => False) w3).drew.trans u6); have C6 := Lib.hid (C3.out.still u6'))
              | (go_at_call 54; refine (cS.out w6 C6.out.fl).mono ?_; rintro e w7 ⟨rfl, F7, u7⟩; have u8 := (u6'.mono (T := fun k => v.ownBlock = some k) (fun _ _ h => h.elim)).trans u7))
          all_goals
            have C7 := Lib.hid (C6.out.store at' av bA F7 u7)
            have U7 := Lib.hid ((U3.out.trans (u6'.mono (T := CpuS A B v vl) (fun _ _ h => h.elim))).trans2 u7 (fun k hk => .inl (.inr (.inr (.inl hk)))))
            clear d0 d1 d2 d3 d4 rA p8 fz fz8 C6 u6 u6' C3 U3 X3 cP cS F7 u7 u8
            go_upto_region 25 with fail
            have p8 := C7.out.regs.pc C7.out.ok
            have fz8 := C7.out.regs.free 8
            have C9 := Lib.hid (C7.out.pcTo nx ⟨nb0, nb1⟩)
            have U9 := Lib.hid (U7.out.setCell (p := ⟨A, 8, none⟩) (.inl (.inl rfl)) (.int .u64 nx))
            clear C7 U7
            go_wp2
            go_ret2
            exact ⟨by rw [hex.out.1]; rfl, ex_post hex.out (by rw [List.append_nil]; exact C9.out) U9.out hv2.out⟩
        · have hex := Lib.hid (hexN.out h7)
          have hl7 : (m.stE at' != 0) = true := by simp [h7]
          have hm7 := Lib.hid (hno.out h7)
          clear hexY hexN h7 hno
          generalize m.stE at' = er at hex cS hl7
          go_upto_region 22 with fail
          go_region_held3 (fun w' => w'.cell? ⟨XB, 0, none⟩ = some (.int .i64 7) ∧ w'.cell? ⟨XB, 1, none⟩ = some (.int .i64 aa) ∧ w'.cell? ⟨XB, 2, none⟩ = some (.int .i64 u.b) ∧ w'.cell? ⟨XB, 3, none⟩ = some (.int .i64 u.c) ∧ w'.cell? ⟨XB, 4, none⟩ = some (.int .i64 u.m) ∧ w'.cell? ⟨A, aa, none⟩ = some (.int .u64 av))
            (first
              | assumption
              | exact hS.out _ _ (Upd.refl (fun _ => False) w3).drew id id
              | exact hS.out _ _ u6' id id
              | exact hS.out _ _ u8 hvX.out hvA.out)
            (first
              | (go_at_call 19; refine (cP.out w3.drew C3.out.regs).mono ?_; rintro e w6 ⟨rfl, u6⟩; have u6' := ((Upd.refl (fun _ => False) w3).drew.trans u6); have C6 := Lib.hid (C3.out.still u6'))
              | (go_at_call 54; refine (cS.out w6 C6.out.fl).mono ?_; rintro e w7 ⟨rfl, F7, u7⟩; have u8 := (u6'.mono (T := fun k => v.ownBlock = some k) (fun _ _ h => h.elim)).trans u7))
          all_goals
            have C7 := Lib.hid (C6.out.store at' av bA F7 u7)
            have U7 := Lib.hid ((U3.out.trans (u6'.mono (T := CpuS A B v vl) (fun _ _ h => h.elim))).trans2 u7 (fun k hk => .inl (.inr (.inr (.inl hk)))))
            clear d0 d1 d2 d3 d4 rA p8 fz fz8 C6 u6 u6' C3 U3 X3 cP cS F7 u7 u8
            rw [hm7.out] at C7
            go_wp2
            go_ret2
            exact ⟨by rw [hex.out.1]; rfl, ex_post hex.out (by rw [List.append_nil]; exact C7.out) U7.out hv2.out⟩
      · have hex := Lib.hid (ex_nil (m := m) (show c.exec m u = ⟨⟨c.R, u.m⟩, m, 0, 0⟩ from by simp only [Cp.exec, show u.op.toNat = 8 from by have := hop.out; omega]) (by have := hop.out; omega))
        clear hop
        have C8 := Lib.hid (C3.out.pcTo (u.m) (by omega))
        have U8 := Lib.hid (U3.out.setCell (p := ⟨A, 8, none⟩) (.inl (.inl rfl)) (.int .u64 (u.m)))
        go_wp2
        go_ret2
        exact ⟨by rw [hex.out.1]; rfl, ex_post hex.out (by rw [List.append_nil]; exact C8.out) U8.out hv2.out⟩
      · by_cases hz : av = 0
        · have hex := Lib.hid (ex_nil (m := m) (show c.exec m u = ⟨⟨c.R, u.m⟩, m, 0, 0⟩ from by simp only [Cp.exec, show u.op.toNat = 9 from by have := hop.out; omega, eav.out]; rw [if_pos hz]) (by have := hop.out; omega))
          clear hop
          subst hz
          go_upto_region 14 with fail
          go_quiet (fail)
          have C7 := (C3.out.drew nq).pcTo u.m (by omega)
          have U7 := Lib.hid ((U3.out.drewN nq).setCell (p := ⟨A, 8, none⟩) (.inl (.inl rfl)) (.int .u64 u.m))
          replace C7 := Lib.hid C7
          go_wp2
          go_ret2
          exact ⟨by rw [hex.out.1]; rfl, ex_post hex.out (by rw [List.append_nil]; exact C7.out) U7.out hv2.out⟩
        · have hex := Lib.hid (ex_nil (m := m) (show c.exec m u = ⟨⟨c.R, nx⟩, m, 0, 0⟩ from by simp only [Cp.exec, show u.op.toNat = 9 from by have := hop.out; omega, eav.out, enx.out]; rw [if_neg hz]) (by have := hop.out; omega))
          clear hop
          have hz' : (av == 0) = false := by rw [beq_eq_false_iff_ne]; exact hz
          go_upto_region 14 with fail
          go_quiet (fail)
          have C7 := (C3.out.drew nq).pcTo nx ⟨nb0, nb1⟩
          have U7 := Lib.hid ((U3.out.drewN nq).setCell (p := ⟨A, 8, none⟩) (.inl (.inl rfl)) (.int .u64 nx))
          replace C7 := Lib.hid C7
          go_wp2
          go_ret2
          exact ⟨by rw [hex.out.1]; rfl, ex_post hex.out (by rw [List.append_nil]; exact C7.out) U7.out hv2.out⟩
      · have hex := Lib.hid (ex_nil (m := m) (show c.exec m u = ⟨c.set u.a (c.val u) nx, m, 0, 0⟩ from by rw [exec_val (by have := hop.out; omega), enx.out]) (by have := hop.out; omega))
        have cV := Lib.hid (fun W (hR : RegsAt W A c) => gcomputed_any A c u C3.out.ok HU.out W hR (by have := hop.out; omega))
        have bV := Lib.hid (val_bd (c := c) HU.out)
        rw [hop.out, ea.out] at cV
        clear hop
        generalize c.val u = x at hex cV bV
        go_upto_region 6 with fail
        go_region_with (go_at_call 20; refine (cV.out w3.drew C3.out.regs).mono ?_; rintro e w6 ⟨rfl, u6⟩; have u6' := ((Upd.refl (fun _ => False) w3).drew.trans u6); have C6 := Lib.hid (C3.out.still u6'); have U6 := Lib.hid (U3.out.trans (u6'.mono (fun _ _ h => h.elim))); have d1' := (X3.out.kept u6' id).c.2.1; rw [ea.out] at d1'; have fz' := C6.out.regs.free aa; have rA' := C6.out.regs.reg C6.out.ok u.a hk.out.1 hk.out.2.1; rw [hk.out.2.2] at rA')
        all_goals
          go_upto_region 25 with fail
          have C7 := C6.out.regTo u.a hk.out.1 hk.out.2.1 x bV.out
          have U7 := Lib.hid (U6.out.setCell (p := ⟨A, aa, none⟩) (.inl (.inl rfl)) (.int .u64 x))
          rw [hk.out.2.2] at C7
          clear d0 d1 d2 d3 d4 rA p8 fz fz8 C6 U6 d1' fz' rA' u6 u6' C3 U3 X3 cV
          generalize w6.setCell ⟨A, aa, none⟩ (.int .u64 x) = w7 at C7 U7 ⊢
          have p8 := C7.regs.pc C7.ok
          have fz8 := C7.regs.free 8
          have C8 := Lib.hid (C7.pcTo nx ⟨nb0, nb1⟩)
          have U8 := Lib.hid (U7.out.setCell (p := ⟨A, 8, none⟩) (.inl (.inl rfl)) (.int .u64 nx))
          clear C7 U7
          go_wp2
          go_ret2
          exact ⟨by rw [hex.out.1]; rfl, ex_post hex.out (by rw [List.append_nil]; exact C8.out) U8.out hv2.out⟩
      · have hex := Lib.hid (ex_nil (m := m) (show c.exec m u = ⟨⟨c.R, nx⟩, m, u.m, 14⟩ from by simp only [Cp.exec, show u.op.toNat = 11 from by have := hop.out; omega, enx.out]) (by have := hop.out; omega))
        clear hop
        have C8 := Lib.hid (C3.out.pcTo (nx) (by omega))
        have U8 := Lib.hid (U3.out.setCell (p := ⟨A, 8, none⟩) (.inl (.inl rfl)) (.int .u64 (nx)))
        go_wp2
        go_ret2
        exact ⟨by rw [hex.out.1]; rfl, ex_post hex.out (by rw [List.append_nil]; exact C8.out) U8.out hv2.out⟩
end Go.Proofs.YtcbiangocfhhlaaDoor

/-
  The program's Run: as the laws ask.
-/
namespace Go.Proofs.YtcbiangocfhhlaaDoor
open Go.ChangeShapes Go.WideShapes Go.ChangeAt Go.RowKit

/-- what is loaded by the first k steps, and by all -/
def Cp.Ld (c : Cp) (m : Fl) (N k : Nat) (d : Cp) (n : Fl) (l L : List Int) : Prop := l ++ c.runL m N = L ++ d.runL n (N - k)
theorem Cp.ld_zero (c : Cp) (m : Fl) (N : Nat) (l : List Int) : c.Ld m N 0 c m l l := by unfold Cp.Ld; simp
theorem Cp.Ld.on {c d : Cp} {m n : Fl} {N k : Nat} {l L : List Int} (h : c.Ld m N k d n l L) (hk : k < N) (he : (d.step n).e = 0) : c.Ld m N (k + 1) (d.step n).c (d.step n).m l (L ++ d.lds n) := by
  unfold Cp.Ld at h ⊢
  rw [h, show N - k = (N - (k + 1)) + 1 from by omega, Cp.runL_succ, if_pos he, List.append_assoc]
theorem Cp.Ld.out {c d : Cp} {m n : Fl} {N k : Nat} {l L : List Int} (h : c.Ld m N k d n l L) (hk : k < N) (he : (d.step n).e ≠ 0) : l ++ c.runL m N = L ++ d.lds n := by
  unfold Cp.Ld at h
  rw [h, show N - k = (N - (k + 1)) + 1 from by omega, Cp.runL_succ, if_neg he, List.append_nil]
theorem Cp.Ld.end {c d : Cp} {m n : Fl} {N : Nat} {l L : List Int} (h : c.Ld m N N d n l L) : l ++ c.runL m N = L := by
  unfold Cp.Ld at h
  rw [h, Nat.sub_self]
  simp [Cp.runL]
theorem lds_len (c : Cp) (m : Fl) : (c.lds m).length ≤ 2 := by
  unfold Cp.lds
  split <;> simp
/-- a run, so far -/
structure RunSt (w0 w wr : World) (A B : Nat) (v vl : Value) (l : List Int) (c : Cp) (m : Fl) (N k : Nat) (d : Cp) (n : Fl) (L : List Int) (vl' : Value) : Prop where
  at_ : c.At m N k d n
  ld : c.Ld m N k d n l L
  len : L.length ≤ l.length + 2 * k
  cpu : Cpu w0 wr A B v vl' d n L
  up : Upd (CpuS A B v vl) w wr
  new : ∀ g, vl'.ownBlock = some g → vl.ownBlock = some g ∨ w.heap.size ≤ g
set_option maxHeartbeats 4000000 in
theorem grun_of (gs : GStep) : GRun := by
  intro w0 w A B v vl c m l N h hN hl
  have hS := Lib.hid (fun (d : Cp) (n : Fl) (L : List Int) (vl' : Value) (W : World) (hc : Cpu w0 W A B v vl' d n L) (hL : L.length ≤ 90000) => gs w0 W A B v vl' d n L hc hL)
  by_cases h0 : N ≤ 0
  · have e0 : N.toNat = 0 := by omega
    rw [e0, Cp.run_zero, show c.runL m 0 = [] from rfl, List.append_nil]
    have HC := Lib.hid h
    clear e0 h
    go_enter Tryd.func15, Tryd.ntmps15
    go_wp2
    go_loopw [6, 7, 8] (fun t a b wr => t = .int .i64 0 ∧ a = .int .i64 0 ∧ b = .int .i64 0 ∧ wr = w) (fun _ _ _ _ => 0)
    case atStart => exact ⟨rfl, rfl, rfl, rfl⟩
    case round =>
      obtain ⟨rfl, rfl, rfl, rfl⟩ := hrel
      go_wp2
      go_ret3
      exact ⟨rfl, vl, HC.out, Upd.refl _ _, fun _ h => .inl h⟩
  obtain ⟨M, rfl⟩ := Int.eq_ofNat_of_zero_le (show 0 ≤ N by omega)
  rw [Int.toNat_natCast] at hl ⊢
  have hA0 := Lib.hid (show RunSt w0 w w A B v vl l c m M 0 c m l vl from ⟨c.at_zero m M, c.ld_zero m M l, by omega, h, Upd.refl _ _, fun _ h => .inl h⟩)
  replace hl := Lib.hid hl
  clear h
  go_enter Tryd.func15, Tryd.ntmps15
  go_wp2_with fail
  go_loopw [6, 7, 8] (fun t a b wr => ∃ (k : Nat) (d : Cp) (n : Fl) (L : List Int) (vl' : Value) (ca : Int), k ≤ M ∧ t = .int .i64 k ∧ a = .int .i64 ca ∧ b = .int .i64 0 ∧ Hid (RunSt w0 w wr A B v vl l c m M k d n L vl')) (fun t _ _ _ => M - (intOf t).toNat)
  case atStart => exact ⟨0, c, m, l, vl, 0, by omega, rfl, rfl, rfl, hA0⟩
  case round =>
    obtain ⟨k, d, n, L, vl', ca, hk, rfl, rfl, rfl, hR⟩ := hrel
    clear hA0
    by_cases hlt : k < M
    · have cs := Lib.hid (hS.out d n L vl' wr hR.out.cpu (by have := hR.out.len; have := hl.out; omega))
      have k0 : (0 : Int) ≤ (k : Int) := by omega
      have k1 : (k : Int) < (M : Int) := by omega
      have hll := lds_len d n
      have hup : Hid (∀ (w2 : World) (vl2 : Value), Upd (CpuS A B v vl') wr w2 → (∀ g, vl2.ownBlock = some g → vl'.ownBlock = some g ∨ wr.heap.size ≤ g) → Upd (CpuS A B v vl) w w2 ∧ ∀ g, vl2.ownBlock = some g → vl.ownBlock = some g ∨ w.heap.size ≤ g) := Lib.hid (fun w2 vl2 u hv => by
        refine ⟨?_, fun g hg => ?_⟩
        · have q := hR.out.up
          refine ⟨u.os.trans q.os, u.tape.trans q.tape, u.output.trans q.output, Nat.le_trans q.size u.size, fun j hj hn => ?_⟩
          rw [u.block j (Nat.lt_of_lt_of_le hj q.size) (fun e => ?_), q.block j hj hn]
          rcases e with e | e | e | e
          · exact hn (.inl e)
          · exact hn (.inr (.inl e))
          · exact hn (.inr (.inr (.inl e)))
          · rcases hR.out.new j e with e' | e'
            · exact hn (.inr (.inr (.inr e')))
            · omega
        · rcases hv g hg with e | e
          · exact hR.out.new g e
          · have := hR.out.up.size
            exact .inr (by omega))
      clear hS
      by_cases he : (d.step n).e = 0
      · have hA' := Lib.hid (hR.out.at_.on hlt he)
        have hD' := Lib.hid (hR.out.ld.on hlt he)
        have hN' := Lib.hid (show (L ++ d.lds n).length ≤ l.length + 2 * (k + 1) from by have := hR.out.len; rw [List.length_append]; omega)
        rw [he] at cs
        clear he hR hll
        generalize d.step n = T at cs hA' hD'
        generalize L ++ d.lds n = L' at cs hD' hN'
        go_wp2_with fail
        refine cs.out.mono ?_
        rintro e w2 ⟨rfl, vl2, C2, u2, hv2⟩
        have R2 := Lib.hid (show RunSt w0 w w2 A B v vl l c m M (k + 1) T.c T.m L' vl2 from ⟨hA'.out, hD'.out, hN'.out, C2, (hup.out w2 vl2 u2 hv2).1, (hup.out w2 vl2 u2 hv2).2⟩)
        clear u2 cs C2 hv2 hup hA' hD' hN'
        go_wp2
        go_roundw
        case rel => exact ⟨k + 1, T.c, T.m, L', vl2, _, by omega, by go_num, rfl, rfl, R2⟩
        case measure => simp [intOf]; omega
      · have hA' := Lib.hid (hR.out.at_.out hlt he)
        have hD' := Lib.hid (hR.out.ld.out hlt he)
        have he' : ((d.step n).e != 0) = true := by simp [he]
        clear he hR hll
        generalize d.step n = T at cs hA' he'
        generalize L ++ d.lds n = L' at cs hD'
        go_wp2_with fail
        refine cs.out.mono ?_
        rintro e w2 ⟨rfl, vl2, C2, u2, hv2⟩
        have R2 := Lib.hid (hup.out w2 vl2 u2 hv2)
        have C2' := Lib.hid C2
        clear u2 cs hv2 hup C2
        go_wp2
        go_ret3
        rw [hA'.out, hD'.out]
        exact ⟨rfl, vl2, C2'.out, R2.out.1, R2.out.2⟩
    · have e : k = M := by omega
      subst e
      have hA' := Lib.hid hR.out.at_.end
      have hD' := Lib.hid hR.out.ld.end
      clear hS
      go_wp2
      go_ret3
      rw [hA'.out, hD'.out]
      exact ⟨rfl, vl', hR.out.cpu, hR.out.up, hR.out.new⟩
end Go.Proofs.YtcbiangocfhhlaaDoor

/-
  What the seven laws share: the program's Step and Run, the registers that come in.
-/
namespace Go.Proofs.YtcbiangocfhhlaaDoor
open Go.ChangeShapes Go.WideShapes Go.ChangeAt Go.RowKit

theorem grun_any : GRun := grun_of gstep_any
theorem regs_ok {r0 r1 r2 r3 r4 r5 r6 r7 p : Int} (h0 : (Lit.int .u64 r0).wf = true) (h1 : (Lit.int .u64 r1).wf = true) (h2 : (Lit.int .u64 r2).wf = true) (h3 : (Lit.int .u64 r3).wf = true) (h4 : (Lit.int .u64 r4).wf = true) (h5 : (Lit.int .u64 r5).wf = true) (h6 : (Lit.int .u64 r6).wf = true) (h7 : (Lit.int .u64 r7).wf = true) (hp : (Lit.int .u64 p).wf = true) :
    Cp.Ok ⟨[r0, r1, r2, r3, r4, r5, r6, r7], p⟩ := by
  have b := fun {x : Int} (h : (Lit.int .u64 x).wf = true) => bounds_u64 h
  refine ⟨rfl, fun x hx => ?_, by have := b hp; show 0 ≤ p ∧ p < 18446744073709551616; omega⟩
  simp only [List.mem_cons, List.not_mem_nil, or_false] at hx
  rcases hx with rfl | rfl | rfl | rfl | rfl | rfl | rfl | rfl
  · have := b h0; omega
  · have := b h1; omega
  · have := b h2; omega
  · have := b h3; omega
  · have := b h4; omega
  · have := b h5; omega
  · have := b h6; omega
  · have := b h7; omega
end Go.Proofs.YtcbiangocfhhlaaDoor

/-
  Plain: programs that are known, step by step; adding up.
-/
namespace Go.Proofs.YtcbiangocfhhlaaDoor

/-- an instruction that lies where a program is -/
theorem step_ins {c : Cp} {m : Fl} {j : Nat} {i : Ins} (hpc : c.pc = j) (hj : j < 65536) (hl : m.W[j]? = some i.word) (hi : i.Ok) : c.step m = c.exec m i := by
  have ea : adr c.pc = (j : Int) := by rw [hpc]; unfold adr; omega
  have hlen : j < m.W.length := (List.getElem?_eq_some_iff.1 hl).1
  have hin : m.isIn (j : Int) = true := by unfold Fl.isIn; exact decide_eq_true ⟨by omega, by omega⟩
  have e1 : m.ldE (adr c.pc) = 0 := by rw [ea]; unfold Fl.ldE; rw [if_pos hin]
  have e2 : m.ld (adr c.pc) = i.word := by
    rw [ea]
    unfold Fl.ld
    rw [if_pos hin, Int.toNat_natCast, List.getD_eq_getElem?_getD, hl]
    rfl
  have hh : Ins.hit (m.ld (adr c.pc)) = true := by rw [e2]; exact (Ins.hit_iff _).2 ⟨i, hi, rfl⟩
  rw [step_yes e1 hh, e2, Ins.of_word hi]
/-- one more step -/
theorem Cp.At.ins {c d : Cp} {m n : Fl} {N k : Nat} (h : c.At m N k d n) (hk : k < N) {j : Nat} {i : Ins} (hpc : d.pc = j) (hj : j < 65536) (hl : n.W[j]? = some i.word) (hi : i.Ok) {d' : Cp} {n' : Fl} (hT : d.exec n i = ⟨d', n', 0, 0⟩) : c.At m N (k + 1) d' n' := by
  have e := step_ins hpc hj hl hi
  have h2 := h.on hk (by rw [e, hT])
  rw [e, hT] at h2
  exact h2
theorem wv_ok {i : Ins} (h : i.Ok) : i.wv = i.word := by unfold Ins.wv; rw [if_pos ((Ins.right_iff i).2 h)]
theorem wrap_in {x : Int} (h : 0 ≤ x ∧ x < 18446744073709551616) : IntKind.u64.wrap x = x := by
  show x % 18446744073709551616 = x
  omega
theorem flat_at {α β : Type} (f : α → List β) (z : Nat) (hf : ∀ a, (f a).length = z) : ∀ (L : List α) (k j : Nat) (a : α) (v : β), L[k]? = some a → (f a)[j]? = some v → (L.flatMap f)[k * z + j]? = some v
  | [], k, j, a, v, h, _ => by simp at h
  | x :: L, 0, j, a, v, h, hv => by
    have : x = a := by simpa using h
    subst this
    rw [List.flatMap_cons, Nat.zero_mul, Nat.zero_add, List.getElem?_append_left (List.getElem?_eq_some_iff.1 hv).1]
    exact hv
  | x :: L, k + 1, j, a, v, h, hv => by
    have h' : L[k]? = some a := by simpa using h
    rw [List.flatMap_cons, List.getElem?_append_right (by rw [hf, Nat.add_mul]; omega), hf, show (k + 1) * z + j - z = k * z + j from by rw [Nat.add_mul]; omega]
    exact flat_at f z hf L k j a v h' hv
theorem rows_ins (L : List Ins) (w : World) (b : Nat) (hb : w.heap[b]? = some (.cells (L.flatMap Ins.cs).toArray 50 (0, 0))) : ∀ k i, L[k]? = some i → w.rangeAt b (0 + k * 5) i.cs := by
  intro k i h j v hj
  rw [cell_of_row _ _ _ _ _ _ hb, List.getElem?_toArray, Nat.zero_add]
  exact flat_at Ins.cs 5 (fun _ => rfl) L k j i v h hj
/-- the program that adds up -/
def addI (n : Int) : List Ins := [⟨1, 1, 0, 0, n⟩, ⟨1, 2, 0, 0, 1⟩, ⟨9, 1, 0, 0, 6⟩, ⟨2, 3, 3, 1, 0⟩, ⟨3, 1, 1, 2, 0⟩, ⟨8, 0, 0, 0, 2⟩, ⟨7, 3, 0, 0, 8⟩, ⟨0, 0, 0, 0, 0⟩, ⟨0, 0, 0, 0, 0⟩]
def addW (n : Int) : List Int := wvs (addI n) 9
def addM (n : Int) : Fl := ⟨addW n, 8⟩
theorem ok_imm {a n : Int} (ha : 0 ≤ a ∧ a ≤ 7) (hn : 0 ≤ n ∧ n ≤ 65535) : Ins.Ok ⟨1, a, 0, 0, n⟩ :=
  ⟨(show (0 : Int) ≤ 1 ∧ (1 : Int) ≤ 11 by decide), ha, (show (0 : Int) ≤ 0 ∧ (0 : Int) ≤ 7 by decide), (show (0 : Int) ≤ 0 ∧ (0 : Int) ≤ 7 by decide), hn, fun h => absurd h (show ¬ hasA 1 = false by decide), fun _ => rfl, fun _ => rfl, fun h => absurd h (show ¬ hasM 1 = false by decide)⟩
theorem add_len (n : Int) : (addW n).length = 9 := rfl
theorem add_at (n : Int) (hn : 0 ≤ n ∧ n ≤ 300) (j : Nat) (i : Ins) (h : (addI n)[j]? = some i) : (addW n)[j]? = some i.word ∧ i.Ok := by
  have hj : j < 9 := (List.getElem?_eq_some_iff.1 h).1
  have hok : i.Ok := by
    have hd : j = 0 ∨ j = 1 ∨ j = 2 ∨ j = 3 ∨ j = 4 ∨ j = 5 ∨ j = 6 ∨ j = 7 ∨ j = 8 := by omega
    rcases hd with rfl | rfl | rfl | rfl | rfl | rfl | rfl | rfl | rfl <;> (injection h with h; subst h)
    · exact ok_imm (by decide) (by omega)
    all_goals exact (Ins.right_iff _).1 (by decide)
  refine ⟨?_, hok⟩
  rw [← wv_ok hok]
  unfold addW wvs
  rw [List.getElem?_map, List.getElem?_take, if_pos hj, h]
  rfl
def addC (a b s p : Int) : Cp := ⟨[0, a, b, s, 0, 0, 0, 0], p⟩
theorem add_one (n : Int) (hn : 0 ≤ n ∧ n ≤ 300) {N k : Nat} {a s : Int} (hk : k + 4 ≤ N) (h : regs0.At (addM n) N k (addC a 1 s 2) (addM n)) (ha : 0 < a ∧ a ≤ 300) (hs : 0 ≤ s ∧ s ≤ 1000000) : regs0.At (addM n) N (k + 4) (addC (a - 1) 1 (s + a) 2) (addM n) := by
  have q := add_at n hn
  have h1 := h.ins (by omega) (j := 2) rfl (by decide) (q 2 _ rfl).1 (q 2 _ rfl).2 (d' := addC a 1 s 3) (n' := addM n) (by
    show (⟨⟨_, if a = 0 then 6 else _⟩, _, 0, 0⟩ : St) = _
    rw [if_neg (by omega)]
    rfl)
  have h2 := h1.ins (by omega) (j := 3) rfl (by decide) (q 3 _ rfl).1 (q 3 _ rfl).2 (d' := addC a 1 (s + a) 4) (n' := addM n) (by
    show (⟨⟨[0, a, 1, IntKind.u64.wrap (s + a), 0, 0, 0, 0], _⟩, _, 0, 0⟩ : St) = _
    rw [show IntKind.u64.wrap (s + a) = s + a from wrap_in (by omega)]
    rfl)
  have h3 := h2.ins (by omega) (j := 4) rfl (by decide) (q 4 _ rfl).1 (q 4 _ rfl).2 (d' := addC (a - 1) 1 (s + a) 5) (n' := addM n) (by
    show (⟨⟨[0, IntKind.u64.wrap (a - 1), 1, s + a, 0, 0, 0, 0], _⟩, _, 0, 0⟩ : St) = _
    rw [show IntKind.u64.wrap (a - 1) = a - 1 from wrap_in (by omega)]
    rfl)
  exact h3.ins (by omega) (j := 5) rfl (by decide) (q 5 _ rfl).1 (q 5 _ rfl).2 (by rfl)
/-- so many rounds -/
theorem add_many (n : Nat) (hn : n ≤ 300) {N : Nat} (hN : 4 * n + 2 ≤ N) : ∀ j, j ≤ n → ∃ s : Int, 2 * s = j * (2 * n + 1 - j) ∧ 0 ≤ s ∧ s ≤ 1000000 ∧ regs0.At (addM n) N (4 * j + 2) (addC (n - j) 1 s 2) (addM n)
  | 0, _ => by
    have q := add_at (n : Int) (by omega)
    have h0 := regs0.at_zero (addM n) N
    have h1 := h0.ins (by omega) (j := 0) rfl (by decide) (q 0 _ rfl).1 (q 0 _ rfl).2 (d' := addC n 0 0 1) (n' := addM n) (by rfl)
    have h2 := h1.ins (by omega) (j := 1) rfl (by decide) (q 1 _ rfl).1 (q 1 _ rfl).2 (d' := addC n 1 0 2) (n' := addM n) (by rfl)
    exact ⟨0, by simp, by omega, by omega, by simpa using h2⟩
  | j + 1, hj => by
    obtain ⟨s, hs, hs0, hs1, h⟩ := add_many n hn hN j (by omega)
    have hb : s + ((n : Int) - j) ≤ 1000000 := by
      have : (j : Int) * (2 * n + 1 - j) ≤ 300 * 601 := Int.mul_le_mul (by omega) (by omega) (by omega) (by omega)
      omega
    have h2 := add_one (n : Int) (by omega) (by omega) h ⟨by omega, by omega⟩ ⟨hs0, hs1⟩
    refine ⟨s + ((n : Int) - j), ?_, by omega, hb, ?_⟩
    · have e1 : (j : Int) * (2 * n + 1 - j) = j * (2 * n - j) + j := by rw [show (2 * (n : Int) + 1 - j) = (2 * n - j) + 1 from by omega, Int.mul_add, Int.mul_one]
      have e2 : ((j + 1 : Nat) : Int) * (2 * n + 1 - ((j + 1 : Nat) : Int)) = j * (2 * n - j) + (2 * n - j) := by rw [show ((j + 1 : Nat) : Int) = (j : Int) + 1 from by omega, show (2 * (n : Int) + 1 - ((j : Int) + 1)) = 2 * n - j from by omega, Int.add_mul, Int.one_mul]
      rw [e2]
      rw [e1] at hs
      generalize (j : Int) * (2 * n - j) = P at hs ⊢
      omega
    · have e : (n : Int) - ((j + 1 : Nat) : Int) = (n : Int) - j - 1 := by omega
      rw [e]
      exact h2
/-- it comes to their sum -/
theorem add_run (n : Nat) (hn : n ≤ 300) : ∃ s : Int, 2 * s = n * (n + 1) ∧ 0 ≤ s ∧ s ≤ 1000000 ∧ regs0.run (addM n) 5000 = (4 * n + 4, ⟨addC 0 1 s 7, ⟨(addW n).set 8 s, 8⟩, 0, 13⟩) := by
  obtain ⟨s, hs, hs0, hs1, h⟩ := add_many n hn (N := 5000) (by omega) n (Nat.le_refl _)
  have q := add_at (n : Int) (by omega)
  refine ⟨s, ?_, hs0, hs1, ?_⟩
  · rw [hs, show (2 * (n : Int) + 1 - n) = n + 1 from by omega]
  rw [Int.sub_self] at h
  have h1 := h.ins (by omega) (j := 2) rfl (by decide) (q 2 _ rfl).1 (q 2 _ rfl).2 (d' := addC 0 1 s 6) (n' := addM n) (by rfl)
  have h2 := h1.ins (by omega) (j := 6) rfl (by decide) (q 6 _ rfl).1 (q 6 _ rfl).2 (d' := addC 0 1 s 7) (n' := ⟨(addW n).set 8 s, 8⟩) (by rfl)
  have e := step_ins (c := addC 0 1 s 7) (m := ⟨(addW n).set 8 s, 8⟩) (j := 7) (i := ⟨0, 0, 0, 0, 0⟩) rfl (by decide) (by show ((addW n).set 8 s)[7]? = _; rw [List.getElem?_set_ne (by decide)]; exact (q 7 _ rfl).1) (q 7 _ rfl).2
  have e2 : (addC 0 1 s 7).exec ⟨(addW n).set 8 s, 8⟩ ⟨0, 0, 0, 0, 0⟩ = ⟨addC 0 1 s 7, ⟨(addW n).set 8 s, 8⟩, 0, 13⟩ := rfl
  have h3 := h2.out (by omega) (by rw [e, e2]; exact (show (13 : Int) ≠ 0 by decide))
  rw [h3, e, e2]
end Go.Proofs.YtcbiangocfhhlaaDoor

/-
  Plain: a program that copies words.
-/
namespace Go.Proofs.YtcbiangocfhhlaaDoor

def copyI (n : Int) : List Ins := [⟨1, 1, 0, 0, n⟩, ⟨1, 2, 0, 0, 1⟩, ⟨6, 4, 3, 0, 20⟩, ⟨7, 4, 3, 0, 60⟩, ⟨2, 3, 3, 2, 0⟩, ⟨3, 1, 1, 2, 0⟩, ⟨9, 1, 0, 0, 8⟩, ⟨8, 0, 0, 0, 2⟩, ⟨0, 0, 0, 0, 0⟩]
def copyP (n : Int) : List Int := wvs (copyI n) 9
/-- a hundred words: a of the program's, b of those to be copied, j copied -/
def bW (P l : List Int) (a b j : Nat) : List Int := (List.range 100).map fun i => if i < a then P.getD i 0 else if 20 ≤ i ∧ i < 20 + b then l.getD (i - 20) 0 else if 60 ≤ i ∧ i < 60 + j then l.getD (i - 60) 0 else 0
theorem bW_len (P l : List Int) (a b j : Nat) : (bW P l a b j).length = 100 := by simp [bW]
theorem bW_at (P l : List Int) (a b j : Nat) {i : Nat} (h : i < 100) : (bW P l a b j)[i]? = some (if i < a then P.getD i 0 else if 20 ≤ i ∧ i < 20 + b then l.getD (i - 20) 0 else if 60 ≤ i ∧ i < 60 + j then l.getD (i - 60) 0 else 0) := by
  unfold bW
  rw [List.getElem?_map, List.getElem?_range h]
  rfl
theorem bW_out (P l : List Int) (a b j : Nat) {i : Nat} (h : ¬ i < 100) : (bW P l a b j)[i]? = none := List.getElem?_eq_none (by rw [bW_len]; omega)
theorem bW_zero (P l : List Int) : bW P l 0 0 0 = List.replicate 100 0 := by
  refine List.ext_getElem? fun i => ?_
  by_cases h : i < 100
  · rw [bW_at _ _ _ _ _ h, if_neg (by omega), if_neg (by omega), if_neg (by omega), List.getElem?_replicate, if_pos h]
  · rw [bW_out _ _ _ _ _ h, List.getElem?_replicate, if_neg h]
theorem bW_a (P l : List Int) (a : Nat) (ha : a < 9) : bW P l (a + 1) 0 0 = (bW P l a 0 0).set a (P.getD a 0) := by
  refine List.ext_getElem? fun i => ?_
  rw [List.getElem?_set, bW_len]
  by_cases h : i < 100
  · rw [bW_at _ _ _ _ _ h, bW_at _ _ _ _ _ h]
    by_cases e : a = i
    · subst e
      rw [if_pos rfl, if_pos (by omega), if_pos (by omega)]
    · rw [if_neg e]
      by_cases h1 : i < a
      · rw [if_pos h1, if_pos (by omega)]
      · rw [if_neg h1, if_neg (by omega)]
  · rw [bW_out _ _ _ _ _ h, bW_out _ _ _ _ _ h, if_neg (by omega)]
theorem bW_b (P l : List Int) (b : Nat) (hb : b < 30) : bW P l 9 (b + 1) 0 = (bW P l 9 b 0).set (20 + b) (l.getD b 0) := by
  refine List.ext_getElem? fun i => ?_
  rw [List.getElem?_set, bW_len]
  by_cases h : i < 100
  · rw [bW_at _ _ _ _ _ h, bW_at _ _ _ _ _ h]
    by_cases e : 20 + b = i
    · subst e
      rw [if_pos rfl, if_neg (show ¬ 20 + b < 9 by omega), if_pos (show 20 ≤ 20 + b ∧ 20 + b < 20 + (b + 1) by omega), if_pos h, show 20 + b - 20 = b from by omega]
    · rw [if_neg e]
      by_cases h1 : i < 9
      · rw [if_pos h1, if_pos h1]
      · rw [if_neg h1, if_neg h1]
        by_cases h2 : 20 ≤ i ∧ i < 20 + b
        · rw [if_pos h2, if_pos (by omega)]
        · rw [if_neg h2, if_neg (by omega)]
  · rw [bW_out _ _ _ _ _ h, bW_out _ _ _ _ _ h, if_neg (by omega)]
theorem bW_j (P l : List Int) (n j : Nat) (hn : n ≤ 30) (hj : j < 30) : bW P l 9 n (j + 1) = (bW P l 9 n j).set (60 + j) (l.getD j 0) := by
  refine List.ext_getElem? fun i => ?_
  rw [List.getElem?_set, bW_len]
  by_cases h : i < 100
  · rw [bW_at _ _ _ _ _ h, bW_at _ _ _ _ _ h]
    by_cases e : 60 + j = i
    · subst e
      rw [if_pos rfl, if_neg (show ¬ 60 + j < 9 by omega), if_neg (show ¬ (20 ≤ 60 + j ∧ 60 + j < 20 + n) by omega), if_pos (show 60 ≤ 60 + j ∧ 60 + j < 60 + (j + 1) by omega), if_pos h, show 60 + j - 60 = j from by omega]
    · rw [if_neg e]
      by_cases h1 : i < 9
      · rw [if_pos h1, if_pos h1]
      · rw [if_neg h1, if_neg h1]
        by_cases h2 : 20 ≤ i ∧ i < 20 + n
        · rw [if_pos h2, if_pos h2]
        · rw [if_neg h2, if_neg h2]
          by_cases h3 : 60 ≤ i ∧ i < 60 + j
          · rw [if_pos h3, if_pos (by omega)]
          · rw [if_neg h3, if_neg (by omega)]
  · rw [bW_out _ _ _ _ _ h, bW_out _ _ _ _ _ h, if_neg (by omega)]
/-- what is there in the end -/
theorem bW_end (P l : List Int) (n i : Nat) (hn : n ≤ 30) (hi : i < 100) : (bW P l 9 n n).getD i 0 = if 60 ≤ i ∧ i < 60 + n then l.getD (i - 60) 0 else (bW P l 9 n 0).getD i 0 := by
  rw [List.getD_eq_getElem?_getD, bW_at _ _ _ _ _ hi, List.getD_eq_getElem?_getD (l := bW P l 9 n 0), bW_at _ _ _ _ _ hi, Option.getD_some, Option.getD_some]
  by_cases h3 : 60 ≤ i ∧ i < 60 + n
  · rw [if_pos h3, if_neg (by omega), if_neg (by omega), if_pos h3]
  · rw [if_neg h3, if_neg h3]
    by_cases h1 : i < 9
    · rw [if_pos h1, if_pos h1]
    · rw [if_neg h1, if_neg h1, if_neg (show ¬ (60 ≤ i ∧ i < 60 + 0) by omega)]
theorem bW_bd {P l : List Int} (hP : ∀ x, x ∈ P → 0 ≤ x ∧ x < 18446744073709551616) (hl : ∀ x, x ∈ l → 0 ≤ x ∧ x < 18446744073709551616) (a b j : Nat) : ∀ x, x ∈ bW P l a b j → 0 ≤ x ∧ x < 18446744073709551616 := by
  intro x hx
  obtain ⟨i, _, rfl⟩ := List.mem_map.1 hx
  split
  · exact getD_bd hP _
  · split
    · exact getD_bd hl _
    · split
      · exact getD_bd hl _
      · omega
def cpyM (l : List Int) (j : Nat) : Fl := ⟨bW (copyP l.length) l 9 l.length j, 60⟩
theorem copy_ok (n : Int) (hn : 0 ≤ n ∧ n ≤ 30) (j : Nat) (i : Ins) (h : (copyI n)[j]? = some i) : i.Ok := by
  have hj : j < 9 := (List.getElem?_eq_some_iff.1 h).1
  have hd : j = 0 ∨ j = 1 ∨ j = 2 ∨ j = 3 ∨ j = 4 ∨ j = 5 ∨ j = 6 ∨ j = 7 ∨ j = 8 := by omega
  rcases hd with rfl | rfl | rfl | rfl | rfl | rfl | rfl | rfl | rfl <;> (injection h with h; subst h)
  · exact ok_imm (by decide) (by omega)
  all_goals exact (Ins.right_iff _).1 (by decide)
theorem copy_at (l : List Int) (hl : l.length ≤ 30) (q j : Nat) (i : Ins) (h : (copyI l.length)[j]? = some i) : (cpyM l q).W[j]? = some i.word ∧ i.Ok := by
  have hj : j < 9 := (List.getElem?_eq_some_iff.1 h).1
  have hok := copy_ok l.length (by omega) j i h
  refine ⟨?_, hok⟩
  show (bW (copyP l.length) l 9 l.length q)[j]? = _
  rw [bW_at _ _ _ _ _ (by omega), if_pos hj, ← wv_ok hok]
  congr 1
  unfold copyP wvs
  rw [List.getD_eq_getElem?_getD, List.getElem?_map, List.getElem?_take, if_pos hj, h]
  rfl
def cc (a y r p : Int) : Cp := ⟨[0, a, 1, r, y, 0, 0, 0], p⟩
theorem adr_in {x : Int} (h : 0 ≤ x ∧ x < 65536) : adr (IntKind.u64.wrap x) = x := by rw [wrap_in (by omega)]; unfold adr; omega
theorem cpy_in (l : List Int) (j : Nat) (a : Nat) (h : a < 100) : (cpyM l j).isIn (a : Int) = true := by
  unfold Fl.isIn
  exact decide_eq_true ⟨by omega, by show (a : Int) < ((bW (copyP l.length) l 9 l.length j).length : Int); rw [bW_len]; omega⟩
theorem exec_load {c : Cp} {m : Fl} {u : Ins} {a : Int} (h : u.op = 6) (ea : adr (IntKind.u64.wrap (c.reg u.b + u.m)) = a) (h0 : m.ldE a = 0) : c.exec m u = ⟨c.set u.a (m.ld a) c.next, m, 0, 0⟩ := by
  unfold Cp.exec
  rw [h]
  simp only [show Int.toNat 6 = 6 from rfl, ea]
  rw [if_pos h0]
theorem exec_store {c : Cp} {m : Fl} {u : Ins} {a : Int} (h : u.op = 7) (ea : adr (IntKind.u64.wrap (c.reg u.b + u.m)) = a) (h0 : m.stE a = 0) : c.exec m u = ⟨⟨c.R, c.next⟩, m.st a (c.reg u.a), 0, 0⟩ := by
  unfold Cp.exec
  rw [h]
  simp only [show Int.toNat 7 = 7 from rfl, ea]
  rw [if_pos h0]
/-- to the word behind a copy: five steps -/
theorem cpy_one (l : List Int) (hl : l.length ≤ 30) {N k j : Nat} (hk : k + 5 ≤ N) (hj : j < l.length) {y : Int} (h : regs0.At (cpyM l 0) N k (cc (l.length - j) y j 2) (cpyM l j)) :
    regs0.At (cpyM l 0) N (k + 5) (cc ((l.length : Int) - j - 1) (l.getD j 0) ((j : Int) + 1) (if (l.length : Int) - j - 1 = 0 then 8 else 7)) (cpyM l (j + 1)) := by
  have q := fun q => copy_at l hl q
  have e20 : adr (IntKind.u64.wrap ((j : Int) + 20)) = ((20 + j : Nat) : Int) := by rw [adr_in (by omega)]; omega
  have e60 : adr (IntKind.u64.wrap ((j : Int) + 60)) = ((60 + j : Nat) : Int) := by rw [adr_in (by omega)]; omega
  have g20 : (cpyM l j).ld ((20 + j : Nat) : Int) = l.getD j 0 := by
    unfold Fl.ld
    rw [if_pos (cpy_in l j _ (by omega)), Int.toNat_natCast]
    show (bW (copyP l.length) l 9 l.length j).getD (20 + j) 0 = _
    rw [List.getD_eq_getElem?_getD, bW_at _ _ _ _ _ (by omega), if_neg (by omega), if_pos (by omega), show 20 + j - 20 = j from by omega]
    rfl
  have l20 : (cpyM l j).ldE ((20 + j : Nat) : Int) = 0 := by unfold Fl.ldE; rw [if_pos (cpy_in l j _ (by omega))]
  have s60 : (cpyM l j).stE ((60 + j : Nat) : Int) = 0 := by
    unfold Fl.stE
    rw [if_pos (cpy_in l j _ (by omega)), if_neg (by show ¬ ((60 + j : Nat) : Int) < 60; omega)]
  have t60 : (cpyM l j).st ((60 + j : Nat) : Int) (l.getD j 0) = cpyM l (j + 1) := by
    unfold Fl.st
    rw [if_pos s60, Int.toNat_natCast]
    unfold cpyM
    rw [bW_j _ _ _ _ hl (by omega)]
  have h1 := h.ins (by omega) (j := 2) rfl (by decide) (q j 2 _ rfl).1 (q j 2 _ rfl).2 (d' := cc (l.length - j) (l.getD j 0) j 3) (n' := cpyM l j) (by
    rw [exec_load (c := cc (l.length - j) y j 2) (m := cpyM l j) (u := ⟨6, 4, 3, 0, 20⟩) (a := ((20 + j : Nat) : Int)) rfl e20 l20, g20]
    rfl)
  have h2 := h1.ins (by omega) (j := 3) rfl (by decide) (q j 3 _ rfl).1 (q j 3 _ rfl).2 (d' := cc (l.length - j) (l.getD j 0) j 4) (n' := cpyM l (j + 1)) (by
    rw [exec_store (c := cc (l.length - j) (l.getD j 0) j 3) (m := cpyM l j) (u := ⟨7, 4, 3, 0, 60⟩) (a := ((60 + j : Nat) : Int)) rfl e60 s60, show (cc (l.length - j) (l.getD j 0) j 3).reg 4 = l.getD j 0 from rfl, t60]
    rfl)
  have h3 := h2.ins (by omega) (j := 4) rfl (by decide) (q (j + 1) 4 _ rfl).1 (q (j + 1) 4 _ rfl).2 (d' := cc (l.length - j) (l.getD j 0) ((j : Int) + 1) 5) (n' := cpyM l (j + 1)) (by
    show (⟨⟨[0, (l.length : Int) - j, 1, IntKind.u64.wrap ((j : Int) + 1), l.getD j 0, 0, 0, 0], _⟩, _, 0, 0⟩ : St) = _
    rw [wrap_in (by omega)]
    rfl)
  have h4 := h3.ins (by omega) (j := 5) rfl (by decide) (q (j + 1) 5 _ rfl).1 (q (j + 1) 5 _ rfl).2 (d' := cc ((l.length : Int) - j - 1) (l.getD j 0) ((j : Int) + 1) 6) (n' := cpyM l (j + 1)) (by
    show (⟨⟨[0, IntKind.u64.wrap ((l.length : Int) - j - 1), 1, (j : Int) + 1, l.getD j 0, 0, 0, 0], _⟩, _, 0, 0⟩ : St) = _
    rw [wrap_in (by omega)]
    rfl)
  exact h4.ins (by omega) (j := 6) rfl (by decide) (q (j + 1) 6 _ rfl).1 (q (j + 1) 6 _ rfl).2 (by rfl)
theorem cpy_many (l : List Int) (hl : l.length ≤ 30) {N : Nat} (hN : 6 * l.length + 2 ≤ N) : ∀ j, j < l.length → ∃ y, regs0.At (cpyM l 0) N (6 * j + 2) (cc (l.length - j) y j 2) (cpyM l j)
  | 0, h0 => by
    have q := fun q => copy_at l hl q
    have h1 := (regs0.at_zero (cpyM l 0) N).ins (by omega) (j := 0) rfl (by decide) (q 0 0 _ rfl).1 (q 0 0 _ rfl).2 (d' := ⟨[0, l.length, 0, 0, 0, 0, 0, 0], 1⟩) (n' := cpyM l 0) (by rfl)
    have h2 := h1.ins (by omega) (j := 1) rfl (by decide) (q 0 1 _ rfl).1 (q 0 1 _ rfl).2 (d' := cc l.length 0 0 2) (n' := cpyM l 0) (by rfl)
    exact ⟨0, by simpa using h2⟩
  | j + 1, hj => by
    obtain ⟨y, h⟩ := cpy_many l hl hN j (by omega)
    have h5 := cpy_one l hl (by omega) (by omega) h
    rw [if_neg (by omega)] at h5
    have q := fun q => copy_at l hl q
    have h6 := h5.ins (by omega) (j := 7) rfl (by decide) (q (j + 1) 7 _ rfl).1 (q (j + 1) 7 _ rfl).2 (d' := cc ((l.length : Int) - j - 1) (l.getD j 0) ((j : Int) + 1) 2) (n' := cpyM l (j + 1)) (by rfl)
    refine ⟨l.getD j 0, ?_⟩
    rw [show (l.length : Int) - ((j + 1 : Nat) : Int) = (l.length : Int) - j - 1 from by omega, show ((j + 1 : Nat) : Int) = (j : Int) + 1 from by omega]
    exact h6
/-- all are copied -/
theorem cpy_run (l : List Int) (h0 : 1 ≤ l.length) (hl : l.length ≤ 30) : ∃ y, (regs0.run (cpyM l 0) 1000).2 = ⟨cc 0 y l.length 8, cpyM l l.length, 0, 13⟩ := by
  obtain ⟨y, h⟩ := cpy_many l hl (N := 1000) (by omega) (l.length - 1) (by omega)
  have h5 := cpy_one l hl (by omega) (by omega) h
  rw [if_pos (by omega), show (l.length : Int) - ((l.length - 1 : Nat) : Int) - 1 = 0 from by omega, show ((l.length - 1 : Nat) : Int) + 1 = l.length from by omega, show l.length - 1 + 1 = l.length from by omega] at h5
  have q := copy_at l hl l.length 8 _ rfl
  have e := step_ins (c := cc 0 (l.getD (l.length - 1) 0) l.length 8) (j := 8) rfl (by decide) q.1 q.2
  have e2 : (cc 0 (l.getD (l.length - 1) 0) l.length 8).exec (cpyM l l.length) ⟨0, 0, 0, 0, 0⟩ = ⟨cc 0 (l.getD (l.length - 1) 0) l.length 8, cpyM l l.length, 0, 13⟩ := rfl
  have h6 := h5.out (by omega) (by rw [e, e2]; exact (show (13 : Int) ≠ 0 by decide))
  rw [h6, e, e2]
  exact ⟨_, rfl⟩
end Go.Proofs.YtcbiangocfhhlaaDoor

/-
  CpuSums, over what the laws ask of Run.
-/
namespace Go.Proofs.YtcbiangocfhhlaaDoor
open Go.ChangeShapes Go.WideShapes Go.ChangeAt Go.RowKit

theorem wvs_ok (L : List Ins) (k : Nat) (first : Int) (hk : k ≤ 1000) : Fl.Ok ⟨wvs L k, first⟩ := by
  refine ⟨?_, fun x hx => ?_⟩
  · show ((L.take k).map Ins.wv).length ≤ 1000
    rw [List.length_map, List.length_take]
    omega
  · obtain ⟨i, _, rfl⟩ := List.mem_map.1 hx
    unfold Ins.wv
    split
    · rename_i h
      have := Ins.word_bd ((Ins.right_iff i).1 h)
      omega
    · omega
set_option maxRecDepth 100000 in
set_option maxHeartbeats 4000000 in
theorem cpusums_any (gr : GRun) (n : Int) (w : World) (hT : Tabs w) : Calls Tryd.prog 7 #[.int .i64 n] w fun e w' => e = .returned (.bool true) ∧ Upd (fun _ => False) w w' := by
  have HT := Lib.hid hT
  have GR := Lib.hid gr
  clear hT gr
  go_enter Tryd.func7, Tryd.ntmps7
  go_wp2_with fail
  refine (cpawake_any GR.out w HT.out).mono ?_
  rintro e w1 ⟨rfl, u1⟩
  have U1 := Lib.hid u1
  clear u1
  by_cases b1 : n < 0
  · go_wp2
    go_ret
    exact ⟨rfl, U1.out⟩
  replace b1 : 0 ≤ n := by omega
  by_cases b2 : 300 < n
  · go_wp2
    go_ret
    exact ⟨rfl, U1.out⟩
  replace b2 : n ≤ 300 := by omega
  obtain ⟨n, rfl⟩ := Int.eq_ofNat_of_zero_le b1
  obtain ⟨s, hs, hs0, hs1, hrun⟩ := add_run n (by omega)
  replace hrun := Lib.hid hrun
  go_wp2_with fail
  have U2 := Lib.hid (U1.out.alloc (.cells ((addI n).flatMap Ins.cs).toArray 50))
  refine (wwords_any w1.heap.size 0 9 (addI n) _ (rows_ins _ _ _ (heap_alloc_last w1 (.cells ((addI n).flatMap Ins.cs).toArray 50))) (by show 9 ≤ 100000; decide) (by simp)).mono ?_
  rintro e w3 ⟨v, rfl, hv, u3⟩
  have U3 := Lib.hid (U2.out.trans u3)
  have V3 := Lib.hid (show w3.ownsRow _ _ _ _ _ (ints .u64 (addW n)) from hv)
  obtain ⟨o, cap, rfl⟩ := rows_slice hv
  clear hv u3 U2 U1
  go_wp2_with fail
  have R4 := Lib.hid (show RegsAt (w3.alloc (.cells (ints .u64 (regs0.R ++ [regs0.pc])).toArray 25)) w3.heap.size regs0 from heap_alloc_last w3 _)
  have u4 := (Upd.refl (fun _ => False) w3).alloc (.cells (ints .u64 (regs0.R ++ [regs0.pc])).toArray 25)
  have V4 := Lib.hid (rows_still V3.out u4)
  have U4 := Lib.hid (U3.out.trans u4)
  have hA := Lib.hid U3.out.size
  have hlt := Lib.hid (show ∀ b, (Value.slice o (addI (n : Int)).length cap).ownBlock = some b → b < w3.heap.size + 1 from fun b hb => by have := (V3.out.lt b hb).2; omega)
  clear U3 V3 u4
  generalize hw4 : w3.alloc (.cells (ints .u64 (regs0.R ++ [regs0.pc])).toArray 25) = w4 at R4 V4 U4
  have hs4 : w4.heap.size = w3.heap.size + 1 := by rw [← hw4]; simp
  show Calls Tryd.prog 11 #[.slice o (addW n).length cap, .int .i64 8] (w3.alloc (.cells (ints .u64 (regs0.R ++ [regs0.pc])).toArray 25)) _
  rw [hw4]
  clear hw4
  rw [← hs4] at hlt
  generalize w3.heap.size = A at hA R4 ⊢
  clear hs4
  refine (of_any o cap (addW n) 8 w4 (fun _ => Src.of_row V4.out) (by show 9 ≤ 100000; decide) (fun _ => hlt.out)).mono ?_
  rintro e w5 ⟨B, v, rfl, F5, u5, hB⟩
  have C5 := Lib.hid (Cpu.made HT.out U4.out hA.out R4.out regs0_ok (show Fl.Ok ⟨addW n, 8⟩ from wvs_ok _ 9 8 (by decide)) F5 u5 hB)
  clear R4 V4 F5 u5 hB hA hlt U4 HT
  go_wp2_with fail
  refine (GR.out w w5 A B v _ regs0 (addM n) [] 5000 C5.out (by decide) (by decide)).mono ?_
  rintro e w6 ⟨rfl, vl, C6, u6, -⟩
  have U6 := Lib.hid (C5.out.onto u6)
  rw [show (5000 : Int).toNat = 5000 from rfl, hrun.out] at C6 ⊢
  have c1 := C6.regs.reg C6.ok 3 (by decide) (by decide)
  have c2 := C6.regs.pc C6.ok
  rw [show Int.toNat 3 = 3 from rfl, show (addC 0 1 s 7).reg 3 = s from rfl] at c1
  obtain ⟨og, cg, rfl⟩ := rows_slice C6.fl.row
  have c3 : w6.cell? ⟨B, 0, none⟩ = some (.slice og 9 cg) := by rw [cell_of_row _ _ _ _ _ _ C6.fl.at_]; rfl
  have hrow : w6.ownsRow w.heap.size 22 1 (.slice og 9 cg) 9 (ints .u64 ((addW n).set 8 s)) := C6.fl.row
  obtain ⟨g, rfl, hc⟩ := rows_at hrow (by decide)
  have c4 := hc 8 _ (ints_at ((addW n).set 8 s) 8 (by rw [List.length_set]; exact (by decide : 8 < 9)))
  rw [show ((addW n).set 8 s).getD 8 0 = s from rfl] at c4
  clear C5 C6 u6 hc hrow hrun GR
  simp only at c1 c2 ⊢
  have hm : (n : Int) * ((n : Int) + 1) = 2 * s := hs.symm
  clear hs
  go_wp2_with fail
  go_ret
  exact ⟨rfl, U6.out⟩
end Go.Proofs.YtcbiangocfhhlaaDoor
