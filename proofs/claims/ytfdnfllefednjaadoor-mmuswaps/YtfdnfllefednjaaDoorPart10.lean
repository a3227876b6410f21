/-
  Texts that the laws stand on, joined: BgQ, TsA, TsC, MmZ, TbX, TbY, TpA, MmG.
-/
import Derived.Deep.QuietTactic
import Derived.Test.YtfdnfllefednjaaDoorPart9

/-
  Both allocators side by side: the program's and the document's own, over the same words, in the same state.
-/
namespace Go.Proofs.YtfdnfllefednjaaDoor.buddyPlays
open Go.ChangeShapes Go.WideShapes Go.ChangeAt Go.RowKit Go.Maps

/-- the same memory elsewhere -/
def re (m : Mem) (B : Nat) : Mem := { m with B := B }
theorem re_wr (m : Mem) (B : Nat) (a v : Int) : (re m B).wr a v = re (m.wr a v) B := by
  unfold Mem.wr
  show (if m.has a then _ else _) = _
  split <;> rfl
theorem re_scrub (m : Mem) (B : Nat) (f k : Int) : (re m B).scrub f k = re (m.scrub f k) B := by
  unfold Mem.scrub
  show (if m.ex f k then _ else _) = _
  split <;> rfl
theorem re_has (m : Mem) (B : Nat) (a : Int) : (re m B).has a = m.has a := rfl
theorem re_rd (m : Mem) (B : Nat) (a : Int) : (re m B).rd a = m.rd a := rfl
theorem re_new (B B' n : Nat) : memNew B' n = re (memNew B n) B' := rfl
theorem re_B (m : Mem) (B : Nat) : (re m B).B = B := rfl
theorem re_n (m : Mem) (B : Nat) : (re m B).n = m.n := rfl
theorem box4 {w : World} {b t : Nat} {x y z u : Value} (h : w.heap[b]? = some (.cells #[x, y, z, u] t (0, 0))) : w.cell? ⟨b, 0, none⟩ = some x ∧ w.cell? ⟨b, 1, none⟩ = some y ∧ w.cell? ⟨b, 2, none⟩ = some z ∧ w.cell? ⟨b, 3, none⟩ = some u := by
  refine ⟨?_, ?_, ?_, ?_⟩ <;> (rw [cell_of_row w b _ _ _ _ h]; rfl)
theorem ty2 {w : World} {a b t t' : Nat} {c c' : Array Value} (h : w.heap[a]? = some (.cells c t (0, 0))) (h' : w.heap[b]? = some (.cells c' t' (0, 0))) (ht : t ≠ t') : a ≠ b := by
  intro e
  rw [e, h'] at h
  simp at h
  exact ht h.2.symm
theorem map2 {w : World} {A MA GB t b : Nat} {bu : Bud} {c : Array Value} (h : BudAt w A MA GB bu) (h' : w.heap[b]? = some (.cells c t (0, 0))) : b ≠ GB := by
  obtain ⟨D, ⟨es, cl, hb, _⟩, _⟩ := h.mp
  intro e
  rw [e, hb] at h'
  cases h'
theorem rowmap {w : World} {A MA GB base sz k : Nat} {e : TypeId} {v : Value} {xs : List Value} {bu : Bud} (h : BudAt w A MA GB bu) (hr : w.ownsRow base e sz v k xs) : ∀ j, v.ownBlock = some j → ¬ j = GB := by
  intro j hj
  rcases hr.2 with ⟨rfl, _⟩ | ⟨g, cap, cur, rfl, _, hgg, _⟩
  · simp [Value.ownBlock] at hj
  · have : j = g := by simpa [Value.ownBlock] using hj.symm
    rw [this]
    exact map2 h hgg
variable {w0 w w1 w2 : World} {A MA GB MB RA RB C FB : Nat} {g g' : Value} {m m' : Mem} {b b' : Bud}
theorem bfree_no (A MA GB : Nat) (m : Mem) (b : Bud) (f o : Int) (w : World) (h : Duo w A MA GB m b) (hwf : (Lit.int .i64 f).wf = true) (hno : ∀ x, x ∈ b.gave → isB x f o = false) :
    Calls Tryd.prog 92 #[.pointer (some ⟨A, 0, none⟩), .int .i64 f, .int .i64 o] w fun e w' => e = .returned (.int .i64 2) ∧ w = w' := by
  refine (bFree_any A MA GB m b f o w h.B h.M hwf).mono ?_
  rintro e w' (⟨_, rfl, rfl⟩ | ⟨y, hy, e1, e2, _⟩)
  · exact ⟨rfl, rfl⟩
  · have := hno y hy
    rw [show isB y f o = true from decide_eq_true ⟨e1, e2⟩] at this
    cases this
theorem op_kept {w w1 w2 : World} {GB MB C FB RB OB : Nat} {x : Obj} (hx : w.heap[OB]? = some x) (u1 : Upd (fun k => k = GB ∨ k = MB) w w1) (u2 : Upd (fun k => k = C ∨ k = FB ∨ k = RB) w1 w2) (v1 : OB ≠ GB) (v2 : OB ≠ MB) (v3 : OB ≠ C) (v4 : OB ≠ FB) (v5 : OB ≠ RB) : w2.heap[OB]? = some x :=
  u2.at (u1.at hx (by rintro (e | e); exact v1 e; exact v2 e)) (by rintro (e | e | e); exact v3 e; exact v4 e; exact v5 e)
theorem op_kept1 {w w1 : World} {GB MB OB : Nat} {x : Obj} (hx : w.heap[OB]? = some x) (u1 : Upd (fun k => k = GB ∨ k = MB) w w1) (v1 : OB ≠ GB) (v2 : OB ≠ MB) : w1.heap[OB]? = some x :=
  u1.at hx (by rintro (e | e); exact v1 e; exact v2 e)

/-- a remainder in a region that draws, ahead of its tail -/
theorem wpStill_rem {P : Program} {ops : Array Oper} {rest : List Oper} {op : Oper} {a : Act} {w : World} {Q : Act → Prop} (hw : Region.wanted op (yielded ops a.tmps) = true) (t u : TypeId) (x y : Operand) (ho : op.op = .binOp .rem t x y u)
    (n l : Nat) (hl : 0 < l) (hx : a.eval x = .int .i64 (n : Int)) (hy : a.eval y = .int .i64 (l : Int)) (q : Nat) (hq : n % l = q) (h : wpStill P ops w Q rest (a.put op.dst (.int .i64 (q : Int)))) : wpStill P ops w Q (op :: rest) a := by
  refine wpStill_step fun K hK => ?_
  rw [if_pos hw]
  unfold Oper.still execOp
  have e : (n : Int).tmod (l : Int) = (q : Int) := by rw [Int.tmod_eq_emod_of_nonneg (by omega), ← hq]; omega
  simp only [ho, hx, hy, eqGuard_rem, binOp_rem, Sem.run_bind, Sem.run_pure, Result.andThen_ok, Op.intDiv]
  simp only [e]
  simp [show ¬ l = 0 by omega]
  exact ⟨rfl, hK _ h⟩
end Go.Proofs.YtfdnfllefednjaaDoor.buddyPlays

/-
  Both spaces side by side: Protect, Unmap.
-/
namespace Go.Proofs.YtfdnfllefednjaaDoor
open Go.ChangeShapes Go.WideShapes Go.ChangeAt Go.RowKit Go.Shelf Go.Sort

theorem own_map {w : World} {A MA GB base sz k : Nat} {e : TypeId} {v : Value} {xs : List Value} {bu : Bud} (h : BudAt w A MA GB bu) (hr : w.ownsRow base e sz v k xs) : ∀ j, v.ownBlock = some j → ¬ j = GB := by
  intro j hj
  obtain ⟨D, ⟨es, cl, hb, _⟩, _⟩ := h.mp
  rcases hr.2 with ⟨rfl, _⟩ | ⟨g, cap, cur, rfl, _, hgg, _⟩
  · simp [Value.ownBlock] at hj
  · simp only [Value.ownBlock, Option.some.injEq] at hj
    subst hj
    intro e
    rw [e, hb] at hgg
    cases hgg
/-- what both steps turn -/
def TwS (GB MB C BC FB DB : Nat) : Nat → Prop := fun k => k = GB ∨ k = MB ∨ k = C ∨ k = BC ∨ k = FB ∨ k = DB
end Go.Proofs.YtfdnfllefednjaaDoor

/-
  Both spaces side by side: the beginning.
-/
namespace Go.Proofs.YtfdnfllefednjaaDoor
open Go.ChangeShapes Go.WideShapes Go.ChangeAt Go.RowKit Go.Shelf Go.Sort

theorem new_word0 (B n : Nat) (g p : Nat) (_ : g < (memNew B n).n) (_ : p < 16) : (memNew B n).word (g : Nat) (p : Nat) = 0 := by
  unfold Mem.word
  show (List.replicate (16 * n) (0 : Int)).getD _ 0 = 0
  exact getD_replicate0 _ _
theorem spc_new_z {w : World} {MA A GB MB : Nat} {m : Mem} {b : Bud} (hz : ∀ g p : Nat, g < m.n → p < 16 → m.word (g : Nat) (p : Nat) = 0) (hd : Duo w A MA GB m b) (T : Tab w) (hB : m.B = MB) (hg : m.good) {Y : Nat × Nat → Prop} (hY : ∀ x, x ∈ b.gave ↔ Y x) (y0 : ∀ x, Y x → x.2 = 0) :
    Calls Tryd.prog 38 #[.pointer (some ⟨MA, 0, none⟩), .pointer (some ⟨A, 0, none⟩)] w fun e w' =>
      (b.left < 1 ∧ e = .returned (.tuple #[.pointer none, .int .i64 6]) ∧ Upd (fun _ => False) w w') ∨
      (1 ≤ b.left ∧ ∃ S s m', w.heap.size ≤ S ∧ e = .returned (.tuple #[.pointer (some ⟨S, 0, none⟩), .int .i64 0]) ∧ Spc w' S MA A GB MB s m' (b.al 1).2 Y ∧ Upd (fun k => k = GB ∨ k = MB) w w' ∧ m'.n = m.n ∧ s.root = ((b.al 1).1.getD 0 0 : Nat) ∧ (∀ l d, s.E l d = En.zero) ∧ SameW Y m m' ∧ Zs s m') := by
  refine (snew_any MA A GB m b w hd).mono ?_
  rintro e w' (⟨h0, rfl, u⟩ | ⟨h0, S, hS, rfl, s0, d, u⟩)
  · exact .inl ⟨h0, rfl, u⟩
  · rw [hB] at u
    obtain ⟨hI, hw⟩ := SpInv.new hd.M.okm hg hd.B.ok hd.n h0 hY y0
    have ha := al_ok hd.B.ok 1 h0
    have hn := hd.n
    refine .inr ⟨h0, S, _, _, hS, rfl, ⟨s0, d, T.keptS u ?_, hI, by rw [Mem.clears_B]; exact hB⟩, u, Mem.clears_n _ _, rfl, fun _ _ => rfl, hw, fun g p hg' hp _ => ?_⟩
    · rintro (e | e)
      · exact T.apartG hd.B e
      · exact T.apart hd.M (e.trans hB.symm)
    · rw [Mem.clears_n] at hg'
      rw [Mem.clears_word m hd.M.okm _ (fun f hf => by have := (ha.fr f hf).1; omega) g p hg' hp]
      split
      · rfl
      · exact hz g p hg' hp
theorem none_on {s : Sp} (hE : ∀ l d, s.E l d = En.zero) (l d : Nat) : s.on l d = true ↔ l = 0 ∧ d = 0 := by
  cases l with
  | zero => exact ⟨fun h => ⟨rfl, by simpa [Sp.on] using h⟩, fun h => by simp [Sp.on, h.2]⟩
  | succ l => rw [Sp.onS, hE]; exact ⟨fun h => (by cases h), fun h => (by omega)⟩
end Go.Proofs.YtfdnfllefednjaaDoor

/-
  A unit that goes by a space of its own: two pages of one frame.
-/
namespace Go.Proofs.YtfdnfllefednjaaDoor
open Go.ChangeShapes Go.WideShapes Go.ChangeAt Go.RowKit Go.Shelf Go.Sort

set_option maxRecDepth 100000 in
set_option maxHeartbeats 2000000 in
theorem uspace_z (w : World) (T : Tab w) :
    Calls Tryd.prog 29 #[.int .i64 64] w fun e w' => ∃ (S MA A GB MB U BA : Nat) (s : Sp) (m : Mem) (b : Bud), e = .returned (.tuple #[.pointer (some ⟨MA, 0, none⟩), .pointer (some ⟨BA, 0, none⟩), .pointer (some ⟨S, 0, none⟩), .pointer (some ⟨U, 0, none⟩)]) ∧
      Uni w' S MA A GB MB U BA s m b Yu s.root 1 buf0 ∧ UniK s m b 1 buf0 ∧ Zs s m ∧ (∀ l d, s.E l d = En.zero) ∧ b = ((bud0 64 32).al 1).2 ∧ UniNew w.heap.size S MA A GB MB U BA ∧ Upd (fun _ => False) w w' := by
  go_enter Tryd.func29, Tryd.ntmps29
  go_wp2_with fail
  refine (new_yes 64 _ (by omega) (by omega)).mono ?_
  rintro e w1 ⟨rfl, m1, u1, s1⟩
  have M1 := Lib.hid m1
  have V1 := Lib.hid u1
  have S1 := Lib.hid s1
  clear m1 u1 s1
  go_wp2_with fail
  refine (bNew_yes _ _ 32 _ M1.out (by show 32 ≤ 64; omega)).mono ?_
  rintro e w2 ⟨rfl, b2, u2, s2⟩
  have T2 := Lib.hid (T.kept (V1.out.trans u2))
  have D2 := Lib.hid (show Duo w2 (w1.heap.size + 1) (w.heap.size + 1) w1.heap.size (memNew w.heap.size 64) (bud0 64 32) from ⟨b2, M1.out.kept u2 id id, rfl⟩)
  have V2 := Lib.hid (V1.out.trans u2)
  have S2 := Lib.hid s2
  have hz := Lib.hid (show w.heap.size ≤ w.heap.size + 1 ∧ w.heap.size ≤ w1.heap.size ∧ w.heap.size ≤ w1.heap.size + 1 ∧ w1.heap.size + 1 < w2.heap.size ∧ w.heap.size + 1 < w2.heap.size ∧ w1.heap.size < w2.heap.size from by have := S1.out; have := S2.out; omega)
  clear b2 u2 s2 M1 V1 S1 S2
  have HB := Lib.hid (show (memNew w.heap.size 64).B = w.heap.size from rfl)
  have hg := Lib.hid (Mem.new_good w.heap.size 64)
  have hmn : Hid ((memNew w.heap.size 64).n = 64) := Lib.hid rfl
  have hz0 := Lib.hid (fun g p hg hp => new_word0 w.heap.size 64 g p hg hp)
  generalize hA : w1.heap.size + 1 = A at D2 hz ⊢
  generalize hMA : w.heap.size + 1 = MA at D2 hz ⊢
  generalize hGB : w1.heap.size = GB at D2 hz
  generalize memNew w.heap.size 64 = m0 at D2 HB hg hmn hz0
  clear hA hMA hGB
  go_wp2_with fail
  refine (spc_new_z hz0.out D2.out T2.out HB.out hg.out (Y := Yu) (fun x => by unfold Yu; simp [bud0]) (fun x h => h.elim)).mono ?_
  rintro e w3 (⟨h0, rfl, u3⟩ | ⟨h0, S, s, m, hS, rfl, P3, u3, n3, r3, z3, -, zs3⟩)
  · rw [bud64_left] at h0
    omega
  have A1 := al_ok bud64_ok 1 (by rw [bud64_left]; omega)
  have P := Lib.hid P3
  have hSl := Lib.hid (show w2.heap.size ≤ S ∧ S < w3.heap.size ∧ w2.heap.size ≤ w3.heap.size from ⟨hS, P3.lts.1, u3.size⟩)
  have V3 := Lib.hid (V2.out.since u3 (by rintro k (rfl | rfl) <;> (have := hz.out; omega)))
  have N3 := Lib.hid (n3.trans hmn.out)
  have Z3 := Lib.hid z3
  have ZS := Lib.hid zs3
  have R3 := Lib.hid (show ((bud0 64 32).al 1).2.res = 32 from A1.res)
  clear P3 u3 n3 z3 zs3 r3 hS h0 D2 T2 V2 A1 hz0
  generalize hb : ((bud0 64 32).al 1).2 = b at P R3
  have Hb := Lib.hid hb.symm
  clear hb
  go_wp2_with fail
  refine (tnew_any w3).mono ?_
  rintro e w4 ⟨BA, rfl, hBA, b4, u4⟩
  have B4 := Lib.hid b4
  have HBA := Lib.hid (show w3.heap.size ≤ BA ∧ BA < w4.heap.size from ⟨hBA, b4.lt⟩)
  have P4 := Lib.hid (P.out.still u4)
  have V4 := Lib.hid (V3.out.trans u4)
  have L4 := Lib.hid (show w3.heap.size ≤ w4.heap.size from u4.size)
  clear b4 u4 hBA P V3
  go_wp2_with fail
  refine (unew_any MA BA w4).mono ?_
  rintro e w5 ⟨rfl, x5, u5⟩
  have X5 := Lib.hid x5
  have P5 := Lib.hid (P4.out.still u5)
  have B5 := Lib.hid (B4.out.kept u5 id)
  have V5 := Lib.hid (V4.out.trans u5)
  have hNq := Lib.hid (show UNq w4.heap.size BA S MA A GB w.heap.size ∧ UniNew w.heap.size S MA A GB w.heap.size w4.heap.size BA from by
    have l1 := hz.out
    have l2 := hSl.out
    have l3 := HBA.out
    have l4 := L4.out
    have l5 := P4.out.lts
    have l6 : 0 < w.heap.size := World.block_lt_of_cell? w _ (T 0 (by omega)).1
    refine ⟨⟨by omega, ?_⟩, by omega, by omega, by omega, by omega, by omega, by omega, by omega⟩
    rintro i (rfl | rfl | rfl | rfl | rfl | rfl) <;> omega)
  generalize w4.heap.size = U at X5 hNq ⊢
  clear x5 u5 P4 B4 V4 HBA L4 hSl hz
  go_wp2_with fail
  refine (spc_root P5.out).mono ?_
  rintro e w6 ⟨rfl, rfl⟩
  have hub := Lib.hid (show useB m s.root 1 = true from by
    have h1 := P5.out.I.ok.rlo
    have h2 := P5.out.I.ok.rhi
    unfold useB Mem.ex
    simp; omega)
  go_wp2_with fail
  refine (uuse_any U MA BA 0 0 s.root 1 m w5 X5.out P5.out.D.M).mono ?_
  rintro e w7 ⟨rfl, x7, u7⟩
  rw [hub.out, if_pos rfl, if_pos rfl] at x7
  rw [if_pos hub.out]
  have g := hNq.out.1.u
  have P7 := Lib.hid (P5.out.kept u7 (Ne.symm (g S (.inl rfl)).1) (Ne.symm (g A (.inr (.inr (.inl rfl)))).1) (Ne.symm (g GB (.inr (.inr (.inr (.inl rfl))))).1) (Ne.symm (g MA (.inr (.inl rfl))).1) (Ne.symm (g _ (.inr (.inr (.inr (.inr (.inl rfl)))))).1) (Ne.symm (g _ (.inr (.inr (.inr (.inr (.inr rfl)))))).1))
  have B7 := Lib.hid (B5.out.kept u7 (Ne.symm hNq.out.1.ub))
  have X7 := Lib.hid x7
  have V7 := Lib.hid (V5.out.since u7 (by rintro k rfl; exact hNq.out.2.u))
  clear x7 u7 g P5 B5 X5 V5
  go_wp2
  (try simp only [Exit.inBlock, Exit.then])
  refine bodyPost_ret (results_tmp4 rfl _ _ _) rfl ?_
  exact ⟨S, MA, A, GB, w.heap.size, U, BA, s, m, b, rfl, ⟨P7.out, X7.out, B7.out, buf0_ok, hNq.out.1⟩, ⟨N3.out, R3.out, (fun q hv => by rw [Z3.out] at hv; cases hv), BInv.empty _ _⟩, ZS.out, Z3.out, Hb.out, hNq.out.2, V7.out⟩

theorem told_at {s : Sp} {m : Mem} {b : Bud} {Y : Nat × Nat → Prop} (I : SpInv s m b Y) {B : Buf} (hB : BInv s 1 B) {R0 : Int} (hR : s.root = R0) (q pl : Nat) (hq : q < 4096) (hp : pl < 16) (at' : Int) (t0 : 0 ≤ at') (t1 : at' < 8) (v : Int) :
    ((s.E 3 q).v = true → uX m B R0 1 (16 * (q : Int) + pl) false at' = 0 ∧ uX m B R0 1 (16 * (q : Int) + pl) true at' = (if (s.E 3 q).r = true then 0 else 9) ∧
      uM m B R0 1 (16 * (q : Int) + pl) v at' = (if (s.E 3 q).r = true then m.wr (16 * (s.E 3 q).f + pl) v else m) ∧ uW m B R0 1 (16 * (q : Int) + pl) at' = m.rd (16 * (s.E 3 q).f + pl)) ∧ BInv s 1 (uB m B R0 1 (16 * (q : Int) + pl) at') := by
  subst hR
  obtain ⟨T, e⟩ := I.told hB (by decide) (16 * (q : Int) + pl) at' (by omega) (by omega) t0 t1 v
  have h1 : ((16 * (q : Int) + pl) / 16).toNat = q := by omega
  have h2 : (16 * (q : Int) + (pl : Int)) % 16 = pl := by omega
  rw [h1] at T e
  refine ⟨fun hv => ?_, by rw [e]; exact I.uPut hB q hq at'⟩
  obtain ⟨a1, a2, a3, a4, a5, a6⟩ := T.yes hv
  rw [h2] at a5 a6
  exact ⟨a1, a4, a5, a6⟩
/-- a frame that was noughts, but for one word -/
theorem zero_wr {m : Mem} (hk : m.ok) (f pl : Nat) (v : Int) (hf : f < m.n) (hp : pl < 16) (hz : ∀ p : Nat, p < 16 → m.word (f : Nat) (p : Nat) = 0) : (m.wr (16 * (f : Int) + pl) v).zero f = decide (v = 0) := by
  have e16 : 16 * (f : Int) + (pl : Int) = (f : Int) * 16 + pl := by omega
  rw [e16]
  have hw : ∀ p : Nat, p < 16 → (m.wr ((f : Int) * 16 + pl) v).word (f : Nat) (p : Nat) = if p = pl then v else 0 := by
    intro p hp'
    rw [m.word_wr hk (f : Nat) (pl : Nat) (f : Nat) (p : Nat) v ((m.slot_iff _ _).2 ⟨⟨by omega, by omega⟩, by omega, by omega⟩) ((m.slot_iff _ _).2 ⟨⟨by omega, by omega⟩, by omega, by omega⟩), hz p hp']
    by_cases c : p = pl
    · subst c; simp
    · rw [if_neg (by intro e; exact c (by omega)), if_neg c]
  have hk' : (m.wr ((f : Int) * 16 + pl) v).ok := Mem.wr_ok _ hk _ _
  have hn' : (m.wr ((f : Int) * 16 + pl) v).n = m.n := Mem.wr_n _ _ _
  generalize m.wr ((f : Int) * 16 + pl) v = m' at hw hk' hn' ⊢
  have hat : ∀ p : Nat, p < 16 → m'.at (f * 16 + p) = if p = pl then v else 0 := fun p hp' => by
    have h := hw p hp'
    unfold Mem.word at h
    rw [show ((f : Int) * 16 + (p : Int)).toNat = f * 16 + p from by omega] at h
    exact h
  by_cases hv : v = 0
  · rw [decide_eq_true hv]
    refine Mem.zero_of _ hk' f (by unfold Mem.ex; simp; omega) fun i hi => ?_
    rw [Int.toNat_natCast, hat i hi, hv]
    split <;> rfl
  · rw [decide_eq_false hv]
    unfold Mem.zero
    have hne : ¬ m'.fr (f : Int).toNat = noughts := by
      intro e
      have h1 := m'.fr_getD f pl hp
      rw [Int.toNat_natCast] at e
      rw [e, hat pl hp, if_pos rfl] at h1
      exact hv (by rw [← h1]; exact getD_replicate0 _ _)
    rw [decide_eq_false hne, Bool.and_false]
/-- what the law of two pages of one frame sees -/
structure Alk (s : Sp) (m : Mem) (b : Bud) (Y : Nat × Nat → Prop) (R0 : Int) (B : Buf) (q0 q1 q2 f pl : Nat) (v v' : Int) : Prop where
  x1 : uX m B R0 1 (16 * (q0 : Int) + pl) true 0 = 0
  I1 : SpInv s (uM m B R0 1 (16 * (q0 : Int) + pl) v 0) b Y
  x2 : uX (uM m B R0 1 (16 * (q0 : Int) + pl) v 0) (uB m B R0 1 (16 * (q0 : Int) + pl) 0) R0 1 (16 * (q1 : Int) + pl) false 1 = 0
  w2 : uW (uM m B R0 1 (16 * (q0 : Int) + pl) v 0) (uB m B R0 1 (16 * (q0 : Int) + pl) 0) R0 1 (16 * (q1 : Int) + pl) 1 = v
  x3 : uX (uM m B R0 1 (16 * (q0 : Int) + pl) v 0) (uB (uM m B R0 1 (16 * (q0 : Int) + pl) v 0) (uB m B R0 1 (16 * (q0 : Int) + pl) 0) R0 1 (16 * (q1 : Int) + pl) 1) R0 1 (16 * (q2 : Int) + pl) false 2 = 0
  w3 : uW (uM m B R0 1 (16 * (q0 : Int) + pl) v 0) (uB (uM m B R0 1 (16 * (q0 : Int) + pl) v 0) (uB m B R0 1 (16 * (q0 : Int) + pl) 0) R0 1 (16 * (q1 : Int) + pl) 1) R0 1 (16 * (q2 : Int) + pl) 2 = 0
  x4 : ∀ B', BInv s 1 B' → uX (uM m B R0 1 (16 * (q0 : Int) + pl) v 0) B' R0 1 (16 * (q1 : Int) + pl) true 3 = 9 ∧ uM (uM m B R0 1 (16 * (q0 : Int) + pl) v 0) B' R0 1 (16 * (q1 : Int) + pl) v' 3 = uM m B R0 1 (16 * (q0 : Int) + pl) v 0
  b4 : BInv s 1 (uB (uM m B R0 1 (16 * (q0 : Int) + pl) v 0) (uB (uM m B R0 1 (16 * (q0 : Int) + pl) v 0) (uB m B R0 1 (16 * (q0 : Int) + pl) 0) R0 1 (16 * (q1 : Int) + pl) 1) R0 1 (16 * (q2 : Int) + pl) 2)
  z : (uM m B R0 1 (16 * (q0 : Int) + pl) v 0).zero f = decide (v = 0)
theorem alk_of {s : Sp} {m : Mem} {b : Bud} {Y : Nat × Nat → Prop} (I : SpInv s m b Y) (Z : Zs s m) {B : Buf} (hB : BInv s 1 B) {R0 : Int} (hR : s.root = R0) (q0 q1 q2 f pl : Nat) (v v' : Int) (h0 : q0 < 4096) (h1 : q1 < 4096) (h2 : q2 < 4096) (hp : pl < 16) (hf : f ≤ 30) (hb : b.res = 32)
    (e0 : s.E 3 q0 = ⟨true, true, false, f⟩) (e1 : s.E 3 q1 = ⟨true, false, false, f⟩) (e2 : s.E 3 q2 = ⟨true, false, false, (f : Int) + 1⟩) (V : Hid (0 ≤ v ∧ v < 18446744073709551616)) : Alk s m b Y R0 B q0 q1 q2 f pl v v' := by
  have hrn : b.res ≤ m.n := by rw [I.bn]; exact I.bk.rs
  have hfree : ∀ g : Nat, g < 32 → ∀ l d, l ≤ 2 → s.on l d = true → s.fr l d ≠ (g : Nat) := fun g hg l d hl ho e => by have := I.high hl ho; omega
  obtain ⟨t1, b1⟩ := told_at I hB hR q0 pl h0 hp 0 (by omega) (by omega) v
  rw [e0] at t1
  obtain ⟨-, x1, m1, -⟩ := t1 rfl
  rw [if_pos rfl] at x1 m1
  have I1 : SpInv s (m.wr (16 * (f : Int) + pl) v) b Y := I.wr f pl v ⟨by omega, by omega⟩ ⟨by omega, by omega⟩ V.out.1 V.out.2
  have hz : (m.wr (16 * (f : Int) + pl) v).zero f = decide (v = 0) := zero_wr I.mo f pl v (by omega) hp (fun p hp' => Z f p (by omega) hp' (hfree f (by omega)))
  have r1 : (m.wr (16 * (f : Int) + pl) v).rd (16 * (f : Int) + pl) = v := rd_wr I.mo _ _ (decide_eq_true (by omega))
  have r2 : (m.wr (16 * (f : Int) + pl) v).rd (16 * ((f : Int) + 1) + pl) = 0 := by
    have hz2 := Z (f + 1) pl (by omega) hp (hfree (f + 1) (by omega))
    unfold Mem.rd
    rw [Mem.wr_has, show m.has (16 * ((f : Int) + 1) + pl) = true from decide_eq_true (by omega), if_pos rfl, m.at_wr I.mo _ _ (decide_eq_true (by omega)), if_neg (by omega)]
    unfold Mem.word at hz2
    rw [← hz2]
    congr 1
    omega
  refine {
    x1 := x1
    I1 := by rw [m1]; exact I1
    z := by rw [m1]; exact hz
    x2 := ?_
    w2 := ?_
    x3 := ?_
    w3 := ?_
    x4 := fun B' hB' => ?_
    b4 := ?_ }
  all_goals rw [m1]
  all_goals generalize uB m B R0 1 (16 * (q0 : Int) + pl) 0 = B1 at b1
  all_goals
    obtain ⟨t2, b2⟩ := told_at I1 b1 hR q1 pl h1 hp 1 (by omega) (by omega) v
    rw [e1] at t2
    obtain ⟨x2, -, -, w2⟩ := t2 rfl
  · exact x2
  · rw [w2]; exact r1
  all_goals generalize uB (m.wr (16 * (f : Int) + pl) v) B1 R0 1 (16 * (q1 : Int) + pl) 1 = B2 at b2
  all_goals
    obtain ⟨t3, b3⟩ := told_at I1 b2 hR q2 pl h2 hp 2 (by omega) (by omega) v
    rw [e2] at t3
    obtain ⟨x3, -, -, w3⟩ := t3 rfl
  · exact x3
  · rw [w3]; exact r2
  · obtain ⟨t4, -⟩ := told_at I1 hB' hR q1 pl h1 hp 3 (by omega) (by omega) v'
    rw [e1] at t4
    obtain ⟨-, x4, m4, -⟩ := t4 rfl
    exact ⟨x4, m4⟩
  · exact b3
end Go.Proofs.YtfdnfllefednjaaDoor

/-
  Layer 8's laws over a row of calls: what lies in a row's place; worlds behind a call.
-/
namespace Go.Proofs.YtfdnfllefednjaaDoor
open Go.ChangeShapes Go.WideShapes Go.ChangeAt Go.RowKit Go.Shelf Go.Sort

/-- one call of the row -/
structure TopIn (w : World) (b o : Nat) (d q f : Int) (wb : Bool) : Prop where
  c0 : w.cell? ⟨b, o, none⟩ = some (.int .i64 d)
  c1 : w.cell? ⟨b, o + 1, none⟩ = some (.int .i64 q)
  c2 : w.cell? ⟨b, o + 2, none⟩ = some (.int .i64 f)
  c3 : w.cell? ⟨b, o + 3, none⟩ = some (.bool wb)
theorem TopIn.kept {T : Nat → Prop} {w w' : World} {b o : Nat} {d q f : Int} {wb : Bool} (h : TopIn w b o d q f wb) (u : Upd T w w') (hb : ¬ T b) : TopIn w' b o d q f wb :=
  ⟨u.cell h.c0 hb, u.cell h.c1 hb, u.cell h.c2 hb, u.cell h.c3 hb⟩
abbrev topKs : List (Option IntKind) := [some .i64, some .i64, some .i64, none]
theorem top4 {w : World} {ao : Option Addr} {n b off : Nat} {E : Nat → Nat → Value} (R : Fr.RowArg w ao n b off topKs E) (i : Nat) (hi : i < n) :
    ∃ (d q f : Int) (wb : Bool), TopIn w b (off + i * 4) d q f wb ∧ (Lit.int .i64 q).wf = true ∧ (Lit.int .i64 f).wf = true := by
  obtain ⟨d, e0, w0⟩ := R.ok i hi 0 _ rfl
  obtain ⟨q, e1, w1⟩ := R.ok i hi 1 _ rfl
  obtain ⟨f, e2, w2⟩ := R.ok i hi 2 _ rfl
  obtain ⟨wb, e3⟩ := R.ok i hi 3 _ rfl
  refine ⟨d, q, f, wb, ⟨?_, ?_, ?_, ?_⟩, w1, w2⟩
  · have := R.cell i hi 0 (by decide); rw [e0] at this; simpa [Nat.add_assoc] using this
  · have := R.cell i hi 1 (by decide); rw [e1] at this; simpa [Nat.add_assoc] using this
  · have := R.cell i hi 2 (by decide); rw [e2] at this; simpa [Nat.add_assoc] using this
  · have := R.cell i hi 3 (by decide); rw [e3] at this; simpa [Nat.add_assoc] using this
theorem rows_below {w w' : World} {ao : Option Addr} {n b off : Nat} {ks : List (Option IntKind)} {E : Nat → Nat → Value} (R : Fr.RowArg w ao n b off ks E) (u : Upd (fun _ => False) w w') : Fr.RowArg w' ao n b off ks E := R.kept (u.below (Nat.le_refl _) fun _ _ => id)
theorem Sp.pgi_getD (s : Sp) (i : Nat) : s.pgi.getD i 0 = ((s.pgs.getD i 0 : Nat) : Int) := by
  unfold Sp.pgi
  rw [List.getD_eq_getElem?_getD, List.getD_eq_getElem?_getD, List.getElem?_map]
  cases s.pgs[i]? <;> rfl
theorem Sp.pgs_at (s : Sp) {i : Nat} (h : i < s.pgs.length) : s.pgs.getD i 0 < 4096 ∧ (s.E 3 (s.pgs.getD i 0)).v = true := Sp.mem_pgs.1 (getD_mem h)
theorem Sp.pgs_up (s : Sp) {i j : Nat} (hij : i < j) (h : j < s.pgs.length) : s.pgs.getD i 0 < s.pgs.getD j 0 := by
  have := List.pairwise_iff_getElem.1 s.pgs_rises i j (by omega) h hij
  rw [List.getD_eq_getElem?_getD, List.getD_eq_getElem?_getD, List.getElem?_eq_getElem h, List.getElem?_eq_getElem (by omega)]
  exact this
theorem Sp.find_page (s : Sp) {i : Nat} (h : i < s.pgs.length) : s.findX (s.pgs.getD i 0 : Nat) = 0 := by
  have := s.pgs_at h
  unfold Sp.findX
  rw [if_pos (by omega), Int.toNat_natCast, if_pos this.2]
theorem Sp.pgs_len (s : Sp) : s.pgs.length ≤ 4096 := by
  have := List.length_filter_le (fun q => (s.E 3 q).v) (List.range 4096)
  rwa [List.length_range] at this
end Go.Proofs.YtfdnfllefednjaaDoor

/-
  Layer 8's laws: lists compared, what is left behind Close.
-/
namespace Go.Proofs.YtfdnfllefednjaaDoor
open Go.ChangeShapes Go.WideShapes Go.ChangeAt Go.RowKit Go.Shelf Go.Sort

theorem drewN_two (w : World) (a b : Nat) : (w.drewN a).drewN b = w.drewN (a + b) := World.drewN_drewN w a b
theorem same_ext {L1 L2 : List Int} (hl : L1.length = L2.length) (h : ∀ j, j < L1.length → L1.getD j 0 = L2.getD j 0) : L1 = L2 := by
  refine List.ext_getElem hl fun j h1 h2 => ?_
  have := h j h1
  rw [List.getD_eq_getElem?_getD, List.getD_eq_getElem?_getD, List.getElem?_eq_getElem h1, List.getElem?_eq_getElem h2] at this
  simpa using this
theorem blocks_pos {b : Bud} (h : 1 ≤ b.left) : 1 ≤ (blocks b.F b.n).length := by
  unfold Bud.left cnt at h
  obtain ⟨j, hj⟩ := List.exists_mem_of_length_pos (l := (List.range b.n).filter b.F) (by omega)
  rw [List.mem_filter, List.mem_range] at hj
  obtain ⟨k, hk⟩ := exists_mx hj.2 hj.1
  exact List.length_pos_of_mem (mem_blocks.2 hk : (st j k, k) ∈ blocks b.F b.n)
theorem none_left {b : Bud} (h : b.Ok) (h0 : ∀ x, x ∈ b.gave ↔ False) : b.left + b.res = b.n := by
  have hg : b.gave = [] := List.eq_nil_iff_forall_not_mem.2 fun x hx => (h0 x).1 hx
  have := left_len _ (b := b) rfl h (fun x hx => ((h0 x).1 hx).elim)
  rw [hg] at this
  simpa using this
/-- other pages, another list -/
theorem Sp.pgi_ne {s s' : Sp} {q : Nat} (hq : q < 4096) (h : (s.E 3 q).v ≠ (s'.E 3 q).v) : s.pgi ≠ s'.pgi := by
  intro e
  have hm : ∀ t : Sp, ((q : Nat) : Int) ∈ t.pgi ↔ (t.E 3 q).v = true := by
    intro t
    unfold Sp.pgi
    rw [List.mem_map]
    constructor
    · rintro ⟨p, hp, e⟩
      obtain rfl : p = q := by omega
      exact (Sp.mem_pgs.1 hp).2
    · intro hv
      exact ⟨q, Sp.mem_pgs.2 ⟨hq, hv⟩, rfl⟩
  have h1 := hm s
  rw [e, hm s'] at h1
  cases ha : (s.E 3 q).v <;> cases hb : (s'.E 3 q).v <;> rw [ha, hb] at h <;> simp_all
end Go.Proofs.YtfdnfllefednjaaDoor

/-
  Two spaces of one memory; the law's mapped.
-/
namespace Go.Proofs.YtfdnfllefednjaaDoor
open Go.ChangeShapes Go.WideShapes Go.ChangeAt Go.RowKit Go.Shelf Go.Sort

/-- the blocks of a space's tables -/
def tabsOf (s : Sp) (x : Nat × Nat) : Prop := ∃ l d, l ≤ 2 ∧ s.on l d = true ∧ x = ((s.fr l d).toNat, 0)
theorem tabsOf_zero {s : Sp} {x : Nat × Nat} (h : tabsOf s x) : x.2 = 0 := by obtain ⟨l, d, _, _, rfl⟩ := h; rfl
/-- the space beside one that has changed -/
theorem SpInv.beside {t s' : Sp} {m m' : Mem} {b b' : Bud} {Y : Nat × Nat → Prop} (ht : SpInv t m b Y) (hs : SpInv s' m' b' (tabsOf t)) (hw : SameW (tabsOf t) m m') (hn : m'.n = m.n) : SpInv t m' b' (tabsOf s') := by
  refine ⟨by rw [hn]; exact ht.ok, ?_, ht.nee, hs.mo, hs.hg, hs.bk, hs.bn, fun x => tabsOf_zero, ?_, ?_⟩
  · intro l d p hl ho hp
    have hb := ht.ok.frb ho
    obtain ⟨g, hg⟩ := Int.eq_ofNat_of_zero_le hb.1
    have := hw ((t.fr l d).toNat, 0) ⟨l, d, hl, ho, rfl⟩ p hp
    rw [hg, Int.toNat_natCast] at this
    rw [← ht.i l d p hl ho hp, hg]
    exact this
  · intro x
    rw [hs.gv]
    exact ⟨fun h => h.elim .inr .inl, fun h => h.elim .inr .inl⟩
  · rintro l d hl ho ⟨l', d', hl', ho', e⟩
    exact hs.ap l' d' hl' ho' ⟨l, d, hl, ho, e.symm⟩
/-- .. that was closed -/
theorem SpInv.alone {t : Sp} {m m' : Mem} {b b' : Bud} {Y : Nat × Nat → Prop} (ht : SpInv t m b Y) (hf : Freed m b (tabsOf t) m' b') (hg : ∀ x, x ∈ b'.gave ↔ tabsOf t x) (hbn : b.n = m.n) : SpInv t m' b' (fun _ => False) := by
  refine ⟨by rw [hf.n]; exact ht.ok, ?_, ht.nee, hf.mo, hf.hg, hf.bk, by rw [hf.n, hf.bn]; exact hbn.symm, fun _ h => h.elim, fun x => by rw [hg]; exact ⟨.inl, fun h => h.elim id (fun e => e.elim)⟩, fun _ _ _ _ h => h⟩
  intro l d p hl ho hp
  have hb := ht.ok.frb ho
  obtain ⟨g, hgg⟩ := Int.eq_ofNat_of_zero_le hb.1
  have := hf.w ((t.fr l d).toNat, 0) ⟨l, d, hl, ho, rfl⟩ p hp
  rw [hgg, Int.toNat_natCast] at this
  rw [← ht.i l d p hl ho hp, hgg]
  exact this
structure Duet (w : World) (S1 S2 MA A GB MB : Nat) (s t : Sp) (m : Mem) (b : Bud) : Prop where
  P1 : Spc w S1 MA A GB MB s m b (tabsOf t)
  P2 : Spc w S2 MA A GB MB t m b (tabsOf s)
theorem Duet.symm {w : World} {S1 S2 MA A GB MB : Nat} {s t : Sp} {m : Mem} {b : Bud} (h : Duet w S1 S2 MA A GB MB s t m b) : Duet w S2 S1 MA A GB MB t s m b := ⟨h.P2, h.P1⟩
theorem Duet.still {w w' : World} {S1 S2 MA A GB MB : Nat} {s t : Sp} {m : Mem} {b : Bud} (h : Duet w S1 S2 MA A GB MB s t m b) (u : Upd (fun _ => False) w w') : Duet w' S1 S2 MA A GB MB s t m b := ⟨h.P1.still u, h.P2.still u⟩
theorem Duet.one {w w' : World} {S1 S2 MA A GB MB : Nat} {s t s' : Sp} {m m' : Mem} {b b' : Bud} (h : Duet w S1 S2 MA A GB MB s t m b) (P : Spc w' S1 MA A GB MB s' m' b' (tabsOf t)) (u : Upd (fun k => k = GB ∨ k = MB) w w') (hw : SameW (tabsOf t) m m') (hn : m'.n = m.n) : Duet w' S1 S2 MA A GB MB s' t m' b' :=
  ⟨P, ⟨h.P2.S.kept u h.P2.own, P.D, P.T, h.P2.I.beside P.I hw hn, P.B⟩⟩
/-- the frames of two spaces' tables -/
theorem Duet.apart {w : World} {S1 S2 MA A GB MB : Nat} {s t : Sp} {m : Mem} {b : Bud} (h : Duet w S1 S2 MA A GB MB s t m b) {i j : Nat} (hi : i < s.tbs.length) (hj : j < t.tbs.length) : s.tbs.getD i 0 ≠ t.tbs.getD j 0 := by
  have hm : ∀ (u : Sp) (k : Nat), k < u.tbs.length → u.tbs.getD k 0 ∈ u.tabs := fun u k hk => (List.mergeSort_perm u.tabs leI).mem_iff.1 (by
    show u.tbs.getD k 0 ∈ u.tbs
    rw [List.getD_eq_getElem?_getD, List.getElem?_eq_getElem hk]; simp)
  obtain ⟨l, d, hl, ho, e⟩ := h.P1.I.ok.mem_tabs.1 (hm s i hi)
  obtain ⟨l', d', hl', ho', e'⟩ := h.P2.I.ok.mem_tabs.1 (hm t j hj)
  intro he
  rw [e, e'] at he
  exact h.P1.I.ap l d hl ho ⟨l', d', hl', ho', by rw [he]⟩
set_option maxRecDepth 100000 in
set_option maxHeartbeats 1000000 in
/-- a memory, an allocator, a space -/
theorem top_begun (n r : Nat) (h1 : 1 ≤ n) (h2 : n ≤ 256) (hr : r < n) : (bud0 n r).Ok ∧ (bud0 n r).left + r = n := by
  have hk := bud0_ok h1 h2 (show r ≤ n by omega)
  have := left_len _ (b := bud0 n r) rfl hk (fun x hx => by simp [bud0] at hx)
  exact ⟨hk, by simpa [bud0] using this⟩
end Go.Proofs.YtfdnfllefednjaaDoor

/-
  Two spaces of one memory, and a unit that goes from one to the other: plain, and all calls.
-/
namespace Go.Proofs.YtfdnfllefednjaaDoor
open Go.ChangeShapes Go.WideShapes Go.ChangeAt Go.RowKit Go.Shelf Go.Sort

/-- Map, and what words below the allocator's frames are behind it -/
theorem spc_map_l {w : World} {S MA A GB MB : Nat} {s : Sp} {m : Mem} {b : Bud} {Y : Nat × Nat → Prop} (h : Spc w S MA A GB MB s m b Y) (q f : Int) (wb : Bool) (hf : (Lit.int .i64 f).wf = true) :
    Calls Tryd.prog 30 #[.pointer (some ⟨S, 0, none⟩), .int .i64 q, .int .i64 f, .bool wb] w fun e w' =>
      ∃ x s' m' b', e = .returned (.int .i64 x) ∧ Spc w' S MA A GB MB s' m' b' Y ∧ Upd (fun k => k = GB ∨ k = MB) w w' ∧ MapR s m b Y q f wb x s' m' b' ∧ ∀ g p : Nat, g < b.res → p < 16 → m'.word (g : Nat) (p : Nat) = m.word (g : Nat) (p : Nat) := by
  refine (smap_any S MA A GB s.root m b q f wb w h.S h.D h.T h.I.hg hf).mono ?_
  rintro e w' ⟨x, m', b', rfl, hM, d, u⟩
  rw [h.B] at u
  have hx := h.I.mapX hM
  have hrn : b.res ≤ m.n := by rw [h.I.bn]; exact h.I.bk.rs
  rcases h.I.map hM with ⟨h0, rfl, rfl, _⟩ | ⟨h0, qn, hq, hq', hf', hv, hl, hb, hn, hB, hw, s', hI, hr, hE, hE12⟩
  · exact ⟨x, s, m', b', rfl, ⟨h.S.kept u h.own, d, h.T.keptS u h.tab, h.I, h.B⟩, u, ⟨hx, rfl, rfl, SameW.refl _ _, .inl ⟨h0, rfl, rfl, rfl⟩, fun e => absurd e h0⟩, fun _ _ _ _ => rfl⟩
  · have hE2 : ∀ q2 : Nat, q = q2 → ∀ l d, l ≤ 2 → s'.E l d = if s.dep q2 ≤ l ∧ d = nd q2 l then tbE ((b.al (3 - s.dep q2)).1.getD (l - s.dep q2) 0 : Nat) else s.E l d := fun q2 e2 => by
      have e3 : qn = q2 := by omega
      rw [← e3]
      exact hE12
    have hres : b'.res = b.res := by rw [hb]; exact (al_ok h.I.bk _ hl).res
    refine ⟨x, s', m', b', rfl, ⟨by rw [hr]; exact h.S.kept u h.own, d, h.T.keptS u h.tab, hI, by rw [hB]; exact h.B⟩, u, ⟨hx, hn, hres, hw, .inr ⟨h0, qn, hq, hq', hf', hv, hl, hb, hr, hE⟩, fun _ => hE2⟩, ?_⟩
    intro g p hg hp
    exact h.I.map_words hM s' hr (fun q2 e2 _ => hE2 q2 e2) g p (by omega) hp (fun _ l dd hl2 ho e => by have := hI.high hl2 ho; omega)
/-- a page of a frame, found in whichever asid -/
theorem told7 {s : Sp} {m : Mem} {b : Bud} {Y : Nat × Nat → Prop} (I : SpInv s m b Y) {a : Int} {B : Buf} (hB : BInv s a B) (ha : a ≠ 0) {f : Int} (e : s.E 3 7 = ⟨true, true, false, f⟩) (pl at' v : Int) (p0 : 0 ≤ pl) (p1 : pl < 16) (t0 : 0 ≤ at') (t1 : at' < 8) :
    uX m B s.root a (112 + pl) true at' = 0 ∧ uM m B s.root a (112 + pl) v at' = m.wr (16 * f + pl) v ∧ uX m B s.root a (112 + pl) false at' = 0 ∧ uW m B s.root a (112 + pl) at' = m.rd (16 * f + pl) ∧ BInv s a (uB m B s.root a (112 + pl) at') ∧ uB m B s.root a (112 + pl) at' = uPut m B s.root a ((7 : Nat) : Int) at' := by
  obtain ⟨T, eb⟩ := I.told hB ha (112 + pl) at' (by omega) (by omega) t0 t1 v
  have h1 : ((112 + pl) / 16).toNat = 7 := by omega
  have h2 : (112 + pl) % 16 = pl := by omega
  rw [h1] at T eb
  obtain ⟨x1, x2, x3, x4, x5, x6⟩ := T.yes (by rw [e])
  rw [e] at x4 x5 x6
  rw [if_pos rfl] at x4 x5
  rw [h2] at x5 x6
  exact ⟨x4, x5, x1, x6, by rw [eb]; exact I.uPut hB 7 (by omega) at', eb⟩
/-- all lines are of page 7, and of the two asids -/
def Li (B : Buf) : Prop := ∀ i l, B i = some l → l.p = 7 ∧ (l.a = 1 ∨ l.a = 2)
theorem Li.put {B : Buf} (h : Li B) (l : Ln) (at' : Int) (hl : l.p = 7 ∧ (l.a = 1 ∨ l.a = 2)) : Li (B.put l at') := by
  intro i x hx
  unfold Buf.put at hx
  split at hx
  · unfold Buf.set at hx
    split at hx
    · cases hx; exact hl
    · exact h i x hx
  · exact h i x hx
theorem Li.uPut {B : Buf} (h : Li B) (m : Mem) (r a at' : Int) (ha : a = 1 ∨ a = 2) : Li (Go.Proofs.YtfdnfllefednjaaDoor.uPut m B r a ((7 : Nat) : Int) at') := by
  unfold Go.Proofs.YtfdnfllefednjaaDoor.uPut
  split
  · exact h
  · split
    · rename_i l hl
      obtain ⟨e1, e2⟩ := wL_a hl
      exact h.put l at' ⟨e2, by rw [e1]; exact ha⟩
    · exact h
theorem Buf.um_no {B : Buf} {a : Int} {k : Nat} (h : ∀ l, B k = some l → l.a ≠ a) : B.many a (k + 1) = B.many a k := by
  unfold Buf.many
  rw [List.range_succ, List.filter_append]
  cases hk : B k with
  | none => simp [hk]
  | some l => simp [hk, h l hk]
theorem Buf.um_yes {B : Buf} {a : Int} {k : Nat} {l : Ln} (h : B k = some l) (ha : l.a = a) : B.many a (k + 1) = B.many a k + 1 := by
  unfold Buf.many
  rw [List.range_succ, List.filter_append]
  simp [h, ha]
theorem Li.many {B : Buf} (h : Li B) (ho : B.Ok) (a : Int) : ∀ k, B.many a k = 0 ∨ (B.many a k = 1 ∧ ∃ i l, i < k ∧ B i = some l ∧ l.a = a)
  | 0 => .inl rfl
  | k + 1 => by
    by_cases c : ∃ l, B k = some l ∧ l.a = a
    · obtain ⟨l, hl, ha⟩ := c
      have e := Buf.um_yes hl ha
      rcases Li.many h ho a k with h0 | ⟨-, i, l', hi, hl', ha'⟩
      · exact .inr ⟨by rw [e, h0], k, l, by omega, hl, ha⟩
      · have := ho.one i k l' l hl' hl (ha'.trans ha.symm) ((h i l' hl').1.trans (h k l hl).1.symm)
        omega
    · have e : B.many a (k + 1) = B.many a k := Buf.um_no (fun l hl ha => c ⟨l, hl, ha⟩)
      rcases Li.many h ho a k with h0 | ⟨h1, i, l, hi, hl, ha⟩
      · exact .inl (e.trans h0)
      · exact .inr ⟨e.trans h1, i, l, by omega, hl, ha⟩
theorem Li.len {B : Buf} (h : Li B) : ∀ k, (B.linesTo k).length = B.many 1 k + B.many 2 k
  | 0 => rfl
  | k + 1 => by
    rw [Buf.linesTo_succ, List.length_append, Li.len h k]
    cases hk : B k with
    | none =>
      rw [Buf.um_no (by rw [hk]; intro l e; cases e), Buf.um_no (by rw [hk]; intro l e; cases e)]
      rfl
    | some l =>
      rcases (h k l hk).2 with e | e
      · rw [Buf.um_yes hk e, Buf.um_no (a := 2) (by rw [hk]; intro l' e'; cases e'; omega)]
        simp only [Option.toList, List.length_cons, List.length_nil]
        omega
      · rw [Buf.um_yes hk e, Buf.um_no (a := 1) (by rw [hk]; intro l' e'; cases e'; omega)]
        simp only [Option.toList, List.length_cons, List.length_nil]
        omega
theorem Li.two {B : Buf} (h : Li B) (ho : B.Ok) : B.lines.length ≤ 2 := by
  have := h.len 8
  have h1 := h.many ho 1 8
  have h2 := h.many ho 2 8
  show (B.linesTo 8).length ≤ 2
  omega
/-- what the law of two spaces keeps -/
structure SwK (s t : Sp) (m : Mem) (b : Bud) (B : Buf) (other : Int) (L : List Int) : Prop where
  I : SpInv s m b (tabsOf t)
  J : SpInv t m b (tabsOf s)
  res : b.res = 32
  n : m.n = 64
  es : s.E 3 7 = ⟨true, true, false, 1⟩
  et : t.E 3 7 = ⟨true, true, false, other⟩
  ot : other = 1 ∨ other = 2
  bs : BInv s 1 B
  bt : BInv t 2 B
  li : Li B
  len : L.length = 48
  ww : ∀ f p : Nat, f = 1 ∨ f = 2 → p < 16 → L.getD (f * 16 + p) 0 = m.rd (16 * (f : Int) + p)
/-- the current one: which space, which asid, which frame -/
structure SwC (s t : Sp) (other : Int) (u : Sp) (a f : Int) : Prop where
  c : (u = s ∧ a = 1 ∧ f = 1) ∨ (u = t ∧ a = 2 ∧ f = other)
theorem SwK.now {s t u : Sp} {m : Mem} {b : Bud} {B : Buf} {other a f : Int} {L : List Int} (h : SwK s t m b B other L) (c : SwC s t other u a f) (pl at' v : Int) (p0 : 0 ≤ pl) (p1 : pl < 16) (t0 : 0 ≤ at') (t1 : at' < 8) :
    (uX m B u.root a (112 + pl) true at' = 0 ∧ uM m B u.root a (112 + pl) v at' = m.wr (16 * f + pl) v ∧ uX m B u.root a (112 + pl) false at' = 0 ∧ uW m B u.root a (112 + pl) at' = m.rd (16 * f + pl)) ∧
      SwK s t m b (uB m B u.root a (112 + pl) at') other L := by
  rcases c.c with ⟨rfl, rfl, rfl⟩ | ⟨rfl, rfl, rfl⟩
  · obtain ⟨x1, x2, x3, x4, x5, x6⟩ := told7 h.I h.bs (by decide) h.es pl at' v p0 p1 t0 t1
    exact ⟨⟨x1, x2, x3, x4⟩, ⟨h.I, h.J, h.res, h.n, h.es, h.et, h.ot, x5, by rw [x6]; exact h.bt.other (by decide) _ _ _ _, by rw [x6]; exact h.li.uPut _ _ _ _ (.inl rfl), h.len, h.ww⟩⟩
  · obtain ⟨x1, x2, x3, x4, x5, x6⟩ := told7 h.J h.bt (by decide) h.et pl at' v p0 p1 t0 t1
    exact ⟨⟨x1, x2, x3, x4⟩, ⟨h.I, h.J, h.res, h.n, h.es, h.et, h.ot, by rw [x6]; exact h.bs.other (by decide) _ _ _ _, x5, by rw [x6]; exact h.li.uPut _ _ _ _ (.inr rfl), h.len, h.ww⟩⟩
/-- .. and stored to -/
theorem SwK.wrote {s t : Sp} {m : Mem} {b : Bud} {B : Buf} {other : Int} {L : List Int} (h : SwK s t m b B other L) (F P : Nat) (v : Int) (hF : F = 1 ∨ F = 2) (hP : P < 16) (V : Hid (0 ≤ v ∧ v < 18446744073709551616)) : SwK s t (m.wr (16 * (F : Int) + P) v) b B other (L.set (F * 16 + P) v) := by
  have hres := h.res
  have hn := h.n
  refine ⟨h.I.wr F P v ⟨by omega, by omega⟩ ⟨by omega, by omega⟩ V.out.1 V.out.2, h.J.wr F P v ⟨by omega, by omega⟩ ⟨by omega, by omega⟩ V.out.1 V.out.2, h.res, by rw [Mem.wr_n]; exact h.n, h.es, h.et, h.ot, h.bs, h.bt, h.li, by rw [List.length_set]; exact h.len, ?_⟩
  intro f p hf hp
  have hl := h.len
  have hw := h.ww f p hf hp
  unfold Mem.rd at hw ⊢
  rw [show m.has (16 * (f : Int) + p) = true from decide_eq_true (by omega), if_pos rfl] at hw
  rw [Mem.wr_has, show m.has (16 * (f : Int) + p) = true from decide_eq_true (by omega), if_pos rfl, m.at_wr h.I.mo _ _ (decide_eq_true (by omega)), ← hw]
  by_cases c : f * 16 + p = F * 16 + P
  · rw [c, if_pos (by omega), List.getD_eq_getElem?_getD, List.getElem?_set_self (by omega)]
    rfl
  · rw [if_neg (by omega), List.getD_eq_getElem?_getD, List.getD_eq_getElem?_getD, List.getElem?_set_ne (by omega)]
end Go.Proofs.YtfdnfllefednjaaDoor
