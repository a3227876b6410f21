/-
  Both allocators side by side: the program's and the document's own, over the same words, in the same state.
-/
import Derived.Test.YtmobhojblclmjaaBgJ
namespace Go.Proofs.Ytmobhojblclmjaa.buddyPlays
open Go.ChangeShapes Go.WideShapes Go.ChangeAt Go.RowKit Go.Maps

/-- the same memory elsewhere -/
def re (m : Mem) (B : Nat) : Mem := { m with B := B }
theorem re_wr (m : Mem) (B : Nat) (a v : Int) : (re m B).wr a v = re (m.wr a v) B := by
  unfold Mem.wr
  show (if m.has a then _ else _) = _
  split <;> rfl
theorem re_scrub (m : Mem) (B : Nat) (f k : Int) : (re m B).scrub f k = re (m.scrub f k) B := by
  unfold Mem.scrub
  show (if m.ex f k then _ else _) = _
  split <;> rfl
theorem re_has (m : Mem) (B : Nat) (a : Int) : (re m B).has a = m.has a := rfl
theorem re_rd (m : Mem) (B : Nat) (a : Int) : (re m B).rd a = m.rd a := rfl
theorem re_new (B B' n : Nat) : memNew B' n = re (memNew B n) B' := rfl
theorem re_B (m : Mem) (B : Nat) : (re m B).B = B := rfl
theorem re_n (m : Mem) (B : Nat) : (re m B).n = m.n := rfl
theorem box4 {w : World} {b t : Nat} {x y z u : Value} (h : w.heap[b]? = some (.cells #[x, y, z, u] t (0, 0))) : w.cell? ⟨b, 0, none⟩ = some x ∧ w.cell? ⟨b, 1, none⟩ = some y ∧ w.cell? ⟨b, 2, none⟩ = some z ∧ w.cell? ⟨b, 3, none⟩ = some u := by
  refine ⟨?_, ?_, ?_, ?_⟩ <;> (rw [cell_of_row w b _ _ _ _ h]; rfl)
theorem ty2 {w : World} {a b t t' : Nat} {c c' : Array Value} (h : w.heap[a]? = some (.cells c t (0, 0))) (h' : w.heap[b]? = some (.cells c' t' (0, 0))) (ht : t ≠ t') : a ≠ b := by
  intro e
  rw [e, h'] at h
  simp at h
  exact ht h.2.symm
theorem map2 {w : World} {A MA GB t b : Nat} {bu : Bud} {c : Array Value} (h : BudAt w A MA GB bu) (h' : w.heap[b]? = some (.cells c t (0, 0))) : b ≠ GB := by
  obtain ⟨D, ⟨es, cl, hb, _⟩, _⟩ := h.mp
  intro e
  rw [e, hb] at h'
  cases h'
theorem rowmap {w : World} {A MA GB base sz k : Nat} {e : TypeId} {v : Value} {xs : List Value} {bu : Bud} (h : BudAt w A MA GB bu) (hr : w.ownsRow base e sz v k xs) : ∀ j, v.ownBlock = some j → ¬ j = GB := by
  intro j hj
  rcases hr.2 with ⟨rfl, _⟩ | ⟨g, cap, cur, rfl, _, hgg, _⟩
  · simp [Value.ownBlock] at hj
  · have : j = g := by simpa [Value.ownBlock] using hj.symm
    rw [this]
    exact map2 h hgg
/-- both allocators, over the same words, in the same state -/
structure Qu (w0 w : World) (A MA GB MB RA RB C FB : Nat) (g : Value) (m : Mem) (b : Bud) : Prop where
  D : Duo w A MA GB m b
  R : RefAt w RA (re m RB)
  K : RBud w C RA FB g b
  mB : m.B = MB
  U : Upd (fun _ => False) w0 w
  lg : w0.heap.size ≤ GB
  lm : w0.heap.size ≤ MB
  lr : w0.heap.size ≤ RB
  lc : w0.heap.size ≤ C
  lf : w0.heap.size ≤ FB
section
variable {w0 w w1 w2 : World} {A MA GB MB RA RB C FB : Nat} {g g' : Value} {m m' : Mem} {b b' : Bud}
theorem Qu.body (h : Qu w0 w A MA GB MB RA RB C FB g m b) : w.heap[MB]? = some (.cells (ints .u64 m.ws).toArray 79 (0, 0)) := by rw [← h.mB]; exact h.D.M.body
theorem Qu.rbody (h : Qu w0 w A MA GB MB RA RB C FB g m b) : w.heap[RB]? = some (.cells (ints .u64 m.ws).toArray 37 (0, 0)) := h.R.body
theorem Qu.still (h : Qu w0 w A MA GB MB RA RB C FB g m b) (u : Upd (fun _ => False) w w1) : Qu w0 w1 A MA GB MB RA RB C FB g m b :=
  ⟨h.D.still u, h.R.kept u (fun h => h) (fun h => h), h.K.kept u (fun h => h) (fun h => h) (fun _ _ h => h), h.mB, h.U.trans u, h.lg, h.lm, h.lr, h.lc, h.lf⟩
/-- what the document's own allocator touches lies apart from the other's -/
theorem Qu.ref (h : Qu w0 w A MA GB MB RA RB C FB g m b) (D1 : Duo w1 A MA GB m' b') (u : Upd (fun k => k = C ∨ k = FB ∨ k = RB) w1 w2) (k1 : w1.heap[C]? = w.heap[C]?) (k2 : w1.heap[FB]? = w.heap[FB]?) (k3 : w1.heap[RB]? = w.heap[RB]?) : Duo w2 A MA GB m' b' := by
  have e1 := k1.trans h.K.head
  have e2 := k2.trans h.K.fr
  have e3 := k3.trans h.rbody
  refine D1.kept u ?_ ?_ ?_ ?_
  · rintro (e | e | e)
    · exact ty2 D1.B.head e1 (by decide) e
    · exact ty2 D1.B.head e2 (by decide) e
    · exact ty2 D1.B.head e3 (by decide) e
  · rintro (e | e | e)
    · exact map2 D1.B e1 e.symm
    · exact map2 D1.B e2 e.symm
    · exact map2 D1.B e3 e.symm
  · rintro (e | e | e)
    · exact ty2 D1.M.head e1 (by decide) e
    · exact ty2 D1.M.head e2 (by decide) e
    · exact ty2 D1.M.head e3 (by decide) e
  · rintro (e | e | e)
    · exact ty2 D1.M.body e1 (by decide) e
    · exact ty2 D1.M.body e2 (by decide) e
    · exact ty2 D1.M.body e3 (by decide) e
/-- what the program's allocator touches lies apart from the document's -/
theorem Qu.far (h : Qu w0 w A MA GB MB RA RB C FB g m b) (u : Upd (fun k => k = GB ∨ k = MB) w w1) : RBud w1 C RA FB g b ∧ RefAt w1 RA (re m RB) ∧ w1.heap[C]? = w.heap[C]? ∧ w1.heap[FB]? = w.heap[FB]? ∧ w1.heap[RB]? = w.heap[RB]? := by
  have hC : ¬ (C = GB ∨ C = MB) := by
    rintro (e | e)
    · exact map2 h.D.B h.K.head e
    · exact ty2 h.K.head h.body (by decide) e
  have hF : ¬ (FB = GB ∨ FB = MB) := by
    rintro (e | e)
    · exact map2 h.D.B h.K.fr e
    · exact ty2 h.K.fr h.body (by decide) e
  have hA : ¬ (RA = GB ∨ RA = MB) := by
    rintro (e | e)
    · exact map2 h.D.B h.R.head e
    · exact ty2 h.R.head h.body (by decide) e
  have hB : ¬ (RB = GB ∨ RB = MB) := by
    rintro (e | e)
    · exact map2 h.D.B h.rbody e
    · exact ty2 h.rbody h.body (by decide) e
  refine ⟨h.K.kept u hC hF fun j hj => ?_, h.R.kept u hA hB, ?_, ?_, ?_⟩
  · rintro (e | e)
    · exact rowmap h.D.B h.K.gv j hj e
    · exact ty_ne h.K.gv h.body (by decide) j hj e
  · rw [u.at h.K.head hC, h.K.head]
  · rw [u.at h.K.fr hF, h.K.fr]
  · rw [u.at h.rbody hB, h.rbody]
/-- an operation's block lies apart from all of them -/
theorem Qu.op (h : Qu w0 w A MA GB MB RA RB C FB g m b) {OB : Nat} {c : Array Value} (ho : w.heap[OB]? = some (.cells c 39 (0, 0))) : OB ≠ GB ∧ OB ≠ MB ∧ OB ≠ C ∧ OB ≠ FB ∧ OB ≠ RB :=
  ⟨map2 h.D.B ho, ty2 ho h.body (by decide), ty2 ho h.K.head (by decide), ty2 ho h.K.fr (by decide), ty2 ho h.rbody (by decide)⟩
/-- a call on the one, then on the other -/
theorem Qu.step (h : Qu w0 w A MA GB MB RA RB C FB g m b) (D1 : Duo w1 A MA GB m' b') (hm : m'.B = MB) (u : Upd (fun k => k = GB ∨ k = MB) w w1) (K2 : RBud w2 C RA FB g' b') (R2 : RefAt w2 RA (re m' RB)) (u2 : Upd (fun k => k = C ∨ k = FB ∨ k = RB) w1 w2) : Qu w0 w2 A MA GB MB RA RB C FB g' m' b' := by
  obtain ⟨_, _, k1, k2, k3⟩ := h.far u
  refine ⟨h.ref D1 u2 k1 k2 k3, R2, K2, hm, (h.U.since u fun k hk => ?_).since u2 fun k hk => ?_, h.lg, h.lm, h.lr, h.lc, h.lf⟩
  · rcases hk with rfl | rfl
    · exact h.lg
    · exact h.lm
  · rcases hk with rfl | rfl | rfl
    · exact h.lc
    · exact h.lf
    · exact h.lr
end

theorem bfree_no (A MA GB : Nat) (m : Mem) (b : Bud) (f o : Int) (w : World) (h : Duo w A MA GB m b) (hwf : (Lit.int .i64 f).wf = true) (hno : ∀ x, x ∈ b.gave → isB x f o = false) :
    Calls Try.prog 17 #[.pointer (some ⟨A, 0, none⟩), .int .i64 f, .int .i64 o] w fun e w' => e = .returned (.int .i64 2) ∧ w = w' := by
  refine (bFree_any A MA GB m b f o w h.B h.M hwf).mono ?_
  rintro e w' (⟨_, rfl, rfl⟩ | ⟨y, hy, e1, e2, _⟩)
  · exact ⟨rfl, rfl⟩
  · have := hno y hy
    rw [show isB y f o = true from decide_eq_true ⟨e1, e2⟩] at this
    cases this
theorem rfree_no (C MP FB : Nat) (g : Value) (b : Bud) (m : Mem) (f o : Int) (w : World) (h : RBud w C MP FB g b) (hm : RefAt w MP m) (hn : m.n = b.n) (hno : ∀ x, x ∈ b.gave → isB x f o = false) :
    Calls Try.prog 18 #[.pointer (some ⟨C, 0, none⟩), .int .i64 f, .int .i64 o] w fun e w' => e = .returned (.int .i64 2) ∧ w = w' := by
  refine (rFree_any C MP FB g b m f o w h hm hn).mono ?_
  rintro e w' (⟨_, rfl, rfl⟩ | ⟨y, g', hy, e1, e2, _⟩)
  · exact ⟨rfl, rfl⟩
  · have := hno y hy
    rw [show isB y f o = true from decide_eq_true ⟨e1, e2⟩] at this
    cases this
theorem rfree_yes (C MP FB : Nat) (g : Value) (b : Bud) (m : Mem) (x : Nat × Nat) (w : World) (h : RBud w C MP FB g b) (hm : RefAt w MP m) (hn : m.n = b.n) (hx : x ∈ b.gave) :
    Calls Try.prog 18 #[.pointer (some ⟨C, 0, none⟩), .int .i64 x.1, .int .i64 x.2] w fun e w' => e = .returned (.int .i64 0) ∧ ∃ g', RBud w' C MP FB g' (b.take x) ∧ RefAt w' MP (m.scrub x.1 ((2 ^ x.2 : Nat) : Int)) ∧ Upd (fun k => k = C ∨ k = FB ∨ k = m.B) w w' := by
  refine (rFree_any C MP FB g b m x.1 x.2 w h hm hn).mono ?_
  rintro e w' (⟨hno, _⟩ | ⟨y, g', hy, e1, e2, rfl, K, M, U, _⟩)
  · have := hno x hx
    simp [isB] at this
  · obtain rfl : y = x := Prod.ext (by omega) (by omega)
    exact ⟨rfl, g', K, M, U⟩
/-- an Alloc of whatever order, on the one and then on the other -/
theorem Qu.alloc {w0 w : World} {A MA GB MB RA RB C FB : Nat} {g : Value} {m : Mem} {b : Bud} (h : Qu w0 w A MA GB MB RA RB C FB g m b) (o : Int) :
    Calls Try.prog 15 #[.pointer (some ⟨A, 0, none⟩), .int .i64 o] w fun e w1 => ∃ x y : Int, e = .returned (.tuple #[.int .i64 x, .int .i64 y]) ∧ Upd (fun k => k = GB ∨ k = MB) w w1 ∧
      Calls Try.prog 16 #[.pointer (some ⟨C, 0, none⟩), .int .i64 o] w1 fun e w2 => e = .returned (.tuple #[.int .i64 x, .int .i64 y]) ∧ Upd (fun k => k = C ∨ k = FB ∨ k = RB) w1 w2 ∧ ∃ g' b', Qu w0 w2 A MA GB MB RA RB C FB g' m b' := by
  by_cases ho : 0 ≤ o ∧ o ≤ 8
  · obtain ⟨k, rfl⟩ := Int.eq_ofNat_of_zero_le ho.1
    have hk8 : k ≤ 8 := by omega
    refine (bAlloc_any A MA GB m b k w h.D.B h.D.M h.D.n hk8).mono ?_
    rintro e w1 (⟨hs, rfl, U1⟩ | ⟨x, hs, rfl, B1, U1⟩)
    · refine ⟨_, _, rfl, U1.mono fun _ _ h => h.elim, ?_⟩
      have h1 := h.still U1
      refine (rAlloc_any C RA FB g b k w1 h1.K hk8).mono ?_
      rintro e w2 (⟨_, rfl, B2⟩ | ⟨y, g', hs', _⟩)
      · exact ⟨rfl, Upd.of_below B2, g, b, h1.still (Upd.of_below B2)⟩
      · rw [hs] at hs'; cases hs'
    · have U1' : Upd (fun k => k = GB ∨ k = MB) w w1 := U1.mono fun _ _ h => .inl h
      refine ⟨_, _, rfl, U1', ?_⟩
      obtain ⟨K1, R1, _⟩ := h.far U1'
      refine (rAlloc_any C RA FB g b k w1 K1 hk8).mono ?_
      rintro e w2 (⟨hs', _⟩ | ⟨y, g', hs', rfl, K2, U2, _⟩)
      · rw [hs] at hs'; cases hs'
      · rw [hs] at hs'
        obtain rfl : x = y := by injection hs'
        have U2' : Upd (fun k => k = C ∨ k = FB ∨ k = RB) w1 w2 := U2.mono fun z _ hz => by
          rcases hz with e | e
          · exact .inl e
          · exact .inr (.inl e)
        have R2 := R1.kept U2 (by rintro (e | e); { exact ty2 R1.head K1.head (by decide) e }; { exact ty2 R1.head K1.fr (by decide) e }) (by rintro (e | e); { exact ty2 R1.body K1.head (by decide) e }; { exact ty2 R1.body K1.fr (by decide) e })
        exact ⟨rfl, U2', g', _, h.step (h.D.gb B1 U1 rfl) h.mB U1' K2 R2 U2'⟩
  · refine (bAlloc_bad A o w (by omega)).mono ?_
    rintro e w1 ⟨rfl, rfl⟩
    refine ⟨_, _, rfl, Upd.refl _ _, ?_⟩
    refine (rAlloc_bad C o w (by omega)).mono ?_
    rintro e w2 ⟨rfl, rfl⟩
    exact ⟨rfl, Upd.refl _ _, g, b, h⟩
/-- a Free of a given block on both -/
theorem Qu.free {w0 w : World} {A MA GB MB RA RB C FB : Nat} {g : Value} {m : Mem} {b : Bud} (h : Qu w0 w A MA GB MB RA RB C FB g m b) {x : Nat × Nat} (hx : x ∈ b.gave) :
    Calls Try.prog 17 #[.pointer (some ⟨A, 0, none⟩), .int .i64 x.1, .int .i64 x.2] w fun e w1 => e = .returned (.int .i64 0) ∧ Upd (fun k => k = GB ∨ k = MB) w w1 ∧
      Calls Try.prog 18 #[.pointer (some ⟨C, 0, none⟩), .int .i64 x.1, .int .i64 x.2] w1 fun e w2 => e = .returned (.int .i64 0) ∧ Upd (fun k => k = C ∨ k = FB ∨ k = RB) w1 w2 ∧ ∃ g' m' b', Qu w0 w2 A MA GB MB RA RB C FB g' m' b' := by
  refine (bfree_yes A MA GB m b x w h.D hx).mono ?_
  rintro e w1 ⟨rfl, D1, U1⟩
  rw [h.mB] at U1
  refine ⟨rfl, U1, ?_⟩
  obtain ⟨K1, R1, _⟩ := h.far U1
  refine (rfree_yes C RA FB g b (re m RB) x w1 K1 R1 (by rw [re_n]; exact h.D.n) hx).mono ?_
  rintro e w2 ⟨rfl, g', K2, R2, U2⟩
  rw [re_scrub] at R2
  exact ⟨rfl, U2, g', _, _, h.step D1 (by rw [Mem.scrub_B]; exact h.mB) U1 K2 R2 U2⟩
/-- a word written in both -/
theorem Qu.write {w0 w : World} {A MA GB MB RA RB C FB : Nat} {g : Value} {m : Mem} {b : Bud} (h : Qu w0 w A MA GB MB RA RB C FB g m b) (a v : Int) :
    Calls Try.prog 19 #[.pointer (some ⟨MA, 0, none⟩), .int .i64 a, .int .u64 v] w fun e w1 => e = .returned (.int .i64 (errI (m.has a))) ∧ Upd (fun k => k = GB ∨ k = MB) w w1 ∧
      Calls Try.prog 20 #[.pointer (some ⟨RA, 0, none⟩), .int .i64 a, .int .u64 v] w1 fun e w2 => e = .returned (.int .i64 (errI (m.has a))) ∧ Upd (fun k => k = C ∨ k = FB ∨ k = RB) w1 w2 ∧ ∃ g' m' b', Qu w0 w2 A MA GB MB RA RB C FB g' m' b' := by
  refine (write_any MA m a v w h.D.M).mono ?_
  rintro e w1 ⟨rfl, M1, U1⟩
  have hne := h.D.ne
  have D1 : Duo w1 A MA GB (m.wr a v) b := ⟨h.D.B.kept U1 hne.2.2.1 hne.2.2.2.2.1, M1, by rw [Mem.wr_n]; exact h.D.n⟩
  rw [h.mB] at U1
  have U1' : Upd (fun k => k = GB ∨ k = MB) w w1 := U1.mono fun _ _ e => .inr e
  refine ⟨rfl, U1', ?_⟩
  obtain ⟨K1, R1, _⟩ := h.far U1'
  refine (rWrite_any RA (re m RB) a v w1 R1).mono ?_
  rintro e w2 ⟨rfl, R2, U2⟩
  rw [re_B] at U2
  rw [re_wr] at R2
  have U2' : Upd (fun k => k = C ∨ k = FB ∨ k = RB) w1 w2 := U2.mono fun _ _ e => .inr (.inr e)
  have K2 := K1.kept U2 (fun e => ty2 K1.head R1.body (by decide) e) (fun e => ty2 K1.fr R1.body (by decide) e) (fun j hj e => ty_ne K1.gv R1.body (by decide) j hj e)
  exact ⟨rfl, U2', g, _, _, h.step D1 (by rw [Mem.wr_B]; exact h.mB) U1' K2 R2 U2'⟩
theorem op_kept {w w1 w2 : World} {GB MB C FB RB OB : Nat} {x : Obj} (hx : w.heap[OB]? = some x) (u1 : Upd (fun k => k = GB ∨ k = MB) w w1) (u2 : Upd (fun k => k = C ∨ k = FB ∨ k = RB) w1 w2) (v1 : OB ≠ GB) (v2 : OB ≠ MB) (v3 : OB ≠ C) (v4 : OB ≠ FB) (v5 : OB ≠ RB) : w2.heap[OB]? = some x :=
  u2.at (u1.at hx (by rintro (e | e); exact v1 e; exact v2 e)) (by rintro (e | e | e); exact v3 e; exact v4 e; exact v5 e)
theorem op_kept1 {w w1 : World} {GB MB OB : Nat} {x : Obj} (hx : w.heap[OB]? = some x) (u1 : Upd (fun k => k = GB ∨ k = MB) w w1) (v1 : OB ≠ GB) (v2 : OB ≠ MB) : w1.heap[OB]? = some x :=
  u1.at hx (by rintro (e | e); exact v1 e; exact v2 e)

/-- a remainder in a region that draws, ahead of its tail -/
theorem wpStill_rem {P : Program} {ops : Array Oper} {rest : List Oper} {op : Oper} {a : Act} {w : World} {Q : Act → Prop} (hw : Region.wanted op (yielded ops a.tmps) = true) (t u : TypeId) (x y : Operand) (ho : op.op = .binOp .rem t x y u)
    (n l : Nat) (hl : 0 < l) (hx : a.eval x = .int .i64 (n : Int)) (hy : a.eval y = .int .i64 (l : Int)) (q : Nat) (hq : n % l = q) (h : wpStill P ops w Q rest (a.put op.dst (.int .i64 (q : Int)))) : wpStill P ops w Q (op :: rest) a := by
  refine wpStill_step fun K hK => ?_
  rw [if_pos hw]
  unfold Oper.still execOp
  have e : (n : Int).tmod (l : Int) = (q : Int) := by rw [Int.tmod_eq_emod_of_nonneg (by omega), ← hq]; omega
  simp only [ho, hx, hy, eqGuard_rem, binOp_rem, Sem.run_bind, Sem.run_pure, Result.andThen_ok, Op.intDiv]
  simp only [e]
  simp [show ¬ l = 0 by omega]
  exact ⟨rfl, hK _ h⟩
end Go.Proofs.Ytmobhojblclmjaa.buddyPlays
