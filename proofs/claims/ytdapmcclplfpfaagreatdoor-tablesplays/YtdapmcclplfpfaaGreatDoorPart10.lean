/-
  Texts that the laws stand on, joined: TrY, TrZ, BgQ, TsA, HeldT, TrX, TsB, TsC, TsD.
-/
import Derived.Deep.RegionHeld3
import Derived.Test.YtdapmcclplfpfaaGreatDoorPart9

/-
  Both spaces side by side: allocators that have the same blocks given.
-/
namespace Go.Proofs.YtdapmcclplfpfaaGreatDoor
open Go.ChangeShapes Go.WideShapes Go.ChangeAt Go.RowKit Go.Shelf Go.Sort

theorem same_F {b d : Bud} (hb : b.Ok) (hd : d.Ok) (n : d.n = b.n) (r : d.res = b.res) (g : ∀ x, x ∈ d.gave ↔ x ∈ b.gave) : d.F = b.F := by
  funext j
  rw [Bool.eq_iff_iff, hb.fr, hd.fr, n, r]
  constructor
  · rintro ⟨a, c, e⟩; exact ⟨a, c, fun x hx => e x ((g x).2 hx)⟩
  · rintro ⟨a, c, e⟩; exact ⟨a, c, fun x hx => e x ((g x).1 hx)⟩
theorem sel_same {b d : Bud} (n : d.n = b.n) (F : d.F = b.F) (o : Nat) : d.sel o = b.sel o := by unfold Bud.sel; rw [n, F]
theorem left_same {b d : Bud} (n : d.n = b.n) (F : d.F = b.F) : d.left = b.left := by unfold Bud.left; rw [n, F]
theorem al_same {b d : Bud} (n : d.n = b.n) (F : d.F = b.F) : ∀ k, (d.al k).1 = (b.al k).1 ∧ (d.al k).2.n = (b.al k).2.n ∧ (d.al k).2.F = (b.al k).2.F
  | 0 => ⟨rfl, n, F⟩
  | k + 1 => by
    obtain ⟨e1, e2, e3⟩ := al_same n F k
    have hs := sel_same e2 e3 0
    unfold Bud.al
    cases hb : (b.al k).2.sel 0 with
    | none => rw [hs, hb]; exact ⟨e1, e2, e3⟩
    | some x =>
      rw [hs, hb]
      refine ⟨by show (d.al k).1 ++ _ = (b.al k).1 ++ _; rw [e1], e2, ?_⟩
      show cutF (d.al k).2.F _ = cutF (b.al k).2.F _
      rw [e3]
/-- both spaces: the program's and the document's -/
structure Twin (w : World) (S MA A GB MB C MC BC FB DB : Nat) (s : Sp) (m : Mem) (b : Bud) (Nd : List (Nat × Nat)) (vL vT g : Value) (md : Mem) (bd : Bud) : Prop where
  P : Spc w S MA A GB MB s m b Yn
  Z : Zs s m
  Q : DSp w C MC BC FB s Nd vL vT g md bd
  n : md.n = m.n
  res : bd.res = b.res
  B : md.B = DB
  ap : ∀ i j, (i = S ∨ i = MA ∨ i = A ∨ i = GB ∨ i = MB ∨ i = 0) → (j = C ∨ j = MC ∨ j = BC ∨ j = FB ∨ j = DB) → i ≠ j
theorem Twin.gave {w : World} {S MA A GB MB C MC BC FB DB : Nat} {s : Sp} {m : Mem} {b : Bud} {Nd : List (Nat × Nat)} {vL vT g : Value} {md : Mem} {bd : Bud} (h : Twin w S MA A GB MB C MC BC FB DB s m b Nd vL vT g md bd) : bd.n = b.n ∧ (∀ x, x ∈ bd.gave ↔ x ∈ b.gave) ∧ bd.F = b.F := by
  have hn : bd.n = b.n := by rw [← h.Q.I.bn, h.n, h.P.I.bn]
  have hg : ∀ x, x ∈ bd.gave ↔ x ∈ b.gave := fun x => by rw [h.Q.I.gv, h.P.I.gv]
  exact ⟨hn, hg, same_F h.P.I.bk h.Q.I.bk hn h.res hg⟩
theorem Twin.left {w : World} {S MA A GB MB C MC BC FB DB : Nat} {s : Sp} {m : Mem} {b : Bud} {Nd : List (Nat × Nat)} {vL vT g : Value} {md : Mem} {bd : Bud} (h : Twin w S MA A GB MB C MC BC FB DB s m b Nd vL vT g md bd) : bd.left = b.left := left_same h.gave.1 h.gave.2.2
/-- the words of both memories are the same -/
theorem Twin.words {w : World} {S MA A GB MB C MC BC FB DB : Nat} {s : Sp} {m : Mem} {b : Bud} {Nd : List (Nat × Nat)} {vL vT g : Value} {md : Mem} {bd : Bud} (h : Twin w S MA A GB MB C MC BC FB DB s m b Nd vL vT g md bd) : md.ws = m.ws :=
  same_words h.P.I.i h.Q.I.i h.Z h.Q.Z h.n h.P.I.mo h.Q.I.mo
theorem Twin.still {w w' : World} {S MA A GB MB C MC BC FB DB : Nat} {s : Sp} {m : Mem} {b : Bud} {Nd : List (Nat × Nat)} {vL vT g : Value} {md : Mem} {bd : Bud} (h : Twin w S MA A GB MB C MC BC FB DB s m b Nd vL vT g md bd) (u : Upd (fun _ => False) w w') : Twin w' S MA A GB MB C MC BC FB DB s m b Nd vL vT g md bd :=
  ⟨h.P.still u, h.Z, h.Q.still u, h.n, h.res, h.B, h.ap⟩
/-- the document's space behind the program's step -/
theorem Twin.mid {w w1 : World} {S MA A GB MB C MC BC FB DB : Nat} {s : Sp} {m : Mem} {b : Bud} {Nd : List (Nat × Nat)} {vL vT g : Value} {md : Mem} {bd : Bud} (h : Twin w S MA A GB MB C MC BC FB DB s m b Nd vL vT g md bd) (u : Upd (fun k => k = GB ∨ k = MB) w w1)
    (hr : ∀ j, (vL.ownBlock = some j ∨ vT.ownBlock = some j ∨ g.ownBlock = some j) → j ≠ GB ∧ j ≠ MB) : DSp w1 C MC BC FB s Nd vL vT g md bd := by
  have a := h.ap
  have B := h.B
  have nC : ∀ j, (j = C ∨ j = MC ∨ j = BC ∨ j = FB ∨ j = DB) → ¬ (j = GB ∨ j = MB) := fun j hj e => by
    rcases e with e | e
    · exact a GB j (.inr (.inr (.inr (.inl rfl)))) hj e.symm
    · exact a MB j (.inr (.inr (.inr (.inr (.inl rfl))))) hj e.symm
  have D := h.Q.D
  refine ⟨⟨D.a.kept u (nC C (.inl rfl)) (fun j hj e => by have := hr j (.inl hj); omega) (fun j hj e => by have := hr j (.inr (.inl hj)); omega), D.r.kept u (nC MC (.inr (.inl rfl))) (nC md.B (.inr (.inr (.inr (.inr B))))), ⟨u.at D.d.head (nC BC (.inr (.inr (.inl rfl)))), u.at D.d.fr (nC FB (.inr (.inr (.inr (.inl rfl))))), row_kept D.d.gv u (fun j hj e => by have := hr j (.inr (.inr hj)); omega), D.d.ok⟩, D.n⟩, h.Q.N, h.Q.I, h.Q.Z⟩
end Go.Proofs.YtdapmcclplfpfaaGreatDoor

/-
  The document's own spaces: Protect, over a whole space.
-/
namespace Go.Proofs.YtdapmcclplfpfaaGreatDoor
open Go.ChangeShapes Go.WideShapes Go.ChangeAt Go.RowKit Go.Shelf Go.Sort

theorem Sp.Ok.prot {s : Sp} {n : Nat} (h : s.Ok n) {j : Nat} (wb : Bool) (hv : (s.E 3 j).v = true) : (s.prot j wb).Ok n := by
  obtain ⟨_, ho2, _⟩ := h.page_on hv
  have hst := nd_step j 2 (by omega)
  rw [show nd j (2 + 1) = j from nd3 j] at hst
  have hf := h.f _ _ hv
  have hok := h.page ho2 (Nat.mod_lt j (by decide)) { s.E 3 j with r := wb } hv (h.pg _ hv) hf.1 hf.2
  rw [hst] at hok
  exact hok
theorem Sp.need.prot {s : Sp} (h : s.need) {j : Nat} (wb : Bool) (hv : (s.E 3 j).v = true) : (s.prot j wb).need := by
  intro l d h1 h2 ho
  rw [(s.prot_on j wb h2).1] at ho
  obtain ⟨p, hp', hc⟩ := h l d h1 h2 ho
  refine ⟨p, hp', ?_⟩
  by_cases e : l = 2
  · subst e
    rw [s.prot_E3]
    split
    · exact hv
    · exact hc
  · rw [s.prot_E _ _ _ _ (by omega)]; exact hc
set_option maxRecDepth 100000 in
/-- Protect of a page that is there -/
theorem rprotS_go (C MC BC FB : Nat) (s : Sp) (Nd : List (Nat × Nat)) (vL vT g : Value) (m : Mem) (b : Bud) (j : Nat) (wb : Bool) (w : World) (h : DSp w C MC BC FB s Nd vL vT g m b) (hv : (s.E 3 j).v = true) :
    Calls Tryz.prog 14 #[.pointer (some ⟨C, 0, none⟩), .int .i64 j, .bool wb] w fun e w' => e = .returned (.int .i64 0) ∧
      ∃ vL' m', DSp w' C MC BC FB (s.prot j wb) Nd vL' vT g m' b ∧ m'.n = m.n ∧ m'.B = m.B ∧ Upd (fun k => k = C ∨ k = m.B) w w' ∧ ∀ k, vL'.ownBlock = some k → w.heap.size ≤ k := by
  have hj := (h.I.ok.page_on hv).1
  have hp := page_at h.I.ok (j : Int)
  have hne := h.D.ne
  obtain ⟨i, hi, hix⟩ : ∃ i : Nat, s.pgs[i]? = some j ∧ ixN (pgIx s.pgL j) s.pgL.length = i := by
    rcases hp with ⟨i, j', e, _, _, hi, _, hix⟩ | ⟨_, hno⟩
    · obtain rfl : j = j' := by omega
      exact ⟨i, hi, hix⟩
    · rw [hno j rfl] at hv; cases hv
  have K := layM_keep (s.prot j wb) Nd h.I.mo h.I.hg
  obtain ⟨L1, L2⟩ := lay_inv (b := b) (h.I.ok.prot wb hv) (h.I.nee.prot wb hv) (h.N.prot j wb) h.I.hn h.I.mo h.I.hg h.I.bk h.I.bn (fun x => by
    rw [h.I.gv]
    constructor
    · rintro (⟨l, d, hl, ho, rfl⟩ | hy)
      · exact ⟨l, d, hl, by rw [(s.prot_on j wb hl).1]; exact ho, by rw [(s.prot_on j wb hl).2]⟩
      · exact hy.elim
    · rintro ⟨l, d, hl, ho, rfl⟩
      exact .inl ⟨l, d, hl, by rw [← (s.prot_on j wb hl).1]; exact ho, by rw [(s.prot_on j wb hl).2]⟩) (fun g p hg' hp' hno => h.Z g p hg' hp' (fun l d hl ho => by
        rw [← (s.prot_on j wb hl).2]
        exact hno l d hl (by rw [(s.prot_on j wb hl).1]; exact ho)))
  refine (rprotS_yes C MC BC s Nd vL vT m h.I.ok (fun j wb hv => h.I.ok.prot wb hv) h.N h.I.mo h.I.hg w ⟨h.D.a, h.D.r⟩ j i hj hv hi hix wb).mono ?_
  rintro e w' ⟨rfl, vL', L9, U9, hL⟩
  obtain ⟨c, l, t, gg, mm⟩ := hne
  refine ⟨rfl, vL', _, ⟨⟨L9.a, L9.r, ⟨U9.at h.D.d.head (by rintro (e | e) <;> omega), U9.at h.D.d.fr (by rintro (e | e) <;> omega), row_kept h.D.d.gv U9 (fun k hk e => by have := gg k hk; omega), h.D.d.ok⟩, by rw [K.n]; exact h.D.n⟩, h.N.prot j wb, L1, L2⟩, K.n, K.B, U9, hL⟩
end Go.Proofs.YtdapmcclplfpfaaGreatDoor

/-
  Both allocators side by side: the program's and the document's own, over the same words, in the same state.
-/
namespace Go.Proofs.YtdapmcclplfpfaaGreatDoor.buddyPlays
open Go.ChangeShapes Go.WideShapes Go.ChangeAt Go.RowKit Go.Maps

/-- the same memory elsewhere -/
def re (m : Mem) (B : Nat) : Mem := { m with B := B }
theorem re_wr (m : Mem) (B : Nat) (a v : Int) : (re m B).wr a v = re (m.wr a v) B := by
  unfold Mem.wr
  show (if m.has a then _ else _) = _
  split <;> rfl
theorem re_scrub (m : Mem) (B : Nat) (f k : Int) : (re m B).scrub f k = re (m.scrub f k) B := by
  unfold Mem.scrub
  show (if m.ex f k then _ else _) = _
  split <;> rfl
theorem re_has (m : Mem) (B : Nat) (a : Int) : (re m B).has a = m.has a := rfl
theorem re_rd (m : Mem) (B : Nat) (a : Int) : (re m B).rd a = m.rd a := rfl
theorem re_new (B B' n : Nat) : memNew B' n = re (memNew B n) B' := rfl
theorem re_B (m : Mem) (B : Nat) : (re m B).B = B := rfl
theorem re_n (m : Mem) (B : Nat) : (re m B).n = m.n := rfl
theorem box4 {w : World} {b t : Nat} {x y z u : Value} (h : w.heap[b]? = some (.cells #[x, y, z, u] t (0, 0))) : w.cell? ⟨b, 0, none⟩ = some x ∧ w.cell? ⟨b, 1, none⟩ = some y ∧ w.cell? ⟨b, 2, none⟩ = some z ∧ w.cell? ⟨b, 3, none⟩ = some u := by
  refine ⟨?_, ?_, ?_, ?_⟩ <;> (rw [cell_of_row w b _ _ _ _ h]; rfl)
theorem ty2 {w : World} {a b t t' : Nat} {c c' : Array Value} (h : w.heap[a]? = some (.cells c t (0, 0))) (h' : w.heap[b]? = some (.cells c' t' (0, 0))) (ht : t ≠ t') : a ≠ b := by
  intro e
  rw [e, h'] at h
  simp at h
  exact ht h.2.symm
theorem map2 {w : World} {A MA GB t b : Nat} {bu : Bud} {c : Array Value} (h : BudAt w A MA GB bu) (h' : w.heap[b]? = some (.cells c t (0, 0))) : b ≠ GB := by
  obtain ⟨D, ⟨es, cl, hb, _⟩, _⟩ := h.mp
  intro e
  rw [e, hb] at h'
  cases h'
theorem rowmap {w : World} {A MA GB base sz k : Nat} {e : TypeId} {v : Value} {xs : List Value} {bu : Bud} (h : BudAt w A MA GB bu) (hr : w.ownsRow base e sz v k xs) : ∀ j, v.ownBlock = some j → ¬ j = GB := by
  intro j hj
  rcases hr.2 with ⟨rfl, _⟩ | ⟨g, cap, cur, rfl, _, hgg, _⟩
  · simp [Value.ownBlock] at hj
  · have : j = g := by simpa [Value.ownBlock] using hj.symm
    rw [this]
    exact map2 h hgg
/-- both allocators, over the same words, in the same state -/
structure Qu (w0 w : World) (A MA GB MB RA RB C FB : Nat) (g : Value) (m : Mem) (b : Bud) : Prop where
  D : Duo w A MA GB m b
  R : RefAt w RA (re m RB)
  K : RBud w C RA FB g b
  mB : m.B = MB
  U : Upd (fun _ => False) w0 w
  lg : w0.heap.size ≤ GB
  lm : w0.heap.size ≤ MB
  lr : w0.heap.size ≤ RB
  lc : w0.heap.size ≤ C
  lf : w0.heap.size ≤ FB
section
variable {w0 w w1 w2 : World} {A MA GB MB RA RB C FB : Nat} {g g' : Value} {m m' : Mem} {b b' : Bud}
theorem Qu.body (h : Qu w0 w A MA GB MB RA RB C FB g m b) : w.heap[MB]? = some (.cells (ints .u64 m.ws).toArray 106 (0, 0)) := by rw [← h.mB]; exact h.D.M.body
theorem Qu.rbody (h : Qu w0 w A MA GB MB RA RB C FB g m b) : w.heap[RB]? = some (.cells (ints .u64 m.ws).toArray 56 (0, 0)) := h.R.body
theorem Qu.still (h : Qu w0 w A MA GB MB RA RB C FB g m b) (u : Upd (fun _ => False) w w1) : Qu w0 w1 A MA GB MB RA RB C FB g m b :=
  ⟨h.D.still u, h.R.kept u (fun h => h) (fun h => h), h.K.kept u (fun h => h) (fun h => h) (fun _ _ h => h), h.mB, h.U.trans u, h.lg, h.lm, h.lr, h.lc, h.lf⟩
/-- what the document's own allocator touches lies apart from the other's -/
theorem Qu.ref (h : Qu w0 w A MA GB MB RA RB C FB g m b) (D1 : Duo w1 A MA GB m' b') (u : Upd (fun k => k = C ∨ k = FB ∨ k = RB) w1 w2) (k1 : w1.heap[C]? = w.heap[C]?) (k2 : w1.heap[FB]? = w.heap[FB]?) (k3 : w1.heap[RB]? = w.heap[RB]?) : Duo w2 A MA GB m' b' := by
  have e1 := k1.trans h.K.head
  have e2 := k2.trans h.K.fr
  have e3 := k3.trans h.rbody
  refine D1.kept u ?_ ?_ ?_ ?_
  · rintro (e | e | e)
    · exact ty2 D1.B.head e1 (by decide) e
    · exact ty2 D1.B.head e2 (by decide) e
    · exact ty2 D1.B.head e3 (by decide) e
  · rintro (e | e | e)
    · exact map2 D1.B e1 e.symm
    · exact map2 D1.B e2 e.symm
    · exact map2 D1.B e3 e.symm
  · rintro (e | e | e)
    · exact ty2 D1.M.head e1 (by decide) e
    · exact ty2 D1.M.head e2 (by decide) e
    · exact ty2 D1.M.head e3 (by decide) e
  · rintro (e | e | e)
    · exact ty2 D1.M.body e1 (by decide) e
    · exact ty2 D1.M.body e2 (by decide) e
    · exact ty2 D1.M.body e3 (by decide) e
/-- what the program's allocator touches lies apart from the document's -/
theorem Qu.far (h : Qu w0 w A MA GB MB RA RB C FB g m b) (u : Upd (fun k => k = GB ∨ k = MB) w w1) : RBud w1 C RA FB g b ∧ RefAt w1 RA (re m RB) ∧ w1.heap[C]? = w.heap[C]? ∧ w1.heap[FB]? = w.heap[FB]? ∧ w1.heap[RB]? = w.heap[RB]? := by
  have hC : ¬ (C = GB ∨ C = MB) := by
    rintro (e | e)
    · exact map2 h.D.B h.K.head e
    · exact ty2 h.K.head h.body (by decide) e
  have hF : ¬ (FB = GB ∨ FB = MB) := by
    rintro (e | e)
    · exact map2 h.D.B h.K.fr e
    · exact ty2 h.K.fr h.body (by decide) e
  have hA : ¬ (RA = GB ∨ RA = MB) := by
    rintro (e | e)
    · exact map2 h.D.B h.R.head e
    · exact ty2 h.R.head h.body (by decide) e
  have hB : ¬ (RB = GB ∨ RB = MB) := by
    rintro (e | e)
    · exact map2 h.D.B h.rbody e
    · exact ty2 h.rbody h.body (by decide) e
  refine ⟨h.K.kept u hC hF fun j hj => ?_, h.R.kept u hA hB, ?_, ?_, ?_⟩
  · rintro (e | e)
    · exact rowmap h.D.B h.K.gv j hj e
    · exact ty_ne h.K.gv h.body (by decide) j hj e
  · rw [u.at h.K.head hC, h.K.head]
  · rw [u.at h.K.fr hF, h.K.fr]
  · rw [u.at h.rbody hB, h.rbody]
/-- a call on the one, then on the other -/
theorem Qu.step (h : Qu w0 w A MA GB MB RA RB C FB g m b) (D1 : Duo w1 A MA GB m' b') (hm : m'.B = MB) (u : Upd (fun k => k = GB ∨ k = MB) w w1) (K2 : RBud w2 C RA FB g' b') (R2 : RefAt w2 RA (re m' RB)) (u2 : Upd (fun k => k = C ∨ k = FB ∨ k = RB) w1 w2) : Qu w0 w2 A MA GB MB RA RB C FB g' m' b' := by
  obtain ⟨_, _, k1, k2, k3⟩ := h.far u
  refine ⟨h.ref D1 u2 k1 k2 k3, R2, K2, hm, (h.U.since u fun k hk => ?_).since u2 fun k hk => ?_, h.lg, h.lm, h.lr, h.lc, h.lf⟩
  · rcases hk with rfl | rfl
    · exact h.lg
    · exact h.lm
  · rcases hk with rfl | rfl | rfl
    · exact h.lc
    · exact h.lf
    · exact h.lr
end

theorem bfree_no (A MA GB : Nat) (m : Mem) (b : Bud) (f o : Int) (w : World) (h : Duo w A MA GB m b) (hwf : (Lit.int .i64 f).wf = true) (hno : ∀ x, x ∈ b.gave → isB x f o = false) :
    Calls Tryz.prog 71 #[.pointer (some ⟨A, 0, none⟩), .int .i64 f, .int .i64 o] w fun e w' => e = .returned (.int .i64 2) ∧ w = w' := by
  refine (bFree_any A MA GB m b f o w h.B h.M hwf).mono ?_
  rintro e w' (⟨_, rfl, rfl⟩ | ⟨y, hy, e1, e2, _⟩)
  · exact ⟨rfl, rfl⟩
  · have := hno y hy
    rw [show isB y f o = true from decide_eq_true ⟨e1, e2⟩] at this
    cases this
theorem rfree_no (C MP FB : Nat) (g : Value) (b : Bud) (m : Mem) (f o : Int) (w : World) (h : RBud w C MP FB g b) (hm : RefAt w MP m) (hn : m.n = b.n) (hno : ∀ x, x ∈ b.gave → isB x f o = false) :
    Calls Tryz.prog 40 #[.pointer (some ⟨C, 0, none⟩), .int .i64 f, .int .i64 o] w fun e w' => e = .returned (.int .i64 2) ∧ w = w' := by
  refine (rFree_any C MP FB g b m f o w h hm hn).mono ?_
  rintro e w' (⟨_, rfl, rfl⟩ | ⟨y, g', hy, e1, e2, _⟩)
  · exact ⟨rfl, rfl⟩
  · have := hno y hy
    rw [show isB y f o = true from decide_eq_true ⟨e1, e2⟩] at this
    cases this
theorem rfree_yes (C MP FB : Nat) (g : Value) (b : Bud) (m : Mem) (x : Nat × Nat) (w : World) (h : RBud w C MP FB g b) (hm : RefAt w MP m) (hn : m.n = b.n) (hx : x ∈ b.gave) :
    Calls Tryz.prog 40 #[.pointer (some ⟨C, 0, none⟩), .int .i64 x.1, .int .i64 x.2] w fun e w' => e = .returned (.int .i64 0) ∧ ∃ g', RBud w' C MP FB g' (b.take x) ∧ RefAt w' MP (m.scrub x.1 ((2 ^ x.2 : Nat) : Int)) ∧ Upd (fun k => k = C ∨ k = FB ∨ k = m.B) w w' := by
  refine (rFree_any C MP FB g b m x.1 x.2 w h hm hn).mono ?_
  rintro e w' (⟨hno, _⟩ | ⟨y, g', hy, e1, e2, rfl, K, M, U, _⟩)
  · have := hno x hx
    simp [isB] at this
  · obtain rfl : y = x := Prod.ext (by omega) (by omega)
    exact ⟨rfl, g', K, M, U⟩
/-- an Alloc of whatever order, on the one and then on the other -/
theorem Qu.alloc {w0 w : World} {A MA GB MB RA RB C FB : Nat} {g : Value} {m : Mem} {b : Bud} (h : Qu w0 w A MA GB MB RA RB C FB g m b) (o : Int) :
    Calls Tryz.prog 60 #[.pointer (some ⟨A, 0, none⟩), .int .i64 o] w fun e w1 => ∃ x y : Int, e = .returned (.tuple #[.int .i64 x, .int .i64 y]) ∧ Upd (fun k => k = GB ∨ k = MB) w w1 ∧
      Calls Tryz.prog 31 #[.pointer (some ⟨C, 0, none⟩), .int .i64 o] w1 fun e w2 => e = .returned (.tuple #[.int .i64 x, .int .i64 y]) ∧ Upd (fun k => k = C ∨ k = FB ∨ k = RB) w1 w2 ∧ ∃ g' b', Qu w0 w2 A MA GB MB RA RB C FB g' m b' := by
  by_cases ho : 0 ≤ o ∧ o ≤ 8
  · obtain ⟨k, rfl⟩ := Int.eq_ofNat_of_zero_le ho.1
    have hk8 : k ≤ 8 := by omega
    refine (bAlloc_any A MA GB m b k w h.D.B h.D.M h.D.n hk8).mono ?_
    rintro e w1 (⟨hs, rfl, U1⟩ | ⟨x, hs, rfl, B1, U1⟩)
    · refine ⟨_, _, rfl, U1.mono fun _ _ h => h.elim, ?_⟩
      have h1 := h.still U1
      refine (rAlloc_any C RA FB g b k w1 h1.K hk8).mono ?_
      rintro e w2 (⟨_, rfl, B2⟩ | ⟨y, g', hs', _⟩)
      · exact ⟨rfl, Upd.of_below B2, g, b, h1.still (Upd.of_below B2)⟩
      · rw [hs] at hs'; cases hs'
    · have U1' : Upd (fun k => k = GB ∨ k = MB) w w1 := U1.mono fun _ _ h => .inl h
      refine ⟨_, _, rfl, U1', ?_⟩
      obtain ⟨K1, R1, _⟩ := h.far U1'
      refine (rAlloc_any C RA FB g b k w1 K1 hk8).mono ?_
      rintro e w2 (⟨hs', _⟩ | ⟨y, g', hs', rfl, K2, U2, _⟩)
      · rw [hs] at hs'; cases hs'
      · rw [hs] at hs'
        obtain rfl : x = y := by injection hs'
        have U2' : Upd (fun k => k = C ∨ k = FB ∨ k = RB) w1 w2 := U2.mono fun z _ hz => by
          rcases hz with e | e
          · exact .inl e
          · exact .inr (.inl e)
        have R2 := R1.kept U2 (by rintro (e | e); { exact ty2 R1.head K1.head (by decide) e }; { exact ty2 R1.head K1.fr (by decide) e }) (by rintro (e | e); { exact ty2 R1.body K1.head (by decide) e }; { exact ty2 R1.body K1.fr (by decide) e })
        exact ⟨rfl, U2', g', _, h.step (h.D.gb B1 U1 rfl) h.mB U1' K2 R2 U2'⟩
  · refine (bAlloc_bad A o w (by omega)).mono ?_
    rintro e w1 ⟨rfl, rfl⟩
    refine ⟨_, _, rfl, Upd.refl _ _, ?_⟩
    refine (rAlloc_bad C o w (by omega)).mono ?_
    rintro e w2 ⟨rfl, rfl⟩
    exact ⟨rfl, Upd.refl _ _, g, b, h⟩
/-- a Free of a given block on both -/
theorem Qu.free {w0 w : World} {A MA GB MB RA RB C FB : Nat} {g : Value} {m : Mem} {b : Bud} (h : Qu w0 w A MA GB MB RA RB C FB g m b) {x : Nat × Nat} (hx : x ∈ b.gave) :
    Calls Tryz.prog 71 #[.pointer (some ⟨A, 0, none⟩), .int .i64 x.1, .int .i64 x.2] w fun e w1 => e = .returned (.int .i64 0) ∧ Upd (fun k => k = GB ∨ k = MB) w w1 ∧
      Calls Tryz.prog 40 #[.pointer (some ⟨C, 0, none⟩), .int .i64 x.1, .int .i64 x.2] w1 fun e w2 => e = .returned (.int .i64 0) ∧ Upd (fun k => k = C ∨ k = FB ∨ k = RB) w1 w2 ∧ ∃ g' m' b', Qu w0 w2 A MA GB MB RA RB C FB g' m' b' := by
  refine (bfree_yes A MA GB m b x w h.D hx).mono ?_
  rintro e w1 ⟨rfl, D1, U1⟩
  rw [h.mB] at U1
  refine ⟨rfl, U1, ?_⟩
  obtain ⟨K1, R1, _⟩ := h.far U1
  refine (rfree_yes C RA FB g b (re m RB) x w1 K1 R1 (by rw [re_n]; exact h.D.n) hx).mono ?_
  rintro e w2 ⟨rfl, g', K2, R2, U2⟩
  rw [re_scrub] at R2
  exact ⟨rfl, U2, g', _, _, h.step D1 (by rw [Mem.scrub_B]; exact h.mB) U1 K2 R2 U2⟩
theorem op_kept {w w1 w2 : World} {GB MB C FB RB OB : Nat} {x : Obj} (hx : w.heap[OB]? = some x) (u1 : Upd (fun k => k = GB ∨ k = MB) w w1) (u2 : Upd (fun k => k = C ∨ k = FB ∨ k = RB) w1 w2) (v1 : OB ≠ GB) (v2 : OB ≠ MB) (v3 : OB ≠ C) (v4 : OB ≠ FB) (v5 : OB ≠ RB) : w2.heap[OB]? = some x :=
  u2.at (u1.at hx (by rintro (e | e); exact v1 e; exact v2 e)) (by rintro (e | e | e); exact v3 e; exact v4 e; exact v5 e)
theorem op_kept1 {w w1 : World} {GB MB OB : Nat} {x : Obj} (hx : w.heap[OB]? = some x) (u1 : Upd (fun k => k = GB ∨ k = MB) w w1) (v1 : OB ≠ GB) (v2 : OB ≠ MB) : w1.heap[OB]? = some x :=
  u1.at hx (by rintro (e | e); exact v1 e; exact v2 e)

/-- a remainder in a region that draws, ahead of its tail -/
theorem wpStill_rem {P : Program} {ops : Array Oper} {rest : List Oper} {op : Oper} {a : Act} {w : World} {Q : Act → Prop} (hw : Region.wanted op (yielded ops a.tmps) = true) (t u : TypeId) (x y : Operand) (ho : op.op = .binOp .rem t x y u)
    (n l : Nat) (hl : 0 < l) (hx : a.eval x = .int .i64 (n : Int)) (hy : a.eval y = .int .i64 (l : Int)) (q : Nat) (hq : n % l = q) (h : wpStill P ops w Q rest (a.put op.dst (.int .i64 (q : Int)))) : wpStill P ops w Q (op :: rest) a := by
  refine wpStill_step fun K hK => ?_
  rw [if_pos hw]
  unfold Oper.still execOp
  have e : (n : Int).tmod (l : Int) = (q : Int) := by rw [Int.tmod_eq_emod_of_nonneg (by omega), ← hq]; omega
  simp only [ho, hx, hy, eqGuard_rem, binOp_rem, Sem.run_bind, Sem.run_pure, Result.andThen_ok, Op.intDiv]
  simp only [e]
  simp [show ¬ l = 0 by omega]
  exact ⟨rfl, hK _ h⟩
end Go.Proofs.YtdapmcclplfpfaaGreatDoor.buddyPlays

/-
  Both spaces side by side: Protect, Unmap.
-/
namespace Go.Proofs.YtdapmcclplfpfaaGreatDoor
open Go.ChangeShapes Go.WideShapes Go.ChangeAt Go.RowKit Go.Shelf Go.Sort

theorem own_map {w : World} {A MA GB base sz k : Nat} {e : TypeId} {v : Value} {xs : List Value} {bu : Bud} (h : BudAt w A MA GB bu) (hr : w.ownsRow base e sz v k xs) : ∀ j, v.ownBlock = some j → ¬ j = GB := by
  intro j hj
  obtain ⟨D, ⟨es, cl, hb, _⟩, _⟩ := h.mp
  rcases hr.2 with ⟨rfl, _⟩ | ⟨g, cap, cur, rfl, _, hgg, _⟩
  · simp [Value.ownBlock] at hj
  · simp only [Value.ownBlock, Option.some.injEq] at hj
    subst hj
    intro e
    rw [e, hb] at hgg
    cases hgg
theorem Twin.rows {w : World} {S MA A GB MB C MC BC FB DB : Nat} {s : Sp} {m : Mem} {b : Bud} {Nd : List (Nat × Nat)} {vL vT g : Value} {md : Mem} {bd : Bud} (h : Twin w S MA A GB MB C MC BC FB DB s m b Nd vL vT g md bd) :
    ∀ j, (vL.ownBlock = some j ∨ vT.ownBlock = some j ∨ g.ownBlock = some j) → j ≠ GB ∧ j ≠ MB := by
  have bo := h.P.D.M.body
  rw [h.P.B] at bo
  rintro j (hj | hj | hj)
  · exact ⟨own_map h.P.D.B h.Q.D.a.pages j hj, ty_ne h.Q.D.a.pages bo (by decide) j hj⟩
  · exact ⟨own_map h.P.D.B h.Q.D.a.tabs j hj, ty_ne h.Q.D.a.tabs bo (by decide) j hj⟩
  · exact ⟨own_map h.P.D.B h.Q.D.d.gv j hj, ty_ne h.Q.D.d.gv bo (by decide) j hj⟩
/-- behind the step of both -/
theorem Twin.join {w w1 w2 : World} {S MA A GB MB C MC BC FB DB : Nat} {s s' : Sp} {m m' : Mem} {b b' : Bud} {Nd Nd' : List (Nat × Nat)} {vL vT g vL' vT' g' : Value} {md md' : Mem} {bd bd' : Bud} (h : Twin w S MA A GB MB C MC BC FB DB s m b Nd vL vT g md bd)
    (P : Spc w1 S MA A GB MB s' m' b' Yn) (z : Zs s' m') (u : Upd (fun k => k = C ∨ k = BC ∨ k = FB ∨ k = md.B) w1 w2) (Q : DSp w2 C MC BC FB s' Nd' vL' vT' g' md' bd') (n : m'.n = m.n) (nd : md'.n = md.n) (r : b'.res = b.res) (rd : bd'.res = bd.res) (B : md'.B = md.B) :
    Twin w2 S MA A GB MB C MC BC FB DB s' m' b' Nd' vL' vT' g' md' bd' := by
  have a := h.ap
  have hB := h.B
  have k : ∀ i, (i = S ∨ i = MA ∨ i = A ∨ i = GB ∨ i = MB ∨ i = 0) → ¬ (i = C ∨ i = BC ∨ i = FB ∨ i = md.B) := fun i hi e => by
    rcases e with e | e | e | e
    · exact a i C hi (.inl rfl) e
    · exact a i BC hi (.inr (.inr (.inl rfl))) e
    · exact a i FB hi (.inr (.inr (.inr (.inl rfl)))) e
    · exact a i DB hi (.inr (.inr (.inr (.inr rfl)))) (e.trans hB)
  exact ⟨P.kept u (k S (.inl rfl)) (k A (.inr (.inr (.inl rfl)))) (k GB (.inr (.inr (.inr (.inl rfl))))) (k MA (.inr (.inl rfl))) (k MB (.inr (.inr (.inr (.inr (.inl rfl)))))) (k _ (.inr (.inr (.inr (.inr (.inr rfl)))))), z, Q, by rw [nd, n, h.n], by rw [rd, r, h.res], by rw [B, hB], a⟩
/-- what both steps turn -/
def TwS (GB MB C BC FB DB : Nat) : Nat → Prop := fun k => k = GB ∨ k = MB ∨ k = C ∨ k = BC ∨ k = FB ∨ k = DB
theorem Twin.turned {w w1 w2 : World} {GB MB C BC FB DB B : Nat} (hB : B = DB) (u : Upd (fun k => k = GB ∨ k = MB) w w1) (v : Upd (fun k => k = C ∨ k = BC ∨ k = FB ∨ k = B) w1 w2) : Upd (TwS GB MB C BC FB DB) w w2 :=
  (u.mono (T := TwS GB MB C BC FB DB) fun _ _ e => by unfold TwS; omega).trans (v.mono (T := TwS GB MB C BC FB DB) fun _ _ e => by unfold TwS; omega)
/-- Protect of both -/
theorem twin_protect {w : World} {S MA A GB MB C MC BC FB DB : Nat} {s : Sp} {m : Mem} {b : Bud} {Nd : List (Nat × Nat)} {vL vT g : Value} {md : Mem} {bd : Bud} (h : Twin w S MA A GB MB C MC BC FB DB s m b Nd vL vT g md bd) (q : Int) (wb : Bool) :
    Calls Tryz.prog 13 #[.pointer (some ⟨S, 0, none⟩), .int .i64 q, .bool wb] w fun e w1 => ∃ x : Int, e = .returned (.int .i64 x) ∧ Upd (fun k => k = GB ∨ k = MB) w w1 ∧
      Calls Tryz.prog 14 #[.pointer (some ⟨C, 0, none⟩), .int .i64 q, .bool wb] w1 fun e w2 => e = .returned (.int .i64 x) ∧
        ∃ s' m' b' Nd' vL' vT' g' md' bd', Twin w2 S MA A GB MB C MC BC FB DB s' m' b' Nd' vL' vT' g' md' bd' ∧ Upd (TwS GB MB C BC FB DB) w w2 := by
  refine (spc_protect_z h.P h.Z q wb).mono ?_
  rintro e w1 ⟨x, s', m', rfl, P, u, R, e12, z⟩
  refine ⟨x, rfl, u, ?_⟩
  have Q := h.mid u h.rows
  rcases R.r with ⟨hx, rfl, rfl⟩ | ⟨rfl, qn, rfl, hq, hv, hr, hE⟩
  · have hno : ¬ (0 ≤ q ∧ q ≤ 4095) ∨ (s'.E 3 q.toNat).v = false := by
      by_cases c : 0 ≤ q ∧ q ≤ 4095
      · refine .inr ?_
        cases hv : (s'.E 3 q.toNat).v
        · rfl
        · have := R.xe
          rw [if_pos c, if_pos hv] at this
          exact absurd this hx
      · exact .inl c
    refine (rprotS_no C MC BC FB _ Nd vL vT g md bd q wb w1 Q hno).mono ?_
    rintro e w2 ⟨rfl, rfl⟩
    have u1 := (Upd.refl (fun k => k = C ∨ k = BC ∨ k = FB ∨ k = md.B) w1)
    refine ⟨?_, _, _, _, _, _, _, _, _, _, h.join P z u1 Q rfl rfl rfl rfl rfl, Twin.turned h.B u u1⟩
    rw [R.xe]
    by_cases c : 0 ≤ q ∧ q ≤ 4095
    · rw [if_pos c, if_pos c, if_neg (by rw [hno.resolve_left (fun e => e c)]; decide)]
    · rw [if_neg c, if_neg c]
  · have hs : s' = s.prot qn wb := by
      refine Sp.ext_of P.I.ok (h.P.I.ok.prot wb hv) hr fun l d h1 h2 => ?_
      by_cases c : l = 3
      · subst c; rw [hE, s.prot_E3]
      · rw [e12 l d (by omega), s.prot_E _ _ _ _ (by omega)]
    subst hs
    refine (rprotS_go C MC BC FB s Nd vL vT g md bd qn wb w1 Q hv).mono ?_
    rintro e w2 ⟨rfl, vL', md', Q', nd, B, u2, -⟩
    have u2 : Upd (fun k => k = C ∨ k = BC ∨ k = FB ∨ k = md.B) w1 w2 := u2.mono fun _ _ e => by omega
    exact ⟨rfl, _, _, _, _, _, _, _, _, _, h.join P z u2 Q' R.n nd rfl rfl B, Twin.turned h.B u u2⟩
/-- Unmap of both -/
theorem twin_unmap {w : World} {S MA A GB MB C MC BC FB DB : Nat} {s : Sp} {m : Mem} {b : Bud} {Nd : List (Nat × Nat)} {vL vT g : Value} {md : Mem} {bd : Bud} (h : Twin w S MA A GB MB C MC BC FB DB s m b Nd vL vT g md bd) (q : Int) :
    Calls Tryz.prog 11 #[.pointer (some ⟨S, 0, none⟩), .int .i64 q] w fun e w1 => ∃ f x : Int, e = .returned (.tuple #[.int .i64 f, .int .i64 x]) ∧ Upd (fun k => k = GB ∨ k = MB) w w1 ∧
      Calls Tryz.prog 12 #[.pointer (some ⟨C, 0, none⟩), .int .i64 q] w1 fun e w2 => e = .returned (.tuple #[.int .i64 f, .int .i64 x]) ∧
        ∃ s' m' b' Nd' vL' vT' g' md' bd', Twin w2 S MA A GB MB C MC BC FB DB s' m' b' Nd' vL' vT' g' md' bd' ∧ Upd (TwS GB MB C BC FB DB) w w2 := by
  refine (spc_unmap_z h.P h.Z q).mono ?_
  rintro e w1 ⟨f, x, s', m', b', rfl, P, u, R, z⟩
  refine ⟨f, x, rfl, u, ?_⟩
  have Q := h.mid u h.rows
  rcases R.r with ⟨hx, rfl, rfl, rfl, rfl⟩ | ⟨rfl, qn, rfl, hq, hv, rfl, hr, hE⟩
  · have hno : ¬ (0 ≤ q ∧ q ≤ 4095) ∨ (s'.E 3 q.toNat).v = false := by
      by_cases c : 0 ≤ q ∧ q ≤ 4095
      · refine .inr ?_
        cases hv : (s'.E 3 q.toNat).v
        · rfl
        · have := R.xe
          rw [if_pos c, if_pos hv] at this
          exact absurd this hx
      · exact .inl c
    refine (runmapS_no C MC BC FB _ Nd vL vT g md bd q w1 Q hno).mono ?_
    rintro e w2 ⟨rfl, rfl⟩
    have u1 := (Upd.refl (fun k => k = C ∨ k = BC ∨ k = FB ∨ k = md.B) w1)
    refine ⟨?_, _, _, _, _, _, _, _, _, _, h.join P z u1 Q rfl rfl rfl rfl rfl, Twin.turned h.B u u1⟩
    rw [R.xe]
    by_cases c : 0 ≤ q ∧ q ≤ 4095
    · rw [if_pos c, if_pos c, if_neg (by rw [hno.resolve_left (fun e => e c)]; decide)]
    · rw [if_neg c, if_neg c]
  · have G : Gone s s' md.n qn := ⟨Q.I.ok, by rw [h.n, ← R.n]; exact P.I.ok, Q.I.nee, P.I.nee, hv, hr, hE, R.e⟩
    refine (runmapS_yes C MC BC FB s s' Nd vL vT g md bd qn w1 Q G).mono ?_
    rintro e w2 ⟨rfl, vL', vT', g', md', bd', Q', nd, B, rd, u2⟩
    exact ⟨rfl, _, _, _, _, _, _, _, _, _, h.join P z u2 Q' R.n nd R.res rd B, Twin.turned h.B u u2⟩
end Go.Proofs.YtdapmcclplfpfaaGreatDoor

/-
  A region that draws, whose last operation turns what its loads read: a held walk in which S need not hold behind that one operation.
-/
namespace Go.Proofs.YtdapmcclplfpfaaGreatDoor

section
variable {P : Program} {md : Region.Mode} {ops : Array Oper} {Q : Exit → Act → World → Prop} {S : World → Prop}
/-- whatever order is picked, S holds behind each operation but number z -/
def AnyT (P : Program) (md : Region.Mode) (ops : Array Oper) (Q : Exit → Act → World → Prop) (S : World → Prop) (z : Nat) : Nat → Array Bool → Act → World → Prop
  | 0, up, a, w => Region.ready md ops up = [] ∧ Q .normal a w
  | n + 1, up, a, w => (Region.ready md ops up = [] → Q .normal a w) ∧
    ∀ j, j ∈ Region.ready md ops up → wpOp P ops Q j (fun a' w' => (j ≠ z → S w') ∧ AnyT P md ops Q S z n (up.setIfInBounds j true) a' w') a w
theorem AnyT.any {z : Nat} : ∀ (n : Nat) {up : Array Bool} {a : Act} {w : World}, AnyT P md ops Q S z n up a w → wpAny P md ops Q n up a w
  | 0, _, _, _, h => h
  | n + 1, _, _, _, h => ⟨h.1, fun j hj => wpOp_mono (fun _ _ k => AnyT.any n k.2) (h.2 j hj)⟩
/-- none of a row of operations has come up, and each waits for the next -/
def rowB (md : Region.Mode) (ops : Array Oper) (up : Array Bool) : List Nat → Bool
  | [] => true
  | [c] => !up.getD c true
  | c :: d :: l => !up.getD c true && (match ops[c]? with | some o => o.after.any (fun e => Region.binds md e && e.on == d) | none => false) && rowB md ops up (d :: l)
theorem rowB_un {up : Array Bool} {d : Nat} {l : List Nat} (h : rowB md ops up (d :: l) = true) : up.getD d true = false := by
  cases l with
  | nil => simpa [rowB] using h
  | cons e l =>
    simp only [rowB, Bool.and_eq_true] at h
    simpa using h.1.1
theorem rowB_no {up : Array Bool} {c d : Nat} {l : List Nat} (h : rowB md ops up (c :: d :: l) = true) : c ∉ Region.ready md ops up := by
  intro hc
  obtain ⟨_, o, ho, hall⟩ := mem_ready.1 hc
  simp only [rowB, Bool.and_eq_true, ho] at h
  obtain ⟨⟨_, h2⟩, h3⟩ := h
  obtain ⟨e, he, hb⟩ := Array.any_eq_true'.1 h2
  simp only [Bool.and_eq_true, beq_iff_eq] at hb
  have h4 := hall e he hb.1
  have h5 := rowB_un h3
  rw [hb.2] at h4
  rcases Nat.lt_or_ge d up.size with q | q
  · simp [q] at h4 h5; rw [h4] at h5; cases h5
  · simp [Array.getElem?_eq_none q] at h4
theorem rowB_set {up : Array Bool} {j : Nat} (hj : j ∈ Region.ready md ops up) : ∀ {l : List Nat}, rowB md ops up l = true → (∀ x, l.getLast? = some x → j ≠ x) → rowB md ops (up.setIfInBounds j true) l = true
  | [], _, _ => rfl
  | [c], h, hne => by
    have := hne c rfl
    simp only [rowB] at *
    rw [getD_set_ne true this]; exact h
  | c :: d :: l, h, hne => by
    have hc : j ≠ c := fun e => rowB_no h (e ▸ hj)
    have h' := h
    simp only [rowB, Bool.and_eq_true] at h' ⊢
    refine ⟨⟨?_, h'.1.2⟩, rowB_set hj h'.2 fun x hx => hne x (by rw [List.getLast?_cons_cons]; exact hx)⟩
    rw [getD_set_ne true hc]; exact h'.1.1
theorem AnyT.first {i z d : Nat} {L : List Nat} {oi : Oper} {v : Value} (hi : ops[i]? = some oi) (hsel : ∀ (j : Nat) (o : Oper) cs b, ops[j]? = some o → o.op ≠ .select cs b)
    (hQ : ∀ c a w, Q (.panic c) (a.put oi.dst v) w → Q (.panic c) a w) (hl : (z :: d :: L).getLast? = some i) :
    ∀ (n : Nat) (up : Array Bool) (a : Act) (w : World), rowB md ops up (z :: d :: L) = true →
      (∀ j oj, ops[j]? = some oj → j ≠ i → up.getD j true = false → (∀ e ∈ oj.after, Region.binds md e = true → e.on ≠ i) → oi.apart ops oj = true) →
      i ∈ Region.ready md ops up → YieldsIf P ops S oi v a → S w → AnyT P md ops Q S z n (up.setIfInBounds i true) (a.put oi.dst v) w → AnyT P md ops Q S z (n + 1) up a w
  | 0, up, a, w, _, _, hr, hy, hS, h => by
    refine ⟨fun e => (by rw [e] at hr; cases hr), fun j hj => ?_⟩
    by_cases e : j = i
    · subst e; exact hy.wpOp hi hS ⟨fun _ => hS, h⟩
    · have := ready_mono hj e
      rw [h.1] at this
      cases this
  | n + 1, up, a, w, hrow, hfree, hr, hy, hS, h => by
    refine ⟨fun e => (by rw [e] at hr; cases hr), fun j hj => ?_⟩
    by_cases e : j = i
    · subst e; exact hy.wpOp hi hS ⟨fun _ => hS, h⟩
    · obtain ⟨hun, oj, hoj, hall⟩ := mem_ready.1 hj
      have hjz : j ≠ z := fun q => rowB_no hrow (q ▸ hj)
      have hnot : ∀ e ∈ oj.after, Region.binds md e = true → e.on ≠ i := fun e he hb q => by
        have h1 := hall e he hb
        have h0 := (mem_ready.1 hr).1
        rw [q] at h1
        rcases Nat.lt_or_ge i up.size with c | c
        · simp [c] at h0 h1; rw [h0] at h1; cases h1
        · simp [Array.getElem?_eq_none c] at h1
      have h2 := wpOp_putIf hoj (hfree j oj hoj e hun hnot) (fun cs b => hsel i oi cs b hi) (fun cs b => hsel j oj cs b hoj) hQ hy (h.2 j (ready_mono hj e))
      refine wpOp_mono (fun a' w' k => ⟨k.2.1, AnyT.first hi hsel hQ hl n (up.setIfInBounds j true) a' w' (rowB_set hj hrow fun x hx => by rw [hl] at hx; cases hx; exact e) ?_ (ready_mono hr (Ne.symm e)) k.1 (k.2.1 hjz) ?_⟩) h2
      · intro k ok hk hki hu hno
        refine hfree k ok hk hki ?_ hno
        by_cases q : j = k
        · subst q; exact hun
        · rw [getD_set_ne true q] at hu; exact hu
      · rw [Array.setIfInBounds_comm _ _ e]
        exact k.2.2
/-- taken first -/
theorem AnyT.take {i z d : Nat} {L : List Nat} {oi : Oper} {v : Value} {n : Nat} {up : Array Bool} {a : Act} {w : World} (hi : ops[i]? = some oi) (hs : Region.noSelect ops = true) (hf : Region.free md ops up i = true)
    (hr : (Region.ready md ops up).contains i = true) (hl : (z :: d :: L).getLast? = some i) (hrow : rowB md ops up (z :: d :: L) = true) (hQ : ∀ c a w, Q (.panic c) (a.put oi.dst v) w → Q (.panic c) a w)
    (hy : YieldsIf P ops S oi v a) (hS : S w) (h : AnyT P md ops Q S z n (up.setIfInBounds i true) (a.put oi.dst v) w) : AnyT P md ops Q S z (n + 1) up a w :=
  AnyT.first hi (Region.noSelect_spec hs) hQ hl n up a w hrow (Region.free_spec hi hf) (by simpa using hr) hy hS h
/-- one that may come up -/
theorem AnyT.all {z : Nat} {rs : List Nat} {n : Nat} {up : Array Bool} {a : Act} {w : World} (hr : Region.ready md ops up = rs) (hne : rs ≠ [])
    (h : ∀ i, i ∈ rs → wpOp P ops Q i (fun a' w' => (i ≠ z → S w') ∧ AnyT P md ops Q S z n (up.setIfInBounds i true) a' w') a w) : AnyT P md ops Q S z (n + 1) up a w :=
  ⟨fun e => absurd (hr ▸ e) hne, fun j hj => h j (by rw [← hr]; exact hj)⟩
theorem AnyT.done {z : Nat} {up : Array Bool} {a : Act} {w : World} (hr : Region.ready md ops up = []) (h : Q .normal a w) : ∀ n, AnyT P md ops Q S z n up a w
  | 0 => ⟨hr, h⟩
  | _ + 1 => ⟨fun _ => h, fun j hj => by rw [hr] at hj; cases hj⟩
/-- a region that draws -/
theorem wp_region_T {id : Nat} {a : Act} {w : World} (z : Nat) (S : World → Prop) (hm : P.follows .mixedOrders = true) (h : AnyT P .any ops Q S z ops.size (Array.replicate ops.size false) a w.drew) : (Code.region id ops true).wp P Q a w :=
  wp_region_any hm (AnyT.any _ h)
end
/-- an operation by its place in the row -/
theorem at_of_drop {ops : Array Oper} {i : Nat} {o : Oper} {r : List Oper} (h : ops.toList.drop i = o :: r) : ops[i]? = some o := by
  have e : (ops.toList.drop i)[0]? = some o := by rw [h]; rfl
  rw [List.getElem?_drop, Nat.add_zero, Array.getElem?_toList] at e
  exact e
/-- number i is taken first; number z (the last) waits for it at once -/
theorem AnyT.take2 {P : Program} {md : Region.Mode} {ops : Array Oper} {Q : Exit → Act → World → Prop} {S : World → Prop} {i z : Nat} {oi : Oper} {r : List Oper} {v : Value} {n : Nat} {up : Array Bool} {a : Act} {w : World} (hd : ops.toList.drop i = oi :: r) (hs : Region.noSelect ops = true) (hf : Region.free md ops up i = true)
    (hr : (Region.ready md ops up).contains i = true) (hrow : rowB md ops up [z, i] = true) (hQ : ∀ c a w, Q (.panic c) (a.put oi.dst v) w → Q (.panic c) a w)
    (hy : YieldsIf P ops S oi v a) (hS : S w) (h : AnyT P md ops Q S z n (up.setIfInBounds i true) (a.put oi.dst v) w) : AnyT P md ops Q S z (n + 1) up a w :=
  AnyT.take (L := []) (d := i) (at_of_drop hd) hs hf hr rfl hrow hQ hy hS h
end Go.Proofs.YtdapmcclplfpfaaGreatDoor

/-
  The document's own spaces: Map, the tables that it makes.
-/
namespace Go.Proofs.YtdapmcclplfpfaaGreatDoor
open Go.ChangeShapes Go.WideShapes Go.ChangeAt Go.RowKit Go.Shelf Go.Sort

/-- Map's first half: at level l, so many tables are made -/
structure Mk (w wr : World) (C MC BC FB : Nat) (s : Sp) (Nd : List (Nat × Nat)) (vL vT : Value) (m : Mem) (b : Bud) (qn j : Nat) (s9 : Value) : Prop where
  D : ∃ g', DAt wr C MC BC FB s.pgL (Nd.map (tbOf s)) vL vT g' m (b.al j).2
  le : j ≤ b.left
  row : wr.ownsRow w.heap.size 71 3 s9 j (listC RTb.c (newT s qn (b.al j).1 j))
  U : Upd (fun k => k = BC ∨ k = FB) w wr
theorem DAt.al {w w' : World} {C MC BC FB : Nat} {L : List RPg} {T : List RTb} {vL vT g g' : Value} {m : Mem} {b b' : Bud} (h : DAt w C MC BC FB L T vL vT g m b) (u : Upd (fun k => k = BC ∨ k = FB) w w') (d : RBud w' BC MC FB g' b') (n : b'.n = b.n) : DAt w' C MC BC FB L T vL vT g' m b' := by
  obtain ⟨c, l, t, gg, mm⟩ := h.ne
  exact h.upd (u.mono fun _ _ e => by omega) (h.r.kept u (by omega) (by omega)) d (h.n.trans n.symm)
theorem al_next {b : Bud} {j : Nat} {x : Nat × Nat} (h : (b.al j).2.sel 0 = some x) : b.al (j + 1) = ((b.al j).1 ++ [x.1], (b.al j).2.give (x.1, 0)) := by
  show (match (b.al j).2.sel 0 with
    | some x => ((b.al j).1 ++ [x.1], (b.al j).2.give (x.1, 0))
    | none => b.al j) = _
  rw [h]
theorem sel_left {b : Bud} (h : b.sel 0 = none) : b.left = 0 := by
  refine Decidable.byContradiction fun hc => ?_
  obtain ⟨x, hx⟩ := sel0_some (b := b) (by omega)
  rw [h] at hx
  cases hx
theorem row_upd {w9 w' : World} {s : Value} {o : Obj} (g : (w9.alloc o).grownBy w' s.ownBlock) : Upd (fun j => s.ownBlock = some j) w9 w' :=
  ⟨g.os, g.tape, g.output, by have := g.size; rw [World.size_alloc] at this; omega, fun j hj hs => by rw [g.block j (by rw [World.size_alloc]; omega) (fun e => hs e.symm)]; exact Below.heap_alloc _ _ _ hj⟩
set_option maxRecDepth 100000 in
set_option maxHeartbeats 8000000 in
theorem rmapS_go (C MC BC FB : Nat) (s : Sp) (Nd : List (Nat × Nat)) (vL vT g : Value) (m : Mem) (b : Bud) (qn : Nat) (f : Int) (wb : Bool) (w : World) (h : DSp w C MC BC FB s Nd vL vT g m b) (hq : qn < 4096) (hf : m.ex f 1 = true) (hv : (s.E 3 qn).v = false)
    (s' : Sp) (hG : 3 - s.dep qn ≤ b.left → Grown s s' m.n qn b f wb ∧ ∀ x, x ∈ (b.al (3 - s.dep qn)).2.gave ↔ ∃ l d, l ≤ 2 ∧ s'.on l d = true ∧ x = ((s'.fr l d).toNat, 0)) :
    Calls Tryz.prog 10 #[.pointer (some ⟨C, 0, none⟩), .int .i64 qn, .int .i64 f, .bool wb] w fun e w' =>
      (b.left < 3 - s.dep qn ∧ e = .returned (.int .i64 6) ∧ ∃ g' m' b', DSp w' C MC BC FB s Nd vL vT g' m' b' ∧ m'.n = m.n ∧ m'.B = m.B ∧ b'.res = b.res ∧ Upd (fun k => k = BC ∨ k = FB ∨ k = m.B) w w') ∨
      (3 - s.dep qn ≤ b.left ∧ e = .returned (.int .i64 0) ∧ ∃ vL' vT' g' m', DSp w' C MC BC FB s' (Nd ++ newN s qn (3 - s.dep qn)) vL' vT' g' m' (b.al (3 - s.dep qn)).2 ∧ m'.n = m.n ∧ m'.B = m.B ∧ Upd (fun k => k = C ∨ k = BC ∨ k = FB ∨ k = m.B) w w') := by
  have hdep := s.dep_bd qn
  have hpl := s.pgs_le
  have hPl := s.pgL_len
  have hT := h.N.len h.I.ok
  obtain ⟨oT, caT, rfl⟩ := rsp_slice h.D.a.tabs
  obtain ⟨oL, cL, rfl⟩ := rsp_slice h.D.a.pages
  obtain ⟨TL, hTL⟩ : ∃ TL, (Nd.map (tbOf s)).length = TL := ⟨_, rfl⟩
  obtain ⟨n, hn⟩ : ∃ n, s.pgL.length = n := ⟨_, rfl⟩
  rw [hTL, hn] at h
  rw [hTL, hn]
  have HTL := Lib.hid hTL
  have Hn := Lib.hid hn
  have hn4 : n ≤ 4096 := by omega
  have hn256 := h.I.hn
  have cH := Lib.hid (rHas_any MC m f w h.D.r)
  rw [hf] at cH
  have cM := h.D.a.cM
  have hi := h.I.idx qn ⟨by omega, by omega, by rw [Int.toNat_natCast]; exact hv⟩
  have cA := Lib.hid (rpat_any C MC BC 0 s.pgL _ _ _ (qn : Nat) w h.D.a (by omega))
  rw [hi] at cA
  have q0 : ¬ (qn : Int) < 0 := by omega
  have q1 : ¬ (4095 : Int) < (qn : Int) := by omega
  have hvT := Lib.hid (fun j (hj : (Value.slice oT TL caT).ownBlock = some j) => show j < w.heap.size from (h.D.a.tabs.lt j hj).2)
  have hMB0 := lt_of_heap h.D.r.body
  have hBC0 := lt_of_heap h.D.d.head
  have hFB0 := lt_of_heap h.D.d.fr
  have HG := Lib.hid hG
  have H := Lib.hid h
  have S0 := Lib.hid (show Mk w w C MC BC FB s Nd (.slice oL n cL) (.slice oT TL caT) m b qn 0 (.slice none 0 0) from ⟨⟨g, h.D⟩, by omega, rows_new _ _ _ _, Upd.refl _ _⟩)
  have hon := Lib.hid (fun l (h1 : 1 ≤ l) (h2 : l ≤ 2) => show (l < s.dep qn → s.on l (nd qn l) = true) ∧ (s.dep qn ≤ l → s.on l (nd qn l) = false) from ⟨fun a => Sp.dep_on hq l a, fun a => Sp.dep_off h.I.ok l a h2⟩)
  obtain ⟨i0, hi0, hz0, hz1, hz2⟩ := info_parts info_rtab
  have hTl : Hid ((Nd.map (tbOf s)).length ≤ 256) := Lib.hid (by rw [List.length_map]; omega)
  clear hf hi hG h hv hT hTL hn hPl hpl
  go_enter Tryz.func10, Tryz.ntmps10
  go_wp2_with fail
  refine cH.out.mono ?_
  rintro e w1 ⟨rfl, rfl⟩
  go_wp2_with fail
  refine cA.out.mono ?_
  rintro e w1 ⟨rfl, rfl⟩
  go_wp2_with fail
  go_loopw [9, 10] (fun s9 x wr => ∃ l j : Nat, 1 ≤ l ∧ l ≤ 3 ∧ x = .int .i64 l ∧ Hid (j = l - s.dep qn) ∧ Hid (Mk w wr C MC BC FB s Nd (.slice oL n cL) (.slice oT TL caT) m b qn j s9)) (fun _ x _ => 3 - (intOf x).toNat)
  case atStart => exact ⟨1, 0, by omega, by omega, rfl, Lib.hid (by omega), S0⟩
  case round =>
    clear S0 cH cA cM
    obtain ⟨l, j, hl1, hl3, rfl, hj, S⟩ := hrel
    obtain ⟨o9, c9, rfl⟩ := rows_slice S.out.row
    obtain ⟨g', D⟩ := S.out.D
    have HD := Lib.hid D
    by_cases hlt : l < 3
    · have cT := Lib.hid (rtable_any C MC BC 0 s.pgL _ _ _ qn l hq wr D.a (by have := hTl.out; omega))
      by_cases hd : l < s.dep qn
      · have ho := (hon.out l hl1 (by omega)).1 hd
        obtain ⟨i, _, i2, i3⟩ := H.out.N.ix (by omega) ho
        rw [← fstI_nd hq (by omega)] at i3
        rw [show ixN (tbIx (Nd.map (tbOf s)) l (fstI qn l : Nat)) (Nd.map (tbOf s)).length = (i : Int) from by rw [i3, List.length_map]; unfold ixN; rw [if_pos i2]] at cT
        have i0' : (0 : Int) ≤ (i : Int) := by omega
        have e1 := Lib.hid (show j = l + 1 - s.dep qn from by have := hj.out; omega)
        clear i3 D
        go_wp2_with fail
        refine cT.out.mono ?_
        rintro e w2 ⟨rfl, nq, rfl⟩
        have S2 := Lib.hid (show Mk w (wr.drewN nq) C MC BC FB s Nd (.slice oL n cL) (.slice oT TL caT) m b qn j (.slice o9 j c9) from
          ⟨⟨g', HD.out.still ((Upd.refl (fun _ => False) wr).drewN nq)⟩, S.out.le, rows_still S.out.row ((Upd.refl (fun _ => False) wr).drewN nq), S.out.U.drewN nq⟩)
        go_wp2_with fail
        go_roundw
        case rel => exact ⟨l + 1, j, by omega, by omega, by go_num, e1, S2⟩
        case measure => simp [intOf]; omega
      · have ho := (hon.out l hl1 (by omega)).2 (by omega)
        rw [nodes_out H.out.N hq (by omega) ho] at cT
        clear D
        go_wp2_with fail
        refine cT.out.mono ?_
        rintro e w2 ⟨rfl, nq, rfl⟩
        have u2 := (Upd.refl (fun _ => False) wr).drewN nq
        have D2 := Lib.hid (HD.out.still u2)
        have R2 := Lib.hid (rows_still S.out.row u2)
        have U2 := Lib.hid (S.out.U.drewN nq)
        have HL := Lib.hid S.out.le
        have dB := D2.out.a.cB
        clear cT HD S u2
        generalize wr.drewN nq = w2 at D2 R2 U2 dB ⊢
        have hj1 : j ≤ 1 := by have := hj.out; omega
        go_wp2_with fail
        refine (rAlloc_any BC MC FB g' _ 0 w2 D2.out.d (by omega)).mono ?_
        rintro e w3 (⟨hs, rfl, bl⟩ | ⟨x, g3, hs, rfl, d3, u3, _⟩)
        · have U3 := Lib.hid (U2.out.trans (Upd.of_below bl))
          have D3 := Lib.hid (D2.out.still (Upd.of_below bl))
          have R3 := Lib.hid (rows_still R2.out (Upd.of_below bl))
          have hlow := Lib.hid (show b.left < 3 - s.dep qn from by have := sel_left hs; have := (al_ok H.out.I.bk j HL.out).left; have := hj.out; omega)
          clear hs bl D2 R2 U2
          go_wp2_with fail
          go_loopw [13] (fun x wr => ∃ i : Nat, i ≤ j ∧ x = .int .i64 i ∧ Hid (∃ g'' m'' b'', DAt wr C MC BC FB s.pgL (Nd.map (tbOf s)) (.slice oL n cL) (.slice oT TL caT) g'' m'' b'' ∧ m''.n = m.n ∧ m''.B = m.B ∧ b''.res = b.res ∧ (i = 0 → m'' = m ∧ b'' = (b.al j).2) ∧ (i = j → SpInv s m'' b'' Yn ∧ Zs s m'')) ∧ Hid (wr.ownsRow w.heap.size 71 3 (.slice o9 j c9) j (listC RTb.c (newT s qn (b.al j).1 j))) ∧ Hid (Upd (fun k => k = BC ∨ k = FB ∨ k = m.B) w wr)) (fun x _ => j - (intOf x).toNat)
          case atStart => exact ⟨0, by omega, rfl, Lib.hid ⟨_, m, _, D3.out, rfl, rfl, (al_ok H.out.I.bk j HL.out).res, fun _ => ⟨rfl, rfl⟩, fun e => by subst e; exact ⟨H.out.I, H.out.Z⟩⟩, R3, Lib.hid (U3.out.mono fun _ _ e => by omega)⟩
          case round =>
            clear D3 R3 U3
            obtain ⟨i, hi, rfl, hst, R, U⟩ := hrel
            obtain ⟨g5, m5, b5, D5, n5, B5, r5, z5, e5⟩ := hst.out
            have R5 := Lib.hid r5
            clear r5
            by_cases hij : i < j
            · obtain rfl : j = 1 := by omega
              obtain rfl : i = 0 := by omega
              obtain ⟨rfl, rfl⟩ := z5 rfl
              obtain ⟨F, hF, hin, hI, hZ⟩ := undo_inv H.out.I H.out.Z HL.out
              have HI := Lib.hid (And.intro hI hZ)
              have Hin := Lib.hid hin
              have hrow := R.out
              rw [hF] at hrow
              obtain ⟨gT, rfl, -, -, d3⟩ := tb_cells (T := newT s qn [F] 1) (newT_len _ _ _ _) hrow 0 ⟨((s.dep qn + 0 : Nat) : Int), ((fstI qn (s.dep qn + 0) : Nat) : Int), (F : Int)⟩ rfl
              have d3 : wr.cell? ⟨gT, 2, none⟩ = some (.int .i64 (F : Int)) := by simpa using d3
              have dC := D5.a.cB
              clear hrow e5 z5 hst hin hI hZ
              go_upto_region 15 with fail
              refine wp_region_tail 9 (by kernel_rfl) (by kernel_rfl) ?_
              simp only [List.take_succ_cons, List.take_zero, List.drop_succ_cons, List.drop_zero]
              intro w9 hw9
              have D9 := Lib.hid (show DAt w9 C MC BC FB s.pgL (Nd.map (tbOf s)) (.slice oL n cL) (.slice oT TL caT) g5 m5 (b.al 1).2 from by rw [hw9]; exact D5.still (Upd.refl _ _).drew)
              have U9 := Lib.hid (show Upd (fun k => k = BC ∨ k = FB ∨ k = m5.B) w w9 from by rw [hw9]; exact U.out.drew)
              have R9 := Lib.hid (show w9.ownsRow w.heap.size 71 3 (.slice (some ⟨gT, 0, none⟩) 1 c9) 1 (listC RTb.c (newT s qn (b.al 1).1 1)) from by rw [hw9]; exact rows_still R.out (Upd.refl _ _).drew)
              have f1 : w9.cell? ⟨C, 1, none⟩ = some (.pointer (some ⟨BC, 0, none⟩)) := D9.out.a.cB
              have f3 : w9.cell? ⟨gT, 2, none⟩ = some (.int .i64 (F : Int)) := by rw [hw9]; exact d3
              clear hw9 D5 R U d3 dC
              repeat still_step
              refine wpStill_nil ?_
              go_wp2_with fail
              refine (rFree_any BC MC FB g5 _ m5 (F : Int) 0 w9 D9.out.d D9.out.r D9.out.n).mono ?_
              rintro e w10 (⟨hno2, _⟩ | ⟨y, g6, hy, hy1, hy2, rfl, d10, r10, u10, _⟩)
              · have := hno2 (F, 0) Hin.out
                simp [isB] at this
              obtain rfl : y = (F, 0) := Prod.ext (by show y.1 = F; omega) (by show y.2 = 0; omega)
              have r10 : RefAt w10 MC (m5.scrub F 1) := r10
              have D10 := Lib.hid (D9.out.upd u10 r10 d10 (by rw [Mem.scrub_n]; exact D9.out.n))
              have U10 := Lib.hid (U9.out.trans u10)
              have R10 := Lib.hid (rows_under R9.out u10 (fun j hj => by omega))
              clear hy hy1 hy2 d10 r10 u10 D9 U9 R9 f1 f3
              go_wp2_with fail
              go_roundw
              case rel => exact ⟨1, by omega, by go_num, Lib.hid ⟨g6, _, _, D10.out, Mem.scrub_n _ _ _, Mem.scrub_B _ _ _, R5.out, fun e => by omega, fun _ => HI.out⟩, R10, U10⟩
              case measure => simp [intOf]
            · obtain rfl : i = j := by omega
              have hX := Lib.hid (show DSp wr C MC BC FB s Nd (.slice oL n cL) (.slice oT TL caT) g5 m5 b5 from ⟨D5, H.out.N, (e5 rfl).1, (e5 rfl).2⟩)
              clear e5 z5 D5 hst R
              go_wp2_with fail
              go_ret
              exact .inl ⟨hlow.out, rfl, g5, m5, b5, hX.out, n5, B5, R5.out, U.out⟩
        · have hal := al_next hs
          have ha := al_ok H.out.I.bk j HL.out
          have hle : j + 1 ≤ b.left := by
            obtain ⟨_, k2⟩ := sel_give ha.ok (by omega) hs
            have := left_give k2
            have := ha.left
            simp at *
            omega
          have D3 : DAt w3 C MC BC FB s.pgL (Nd.map (tbOf s)) (.slice oL n cL) (.slice oT TL caT) g3 m (b.al (j + 1)).2 := by
            rw [hal]
            exact D2.out.al u3 d3 rfl
          have HD3 := Lib.hid D3
          have R3 := Lib.hid (rows_under R2.out u3 (fun j hj => by omega))
          have U3 := Lib.hid (U2.out.trans u3)
          have hsz := (U2.out.trans u3).size
          have hnew := Lib.hid (show newT s qn (b.al (j + 1)).1 (j + 1) = newT s qn (b.al j).1 j ++ [⟨((l : Nat) : Int), ((fstI qn l : Nat) : Int), ((x.1 : Nat) : Int)⟩] from by
            have e1 : s.dep qn + j = l := by have := hj.out; omega
            rw [newT_succ, e1]
            congr 1
            · refine newT_congr s qn fun i hi => ?_
              rw [hal]
              show ((b.al j).1 ++ [x.1]).getD i 0 = _
              rw [List.getD_eq_getElem?_getD, List.getD_eq_getElem?_getD, List.getElem?_append_left (by rw [ha.len]; exact hi)]
            · rw [hal]
              show [(⟨((l : Nat) : Int), ((fstI qn l : Nat) : Int), (((((b.al j).1 ++ [x.1]).getD j 0 : Nat)) : Int)⟩ : RTb)] = _
              rw [List.getD_eq_getElem?_getD, List.getElem?_append_right (by rw [ha.len]; exact Nat.le_refl _), ha.len]
              simp)
          have HLe := Lib.hid hle
          generalize x.1 = X at hnew
          have cF := Lib.hid (fun W => rfirst_any qn l hq W)
          obtain ⟨Fs, hFs⟩ : ∃ Fs, fstI qn l = Fs := ⟨_, rfl⟩
          rw [hFs] at cF hnew
          clear D3 hal ha hle hs d3 u3 D2 R2 U2 hFs
          generalize hxs : listC RTb.c (newT s qn (b.al j).1 j) = xs at R3
          have Hxs := Lib.hid hxs
          clear hxs
          go_wp2_with fail
          refine (cF.out _).mono ?_
          rintro e w4 ⟨rfl, rfl⟩
          go_wp2_with (at_builtin; refine wpList_append_own _ rfl (.tmp 70) (.tmp 77) 72 rfl w.heap.size 71 i0 (.agg #[.int .i64 0, .int .i64 0, .int .i64 0]) 3 24 Tryz.underlying72 hi0 hz0 hz1 hz2 rfl (by decide) _ _ _ rfl (rows_still R3.out ((Upd.refl _ _).alloc _)) ⟨w3.heap.size, 0, none⟩ 1 1 [.int .i64 l, .int .i64 Fs, .int .i64 X] rfl rfl (rows_src _ _ _) (by simp [Value.oneCell']) (by simp [maxLen]; omega) (by omega) (by simp; omega) ?_; intro v' w5 hown' hgrow _)
          exact ⟨⟨l + 1, j + 1, by omega, by omega, by go_num, Lib.hid (by have := hj.out; omega), Lib.hid ⟨⟨g3, HD3.out.made R3.out hvT.out (row_upd hgrow)⟩, HLe.out, by rw [hnew.out, listC_app, Hxs.out]; exact hown', rows_grown R3.out hgrow U3.out (Nat.le_refl _)⟩⟩, by simp [intOf]; omega⟩
    · obtain rfl : l = 3 := by omega
      have HL := Lib.hid S.out.le
      obtain ⟨G, gv⟩ := HG.out (by have := hj.out; have := HL.out; omega)
      have HGr := Lib.hid G
      have Hgv := Lib.hid gv
      have R := Lib.hid S.out.row
      have U := Lib.hid S.out.U
      have tabs := Lib.hid (show wr.ownsRow 0 71 3 (.slice oT TL caT) TL (listC RTb.c (Nd.map (tbOf s))) from by have := D.a.tabs; rw [HTL.out] at this; exact this)
      have hTL2 : TL ≤ 256 := by have := hTl.out; have := HTL.out; omega
      have e3 := D.a.cT
      have hT' := Lib.hid (show Nd.map (tbOf s) ++ newT s qn (b.al j).1 j = (Nd ++ newN s qn (3 - s.dep qn)).map (tbOf s') from by rw [hj.out]; exact (G.tb H.out.N).symm)
      have hj2 : j ≤ 2 := by have := hj.out; omega
      have zf := frozen_block D.a.head 3
      have e3' := ((Upd.refl (fun _ => False) wr).alloc (.cells #[] 71)).cell e3 id
      clear G gv S D hon
      go_upto_region 19 with (first
        | (at_builtin; refine wpList_append_src _ rfl (.tmp 80) (.tmp 84) 72 rfl wr.heap.size 71 i0 (.agg #[.int .i64 0, .int .i64 0, .int .i64 0]) 3 24 Tryz.underlying72 hi0 hz0 hz1 hz2 rfl (by decide) (.slice (some ⟨wr.heap.size, 0, none⟩) 0 0) 0 [] rfl (World.ownsRow_made wr #[] 0 (Nat.le_refl _) (by decide) rfl) (.slice oT TL caT) TL (listC RTb.c (Nd.map (tbOf s))) rfl (Src.of_row (rows_still tabs.out ((Upd.refl _ _).alloc _))) (listC_all RTb.c_one _) (by simp [maxLen]; omega) (by omega) (by simp) ?_; intro v4 w4 own4 grow4; rw [Nat.zero_add, List.nil_append] at own4; obtain ⟨og4, cap4, rfl⟩ := rows_slice own4; have u4 : Upd (fun _ => False) wr w4 := ⟨grow4.os, grow4.tape, grow4.output, by have := grow4.size; simp at this; omega, fun k hk _ => by rw [grow4.block k (by simp; omega) (by simp [Value.ownBlock]; omega), Below.heap_alloc _ _ _ hk]⟩)
        | (at_builtin; refine wpList_append_src _ rfl (.tmp 85) (.tmp 86) 72 rfl wr.heap.size 71 i0 (.agg #[.int .i64 0, .int .i64 0, .int .i64 0]) 3 24 Tryz.underlying72 hi0 hz0 hz1 hz2 rfl (by decide) (.slice og4 TL cap4) TL (listC RTb.c (Nd.map (tbOf s))) rfl own4 (.slice o9 j c9) j (listC RTb.c (newT s qn (b.al j).1 j)) rfl (Src.of_row (rows_still R.out u4)) (listC_all RTb.c_one _) (by simp [maxLen]; omega) (by omega) u4.size ?_; intro v5 w5 own5 grow5; rw [← listC_app] at own5; obtain ⟨og5, cap5, rfl⟩ := rows_slice own5; have u5 := cut_upd2 u4 grow5 (fun k hk => (own4.lt k hk).1); have k5 := u5.cell e3 id; have zf5 := frozen_block (u5.at HD.out.a.head id) 3))
      obtain ⟨D6, u6⟩ := HD.out.setT u5 (T' := Nd.map (tbOf s) ++ newT s qn (b.al j).1 j) (by rw [List.length_append, HTL.out, newT_len]; exact own5)
      rw [hT'.out] at D6
      have HD6 := Lib.hid D6
      have U6 := Lib.hid ((U.out.mono (T := fun k => k = C ∨ k = BC ∨ k = FB) fun _ _ e => .inr e).trans (u6.mono fun _ _ e => .inl e))
      clear D6 u6 own5 u5 u4 own4 grow4 grow5 k5 zf5 zf e3 e3' tabs R U HD hi0 hz0 hz1 hz2
      generalize w5.setCell ⟨C, 3, none⟩ (.slice og5 (TL + j) cap5) = W at HD6 U6 ⊢
      generalize (Value.slice og5 (TL + j) cap5) = vT6 at HD6
      obtain ⟨i1, hi1, hw0, hw1, hw2⟩ := info_parts info_rpage
      have c2 := HD6.out.a.cL
      have hpg := HD6.out.a.pages
      rw [Hn.out] at hpg
      have hpgs : Hid (s.pgs.length = n) := Lib.hid (by rw [← s.pgL_len]; exact Hn.out)
      have hat := Lib.hid (fun k (hk : k < n) => show ∃ gp, oL = some ⟨gp, 0, none⟩ ∧ W.cell? ⟨gp, k * 3, none⟩ = some (.int .i64 ((s.pgs.getD k 0 : Nat) : Int)) from by
        obtain ⟨p, p1, _, p3⟩ := s.pgL_at (i := k) (by rw [hpgs.out]; exact hk)
        obtain ⟨gp, rfl, d0, -, -⟩ := pg_cells Hn.out hpg k _ p3
        refine ⟨gp, rfl, ?_⟩
        rw [List.getD_eq_getElem?_getD, p1]
        exact d0)
      go_upto_block 4 with fail
      go_cut [14] (fun s14 wx => wx = W ∧ ∃ a : Nat, a ≤ n ∧ s14 = .int .i64 a ∧ Hid ((∀ i, i < a → s.pgs.getD i 0 < qn) ∧ (a < n → ¬ s.pgs.getD a 0 < qn)))
      case first =>
        go_wp2_with fail
        go_loopw [14] (fun x wx => ∃ a : Nat, a ≤ n ∧ x = .int .i64 a ∧ wx = W ∧ Hid (∀ i, i < a → s.pgs.getD i 0 < qn)) (fun x _ => n - (intOf x).toNat)
        case atStart => exact ⟨0, by omega, rfl, rfl, Lib.hid fun i hi => by omega⟩
        case round =>
          obtain ⟨a, ha, rfl, rfl, hlow⟩ := hrel
          by_cases hai : a < n
          · obtain ⟨gp, rfl, d0⟩ := hat.out a hai
            obtain ⟨y, hy⟩ : ∃ y, s.pgs.getD a 0 = y := ⟨_, rfl⟩
            rw [hy] at d0
            have Hy := Lib.hid hy
            clear hy
            have hai' : (a : Int) < (n : Int) := by omega
            have a0 : (0 : Int) ≤ (a : Int) := by omega
            by_cases hyx : y < qn
            · have hst := Lib.hid (show ∀ i, i < a + 1 → s.pgs.getD i 0 < qn from fun i hi => by
                rcases Nat.lt_or_ge i a with h1 | h1
                · exact hlow.out i h1
                · rw [show i = a from by omega, Hy.out]; exact hyx)
              have hyI : (y : Int) < (qn : Int) := by omega
              go_wp2_with fail
              go_roundw
              case rel => exact ⟨a + 1, by omega, by go_num, by first | rfl | trivial, hst⟩
              case measure => simp [intOf]; omega
            · have hfin := Lib.hid (And.intro hlow.out (fun (_ : a < n) => show ¬ s.pgs.getD a 0 < qn from by rw [Hy.out]; exact hyx))
              have hyI : ¬ (y : Int) < (qn : Int) := by omega
              go_wp2_with fail
              go_meet
              exact ⟨by first | rfl | trivial, a, ha, rfl, hfin⟩
          · have hfin := Lib.hid (And.intro hlow.out (fun (c : a < n) => show ¬ s.pgs.getD a 0 < qn from absurd c hai))
            have e : a = n := by omega
            subst e
            go_wp2_with fail
            go_meet
            exact ⟨by first | rfl | trivial, a, ha, rfl, hfin⟩
      case rest =>
        obtain ⟨rfl, a, ha, rfl, hfin⟩ := hcut
        generalize wc = W at *
        have hgv : W.ownsRow 0 92 3 (.slice oL n cL) n (listC RPg.c s.pgL) := hpg
        obtain ⟨y1, hy1, hs1⟩ := cut_to RPg.c_len 73 Tryz.underlying73 run_size_rpgs oL n cL a (by have := cut_cap hgv; omega)
        obtain ⟨y2, hy2, hs2⟩ := cut_from RPg.c_len 73 Tryz.underlying73 run_size_rpgs oL n cL a ha (cut_cap hgv)
        have hsr := Src.of_row hgv
        have HS1 := Lib.hid (hs1 W s.pgL hsr (by rw [Hn.out]; exact ha) Hn.out)
        have HS2 := Lib.hid (hs2 W s.pgL hsr Hn.out)
        have UA : Upd (fun _ => False) W ((W.alloc (.cells #[] 92)).drew) := ((Upd.refl _ _).alloc _).drew
        have UP : Upd (fun _ => False) W ((W.alloc (.cells #[.int .i64 (qn : Int), .int .i64 f, .bool wb] 92)).drew) := ((Upd.refl _ _).alloc _).drew
        have UB : Upd (fun _ => False) W (((W.alloc (.cells #[] 92)).alloc (.cells #[.int .i64 (qn : Int), .int .i64 f, .bool wb] 92)).drew) := (((Upd.refl _ _).alloc _).alloc _).drew
        have UC : Upd (fun _ => False) W (((W.alloc (.cells #[.int .i64 (qn : Int), .int .i64 f, .bool wb] 92)).alloc (.cells #[] 92)).drew) := (((Upd.refl _ _).alloc _).alloc _).drew
        have emA : ((W.alloc (.cells #[] 92)).drew).ownsRow W.heap.size 92 3 (.slice (some ⟨W.heap.size, 0, none⟩) 0 0) 0 [] := World.ownsRow_made W #[] 0 (Nat.le_refl _) (by decide) rfl
        have emB : (((W.alloc (.cells #[] 92)).alloc (.cells #[.int .i64 (qn : Int), .int .i64 f, .bool wb] 92)).drew).ownsRow W.heap.size 92 3 (.slice (some ⟨W.heap.size, 0, none⟩) 0 0) 0 [] := (World.ownsRow_made W #[] 0 (Nat.le_refl _) (by decide) rfl).alloc _
        have emC : (((W.alloc (.cells #[.int .i64 (qn : Int), .int .i64 f, .bool wb] 92)).alloc (.cells #[] 92)).drew).ownsRow W.heap.size 92 3 (.slice (some ⟨W.heap.size + 1, 0, none⟩) 0 0) 0 [] := by
          have := World.ownsRow_made (base := W.heap.size) (e := 92) (size := 3) (W.alloc (.cells #[.int .i64 (qn : Int), .int .i64 f, .bool wb] 92)) #[] 0 (by simp) (by decide) rfl
          rw [World.size_alloc] at this
          exact this
        have sxB : Src (((W.alloc (.cells #[] 92)).alloc (.cells #[.int .i64 (qn : Int), .int .i64 f, .bool wb] 92)).drew) (.slice (some ⟨W.heap.size + 1, 0, none⟩) 1 1) 1 3 (listC RPg.c [⟨qn, f, wb⟩]) := by
          have := src_page (W.alloc (.cells #[] 92)) ⟨qn, f, wb⟩ 92
          rw [World.size_alloc] at this
          exact this
        have sxC : Src (((W.alloc (.cells #[.int .i64 (qn : Int), .int .i64 f, .bool wb] 92)).alloc (.cells #[] 92)).drew) (.slice (some ⟨W.heap.size, 0, none⟩) 1 1) 1 3 (listC RPg.c [⟨qn, f, wb⟩]) := (src_page W ⟨qn, f, wb⟩ 92).upd ((Upd.refl _ _).alloc _).drew
        have cd := (Upd.refl (fun _ => False) W).drew.cell c2 id
        have cA := UA.cell c2 id
        have cP := UP.cell c2 id
        have cB := UB.cell c2 id
        have cC := UC.cell c2 id
        have hL' := Lib.hid (HGr.out.pgL (a := a) (by rw [hpgs.out]; exact ha) hfin.out.1 (fun c => hfin.out.2 (by rw [hpgs.out] at c; exact c)))
        clear hs1 hs2 hsr hfin hat
        go_upto_region 22 with fail
        go_cut [132] (fun _ wx => ∃ (og9 : Option Addr) (cap9 : Nat) (w9 : World), Upd (fun _ => False) W w9 ∧ w9.ownsRow W.heap.size 92 3 (.slice og9 (a + 1 + (n - a)) cap9) (a + 1 + (n - a)) (listC RPg.c (s.pgL.take a ++ ([⟨qn, f, wb⟩] ++ s.pgL.drop a))) ∧ wx = w9.setCell ⟨C, 2, none⟩ (.slice og9 (a + 1 + (n - a)) cap9))
        case first =>
          refine wp_region_T 24 (fun w => w.cell? ⟨C, 2, none⟩ = some (.slice oL n cL) ∧ Upd (fun _ => False) W w) (by kernel_rfl) ?_
          have hS0 : (fun w : World => w.cell? ⟨C, 2, none⟩ = some (.slice oL n cL) ∧ Upd (fun _ => False) W w) W.drew := ⟨cd, (Upd.refl _ _).drew⟩
          refine AnyT.take2 (i := 0) (z := 24) (v := ?v0) rfl (by kernel_rfl) (by kernel_rfl) (by kernel_rfl) (by kernel_rfl) (fun _ _ _ h => h) ?hy (by assumption) ?_
          case hy =>
            refine Or.inl ⟨by rfl, ?_⟩
            intro w hSw
            (try dsimp only at hSw)
            go_simp
            try with_reducible rfl
          (try simp only [Act.put, List.setIfInBounds_toArray, List.set_cons_zero, List.set_cons_succ])
          refine AnyT.take2 (i := 2) (z := 24) (v := ?v2) rfl (by kernel_rfl) (by kernel_rfl) (by kernel_rfl) (by kernel_rfl) (fun _ _ _ h => h) ?hy (by assumption) ?_
          case hy =>
            refine Or.inl ⟨by rfl, ?_⟩
            intro w hSw
            (try dsimp only at hSw)
            go_simp
            try with_reducible rfl
          (try simp only [Act.put, List.setIfInBounds_toArray, List.set_cons_zero, List.set_cons_succ])
          refine AnyT.take2 (i := 3) (z := 24) (v := ?v3) rfl (by kernel_rfl) (by kernel_rfl) (by kernel_rfl) (by kernel_rfl) (fun _ _ _ h => h) ?hy (by assumption) ?_
          case hy =>
            refine Or.inl ⟨by rfl, ?_⟩
            intro w hSw
            (try dsimp only at hSw)
            go_simp
            try with_reducible rfl
          (try simp only [Act.put, List.setIfInBounds_toArray, List.set_cons_zero, List.set_cons_succ])
          refine AnyT.take2 (i := 4) (z := 24) (v := ?v4) rfl (by kernel_rfl) (by kernel_rfl) (by kernel_rfl) (by kernel_rfl) (fun _ _ _ h => h) ?hy (by assumption) ?_
          case hy =>
            refine Or.inl ⟨by rfl, ?_⟩
            intro w hSw
            (try dsimp only at hSw)
            go_simp
            try with_reducible rfl
          (try simp only [Act.put, List.setIfInBounds_toArray, List.set_cons_zero, List.set_cons_succ])
          refine AnyT.take2 (i := 5) (z := 24) (v := ?v5) rfl (by kernel_rfl) (by kernel_rfl) (by kernel_rfl) (by kernel_rfl) (fun _ _ _ h => h) ?hy (by assumption) ?_
          case hy =>
            refine Or.inl ⟨by rfl, ?_⟩
            intro w hSw
            (try dsimp only at hSw)
            go_simp
            try with_reducible rfl
          (try simp only [Act.put, List.setIfInBounds_toArray, List.set_cons_zero, List.set_cons_succ])
          refine AnyT.take2 (i := 6) (z := 24) (v := ?v6) rfl (by kernel_rfl) (by kernel_rfl) (by kernel_rfl) (by kernel_rfl) (fun _ _ _ h => h) ?hy (by assumption) ?_
          case hy =>
            refine Or.inl ⟨by rfl, ?_⟩
            intro w hSw
            (try dsimp only at hSw)
            go_simp
            try with_reducible rfl
          (try simp only [Act.put, List.setIfInBounds_toArray, List.set_cons_zero, List.set_cons_succ])
          refine AnyT.take2 (i := 7) (z := 24) (v := ?v7) rfl (by kernel_rfl) (by kernel_rfl) (by kernel_rfl) (by kernel_rfl) (fun _ _ _ h => h) ?hy (by assumption) ?_
          case hy =>
            refine Or.inl ⟨by rfl, ?_⟩
            intro w hSw
            (try dsimp only at hSw)
            go_simp
            try with_reducible rfl
          (try simp only [Act.put, List.setIfInBounds_toArray, List.set_cons_zero, List.set_cons_succ])
          refine AnyT.take2 (i := 9) (z := 24) (v := ?v9) rfl (by kernel_rfl) (by kernel_rfl) (by kernel_rfl) (by kernel_rfl) (fun _ _ _ h => h) ?hy (by assumption) ?_
          case hy =>
            refine Or.inl ⟨by rfl, ?_⟩
            intro w hSw
            (try dsimp only at hSw)
            go_simp
            try with_reducible rfl
          (try simp only [Act.put, List.setIfInBounds_toArray, List.set_cons_zero, List.set_cons_succ])
          refine AnyT.take2 (i := 10) (z := 24) (v := ?v10) rfl (by kernel_rfl) (by kernel_rfl) (by kernel_rfl) (by kernel_rfl) (fun _ _ _ h => h) ?hy (by assumption) ?_
          case hy =>
            refine Or.inl ⟨by rfl, ?_⟩
            intro w hSw
            (try dsimp only at hSw)
            go_simp
            try with_reducible rfl
          (try simp only [Act.put, List.setIfInBounds_toArray, List.set_cons_zero, List.set_cons_succ])
          refine AnyT.take2 (i := 11) (z := 24) (v := ?v11) rfl (by kernel_rfl) (by kernel_rfl) (by kernel_rfl) (by kernel_rfl) (fun _ _ _ h => h) ?hy (by assumption) ?_
          case hy =>
            refine Or.inl ⟨by rfl, ?_⟩
            intro w hSw
            (try dsimp only at hSw)
            go_simp
            try with_reducible rfl
          (try simp only [Act.put, List.setIfInBounds_toArray, List.set_cons_zero, List.set_cons_succ])
          refine AnyT.take2 (i := 12) (z := 24) (v := ?v12) rfl (by kernel_rfl) (by kernel_rfl) (by kernel_rfl) (by kernel_rfl) (fun _ _ _ h => h) ?hy (by assumption) ?_
          case hy =>
            refine Or.inl ⟨by rfl, ?_⟩
            intro w hSw
            (try dsimp only at hSw)
            go_simp
            try with_reducible rfl
          (try simp only [Act.put, List.setIfInBounds_toArray, List.set_cons_zero, List.set_cons_succ])
          refine AnyT.take2 (i := 15) (z := 24) (v := ?v15) rfl (by kernel_rfl) (by kernel_rfl) (by kernel_rfl) (by kernel_rfl) (fun _ _ _ h => h) ?hy (by assumption) ?_
          case hy =>
            refine Or.inl ⟨by rfl, ?_⟩
            intro w hSw
            (try dsimp only at hSw)
            go_simp
            try with_reducible rfl
          (try simp only [Act.put, List.setIfInBounds_toArray, List.set_cons_zero, List.set_cons_succ])
          refine AnyT.take2 (i := 16) (z := 24) (v := ?v16) rfl (by kernel_rfl) (by kernel_rfl) (by kernel_rfl) (by kernel_rfl) (fun _ _ _ h => h) ?hy (by assumption) ?_
          case hy =>
            refine Or.inl ⟨by rfl, ?_⟩
            intro w hSw
            (try dsimp only at hSw)
            go_simp
            try with_reducible rfl
          (try simp only [Act.put, List.setIfInBounds_toArray, List.set_cons_zero, List.set_cons_succ])
          refine AnyT.take2 (i := 17) (z := 24) (v := ?v17) rfl (by kernel_rfl) (by kernel_rfl) (by kernel_rfl) (by kernel_rfl) (fun _ _ _ h => h) ?hy (by assumption) ?_
          case hy =>
            refine Or.inl ⟨by rfl, ?_⟩
            intro w hSw
            (try dsimp only at hSw)
            go_simp
            try with_reducible rfl
          (try simp only [Act.put, List.setIfInBounds_toArray, List.set_cons_zero, List.set_cons_succ])
          refine AnyT.take2 (i := 18) (z := 24) (v := ?v18) rfl (by kernel_rfl) (by kernel_rfl) (by kernel_rfl) (by kernel_rfl) (fun _ _ _ h => h) ?hy (by assumption) ?_
          case hy =>
            refine Or.inl ⟨by rfl, ?_⟩
            intro w hSw
            (try dsimp only at hSw)
            go_simp
            try with_reducible rfl
          (try simp only [Act.put, List.setIfInBounds_toArray, List.set_cons_zero, List.set_cons_succ])
          refine AnyT.take2 (i := 19) (z := 24) (v := ?v19) rfl (by kernel_rfl) (by kernel_rfl) (by kernel_rfl) (by kernel_rfl) (fun _ _ _ h => h) ?hy (by assumption) ?_
          case hy =>
            refine Or.inl ⟨by rfl, ?_⟩
            intro w hSw
            (try dsimp only at hSw)
            go_simp
            try with_reducible rfl
          (try simp only [Act.put, List.setIfInBounds_toArray, List.set_cons_zero, List.set_cons_succ])
          refine AnyT.take2 (i := 20) (z := 24) (v := ?v20) rfl (by kernel_rfl) (by kernel_rfl) (by kernel_rfl) (by kernel_rfl) (fun _ _ _ h => h) ?hy (by assumption) ?_
          case hy =>
            refine Or.inl ⟨by rfl, ?_⟩
            intro w hSw
            (try dsimp only at hSw)
            go_simp
            try with_reducible rfl
          (try simp only [Act.put, List.setIfInBounds_toArray, List.set_cons_zero, List.set_cons_succ])
          clear hS0
          refine AnyT.all (rs := [1, 13]) (by kernel_rfl) (by simp) ?_
          intro i hi
          simp only [List.mem_cons, List.not_mem_nil, or_false] at hi
          rcases hi with rfl | rfl
          · refine wpOp_step (at_of_drop (i := 1) rfl) ?_
            intro K hK0
            have hK := Lib.hid hK0
            clear hK0
            go_simp
            refine hK.out _ _ ⟨fun _ => ⟨cA, UA⟩, ?_⟩
            clear hK K
            try simp only [Act.put, List.setIfInBounds_toArray, List.set_cons_zero, List.set_cons_succ]
            refine AnyT.all (rs := [8, 13]) (by kernel_rfl) (by simp) ?_
            intro i hi
            simp only [List.mem_cons, List.not_mem_nil, or_false] at hi
            rcases hi with rfl | rfl
            · refine wpOp_step (at_of_drop (i := 8) rfl) ?_
              intro K hK0
              have hK := Lib.hid hK0
              clear hK0
              refine step_append_src _ (by rfl) (.tmp 112) (.tmp 118) 73 (by rfl) W.heap.size 92 i1 (.agg #[.int .i64 0, .int .i64 0, .bool false]) 3 24 Tryz.underlying73 hi1 hw0 hw1 hw2 rfl (by decide) (.slice (some ⟨W.heap.size, 0, none⟩) 0 0) 0 [] (by rfl) emA y1 a (listC RPg.c (s.pgL.take a)) (by rfl) (HS1.out.upd UA) (listC_all RPg.c_one _) (by simp [maxLen]; omega) (by omega) (by simp) ?_
              intro v7 w7 own7 grow7
              rw [Nat.zero_add, List.nil_append] at own7
              obtain ⟨og7, cap7, rfl⟩ := rows_slice own7
              have u7 := grow_upd UA grow7 (fun k hk => (emA.lt k hk).1)
              refine hK.out _ _ ⟨fun _ => ⟨u7.cell c2 id, u7⟩, ?_⟩
              clear hK K
              try simp only [Act.put, List.setIfInBounds_toArray, List.set_cons_zero, List.set_cons_succ]
              refine AnyT.all (rs := [13]) (by kernel_rfl) (by simp) ?_
              intro i hi
              simp only [List.mem_cons, List.not_mem_nil, or_false] at hi
              subst hi
              refine wpOp_step (at_of_drop (i := 13) rfl) ?_
              intro K hK0
              have hK := Lib.hid hK0
              clear hK0
              go_simp
              have u7a := u7.alloc (.cells #[.int .i64 (qn : Int), .int .i64 f, .bool wb] 92)
              have sx7 := src_page w7 ⟨qn, f, wb⟩ 92
              have own7a := own7.alloc (.cells #[.int .i64 (qn : Int), .int .i64 f, .bool wb] 92)
              refine hK.out _ _ ⟨fun _ => ⟨u7a.cell c2 id, u7a⟩, ?_⟩
              clear hK K
              try simp only [Act.put, List.setIfInBounds_toArray, List.set_cons_zero, List.set_cons_succ]
              refine AnyT.all (rs := [14]) (by kernel_rfl) (by simp) ?_
              intro i hi
              simp only [List.mem_cons, List.not_mem_nil, or_false] at hi
              subst hi
              refine wpOp_step (at_of_drop (i := 14) rfl) ?_
              intro K hK0
              have hK := Lib.hid hK0
              clear hK0
              refine step_append_src _ (by rfl) (.tmp 119) (.tmp 124) 73 (by rfl) W.heap.size 92 i1 (.agg #[.int .i64 0, .int .i64 0, .bool false]) 3 24 Tryz.underlying73 hi1 hw0 hw1 hw2 rfl (by decide) (.slice og7 a cap7) a (listC RPg.c (s.pgL.take a)) (by rfl) own7a _ 1 (listC RPg.c [⟨qn, f, wb⟩]) (by rfl) sx7 (listC_all RPg.c_one _) (by simp [maxLen]; omega) (by omega) u7a.size ?_
              intro v8 w8 own8 grow8
              rw [← listC_app] at own8
              obtain ⟨og8, cap8, rfl⟩ := rows_slice own8
              have u8 := grow_upd u7a grow8 (fun k hk => (own7a.lt k hk).1)
              refine hK.out _ _ ⟨fun _ => ⟨u8.cell c2 id, u8⟩, ?_⟩
              clear hK K
              try simp only [Act.put, List.setIfInBounds_toArray, List.set_cons_zero, List.set_cons_succ]
              refine AnyT.all (rs := [21]) (by kernel_rfl) (by simp) ?_
              intro i hi
              simp only [List.mem_cons, List.not_mem_nil, or_false] at hi
              subst hi
              refine wpOp_step (at_of_drop (i := 21) rfl) ?_
              intro K hK0
              have hK := Lib.hid hK0
              clear hK0
              refine step_append_src _ (by rfl) (.tmp 125) (.tmp 131) 73 (by rfl) W.heap.size 92 i1 (.agg #[.int .i64 0, .int .i64 0, .bool false]) 3 24 Tryz.underlying73 hi1 hw0 hw1 hw2 rfl (by decide) (.slice og8 (a + 1) cap8) (a + 1) (listC RPg.c (s.pgL.take a ++ [⟨qn, f, wb⟩])) (by rfl) own8 y2 (n - a) (listC RPg.c (s.pgL.drop a)) (by rfl) (HS2.out.upd u8) (listC_all RPg.c_one _) (by simp [maxLen]; omega) (by omega) u8.size ?_
              intro v9 w9 own9 grow9
              rw [← listC_app, List.append_assoc] at own9
              obtain ⟨og9, cap9, rfl⟩ := rows_slice own9
              have u9 := grow_upd u8 grow9 (fun k hk => (own8.lt k hk).1)
              have k9 := u9.cell c2 id
              have zf9 := frozen_block (u9.at HD6.out.a.head id) 2
              refine hK.out _ _ ⟨fun _ => ⟨k9, u9⟩, ?_⟩
              clear hK K
              try simp only [Act.put, List.setIfInBounds_toArray, List.set_cons_zero, List.set_cons_succ]
              refine AnyT.all (rs := [22]) (by kernel_rfl) (by simp) ?_
              intro i hi
              simp only [List.mem_cons, List.not_mem_nil, or_false] at hi
              subst hi
              refine wpOp_step (at_of_drop (i := 22) rfl) ?_
              intro K hK0
              have hK := Lib.hid hK0
              clear hK0
              go_simp
              refine hK.out _ _ ⟨fun _ => ⟨k9, u9⟩, ?_⟩
              clear hK K
              try simp only [Act.put, List.setIfInBounds_toArray, List.set_cons_zero, List.set_cons_succ]
              refine AnyT.all (rs := [23]) (by kernel_rfl) (by simp) ?_
              intro i hi
              simp only [List.mem_cons, List.not_mem_nil, or_false] at hi
              subst hi
              refine wpOp_step (at_of_drop (i := 23) rfl) ?_
              intro K hK0
              have hK := Lib.hid hK0
              clear hK0
              go_simp
              refine hK.out _ _ ⟨fun _ => ⟨k9, u9⟩, ?_⟩
              clear hK K
              try simp only [Act.put, List.setIfInBounds_toArray, List.set_cons_zero, List.set_cons_succ]
              refine AnyT.all (rs := [24]) (by kernel_rfl) (by simp) ?_
              intro i hi
              simp only [List.mem_cons, List.not_mem_nil, or_false] at hi
              subst hi
              refine wpOp_step (at_of_drop (i := 24) rfl) ?_
              intro K hK0
              have hK := Lib.hid hK0
              clear hK0
              go_simp
              refine hK.out _ _ ⟨fun c => absurd rfl c, ?_⟩
              clear hK K
              refine AnyT.done (by kernel_rfl) ?_ _
              go_wp2_with fail
              go_meet
              exact ⟨og9, cap9, w9, u9, own9, rfl⟩
            · refine wpOp_step (at_of_drop (i := 13) rfl) ?_
              intro K hK0
              have hK := Lib.hid hK0
              clear hK0
              go_simp
              refine hK.out _ _ ⟨fun _ => ⟨cB, UB⟩, ?_⟩
              clear hK K
              try simp only [Act.put, List.setIfInBounds_toArray, List.set_cons_zero, List.set_cons_succ]
              refine AnyT.all (rs := [8]) (by kernel_rfl) (by simp) ?_
              intro i hi
              simp only [List.mem_cons, List.not_mem_nil, or_false] at hi
              subst hi
              refine wpOp_step (at_of_drop (i := 8) rfl) ?_
              intro K hK0
              have hK := Lib.hid hK0
              clear hK0
              refine step_append_src _ (by rfl) (.tmp 112) (.tmp 118) 73 (by rfl) W.heap.size 92 i1 (.agg #[.int .i64 0, .int .i64 0, .bool false]) 3 24 Tryz.underlying73 hi1 hw0 hw1 hw2 rfl (by decide) (.slice (some ⟨W.heap.size, 0, none⟩) 0 0) 0 [] (by rfl) emB y1 a (listC RPg.c (s.pgL.take a)) (by rfl) (HS1.out.upd UB) (listC_all RPg.c_one _) (by simp [maxLen]; omega) (by omega) (by simp; omega) ?_
              intro v7 w7 own7 grow7
              rw [Nat.zero_add, List.nil_append] at own7
              obtain ⟨og7, cap7, rfl⟩ := rows_slice own7
              have u7 := grow_upd UB grow7 (fun k hk => (emB.lt k hk).1)
              have sx7 := sxB.kept (w' := w7) (fun k hk => by simp [Value.ownBlock] at hk; subst hk; exact grow7.block _ (by simp) (by simp [Value.ownBlock]))
              refine hK.out _ _ ⟨fun _ => ⟨u7.cell c2 id, u7⟩, ?_⟩
              clear hK K
              try simp only [Act.put, List.setIfInBounds_toArray, List.set_cons_zero, List.set_cons_succ]
              refine AnyT.all (rs := [14]) (by kernel_rfl) (by simp) ?_
              intro i hi
              simp only [List.mem_cons, List.not_mem_nil, or_false] at hi
              subst hi
              refine wpOp_step (at_of_drop (i := 14) rfl) ?_
              intro K hK0
              have hK := Lib.hid hK0
              clear hK0
              refine step_append_src _ (by rfl) (.tmp 119) (.tmp 124) 73 (by rfl) W.heap.size 92 i1 (.agg #[.int .i64 0, .int .i64 0, .bool false]) 3 24 Tryz.underlying73 hi1 hw0 hw1 hw2 rfl (by decide) (.slice og7 a cap7) a (listC RPg.c (s.pgL.take a)) (by rfl) own7 _ 1 (listC RPg.c [⟨qn, f, wb⟩]) (by rfl) sx7 (listC_all RPg.c_one _) (by simp [maxLen]; omega) (by omega) u7.size ?_
              intro v8 w8 own8 grow8
              rw [← listC_app] at own8
              obtain ⟨og8, cap8, rfl⟩ := rows_slice own8
              have u8 := grow_upd u7 grow8 (fun k hk => (own7.lt k hk).1)
              refine hK.out _ _ ⟨fun _ => ⟨u8.cell c2 id, u8⟩, ?_⟩
              clear hK K
              try simp only [Act.put, List.setIfInBounds_toArray, List.set_cons_zero, List.set_cons_succ]
              refine AnyT.all (rs := [21]) (by kernel_rfl) (by simp) ?_
              intro i hi
              simp only [List.mem_cons, List.not_mem_nil, or_false] at hi
              subst hi
              refine wpOp_step (at_of_drop (i := 21) rfl) ?_
              intro K hK0
              have hK := Lib.hid hK0
              clear hK0
              refine step_append_src _ (by rfl) (.tmp 125) (.tmp 131) 73 (by rfl) W.heap.size 92 i1 (.agg #[.int .i64 0, .int .i64 0, .bool false]) 3 24 Tryz.underlying73 hi1 hw0 hw1 hw2 rfl (by decide) (.slice og8 (a + 1) cap8) (a + 1) (listC RPg.c (s.pgL.take a ++ [⟨qn, f, wb⟩])) (by rfl) own8 y2 (n - a) (listC RPg.c (s.pgL.drop a)) (by rfl) (HS2.out.upd u8) (listC_all RPg.c_one _) (by simp [maxLen]; omega) (by omega) u8.size ?_
              intro v9 w9 own9 grow9
              rw [← listC_app, List.append_assoc] at own9
              obtain ⟨og9, cap9, rfl⟩ := rows_slice own9
              have u9 := grow_upd u8 grow9 (fun k hk => (own8.lt k hk).1)
              have k9 := u9.cell c2 id
              have zf9 := frozen_block (u9.at HD6.out.a.head id) 2
              refine hK.out _ _ ⟨fun _ => ⟨k9, u9⟩, ?_⟩
              clear hK K
              try simp only [Act.put, List.setIfInBounds_toArray, List.set_cons_zero, List.set_cons_succ]
              refine AnyT.all (rs := [22]) (by kernel_rfl) (by simp) ?_
              intro i hi
              simp only [List.mem_cons, List.not_mem_nil, or_false] at hi
              subst hi
              refine wpOp_step (at_of_drop (i := 22) rfl) ?_
              intro K hK0
              have hK := Lib.hid hK0
              clear hK0
              go_simp
              refine hK.out _ _ ⟨fun _ => ⟨k9, u9⟩, ?_⟩
              clear hK K
              try simp only [Act.put, List.setIfInBounds_toArray, List.set_cons_zero, List.set_cons_succ]
              refine AnyT.all (rs := [23]) (by kernel_rfl) (by simp) ?_
              intro i hi
              simp only [List.mem_cons, List.not_mem_nil, or_false] at hi
              subst hi
              refine wpOp_step (at_of_drop (i := 23) rfl) ?_
              intro K hK0
              have hK := Lib.hid hK0
              clear hK0
              go_simp
              refine hK.out _ _ ⟨fun _ => ⟨k9, u9⟩, ?_⟩
              clear hK K
              try simp only [Act.put, List.setIfInBounds_toArray, List.set_cons_zero, List.set_cons_succ]
              refine AnyT.all (rs := [24]) (by kernel_rfl) (by simp) ?_
              intro i hi
              simp only [List.mem_cons, List.not_mem_nil, or_false] at hi
              subst hi
              refine wpOp_step (at_of_drop (i := 24) rfl) ?_
              intro K hK0
              have hK := Lib.hid hK0
              clear hK0
              go_simp
              refine hK.out _ _ ⟨fun c => absurd rfl c, ?_⟩
              clear hK K
              refine AnyT.done (by kernel_rfl) ?_ _
              go_wp2_with fail
              go_meet
              exact ⟨og9, cap9, w9, u9, own9, rfl⟩
          · refine wpOp_step (at_of_drop (i := 13) rfl) ?_
            intro K hK0
            have hK := Lib.hid hK0
            clear hK0
            go_simp
            refine hK.out _ _ ⟨fun _ => ⟨cP, UP⟩, ?_⟩
            clear hK K
            try simp only [Act.put, List.setIfInBounds_toArray, List.set_cons_zero, List.set_cons_succ]
            refine AnyT.all (rs := [1]) (by kernel_rfl) (by simp) ?_
            intro i hi
            simp only [List.mem_cons, List.not_mem_nil, or_false] at hi
            subst hi
            refine wpOp_step (at_of_drop (i := 1) rfl) ?_
            intro K hK0
            have hK := Lib.hid hK0
            clear hK0
            go_simp
            refine hK.out _ _ ⟨fun _ => ⟨cC, UC⟩, ?_⟩
            clear hK K
            try simp only [Act.put, List.setIfInBounds_toArray, List.set_cons_zero, List.set_cons_succ]
            refine AnyT.all (rs := [8]) (by kernel_rfl) (by simp) ?_
            intro i hi
            simp only [List.mem_cons, List.not_mem_nil, or_false] at hi
            subst hi
            refine wpOp_step (at_of_drop (i := 8) rfl) ?_
            intro K hK0
            have hK := Lib.hid hK0
            clear hK0
            refine step_append_src _ (by rfl) (.tmp 112) (.tmp 118) 73 (by rfl) W.heap.size 92 i1 (.agg #[.int .i64 0, .int .i64 0, .bool false]) 3 24 Tryz.underlying73 hi1 hw0 hw1 hw2 rfl (by decide) (.slice (some ⟨W.heap.size + 1, 0, none⟩) 0 0) 0 [] (by rfl) emC y1 a (listC RPg.c (s.pgL.take a)) (by rfl) (HS1.out.upd UC) (listC_all RPg.c_one _) (by simp [maxLen]; omega) (by omega) (by simp; omega) ?_
            intro v7 w7 own7 grow7
            rw [Nat.zero_add, List.nil_append] at own7
            obtain ⟨og7, cap7, rfl⟩ := rows_slice own7
            have u7 := grow_upd UC grow7 (fun k hk => (emC.lt k hk).1)
            have sx7 := sxC.kept (w' := w7) (fun k hk => by simp [Value.ownBlock] at hk; subst hk; exact grow7.block _ (by simp; omega) (by simp [Value.ownBlock]))
            refine hK.out _ _ ⟨fun _ => ⟨u7.cell c2 id, u7⟩, ?_⟩
            clear hK K
            try simp only [Act.put, List.setIfInBounds_toArray, List.set_cons_zero, List.set_cons_succ]
            refine AnyT.all (rs := [14]) (by kernel_rfl) (by simp) ?_
            intro i hi
            simp only [List.mem_cons, List.not_mem_nil, or_false] at hi
            subst hi
            refine wpOp_step (at_of_drop (i := 14) rfl) ?_
            intro K hK0
            have hK := Lib.hid hK0
            clear hK0
            refine step_append_src _ (by rfl) (.tmp 119) (.tmp 124) 73 (by rfl) W.heap.size 92 i1 (.agg #[.int .i64 0, .int .i64 0, .bool false]) 3 24 Tryz.underlying73 hi1 hw0 hw1 hw2 rfl (by decide) (.slice og7 a cap7) a (listC RPg.c (s.pgL.take a)) (by rfl) own7 _ 1 (listC RPg.c [⟨qn, f, wb⟩]) (by rfl) sx7 (listC_all RPg.c_one _) (by simp [maxLen]; omega) (by omega) u7.size ?_
            intro v8 w8 own8 grow8
            rw [← listC_app] at own8
            obtain ⟨og8, cap8, rfl⟩ := rows_slice own8
            have u8 := grow_upd u7 grow8 (fun k hk => (own7.lt k hk).1)
            refine hK.out _ _ ⟨fun _ => ⟨u8.cell c2 id, u8⟩, ?_⟩
            clear hK K
            try simp only [Act.put, List.setIfInBounds_toArray, List.set_cons_zero, List.set_cons_succ]
            refine AnyT.all (rs := [21]) (by kernel_rfl) (by simp) ?_
            intro i hi
            simp only [List.mem_cons, List.not_mem_nil, or_false] at hi
            subst hi
            refine wpOp_step (at_of_drop (i := 21) rfl) ?_
            intro K hK0
            have hK := Lib.hid hK0
            clear hK0
            refine step_append_src _ (by rfl) (.tmp 125) (.tmp 131) 73 (by rfl) W.heap.size 92 i1 (.agg #[.int .i64 0, .int .i64 0, .bool false]) 3 24 Tryz.underlying73 hi1 hw0 hw1 hw2 rfl (by decide) (.slice og8 (a + 1) cap8) (a + 1) (listC RPg.c (s.pgL.take a ++ [⟨qn, f, wb⟩])) (by rfl) own8 y2 (n - a) (listC RPg.c (s.pgL.drop a)) (by rfl) (HS2.out.upd u8) (listC_all RPg.c_one _) (by simp [maxLen]; omega) (by omega) u8.size ?_
            intro v9 w9 own9 grow9
            rw [← listC_app, List.append_assoc] at own9
            obtain ⟨og9, cap9, rfl⟩ := rows_slice own9
            have u9 := grow_upd u8 grow9 (fun k hk => (own8.lt k hk).1)
            have k9 := u9.cell c2 id
            have zf9 := frozen_block (u9.at HD6.out.a.head id) 2
            refine hK.out _ _ ⟨fun _ => ⟨k9, u9⟩, ?_⟩
            clear hK K
            try simp only [Act.put, List.setIfInBounds_toArray, List.set_cons_zero, List.set_cons_succ]
            refine AnyT.all (rs := [22]) (by kernel_rfl) (by simp) ?_
            intro i hi
            simp only [List.mem_cons, List.not_mem_nil, or_false] at hi
            subst hi
            refine wpOp_step (at_of_drop (i := 22) rfl) ?_
            intro K hK0
            have hK := Lib.hid hK0
            clear hK0
            go_simp
            refine hK.out _ _ ⟨fun _ => ⟨k9, u9⟩, ?_⟩
            clear hK K
            try simp only [Act.put, List.setIfInBounds_toArray, List.set_cons_zero, List.set_cons_succ]
            refine AnyT.all (rs := [23]) (by kernel_rfl) (by simp) ?_
            intro i hi
            simp only [List.mem_cons, List.not_mem_nil, or_false] at hi
            subst hi
            refine wpOp_step (at_of_drop (i := 23) rfl) ?_
            intro K hK0
            have hK := Lib.hid hK0
            clear hK0
            go_simp
            refine hK.out _ _ ⟨fun _ => ⟨k9, u9⟩, ?_⟩
            clear hK K
            try simp only [Act.put, List.setIfInBounds_toArray, List.set_cons_zero, List.set_cons_succ]
            refine AnyT.all (rs := [24]) (by kernel_rfl) (by simp) ?_
            intro i hi
            simp only [List.mem_cons, List.not_mem_nil, or_false] at hi
            subst hi
            refine wpOp_step (at_of_drop (i := 24) rfl) ?_
            intro K hK0
            have hK := Lib.hid hK0
            clear hK0
            go_simp
            refine hK.out _ _ ⟨fun c => absurd rfl c, ?_⟩
            clear hK K
            refine AnyT.done (by kernel_rfl) ?_ _
            go_wp2_with fail
            go_meet
            exact ⟨og9, cap9, w9, u9, own9, rfl⟩
        case rest =>
          obtain ⟨og9, cap9, w9, u9, own9, rfl⟩ := hcut
          have hlen : (s.pgL.take a ++ ([(⟨qn, f, wb⟩ : RPg)] ++ s.pgL.drop a)).length = a + 1 + (n - a) := by
            rw [List.length_append, List.length_append, List.length_take, List.length_drop, Hn.out, List.length_singleton]; omega
          obtain ⟨D7, u7⟩ := HD6.out.setL u9 (L' := s.pgL.take a ++ ([(⟨qn, f, wb⟩ : RPg)] ++ s.pgL.drop a)) (by rw [hlen]; exact own9)
          rw [hL'.out] at D7
          have HD7 := Lib.hid D7
          have U7 := Lib.hid (U6.out.trans (u7.mono (T := fun k => k = C ∨ k = BC ∨ k = FB) fun _ _ e => .inl e))
          clear D7 u7 own9 u9 hlen HD6 U6 hpg hgv HS1 HS2 UA UP UB UC emA emB emC sxB sxC cd cA cP cB cC c2
          generalize w9.setCell ⟨C, 2, none⟩ (.slice og9 (a + 1 + (n - a)) cap9) = w10 at HD7 U7 ⊢
          generalize (Value.slice og9 (a + 1 + (n - a)) cap9) = vL7 at HD7
          have hjk := hj.out
          have ha := al_ok H.out.I.bk j HL.out
          have hN' := Lib.hid (HGr.out.nodes H.out.N)
          have hz : Zs s' m := fun g p hg hp hno => H.out.Z g p hg hp fun l d hl ho e => hno l d hl ((HGr.out.on hl).2 (.inl ho)) (by rw [(HGr.out.old hl ho).2]; exact e)
          have gv' := Hgv.out
          rw [← hjk] at gv'
          have hinv := Lib.hid (lay_inv HGr.out.ok' HGr.out.nee' hN'.out H.out.I.hn H.out.I.mo H.out.I.hg ha.ok (by rw [ha.n]; exact H.out.I.bn) gv' hz)
          have C9 := Lib.hid (rlay_any C MC BC 0 s' (Nd ++ newN s qn (3 - s.dep qn)) vL7 vT6 m HGr.out.ok' hN'.out H.out.I.mo H.out.I.hg w10 ⟨HD7.out.a, HD7.out.r⟩)
          clear ha hz gv'
          go_wp2_with fail
          refine C9.out.mono ?_
          rintro e w11 ⟨rfl, L9, U9⟩
          have K := layM_keep s' (Nd ++ newN s qn (3 - s.dep qn)) H.out.I.mo H.out.I.hg
          obtain ⟨c, l, t, gg, mm⟩ := HD7.out.ne
          have D11 : DAt w11 C MC BC FB s'.pgL ((Nd ++ newN s qn (3 - s.dep qn)).map (tbOf s')) vL7 vT6 g' (layM s' (Nd ++ newN s qn (3 - s.dep qn)) m) (b.al j).2 :=
            ⟨L9.a, L9.r, ⟨U9.at HD7.out.d.head (fun e => mm.2.2.1 e.symm), U9.at HD7.out.d.fr (fun e => mm.2.2.2 e.symm), row_kept HD7.out.d.gv U9 (fun j hj e => (gg j hj).2.2.2.2 e), HD7.out.d.ok⟩, by rw [K.n]; exact HD7.out.n⟩
          have X11 := Lib.hid (show DSp w11 C MC BC FB s' (Nd ++ newN s qn (3 - s.dep qn)) vL7 vT6 g' (layM s' (Nd ++ newN s qn (3 - s.dep qn)) m) (b.al (3 - s.dep qn)).2 from by rw [← hjk]; rw [← hjk] at D11; exact ⟨D11, by have := hN'.out; rwa [← hjk] at this, by have := hinv.out.1; rwa [← hjk] at this, by have := hinv.out.2; rwa [← hjk] at this⟩)
          have U11 := Lib.hid ((U7.out.mono (T := fun k => k = C ∨ k = BC ∨ k = FB ∨ k = m.B) fun _ _ e => by omega).trans (U9.mono (T := fun k => k = C ∨ k = BC ∨ k = FB ∨ k = m.B) fun _ _ e => .inr (.inr (.inr e))))
          have HK := Lib.hid (And.intro K.n K.B)
          have hle := Lib.hid (show 3 - s.dep qn ≤ b.left from by rw [← hjk]; exact HL.out)
          clear D11 L9 U9 K c l t gg mm HD7 U7 C9 hjk
          go_wp2_with fail
          go_ret
          exact .inr ⟨hle.out, rfl, _, _, _, _, X11.out, HK.out.1, HK.out.2, U11.out⟩
end Go.Proofs.YtdapmcclplfpfaaGreatDoor

/-
  Both spaces side by side: Map.
-/
namespace Go.Proofs.YtdapmcclplfpfaaGreatDoor
open Go.ChangeShapes Go.WideShapes Go.ChangeAt Go.RowKit Go.Shelf Go.Sort

theorem ex_same {m md : Mem} (n : md.n = m.n) (f k : Int) : md.ex f k = m.ex f k := by unfold Mem.ex; rw [n]
/-- Map of both -/
theorem twin_map {w : World} {S MA A GB MB C MC BC FB DB : Nat} {s : Sp} {m : Mem} {b : Bud} {Nd : List (Nat × Nat)} {vL vT g : Value} {md : Mem} {bd : Bud} (h : Twin w S MA A GB MB C MC BC FB DB s m b Nd vL vT g md bd) (q f : Int) (wb : Bool) (hf : (Lit.int .i64 f).wf = true) :
    Calls Tryz.prog 9 #[.pointer (some ⟨S, 0, none⟩), .int .i64 q, .int .i64 f, .bool wb] w fun e w1 => ∃ x : Int, e = .returned (.int .i64 x) ∧ Upd (fun k => k = GB ∨ k = MB) w w1 ∧
      Calls Tryz.prog 10 #[.pointer (some ⟨C, 0, none⟩), .int .i64 q, .int .i64 f, .bool wb] w1 fun e w2 => e = .returned (.int .i64 x) ∧
        ∃ s' m' b' Nd' vL' vT' g' md' bd', Twin w2 S MA A GB MB C MC BC FB DB s' m' b' Nd' vL' vT' g' md' bd' ∧ Upd (TwS GB MB C BC FB DB) w w2 := by
  refine (spc_map_z h.P h.Z q f wb hf).mono ?_
  rintro e w1 ⟨x, s', m', b', rfl, P, u, R, z⟩
  refine ⟨x, rfl, u, ?_⟩
  have Q := h.mid u h.rows
  obtain ⟨gn, gg, gF⟩ := h.gave
  have hl := h.left
  have hex := ex_same h.n f 1
  rcases R.r with ⟨hx, rfl, rfl, rfl⟩ | ⟨rfl, qn, rfl, hq, hff, hv, hle, rfl, hr, hE⟩
  · have xe := R.xe
    have u1 := (Upd.refl (fun k => k = C ∨ k = BC ∨ k = FB ∨ k = md.B) w1)
    unfold Sp.mapX at xe
    by_cases c1 : ¬ (0 ≤ q ∧ q ≤ 4095) ∨ m'.ex f 1 = false
    · rw [if_pos c1] at xe
      refine (rmapS_arg C MC BC FB _ Nd vL vT g md bd q f wb w1 Q (by rw [hex]; exact c1)).mono ?_
      rintro e w2 ⟨rfl, rfl⟩
      exact ⟨by rw [xe], _, _, _, _, _, _, _, _, _, h.join P z u1 Q rfl rfl rfl rfl rfl, Twin.turned h.B u u1⟩
    · rw [if_neg c1] at xe
      have hq : 0 ≤ q ∧ q ≤ 4095 := Classical.byContradiction fun c => c1 (.inl c)
      have he : md.ex f 1 = true := by
        rw [hex]
        cases e : m'.ex f 1
        · exact absurd (.inr e) c1
        · rfl
      by_cases c2 : (s'.E 3 q.toNat).v = true
      · rw [if_pos c2] at xe
        refine (rmapS_twice C MC BC FB _ Nd vL vT g md bd q f wb w1 Q hq he c2).mono ?_
        rintro e w2 ⟨rfl, rfl⟩
        exact ⟨by rw [xe], _, _, _, _, _, _, _, _, _, h.join P z u1 Q rfl rfl rfl rfl rfl, Twin.turned h.B u u1⟩
      · rw [if_neg c2] at xe
        by_cases c3 : b'.left < 3 - s'.dep q.toNat
        · rw [if_pos c3] at xe
          obtain ⟨qn, rfl⟩ := Int.eq_ofNat_of_zero_le hq.1
          rw [Int.toNat_natCast] at c2 c3
          refine (rmapS_go C MC BC FB _ Nd vL vT g md bd qn f wb w1 Q (by omega) he (by simpa using c2) s' (fun c => by omega)).mono ?_
          rintro e w2 (⟨_, rfl, g', m2, b2, Q', nd, B, rd, u2⟩ | ⟨c, _⟩)
          · have u2 : Upd (fun k => k = C ∨ k = BC ∨ k = FB ∨ k = md.B) w1 w2 := u2.mono fun _ _ e => by omega
            exact ⟨by rw [xe], _, _, _, _, _, _, _, _, _, h.join P z u2 Q' rfl nd rfl rd B, Twin.turned h.B u u2⟩
          · omega
        · rw [if_neg c3] at xe
          exact absurd xe hx
  · obtain ⟨a1, _, _⟩ := al_same gn gF (3 - s.dep qn)
    have ab := al_ok h.P.I.bk _ hle
    have ad := al_ok h.Q.I.bk (3 - s.dep qn) (by omega)
    have G : Grown s s' md.n qn bd f wb := ⟨Q.I.ok, by rw [h.n, ← R.n]; exact P.I.ok, P.I.nee, hq, hv, hr, hE, by rw [a1]; exact R.e rfl qn rfl⟩
    have gv : ∀ x, x ∈ (bd.al (3 - s.dep qn)).2.gave ↔ ∃ l d, l ≤ 2 ∧ s'.on l d = true ∧ x = ((s'.fr l d).toNat, 0) := fun x => by
      have h1 : x ∈ (bd.al (3 - s.dep qn)).2.gave ↔ x ∈ (b.al (3 - s.dep qn)).2.gave := by
        rw [ab.gave, ad.gave, a1, List.mem_append, List.mem_append, gg]
      rw [h1, P.I.gv]
      exact ⟨fun c => c.resolve_right fun hy => hy, .inl⟩
    have he : md.ex f 1 = true := by
      rw [hex]
      unfold Mem.ex
      exact decide_eq_true (by omega)
    refine (rmapS_go C MC BC FB s Nd vL vT g md bd qn f wb w1 Q hq he hv s' (fun _ => ⟨G, gv⟩)).mono ?_
    rintro e w2 (⟨c, _⟩ | ⟨_, rfl, vL', vT', g', md', Q', nd, B, u2⟩)
    · omega
    · exact ⟨rfl, _, _, _, _, _, _, _, _, _, h.join P z u2 Q' R.n nd R.res ad.res B, Twin.turned h.B u u2⟩
end Go.Proofs.YtdapmcclplfpfaaGreatDoor

/-
  Both spaces side by side: the beginning.
-/
namespace Go.Proofs.YtdapmcclplfpfaaGreatDoor
open Go.ChangeShapes Go.WideShapes Go.ChangeAt Go.RowKit Go.Shelf Go.Sort

theorem new_word0 (B n : Nat) (g p : Nat) (_ : g < (memNew B n).n) (_ : p < 16) : (memNew B n).word (g : Nat) (p : Nat) = 0 := by
  unfold Mem.word
  show (List.replicate (16 * n) (0 : Int)).getD _ 0 = 0
  exact getD_replicate0 _ _
theorem spc_new_z {w : World} {MA A GB MB : Nat} {m : Mem} {b : Bud} (hz : ∀ g p : Nat, g < m.n → p < 16 → m.word (g : Nat) (p : Nat) = 0) (hd : Duo w A MA GB m b) (T : Tab w) (hB : m.B = MB) (hg : m.good) {Y : Nat × Nat → Prop} (hY : ∀ x, x ∈ b.gave ↔ Y x) (y0 : ∀ x, Y x → x.2 = 0) :
    Calls Tryz.prog 30 #[.pointer (some ⟨MA, 0, none⟩), .pointer (some ⟨A, 0, none⟩)] w fun e w' =>
      (b.left < 1 ∧ e = .returned (.tuple #[.pointer none, .int .i64 6]) ∧ Upd (fun _ => False) w w') ∨
      (1 ≤ b.left ∧ ∃ S s m', w.heap.size ≤ S ∧ e = .returned (.tuple #[.pointer (some ⟨S, 0, none⟩), .int .i64 0]) ∧ Spc w' S MA A GB MB s m' (b.al 1).2 Y ∧ Upd (fun k => k = GB ∨ k = MB) w w' ∧ m'.n = m.n ∧ s.root = ((b.al 1).1.getD 0 0 : Nat) ∧ (∀ l d, s.E l d = En.zero) ∧ SameW Y m m' ∧ Zs s m') := by
  refine (snew_any MA A GB m b w hd).mono ?_
  rintro e w' (⟨h0, rfl, u⟩ | ⟨h0, S, hS, rfl, s0, d, u⟩)
  · exact .inl ⟨h0, rfl, u⟩
  · rw [hB] at u
    obtain ⟨hI, hw⟩ := SpInv.new hd.M.okm hg hd.B.ok hd.n h0 hY y0
    have ha := al_ok hd.B.ok 1 h0
    have hn := hd.n
    refine .inr ⟨h0, S, _, _, hS, rfl, ⟨s0, d, T.keptS u ?_, hI, by rw [Mem.clears_B]; exact hB⟩, u, Mem.clears_n _ _, rfl, fun _ _ => rfl, hw, fun g p hg' hp _ => ?_⟩
    · rintro (e | e)
      · exact T.apartG hd.B e
      · exact T.apart hd.M (e.trans hB.symm)
    · rw [Mem.clears_n] at hg'
      rw [Mem.clears_word m hd.M.okm _ (fun f hf => by have := (ha.fr f hf).1; omega) g p hg' hp]
      split
      · rfl
      · exact hz g p hg' hp
set_option maxRecDepth 100000 in
set_option maxHeartbeats 1000000 in
theorem tbegun_z (fs : Int) (w : World) (T : Tab w) :
    Calls Tryz.prog 5 #[.int .i64 fs] w fun e w' =>
      (¬ (1 ≤ fs ∧ fs ≤ 256) ∧ e = .returned (.tuple #[.pointer none, .pointer none, .pointer none]) ∧ Upd (fun _ => False) w w') ∨
      (∃ (n S MA A GB MB : Nat) (s : Sp) (m : Mem) (b : Bud), fs = n ∧ 1 ≤ n ∧ n ≤ 256 ∧ e = .returned (.tuple #[.pointer (some ⟨MA, 0, none⟩), .pointer (some ⟨A, 0, none⟩), .pointer (some ⟨S, 0, none⟩)]) ∧
        Spc w' S MA A GB MB s m b Yn ∧ SpcNew w.heap.size S MA A GB MB ∧ m.n = n ∧ b.res = 0 ∧ b.left + 1 = n ∧ (∀ l d, s.E l d = En.zero) ∧ s.root = (((bud0 n 0).al 1).1.getD 0 0 : Nat) ∧ b = ((bud0 n 0).al 1).2 ∧ Zs s m ∧ Upd (fun _ => False) w w') := by
  by_cases h1 : 1 ≤ fs ∧ fs ≤ 256
  · obtain ⟨n, rfl⟩ := Int.eq_ofNat_of_zero_le (show 0 ≤ fs by omega)
    have hn1 : 1 ≤ n := by omega
    have hn2 : n ≤ 256 := by omega
    clear h1
    have hl := Lib.hid (bud0_left n hn1 hn2)
    have ha := Lib.hid (al_ok (bud0_ok hn1 hn2 (show 0 ≤ n by omega)) 1 (by rw [hl.out]; exact hn1))
    go_enter Tryz.func5, Tryz.ntmps5
    go_wp2_with fail
    refine (new_yes n _ hn1 hn2).mono ?_
    rintro e w1 ⟨rfl, M1, U1, S1⟩
    have hs1 := Lib.hid S1
    clear S1
    go_wp2_with fail
    refine (bNew_yes _ _ 0 _ M1 (by omega)).mono ?_
    rintro e w2 ⟨rfl, B2, U2, S2⟩
    have T2 := T.kept (U1.trans U2)
    have D2 : Duo w2 (w1.heap.size + 1) (w.heap.size + 1) w1.heap.size (memNew w.heap.size n) (bud0 n 0) := ⟨B2, M1.kept U2 id id, rfl⟩
    have U02 := U1.trans U2
    clear B2 M1 U1 U2 S2
    have hz := Lib.hid (show w.heap.size ≤ w.heap.size + 1 ∧ w.heap.size ≤ w1.heap.size ∧ w.heap.size ≤ w1.heap.size + 1 from by have := hs1.out; omega)
    have hB : (memNew w.heap.size n).B = w.heap.size := rfl
    have HB := Lib.hid hB
    clear hB
    have hg := Lib.hid (Mem.new_good w.heap.size n)
    have hZ := Lib.hid (new_word0 w.heap.size n)
    have hmn : Hid ((memNew w.heap.size n).n = n) := Lib.hid rfl
    generalize memNew w.heap.size n = m0 at D2 HB hg hmn hZ
    obtain ⟨MB, hMB⟩ : ∃ MB, w.heap.size = MB := ⟨_, rfl⟩
    rw [hMB] at HB
    generalize w.heap.size + 1 = MA at D2 hz ⊢
    generalize w1.heap.size + 1 = A at D2 hz ⊢
    generalize w1.heap.size = GB at D2 hz ⊢
    clear hs1
    go_wp2_with fail
    refine (spc_new_z hZ.out D2 T2 HB.out hg.out (Y := fun _ => False) (fun x => by simp [bud0]) (fun x hx => hx.elim)).mono ?_
    rintro e w3 (⟨h0, _⟩ | ⟨h0, S, s, m', hS, rfl, P3, U3, hn3, hr, hE, _, zs⟩)
    · rw [hl.out] at h0; omega
    have hzs := Lib.hid zs
    clear zs
    have hl1 := ha.out.left
    have hr1 := ha.out.res
    rw [hl.out] at hl1
    have Hl1 := Lib.hid hl1
    have Hr1 : Hid (((bud0 n 0).al 1).2.res = 0) := Lib.hid (hr1.trans rfl)
    clear hl1 hr1
    have hn3' := Lib.hid (hn3.trans hmn.out)
    have U4 := Upd.since U02 U3 (by rintro j (rfl | rfl); exact hz.out.2.1; exact Nat.le_of_eq hMB)
    have N4 : SpcNew w.heap.size S MA A GB MB := ⟨Nat.le_trans U02.size hS, hz.out.1, hz.out.2.2, hz.out.2.1, Nat.le_of_eq hMB⟩
    go_wp2
    go_ret3
    exact .inr ⟨n, S, MA, A, GB, MB, s, m', _, rfl, hn1, hn2, rfl, P3, N4, hn3'.out, Hr1.out, Hl1.out, hE, hr, rfl, hzs.out, U4⟩
  · have h3 := Lib.hid h1
    go_enter Tryz.func5, Tryz.ntmps5
    go_wp2_with fail
    refine (new_no fs _ (by omega)).mono ?_
    rintro e w1 ⟨rfl, rfl⟩
    go_wp2_with fail
    refine (bNew_nil 0 _).mono ?_
    rintro e w2 ⟨rfl, rfl⟩
    go_wp2_with fail
    refine (snew_nil none none _ (.inl rfl)).mono ?_
    rintro e w2 ⟨rfl, rfl⟩
    go_wp2
    go_ret3
    exact .inl ⟨h3.out, rfl, Upd.refl _ _⟩

theorem none_on {s : Sp} (hE : ∀ l d, s.E l d = En.zero) (l d : Nat) : s.on l d = true ↔ l = 0 ∧ d = 0 := by
  cases l with
  | zero => exact ⟨fun h => ⟨rfl, by simpa [Sp.on] using h⟩, fun h => by simp [Sp.on, h.2]⟩
  | succ l => rw [Sp.onS, hE]; exact ⟨fun h => (by cases h), fun h => (by omega)⟩
/-- both spaces new -/
theorem twin_start {w : World} {S MA A GB MB C MC BC FB DB : Nat} {s : Sp} {m : Mem} {b : Bud} {vL vT g : Value} {n x : Nat} (P : Spc w S MA A GB MB s m b Yn) (Z : Zs s m) (hE : ∀ l d, s.E l d = En.zero) (hr : s.root = (x : Int)) (hn : m.n = n)
    (D : DAt w C MC BC FB [] [⟨0, 0, (x : Int)⟩] vL vT g (memNew DB n) b)
    (ap : ∀ i j, (i = S ∨ i = MA ∨ i = A ∨ i = GB ∨ i = MB ∨ i = 0) → (j = C ∨ j = MC ∨ j = BC ∨ j = FB ∨ j = DB) → i ≠ j) : Twin w S MA A GB MB C MC BC FB DB s m b [(0, 0)] vL vT g (memNew DB n) b := by
  have hL : s.pgL = [] := by
    unfold Sp.pgL Sp.pgs
    rw [List.filter_eq_nil_iff.2 (fun d _ => by rw [hE]; decide)]
    rfl
  have hT : [((0, 0) : Nat × Nat)].map (tbOf s) = [⟨0, 0, (x : Int)⟩] := by
    simp only [List.map_cons, List.map_nil]
    unfold tbOf
    rw [s.fr0, hr]
    rfl
  have mn : (memNew DB n).n = n := rfl
  have I := P.I
  refine ⟨P, Z, ⟨by rw [hL, hT]; exact D, ⟨by simp, fun y => ?_⟩, ⟨by rw [mn, ← hn]; exact I.ok, fun l d p hl ho hp => ?_, I.nee, Mem.new_ok _ _, Mem.new_good _ _, I.bk, by rw [mn, ← hn]; exact I.bn, I.y0, I.gv, I.ap⟩, fun g p hg hp _ => new_word0 DB n g p hg hp⟩, by rw [mn, hn], rfl, rfl, ap⟩
  · rw [none_on hE, List.mem_singleton]
    constructor
    · rintro rfl; exact ⟨by omega, rfl, rfl⟩
    · rintro ⟨_, a, c⟩; exact Prod.ext a c
  · obtain ⟨rfl, rfl⟩ := (none_on hE l d).1 ho
    have hb := I.ok
    have h1 := hb.rlo
    have h2 := hb.rhi
    rw [s.fr0, hE, En.zero_word]
    rw [hr] at h1 h2 ⊢
    exact new_word0 DB n x p (by rw [mn, ← hn]; omega) hp
end Go.Proofs.YtdapmcclplfpfaaGreatDoor

/-
  Both spaces side by side: the end (Close, and what is left).
-/
namespace Go.Proofs.YtdapmcclplfpfaaGreatDoor
open Go.ChangeShapes Go.WideShapes Go.ChangeAt Go.RowKit Go.Shelf Go.Sort

theorem twin_close {w : World} {S MA A GB MB C MC BC FB DB : Nat} {s : Sp} {m : Mem} {b : Bud} {Nd : List (Nat × Nat)} {vL vT g : Value} {md : Mem} {bd : Bud} (h : Twin w S MA A GB MB C MC BC FB DB s m b Nd vL vT g md bd) :
    Calls Tryz.prog 25 #[.pointer (some ⟨S, 0, none⟩)] w fun e w1 => ∃ v, e = .returned v ∧ w1.ownsRow w.heap.size 3 1 v s.frs.length (i64s s.frs) ∧ w.heap.size ≤ w1.heap.size ∧
      Calls Tryz.prog 26 #[.pointer (some ⟨C, 0, none⟩)] w1 fun e w2 => ∃ v', e = .returned v' ∧ w2.ownsRow w.heap.size 3 1 v s.frs.length (i64s s.frs) ∧ w2.ownsRow w1.heap.size 3 1 v' s.frs.length (i64s s.frs) ∧ Upd (TwS GB MB C BC FB DB) w w2 ∧
        ∃ x : Int, (∀ w3, Upd (fun _ => False) w2 w3 → Calls Tryz.prog 22 #[.pointer (some ⟨A, 0, none⟩)] w3 fun e w4 => e = .returned (.int .i64 x) ∧ Upd (fun _ => False) w3 w4) ∧
          ∀ w3, Upd (fun _ => False) w2 w3 → Calls Tryz.prog 23 #[.pointer (some ⟨BC, 0, none⟩)] w3 fun e w4 => e = .returned (.int .i64 x) ∧ w3 = w4 := by
  refine (spc_close h.P).mono ?_
  rintro e w1 ⟨v, m1, b1, rfl, row1, d1, u1, _, F1, g1⟩
  rw [← s.frs_len] at row1
  refine ⟨v, rfl, row1, u1.size, ?_⟩
  have Q := h.mid u1 h.rows
  have hpl : s.frs.length = s.pgs.length := s.frs_len
  refine (rcloseS_any C MC BC FB s Nd vL vT g md bd w1 Q).mono ?_
  rintro e w2 ⟨v2, rfl, row2, ⟨g', b2, r2, n2, e2, g2⟩, u2⟩
  have hB := h.B
  have a := h.ap
  have k : ∀ i, (i = S ∨ i = MA ∨ i = A ∨ i = GB ∨ i = MB ∨ i = 0) → ¬ (i = BC ∨ i = FB ∨ i = md.B) := fun i hi e => by
    rcases e with e | e | e
    · exact a i BC hi (.inr (.inr (.inl rfl))) e
    · exact a i FB hi (.inr (.inr (.inr (.inl rfl)))) e
    · exact a i DB hi (.inr (.inr (.inr (.inr rfl)))) (e.trans hB)
  have D2 := d1.kept u2 (k A (.inr (.inr (.inl rfl)))) (k GB (.inr (.inr (.inr (.inl rfl))))) (k MA (.inr (.inl rfl))) (by rw [F1.B, h.P.B]; exact k MB (.inr (.inr (.inr (.inr (.inl rfl))))))
  have hn : b2.n = b1.n := by rw [n2, F1.bn, h.gave.1]
  have hF : b2.F = b1.F := same_F F1.bk r2.ok hn (by rw [e2, F1.res, h.res]) (fun x => by
    constructor
    · exact fun hx => absurd hx (g2 x)
    · exact fun hx => absurd ((g1 x).1 hx) (by unfold Yn; exact id))
  have hl : b2.left = b1.left := left_same hn hF
  refine ⟨v2, rfl, ?_, row2, (u1.mono (T := TwS GB MB C BC FB DB) fun _ _ e => by unfold TwS; omega).trans (u2.mono (T := TwS GB MB C BC FB DB) fun _ _ e => by unfold TwS; omega), b1.left, ?_, ?_⟩
  · exact wk_kept row1 u2 (fun j hj e => by
      have l1 := lt_of_heap h.Q.D.d.head
      have l2 := lt_of_heap h.Q.D.d.fr
      have l3 := lt_of_heap h.Q.D.r.body
      have l4 := (row1.lt j hj).1
      omega)
  · exact fun w3 u3 => bLeft_any A MA GB m1 b1 w3 (D2.still u3).B (D2.still u3).M (D2.still u3).n
  · intro w3 u3
    rw [← hl]
    exact rleft_any BC MC FB g' b2 w3 ⟨u3.at r2.head id, u3.at r2.fr id, row_kept r2.gv u3 (fun _ _ => id), r2.ok⟩
end Go.Proofs.YtdapmcclplfpfaaGreatDoor
