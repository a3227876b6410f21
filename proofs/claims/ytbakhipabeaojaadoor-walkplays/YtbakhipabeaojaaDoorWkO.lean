/-
  Rows of the laws' Ops in memory; what a walk's codes say.
-/
import Derived.Test.YtbakhipabeaojaaDoorWkL
import Derived.Test.YtbakhipabeaojaaDoorFrame
namespace Go.Proofs.YtbakhipabeaojaaDoor
open Go.ChangeShapes Go.WideShapes Go.ChangeAt Go.RowKit

abbrev opKs : List (Option IntKind) := [some .i64, some .i64, none, none, none, some .i64, none, some .u64]
/-- the cells of an Op in a row of them -/
structure OpIn (w : World) (b o : Nat) (x y : Int) (e : En) (raw : Bool) (u : Int) : Prop where
  c0 : w.cell? ⟨b, o, none⟩ = some (.int .i64 x)
  c1 : w.cell? ⟨b, o + 1, none⟩ = some (.int .i64 y)
  rg : w.rangeAt b (o + 2) [.bool e.v, .bool e.r, .bool e.t, .int .i64 e.f]
  all : w.rangeAt b o [.int .i64 x, .int .i64 y, .bool e.v, .bool e.r, .bool e.t, .int .i64 e.f, .bool raw, .int .u64 u]
  wx : (Lit.int .i64 x).wf = true
  wy : (Lit.int .i64 y).wf = true
  wf : (Lit.int .i64 e.f).wf = true
  wu : (Lit.int .u64 u).wf = true
theorem op8 {w : World} {ao : Option Addr} {n b off : Nat} {E : Nat → Nat → Value} (R : Fr.RowArg w ao n b off opKs E) (i : Nat) (hi : i < n) :
    ∃ (x y : Int) (e : En) (raw : Bool) (u : Int), OpIn w b (off + i * 8) x y e raw u := by
  obtain ⟨x, hx, wx⟩ := R.ok i hi 0 _ rfl
  obtain ⟨y, hy, wy⟩ := R.ok i hi 1 _ rfl
  obtain ⟨v, hv⟩ := R.ok i hi 2 _ rfl
  obtain ⟨r, hr⟩ := R.ok i hi 3 _ rfl
  obtain ⟨t, ht⟩ := R.ok i hi 4 _ rfl
  obtain ⟨f, hf, wf⟩ := R.ok i hi 5 _ rfl
  obtain ⟨raw, hq⟩ := R.ok i hi 6 _ rfl
  obtain ⟨u, hu, wu⟩ := R.ok i hi 7 _ rfl
  have c : ∀ j, j < 8 → w.cell? ⟨b, off + i * 8 + j, none⟩ = some (E i j) := fun j hj => by
    have := R.cell i hi j hj
    rwa [show off + (i * opKs.length + j) = off + i * 8 + j from by show off + (i * 8 + j) = _; omega] at this
  have c0 := c 0 (by omega)
  have c1 := c 1 (by omega)
  have c2 := c 2 (by omega)
  have c3 := c 3 (by omega)
  have c4 := c 4 (by omega)
  have c5 := c 5 (by omega)
  have c6 := c 6 (by omega)
  have c7 := c 7 (by omega)
  rw [hx] at c0
  rw [hy] at c1
  rw [hv] at c2
  rw [hr] at c3
  rw [ht] at c4
  rw [hf] at c5
  rw [hq] at c6
  rw [hu] at c7
  refine ⟨x, y, ⟨v, r, t, f⟩, raw, u, c0, c1, ?_, ?_, wx, wy, wf, wu⟩
  · intro j z hz
    match j, hz with
    | 0, hz => simp at hz; subst hz; exact c2
    | 1, hz => simp at hz; subst hz; exact c3
    | 2, hz => simp at hz; subst hz; exact c4
    | 3, hz => simp at hz; subst hz; exact c5
    | j + 4, hz => simp at hz
  · intro j z hz
    match j, hz with
    | 0, hz => simp at hz; subst hz; exact c0
    | 1, hz => simp at hz; subst hz; exact c1
    | 2, hz => simp at hz; subst hz; exact c2
    | 3, hz => simp at hz; subst hz; exact c3
    | 4, hz => simp at hz; subst hz; exact c4
    | 5, hz => simp at hz; subst hz; exact c5
    | 6, hz => simp at hz; subst hz; exact c6
    | 7, hz => simp at hz; subst hz; exact c7
    | j + 8, hz => simp at hz
theorem OpIn.drew {w : World} {b o : Nat} {x y : Int} {e : En} {raw : Bool} {u : Int} (h : OpIn w b o x y e raw u) : OpIn w.drew b o x y e raw u := ⟨h.c0, h.c1, h.rg, h.all, h.wx, h.wy, h.wf, h.wu⟩
/-- what the laws keep of a memory of four frames -/
structure Four (N : Nat) (M : Mem) : Prop where
  ok : M.ok
  good : M.good
  B : M.B = N
  n : M.n = 4
theorem Four.new (N : Nat) : Four N (memNew N 4).tabs :=
  ⟨Mem.tabs_ok _ (Mem.new_ok _ 4), Mem.tabs_good _ (Mem.new_ok _ 4) (Mem.new_good _ 4), by rw [Mem.tabs_B]; rfl, by rw [Mem.tabs_n]; rfl⟩
theorem Four.put {N : Nat} {M : Mem} (h : Four N M) (f p : Int) (e : En) : Four N (M.put f p e) :=
  ⟨M.put_ok h.ok f p e, M.put_good h.ok h.good f p e, by rw [Mem.put_B]; exact h.B, by rw [Mem.put_n]; exact h.n⟩
theorem Four.wB {N : Nat} {M : Mem} (h : Four N M) (q : Int) : M.wB 0 q = pageB q := by
  unfold Mem.wB Mem.ex
  rw [h.n]
  rfl
theorem codeI_vals (E : En) (X : Int) (k : Nat) : codeI E X k = 0 ∨ codeI E X k = 10 ∨ codeI E X k = 11 := by
  unfold codeI
  split
  · exact .inr (.inr rfl)
  · split
    · exact .inr (.inl rfl)
    · split
      · exact .inr (.inr rfl)
      · exact .inl rfl
theorem codeI_zero {E : En} {X : Int} {k : Nat} (h : codeI E X k = 0) : X = 0 ∧ E.v = true ∧ E.t = decide (k < 2) := by
  unfold codeI at h
  split at h
  · cases h
  · rename_i h1
    split at h
    · cases h
    · rename_i h2
      split at h
      · cases h
      · rename_i h3
        exact ⟨by simpa using h1, by simpa using h2, by simpa using h3⟩
theorem Mem.wC_vals (m : Mem) (root q : Int) (k : Nat) : m.wC root q k = 0 ∨ m.wC root q k = 10 ∨ m.wC root q k = 11 := codeI_vals _ _ _
theorem Mem.wX_arg (m : Mem) (root q : Int) : m.wX root q = 1 ↔ m.wB root q = false := by
  unfold Mem.wX
  cases m.wB root q
  · simp
  · simp only [if_true]
    constructor
    · intro h
      exfalso
      revert h
      rcases m.wC_vals root q 0 with c | c | c <;> rw [c]
      · rcases m.wC_vals root q 1 with d | d | d <;> rw [d]
        · rcases m.wC_vals root q 2 with e | e | e <;> rw [e] <;> simp
        · simp
        · simp
      · simp
      · simp
    · intro h; cases h
theorem Mem.wN_bd (m : Mem) (root q : Int) (h : m.wB root q = true) : 1 ≤ m.wN root q ∧ m.wN root q ≤ 3 := by
  unfold Mem.wN
  rw [if_pos h]
  split
  · omega
  · split <;> omega
theorem Mem.wN_on (m : Mem) (root q : Int) (j : Nat) (h : j + 1 < m.wN root q) : m.wC root q j = 0 := by
  unfold Mem.wN at h
  cases hb : m.wB root q
  · rw [hb] at h; simp at h
  · rw [hb] at h
    simp only [if_true] at h
    split at h
    · omega
    · rename_i h0
      split at h
      · match j, h with
        | 0, _ => simpa using h0
      · rename_i h1
        match j, h with
        | 0, _ => simpa using h0
        | 1, _ => simpa using h1
theorem Mem.wX_ok (m : Mem) (root q : Int) (h : m.wX root q = 0) : m.wN root q = 3 ∧ m.wE root q = m.getE (m.wF root q 2) (idxI q 2) ∧ m.wC root q 2 = 0 := by
  cases hb : m.wB root q
  · rw [(m.walk_no root q hb).2.1] at h; cases h
  · by_cases h0 : m.wC root q 0 = 0
    · by_cases h1 : m.wC root q 1 = 0
      · by_cases h2 : m.wC root q 2 = 0
        · have := m.walk_end root q hb (fun j hj => by match j, hj with | 0, _ => exact h0 | 1, _ => exact h1 | 2, _ => exact h2)
          exact ⟨this.1, this.2.2, h2⟩
        · have := m.walk_stop root q hb 2 (by omega) (fun j hj => by match j, hj with | 0, _ => exact h0 | 1, _ => exact h1) h2
          rw [this.2.1] at h; exact absurd h h2
      · have := m.walk_stop root q hb 1 (by omega) (fun j hj => by match j, hj with | 0, _ => exact h0) h1
        rw [this.2.1] at h; exact absurd h h1
    · have := m.walk_stop root q hb 0 (by omega) (fun j hj => absurd hj (by omega)) h0
      rw [this.2.1] at h; exact absurd h h0
/-- the cells of a walk's steps -/
theorem steps_cells {w : World} {base : Nat} {v : Value} {m : Mem} {root q : Int} {n : Nat} (h : w.ownsRow base 55 2 v n (m.wS root q n)) (hn : 0 < n) : ∃ g cap, v = .slice (some ⟨g, 0, none⟩) n cap ∧ base ≤ g ∧
    ∀ j, j < n → w.cell? ⟨g, j * 2, none⟩ = some (.int .i64 (m.wF root q j)) ∧ w.cell? ⟨g, j * 2 + 1, none⟩ = some (.int .i64 (idxI q j)) := by
  rcases h.2 with ⟨_, rfl⟩ | ⟨g, cap, cur, rfl, hb, _⟩
  · omega
  · refine ⟨g, cap, rfl, hb, fun j hj => ?_⟩
    obtain ⟨a, b⟩ := m.wS_at root q j n hj
    have c0 := h.cells (g := g) rfl (j * 2) _ a
    have c1 := h.cells (g := g) rfl (j * 2 + 1) _ b
    rw [add_mid0, Nat.zero_add] at c0 c1
    exact ⟨c0, c1⟩
/-- a whole row stored, as a step of a region that draws -/
theorem step_store_sz {P : Program} {ops : Array Oper} {o : Oper} {a : Act} {w : World} {K : Act → World → Prop} {Q : Exit → Act → World → Prop} {E : Prop} (hw : Region.wanted o (yielded ops a.tmps) = true) (ty : TypeId) (x y : Operand) (ho : o.op = .store ty x y)
    (b f : Nat) (cells : Array Value) (hx : a.eval x = .pointer (some ⟨b, f, none⟩)) (hy : a.eval y = .agg cells) (k : Nat) (hk : cells.size = k)
    (ht : w.there b f k) (hi : (P.info? ty).map (·.size) = some k) (h1 : cells.all (·.oneCell') = true) (cs : List Value) (hcs : cells.toList = cs)
    (h : K (a.put o.dst undef) (w.setCells b f cs)) : if Region.wanted o (yielded ops a.tmps) = true then Oper.wp P o a w K Q else E := by
  subst hk hcs
  rw [if_pos hw]
  exact wp_store_mid ty x y ho b f cells hx hy ht hi h1 h
/-- a whole row loaded, as a step of a region that draws -/
theorem step_load_sz {P : Program} {ops : Array Oper} {o : Oper} {a : Act} {w : World} {K : Act → World → Prop} {Q : Exit → Act → World → Prop} {E : Prop} (hw : Region.wanted o (yielded ops a.tmps) = true) (ty : TypeId) (x : Operand) (ho : o.op = .load ty x)
    (b f : Nat) (hx : a.eval x = .pointer (some ⟨b, f, none⟩)) (cs : List Value) (d : TypeDesc) (hc : w.rangeAt b f cs)
    (hu : P.underlying ty = some d) (hd : d.isRow = true) (k : Nat) (hk : cs.length = k) (hi : (P.info? ty).map (·.size) = some k)
    (h : K (a.put o.dst (.agg cs.toArray)) w) : if Region.wanted o (yielded ops a.tmps) = true then Oper.wp P o a w K Q else E := by
  subst hk
  rw [if_pos hw]
  exact wp_load_mid ty x ho b f hx cs d hc hu hd hi h
/-- an entry's cells, and that they may be written -/
theorem EntAt.eight {w : World} {b : Nat} {v r t : Bool} {f : Int} (h : EntAt w b v r t f) : w.cell? ⟨b, 0, none⟩ = some (.bool v) ∧ w.cell? ⟨b, 1, none⟩ = some (.bool r) ∧ w.cell? ⟨b, 2, none⟩ = some (.bool t) ∧ w.cell? ⟨b, 3, none⟩ = some (.int .i64 f) ∧
    w.frozen? ⟨b, 0, none⟩ = false ∧ w.frozen? ⟨b, 1, none⟩ = false ∧ w.frozen? ⟨b, 2, none⟩ = false ∧ w.frozen? ⟨b, 3, none⟩ = false :=
  ⟨h.range 0 _ rfl, h.range 1 _ rfl, h.range 2 _ rfl, h.range 3 _ rfl, frozen_block h _, frozen_block h _, frozen_block h _, frozen_block h _⟩
end Go.Proofs.YtbakhipabeaojaaDoor
