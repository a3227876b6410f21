/-
  Texts that the laws stand on, joined: MmM, WkO, Row, TlE, TlF, TlG, MmA, MmB, MmC, MmD, BuM, BuS, BuR, BuT.
-/
import Derived.Deep.CutBlock
import Derived.Deep.DeepCutAuto
import Derived.Deep.RegionHeld3
import Derived.Maps.AppendAt
import Derived.RangeFuncBox
import Derived.Test.YtfdnfllefednjaaDoorPart3

/-
  A unit that translates addresses, in plain numbers: what it finds, which line it puts into the buffer.
-/
namespace Go.Proofs.YtfdnfllefednjaaDoor

/-- the line that the tables have for a page -/
def Mem.wL (m : Mem) (root asid q : Int) : Option Ln := if m.wX root q = 0 ∧ m.ex (m.wE root q).f 1 = true then some ⟨asid, q, (m.wE root q).f, (m.wE root q).r⟩ else none
/-- the line that is used for a page -/
def uLine (m : Mem) (B : Buf) (root asid q : Int) : Option Ln := match B.find asid q with
  | some l => some l
  | none => m.wL root asid q
/-- the buffer behind that -/
def uPut (m : Mem) (B : Buf) (root asid q at' : Int) : Buf := match B.find asid q with
  | some _ => B
  | none => match m.wL root asid q with
    | some l => B.put l at'
    | none => B
def uArg (asid addr at' : Int) : Bool := decide (asid ≠ 0) && spB addr && decide (0 ≤ at' ∧ at' < 8)
def lnX (m : Mem) (wr : Bool) : Option Ln → Int
  | none => 10
  | some l => if wr = true ∧ l.w = false then 9 else if m.ex l.f 1 = true then 0 else 10
def uX (m : Mem) (B : Buf) (root asid addr : Int) (wr : Bool) (at' : Int) : Int := if uArg asid addr at' = true then lnX m wr (uLine m B root asid (spP addr)) else 1
def uF (m : Mem) (B : Buf) (root asid addr : Int) (wr : Bool) (at' : Int) : Int := if uX m B root asid addr wr at' = 0 then (lnOf (uLine m B root asid (spP addr))).f else 0
def uO (m : Mem) (B : Buf) (root asid addr : Int) (wr : Bool) (at' : Int) : Int := if uX m B root asid addr wr at' = 0 then spO addr else 0
def uB (m : Mem) (B : Buf) (root asid addr at' : Int) : Buf := if uArg asid addr at' = true then uPut m B root asid (spP addr) at' else B
/-- what is loaded -/
def uW (m : Mem) (B : Buf) (root asid addr at' : Int) : Int := if uX m B root asid addr false at' = 0 then m.rd (16 * uF m B root asid addr false at' + uO m B root asid addr false at') else 0
/-- the memory behind a store -/
def uM (m : Mem) (B : Buf) (root asid addr v at' : Int) : Mem := if uX m B root asid addr true at' = 0 then m.wr (16 * uF m B root asid addr true at' + uO m B root asid addr true at') v else m
theorem uPut_ok {m : Mem} {B : Buf} (h : B.Ok) (root asid q at' : Int) : (uPut m B root asid q at').Ok := by
  unfold uPut
  split
  · exact h
  · split
    · exact h.put _ _
    · exact h
theorem uB_ok {m : Mem} {B : Buf} (h : B.Ok) (root asid addr at' : Int) : (uB m B root asid addr at').Ok := by
  unfold uB
  split
  · exact uPut_ok h _ _ _ _
  · exact h
theorem uM_B (m : Mem) (B : Buf) (root asid addr v at' : Int) : (uM m B root asid addr v at').B = m.B := by unfold uM; split; exact Mem.wr_B ..; rfl
theorem uM_n (m : Mem) (B : Buf) (root asid addr v at' : Int) : (uM m B root asid addr v at').n = m.n := by unfold uM; split; exact Mem.wr_n ..; rfl
theorem uM_ok (m : Mem) (h : m.ok) (B : Buf) (root asid addr v at' : Int) : (uM m B root asid addr v at').ok := by unfold uM; split; exact Mem.wr_ok _ h _ _; exact h
theorem wL_a {m : Mem} {root asid q : Int} {l : Ln} (h : m.wL root asid q = some l) : l.a = asid ∧ l.p = q := by
  unfold Mem.wL at h
  split at h
  · cases h; exact ⟨rfl, rfl⟩
  · cases h
theorem uLine_a {m : Mem} {B : Buf} {root asid q : Int} {l : Ln} (h : uLine m B root asid q = some l) : l.a = asid ∧ l.p = q := by
  unfold uLine at h
  split at h
  · rename_i x hx
    cases h
    obtain ⟨i, hi, hl, ha, hp⟩ := Buf.find_some hx
    exact ⟨ha, hp⟩
  · exact wL_a h
end Go.Proofs.YtfdnfllefednjaaDoor

/-
  Rows of the laws' Ops in memory; what a walk's codes say.
-/
namespace Go.Proofs.YtfdnfllefednjaaDoor
open Go.ChangeShapes Go.WideShapes Go.ChangeAt Go.RowKit

abbrev opKs : List (Option IntKind) := [some .i64, some .i64, none, none, none, some .i64, none, some .u64]
/-- the cells of an Op in a row of them -/
structure OpIn (w : World) (b o : Nat) (x y : Int) (e : En) (raw : Bool) (u : Int) : Prop where
  c0 : w.cell? ⟨b, o, none⟩ = some (.int .i64 x)
  c1 : w.cell? ⟨b, o + 1, none⟩ = some (.int .i64 y)
  rg : w.rangeAt b (o + 2) [.bool e.v, .bool e.r, .bool e.t, .int .i64 e.f]
  all : w.rangeAt b o [.int .i64 x, .int .i64 y, .bool e.v, .bool e.r, .bool e.t, .int .i64 e.f, .bool raw, .int .u64 u]
  wx : (Lit.int .i64 x).wf = true
  wy : (Lit.int .i64 y).wf = true
  wf : (Lit.int .i64 e.f).wf = true
  wu : (Lit.int .u64 u).wf = true
theorem op8 {w : World} {ao : Option Addr} {n b off : Nat} {E : Nat → Nat → Value} (R : Fr.RowArg w ao n b off opKs E) (i : Nat) (hi : i < n) :
    ∃ (x y : Int) (e : En) (raw : Bool) (u : Int), OpIn w b (off + i * 8) x y e raw u := by
  obtain ⟨x, hx, wx⟩ := R.ok i hi 0 _ rfl
  obtain ⟨y, hy, wy⟩ := R.ok i hi 1 _ rfl
  obtain ⟨v, hv⟩ := R.ok i hi 2 _ rfl
  obtain ⟨r, hr⟩ := R.ok i hi 3 _ rfl
  obtain ⟨t, ht⟩ := R.ok i hi 4 _ rfl
  obtain ⟨f, hf, wf⟩ := R.ok i hi 5 _ rfl
  obtain ⟨raw, hq⟩ := R.ok i hi 6 _ rfl
  obtain ⟨u, hu, wu⟩ := R.ok i hi 7 _ rfl
  have c : ∀ j, j < 8 → w.cell? ⟨b, off + i * 8 + j, none⟩ = some (E i j) := fun j hj => by
    have := R.cell i hi j hj
    rwa [show off + (i * opKs.length + j) = off + i * 8 + j from by show off + (i * 8 + j) = _; omega] at this
  have c0 := c 0 (by omega)
  have c1 := c 1 (by omega)
  have c2 := c 2 (by omega)
  have c3 := c 3 (by omega)
  have c4 := c 4 (by omega)
  have c5 := c 5 (by omega)
  have c6 := c 6 (by omega)
  have c7 := c 7 (by omega)
  rw [hx] at c0
  rw [hy] at c1
  rw [hv] at c2
  rw [hr] at c3
  rw [ht] at c4
  rw [hf] at c5
  rw [hq] at c6
  rw [hu] at c7
  refine ⟨x, y, ⟨v, r, t, f⟩, raw, u, c0, c1, ?_, ?_, wx, wy, wf, wu⟩
  · intro j z hz
    match j, hz with
    | 0, hz => simp at hz; subst hz; exact c2
    | 1, hz => simp at hz; subst hz; exact c3
    | 2, hz => simp at hz; subst hz; exact c4
    | 3, hz => simp at hz; subst hz; exact c5
    | j + 4, hz => simp at hz
  · intro j z hz
    match j, hz with
    | 0, hz => simp at hz; subst hz; exact c0
    | 1, hz => simp at hz; subst hz; exact c1
    | 2, hz => simp at hz; subst hz; exact c2
    | 3, hz => simp at hz; subst hz; exact c3
    | 4, hz => simp at hz; subst hz; exact c4
    | 5, hz => simp at hz; subst hz; exact c5
    | 6, hz => simp at hz; subst hz; exact c6
    | 7, hz => simp at hz; subst hz; exact c7
    | j + 8, hz => simp at hz
theorem OpIn.drew {w : World} {b o : Nat} {x y : Int} {e : En} {raw : Bool} {u : Int} (h : OpIn w b o x y e raw u) : OpIn w.drew b o x y e raw u := ⟨h.c0, h.c1, h.rg, h.all, h.wx, h.wy, h.wf, h.wu⟩
/-- what the laws keep of a memory of four frames -/
structure Four (N : Nat) (M : Mem) : Prop where
  ok : M.ok
  good : M.good
  B : M.B = N
  n : M.n = 4
theorem Four.new (N : Nat) : Four N (memNew N 4).tabs :=
  ⟨Mem.tabs_ok _ (Mem.new_ok _ 4), Mem.tabs_good _ (Mem.new_ok _ 4) (Mem.new_good _ 4), by rw [Mem.tabs_B]; rfl, by rw [Mem.tabs_n]; rfl⟩
theorem Four.put {N : Nat} {M : Mem} (h : Four N M) (f p : Int) (e : En) : Four N (M.put f p e) :=
  ⟨M.put_ok h.ok f p e, M.put_good h.ok h.good f p e, by rw [Mem.put_B]; exact h.B, by rw [Mem.put_n]; exact h.n⟩
theorem Four.wB {N : Nat} {M : Mem} (h : Four N M) (q : Int) : M.wB 0 q = pageB q := by
  unfold Mem.wB Mem.ex
  rw [h.n]
  rfl
theorem codeI_vals (E : En) (X : Int) (k : Nat) : codeI E X k = 0 ∨ codeI E X k = 10 ∨ codeI E X k = 11 := by
  unfold codeI
  split
  · exact .inr (.inr rfl)
  · split
    · exact .inr (.inl rfl)
    · split
      · exact .inr (.inr rfl)
      · exact .inl rfl
theorem codeI_zero {E : En} {X : Int} {k : Nat} (h : codeI E X k = 0) : X = 0 ∧ E.v = true ∧ E.t = decide (k < 2) := by
  unfold codeI at h
  split at h
  · cases h
  · rename_i h1
    split at h
    · cases h
    · rename_i h2
      split at h
      · cases h
      · rename_i h3
        exact ⟨by simpa using h1, by simpa using h2, by simpa using h3⟩
theorem Mem.wC_vals (m : Mem) (root q : Int) (k : Nat) : m.wC root q k = 0 ∨ m.wC root q k = 10 ∨ m.wC root q k = 11 := codeI_vals _ _ _
theorem Mem.wX_arg (m : Mem) (root q : Int) : m.wX root q = 1 ↔ m.wB root q = false := by
  unfold Mem.wX
  cases m.wB root q
  · simp
  · simp only [if_true]
    constructor
    · intro h
      exfalso
      revert h
      rcases m.wC_vals root q 0 with c | c | c <;> rw [c]
      · rcases m.wC_vals root q 1 with d | d | d <;> rw [d]
        · rcases m.wC_vals root q 2 with e | e | e <;> rw [e] <;> simp
        · simp
        · simp
      · simp
      · simp
    · intro h; cases h
theorem Mem.wN_bd (m : Mem) (root q : Int) (h : m.wB root q = true) : 1 ≤ m.wN root q ∧ m.wN root q ≤ 3 := by
  unfold Mem.wN
  rw [if_pos h]
  split
  · omega
  · split <;> omega
theorem Mem.wN_on (m : Mem) (root q : Int) (j : Nat) (h : j + 1 < m.wN root q) : m.wC root q j = 0 := by
  unfold Mem.wN at h
  cases hb : m.wB root q
  · rw [hb] at h; simp at h
  · rw [hb] at h
    simp only [if_true] at h
    split at h
    · omega
    · rename_i h0
      split at h
      · match j, h with
        | 0, _ => simpa using h0
      · rename_i h1
        match j, h with
        | 0, _ => simpa using h0
        | 1, _ => simpa using h1
theorem Mem.wX_ok (m : Mem) (root q : Int) (h : m.wX root q = 0) : m.wN root q = 3 ∧ m.wE root q = m.getE (m.wF root q 2) (idxI q 2) ∧ m.wC root q 2 = 0 := by
  cases hb : m.wB root q
  · rw [(m.walk_no root q hb).2.1] at h; cases h
  · by_cases h0 : m.wC root q 0 = 0
    · by_cases h1 : m.wC root q 1 = 0
      · by_cases h2 : m.wC root q 2 = 0
        · have := m.walk_end root q hb (fun j hj => by match j, hj with | 0, _ => exact h0 | 1, _ => exact h1 | 2, _ => exact h2)
          exact ⟨this.1, this.2.2, h2⟩
        · have := m.walk_stop root q hb 2 (by omega) (fun j hj => by match j, hj with | 0, _ => exact h0 | 1, _ => exact h1) h2
          rw [this.2.1] at h; exact absurd h h2
      · have := m.walk_stop root q hb 1 (by omega) (fun j hj => by match j, hj with | 0, _ => exact h0) h1
        rw [this.2.1] at h; exact absurd h h1
    · have := m.walk_stop root q hb 0 (by omega) (fun j hj => absurd hj (by omega)) h0
      rw [this.2.1] at h; exact absurd h h0
/-- the cells of a walk's steps -/
theorem steps_cells {w : World} {base : Nat} {v : Value} {m : Mem} {root q : Int} {n : Nat} (h : w.ownsRow base 128 2 v n (m.wS root q n)) (hn : 0 < n) : ∃ g cap, v = .slice (some ⟨g, 0, none⟩) n cap ∧ base ≤ g ∧
    ∀ j, j < n → w.cell? ⟨g, j * 2, none⟩ = some (.int .i64 (m.wF root q j)) ∧ w.cell? ⟨g, j * 2 + 1, none⟩ = some (.int .i64 (idxI q j)) := by
  rcases h.2 with ⟨_, rfl⟩ | ⟨g, cap, cur, rfl, hb, _⟩
  · omega
  · refine ⟨g, cap, rfl, hb, fun j hj => ?_⟩
    obtain ⟨a, b⟩ := m.wS_at root q j n hj
    have c0 := h.cells (g := g) rfl (j * 2) _ a
    have c1 := h.cells (g := g) rfl (j * 2 + 1) _ b
    rw [add_mid0, Nat.zero_add] at c0 c1
    exact ⟨c0, c1⟩
/-- a whole row stored, as a step of a region that draws -/
theorem step_store_sz {P : Program} {ops : Array Oper} {o : Oper} {a : Act} {w : World} {K : Act → World → Prop} {Q : Exit → Act → World → Prop} {E : Prop} (hw : Region.wanted o (yielded ops a.tmps) = true) (ty : TypeId) (x y : Operand) (ho : o.op = .store ty x y)
    (b f : Nat) (cells : Array Value) (hx : a.eval x = .pointer (some ⟨b, f, none⟩)) (hy : a.eval y = .agg cells) (k : Nat) (hk : cells.size = k)
    (ht : w.there b f k) (hi : (P.info? ty).map (·.size) = some k) (h1 : cells.all (·.oneCell') = true) (cs : List Value) (hcs : cells.toList = cs)
    (h : K (a.put o.dst undef) (w.setCells b f cs)) : if Region.wanted o (yielded ops a.tmps) = true then Oper.wp P o a w K Q else E := by
  subst hk hcs
  rw [if_pos hw]
  exact wp_store_mid ty x y ho b f cells hx hy ht hi h1 h
/-- a whole row loaded, as a step of a region that draws -/
theorem step_load_sz {P : Program} {ops : Array Oper} {o : Oper} {a : Act} {w : World} {K : Act → World → Prop} {Q : Exit → Act → World → Prop} {E : Prop} (hw : Region.wanted o (yielded ops a.tmps) = true) (ty : TypeId) (x : Operand) (ho : o.op = .load ty x)
    (b f : Nat) (hx : a.eval x = .pointer (some ⟨b, f, none⟩)) (cs : List Value) (d : TypeDesc) (hc : w.rangeAt b f cs)
    (hu : P.underlying ty = some d) (hd : d.isRow = true) (k : Nat) (hk : cs.length = k) (hi : (P.info? ty).map (·.size) = some k)
    (h : K (a.put o.dst (.agg cs.toArray)) w) : if Region.wanted o (yielded ops a.tmps) = true then Oper.wp P o a w K Q else E := by
  subst hk
  rw [if_pos hw]
  exact wp_load_mid ty x ho b f hx cs d hc hu hd hi h
/-- an entry's cells, and that they may be written -/
theorem EntAt.eight {w : World} {b : Nat} {v r t : Bool} {f : Int} (h : EntAt w b v r t f) : w.cell? ⟨b, 0, none⟩ = some (.bool v) ∧ w.cell? ⟨b, 1, none⟩ = some (.bool r) ∧ w.cell? ⟨b, 2, none⟩ = some (.bool t) ∧ w.cell? ⟨b, 3, none⟩ = some (.int .i64 f) ∧
    w.frozen? ⟨b, 0, none⟩ = false ∧ w.frozen? ⟨b, 1, none⟩ = false ∧ w.frozen? ⟨b, 2, none⟩ = false ∧ w.frozen? ⟨b, 3, none⟩ = false :=
  ⟨h.range 0 _ rfl, h.range 1 _ rfl, h.range 2 _ rfl, h.range 3 _ rfl, frozen_block h _, frozen_block h _, frozen_block h _, frozen_block h _⟩
end Go.Proofs.YtfdnfllefednjaaDoor

/-
  Rows of the call's own: kept, as a slice, grown by append.
-/
namespace Go.Proofs.YtfdnfllefednjaaDoor
open Go.RowKit

theorem rows_kept {S : Nat → Prop} {w w' : World} {base sz k : Nat} {e : TypeId} {v : Value} {xs : List Value} (h : w.ownsRow base e sz v k xs) (u : Upd S w w') (hg : ∀ j, v.ownBlock = some j → ¬ S j) : w'.ownsRow base e sz v k xs := by
  refine ⟨h.1, ?_⟩
  rcases h.2 with hn | ⟨g, cap, cur, rfl, hb, hgg, rest⟩
  · exact .inl hn
  · exact .inr ⟨g, cap, cur, rfl, hb, u.at hgg (hg g rfl), rest⟩
theorem rows_still {w w' : World} {base sz k : Nat} {e : TypeId} {v : Value} {xs : List Value} (h : w.ownsRow base e sz v k xs) (u : Upd (fun _ => False) w w') : w'.ownsRow base e sz v k xs := rows_kept h u fun _ _ => id
/-- blocks of before are not the row's -/
theorem rows_under {S : Nat → Prop} {w w' : World} {base sz k : Nat} {e : TypeId} {v : Value} {xs : List Value} (h : w.ownsRow base e sz v k xs) (u : Upd S w w') (hS : ∀ j, S j → j < base) : w'.ownsRow base e sz v k xs :=
  rows_kept h u fun j hj s => by have := (h.lt j hj).1; have := hS j s; omega
theorem rows_slice {w : World} {base sz : Nat} {e : TypeId} {v : Value} {k : Nat} {xs : List Value} (h : w.ownsRow base e sz v k xs) : ∃ o cap, v = .slice o k cap := by
  rcases h.2 with ⟨rfl, rfl⟩ | ⟨g, cap, cur, rfl, _⟩
  · exact ⟨none, 0, rfl⟩
  · exact ⟨_, _, rfl⟩
theorem rows_new (w : World) (base sz : Nat) (e : TypeId) : w.ownsRow base e sz (.slice none 0 0) 0 [] := ⟨by simp, .inl ⟨rfl, rfl⟩⟩
theorem rows_src (w : World) (c : List Value) (t : TypeId) : ∀ (j : Nat) (u : Value), c[j]? = some u → (w.alloc (.cells c.toArray t)).cell? ((⟨w.heap.size, 0, none⟩ : Addr).add j) = some u := by
  intro j u hj
  rw [add_mid0, cell_of_row _ _ _ _ _ _ (heap_alloc_last w (.cells c.toArray t))]
  simpa using hj
theorem rows_grown {w wr w4 : World} {N sz n : Nat} {e : TypeId} {v : Value} {xs : List Value} {o : Obj} {S : Nat → Prop} (hrow : wr.ownsRow N e sz v n xs) (hgr : (wr.alloc o).grownBy w4 v.ownBlock) (hU : Upd S w wr) (hN : w.heap.size ≤ N) : Upd S w w4 := by
  have hs := hU.size
  refine ⟨hgr.os.trans hU.os, hgr.tape.trans hU.tape, hgr.output.trans hU.output, by have := hgr.size; simp at this; omega, fun k hk hS => ?_⟩
  rw [hgr.block k (by simp; omega) (fun e => by have := (hrow.lt k e.symm).1; omega), Below.heap_alloc _ _ _ (by omega)]
  exact hU.block k hk hS
/-- the cells of a row of the call's own -/
theorem rows_at {w : World} {base sz k cap : Nat} {e : TypeId} {o : Option Addr} {xs : List Value} (h : w.ownsRow base e sz (.slice o k cap) k xs) (hk : 0 < k) : ∃ g, o = some ⟨g, 0, none⟩ ∧ ∀ (j : Nat) (u : Value), xs[j]? = some u → w.cell? ⟨g, j, none⟩ = some u := by
  rcases h.2 with ⟨e1, e2⟩ | ⟨g, cap', cur, e1, rest⟩
  · omega
  · simp only [Value.slice.injEq] at e1
    obtain ⟨rfl, _, rfl⟩ := e1
    refine ⟨g, rfl, fun j u hu => ?_⟩
    have := h.cells (g := g) rfl j u hu
    rwa [add_mid0, Nat.zero_add] at this
/-! guarded operations whose guard is decided, in a region that draws and only reads -/
theorem still_off {P : Program} {ops : Array Oper} {w : World} {Q : Act → Prop} {a : Act} {o : Oper} {rest : List Oper} (hw : Region.wanted o (yielded ops a.tmps) = false) (h : wpStill P ops w Q rest (a.put o.dst undef)) : wpStill P ops w Q (o :: rest) a :=
  wpStill_step fun K hK => by rw [hw]; exact hK _ h
theorem still_on {P : Program} {ops : Array Oper} {w : World} {Q : Act → Prop} {a : Act} {o : Oper} {rest : List Oper} (hw : Region.wanted o (yielded ops a.tmps) = true) (h : wpStill P ops w Q ({ o with guard := none } :: rest) a) : wpStill P ops w Q (o :: rest) a := by
  unfold wpStill at h ⊢
  rw [if_pos hw]
  exact h
end Go.Proofs.YtfdnfllefednjaaDoor

/-
  Package tlb: Lines.
-/
namespace Go.Proofs.YtfdnfllefednjaaDoor
open Go.ChangeShapes Go.WideShapes Go.ChangeAt Go.RowKit Go.Shelf

theorem info_ln : (Tryd.prog.info? 41).map (fun i => (i.zero, i.size, i.bytes)) = some (some (.agg #[.int .i64 0, .int .i64 0, .int .i64 0, .bool false]), 4, 32) := by kernel_rfl
def lnsC (l : List Ln) : List Value := l.flatMap Ln.c
theorem lnsC_app (a b : List Ln) : lnsC (a ++ b) = lnsC a ++ lnsC b := List.flatMap_append
theorem lnsC_len : ∀ l : List Ln, (lnsC l).length = l.length * 4
  | [] => rfl
  | x :: r => by rw [lnsC, List.flatMap_cons, List.length_append, ← lnsC, lnsC_len r, Ln.c_len, List.length_cons]; omega
theorem lnsC_at : ∀ (l : List Ln) (i : Nat) (x : Ln) (j : Nat), l[i]? = some x → j < 4 → (lnsC l)[i * 4 + j]? = x.c[j]?
  | [], i, x, j, h, _ => by simp at h
  | y :: l, 0, x, j, h, hj => by
    have e : y = x := by simpa using h
    subst e
    rw [lnsC, List.flatMap_cons, Nat.zero_mul, Nat.zero_add, List.getElem?_append_left (by rw [Ln.c_len]; exact hj)]
  | y :: l, i + 1, x, j, h, hj => by
    rw [lnsC, List.flatMap_cons, List.getElem?_append_right (by rw [Ln.c_len]; omega), Ln.c_len, show (i + 1) * 4 + j - 4 = i * 4 + j from by omega]
    exact lnsC_at l i x j (by simpa using h) hj
set_option maxRecDepth 100000 in
set_option maxHeartbeats 1000000 in
theorem tlines_any (A : Nat) (B : Buf) (hB : B.Ok) (w : World) (hA : BufAt w A B) :
    Calls Tryd.prog 26 #[.pointer (some ⟨A, 0, none⟩)] w fun e w' => ∃ v, e = .returned v ∧ w'.ownsRow w.heap.size 41 4 v B.lines.length (lnsC B.lines) ∧ Upd (fun _ => False) w w' := by
  obtain ⟨i0, hi, hz0, hz1, hz2⟩ := info_parts info_ln
  obtain ⟨X, hX⟩ : ∃ X, X = rowC Ln.c B.ln 8 := ⟨_, rfl⟩
  have hr := hA.rangeAll
  rw [← hX] at hr
  have hl : X.length = 32 := by rw [hX, rowC_len Ln.c_len]
  have hix := Lib.hid (fun (i : Nat) (hi : i < 8) (W : World) => run_index_lns B.ln 8 .i64 i hi rfl W)
  rw [← hX] at hix
  clear hX hA
  have h0 : w.ownsRow w.heap.size 41 4 (.slice none 0 0) (B.linesTo 0).length (lnsC (B.linesTo 0)) := rows_new w _ _ _
  go_enter Tryd.func26, Tryd.ntmps26
  go_wp2_with (with_reducible refine wpList_load_sz rfl 42 (.tmp 8) rfl A 0 rfl X _ hr Tryd.underlying42 rfl 32 hl size_lns ?_)
  clear hr hl
  go_loopw [10, 3] (fun t u wr => ∃ k : Nat, k ≤ 8 ∧ t = .int .i64 k ∧ Hid (wr.ownsRow w.heap.size 41 4 u (B.linesTo k).length (lnsC (B.linesTo k))) ∧ Upd (fun _ => False) w wr) (fun t _ _ => 8 - (intOf t).toNat)
  case atStart => exact ⟨0, by omega, rfl, Lib.hid h0, Upd.refl _ _⟩
  case round =>
    obtain ⟨k, hk, rfl, hrow, hU⟩ := hrel
    by_cases hlt : k < 8
    · have hi8 := hix.out k hlt
      have hem := Lib.hid (hB.empty k)
      have hln := Lib.hid (B.linesTo_len k)
      have hsz := hU.size
      obtain ⟨o, cap, rfl⟩ := rows_slice hrow.out
      have hn0 : Hid (B k = none → B.linesTo (k + 1) = B.linesTo k) := Lib.hid (fun h => by rw [Buf.linesTo_succ, h]; simp)
      have hn1 : Hid (B k ≠ none → B.linesTo (k + 1) = B.linesTo k ++ [B.ln k]) := Lib.hid (fun h => by
        rw [Buf.linesTo_succ]
        unfold Buf.ln
        cases e : B k with
        | none => exact absurd e h
        | some l => rfl)
      generalize B.ln k = L at hi8 hem hn1
      obtain ⟨la, lp, lf, lw⟩ := L
      simp only at hi8 hem
      obtain ⟨b1, b2, b3⟩ := ln_box wr la lp lf lw
      have e1 := Lib.hid (fun W => tempty_any la lp lf lw W)
      obtain ⟨V, hV⟩ : ∃ V, V = decide (la = 0) := ⟨_, rfl⟩
      rw [← hV] at hem e1
      clear hV
      have R1 := Lib.hid (rows_still hrow.out b2)
      have U1 := Lib.hid (hU.trans b2)
      have B1 := Lib.hid b1
      have B3 := Lib.hid b3
      clear b1 b2 b3 hix h0
      go_upto_region 5 with (first
        | (with_reducible refine wpList_store_sz rfl 41 (.tmp 5) (.tmp 12) rfl wr.heap.size 0 #[.int .i64 la, .int .i64 lp, .int .i64 lf, .bool lw] rfl rfl 4 (ln_sz _ _ _ _) B3.out size_ln (ln_one _ _ _ _) [.int .i64 la, .int .i64 lp, .int .i64 lf, .bool lw] (ln_ls _ _ _ _) ?_))
      clear B3 hi8 hU hrow hsz
      generalize (wr.alloc (.cells #[.int .i64 0, .int .i64 0, .int .i64 0, .bool false] 41)).setCells wr.heap.size 0 [.int .i64 la, .int .i64 lp, .int .i64 lf, .bool lw] = w1 at R1 U1 B1 ⊢
      generalize wr.heap.size = C at B1 ⊢
      have r1 := B1.out.range
      go_wp2_with (with_reducible refine wpList_load_sz rfl 41 (.tmp 5) rfl C 0 rfl [.int .i64 la, .int .i64 lp, .int .i64 lf, .bool lw] _ r1 Tryd.underlying41 rfl 4 (ln_len _ _ _ _) size_ln ?_)
      refine (e1.out _).mono ?_
      rintro e w2 ⟨rfl, u2⟩
      have R2 := Lib.hid (rows_still R1.out u2)
      have U2 := Lib.hid (U1.out.trans u2)
      have r2 := (B1.out.kept u2 id).range
      clear R1 U1 r1 B1 e1 u2
      cases V
      · have hne : B k ≠ none := fun h => by have := hem.out; rw [h] at this; cases this
        have hs := Lib.hid (hn1.out hne)
        clear hn0 hn1 hne hem
        have hle := hln.out
        have hus := U2.out.size
        generalize hN : w.heap.size = N at R2 hus
        generalize B.linesTo k = LK at hs hle R2
        generalize hLn : LK.length = n at hle R2
        generalize hLc : lnsC LK = xs at R2
        go_wp2_with (first
          | (with_reducible refine wpList_load_sz rfl 41 (.tmp 5) rfl C 0 rfl [.int .i64 la, .int .i64 lp, .int .i64 lf, .bool lw] _ r2 Tryd.underlying41 rfl 4 (ln_len _ _ _ _) size_ln ?_)
          | (at_builtin; refine wpList_append_own _ rfl _ _ 61 rfl N 41 i0 (.agg #[.int .i64 0, .int .i64 0, .int .i64 0, .bool false]) 4 32 Tryd.underlying61 hi hz0 hz1 hz2 rfl (by decide) _ _ _ rfl (rows_still R2.out ((Upd.refl _ _).alloc _)) ⟨w2.heap.size, 0, none⟩ 1 1 [.int .i64 la, .int .i64 lp, .int .i64 lf, .bool lw] rfl rfl (rows_src _ _ _) (by simp [Value.oneCell']) (by simp [maxLen]; omega) (by omega) (by simp; omega) ?_; intro v' w4 hown' hgrow _))
        have U4 := rows_grown R2.out hgrow U2.out (Nat.le_of_eq hN)
        refine ⟨⟨k + 1, by omega, by go_num, Lib.hid ?_, U4⟩, by simp [intOf]; omega⟩
        rw [hs.out, List.length_append, lnsC_app, hLn, hLc, hN]
        exact hown'
      · have hs := Lib.hid (hn0.out (by have := hem.out; cases h : B k with | none => rfl | some l => rw [h] at this; cases this))
        clear hn0 hn1 hem
        go_wp2
        go_roundw
        case rel => exact ⟨k + 1, by omega, by go_num, by rw [hs.out]; exact R2, U2.out⟩
        case measure => simp [intOf]; omega
    · obtain rfl : k = 8 := by omega
      go_wp2
      go_ret
      exact ⟨_, rfl, hrow.out, hU⟩
end Go.Proofs.YtfdnfllefednjaaDoor

/-
  The laws' awake over package tlb; the rows of Op.
-/
namespace Go.Proofs.YtfdnfllefednjaaDoor
open Go.ChangeShapes Go.WideShapes Go.ChangeAt Go.RowKit Go.Shelf

/-- one step's numbers, where they lie -/
theorem tl_cells {w : World} {ao : Option Addr} {n b off : Nat} {E : Nat → Nat → Value} (R : Fr.RowArg w ao n b off [some .i64, some .i64, some .i64, some .i64, some .i64, none] E) (i : Nat) (hi : i < n) :
    ∃ (d x la lp lf : Int) (lw : Bool), w.cell? ⟨b, off + i * 6, none⟩ = some (.int .i64 d) ∧ w.cell? ⟨b, off + i * 6 + 1, none⟩ = some (.int .i64 x) ∧ w.cell? ⟨b, off + i * 6 + 2, none⟩ = some (.int .i64 la) ∧ w.cell? ⟨b, off + i * 6 + 3, none⟩ = some (.int .i64 lp) ∧ w.cell? ⟨b, off + i * 6 + 4, none⟩ = some (.int .i64 lf) ∧ w.cell? ⟨b, off + i * 6 + 5, none⟩ = some (.bool lw) := by
  obtain ⟨d, hd, _⟩ := R.ok i hi 0 _ rfl
  obtain ⟨x, hx, _⟩ := R.ok i hi 1 _ rfl
  obtain ⟨la, ha, _⟩ := R.ok i hi 2 _ rfl
  obtain ⟨lp, hp, _⟩ := R.ok i hi 3 _ rfl
  obtain ⟨lf, hf, _⟩ := R.ok i hi 4 _ rfl
  obtain ⟨lw, hw⟩ := R.ok i hi 5 _ rfl
  exact ⟨d, x, la, lp, lf, lw, by rw [← hd]; exact R.cell i hi 0 (by decide), by rw [← hx]; exact R.cell i hi 1 (by decide), by rw [← ha]; exact R.cell i hi 2 (by decide), by rw [← hp]; exact R.cell i hi 3 (by decide), by rw [← hf]; exact R.cell i hi 4 (by decide), by rw [← hw]; exact R.cell i hi 5 (by decide)⟩
end Go.Proofs.YtfdnfllefednjaaDoor

/-
  Package tlb, in plain numbers: what is left behind a flush.
-/
namespace Go.Proofs.YtfdnfllefednjaaDoor
open Go.ChangeShapes Go.WideShapes Go.ChangeAt Go.RowKit Go.Shelf

theorem Buf.Ok.find_flush {B : Buf} (h : B.Ok) {i : Nat} {l : Ln} (hi : B i = some l) (a : Int) : (B.flush a).find l.a l.p = if l.a = a then none else some l := by
  by_cases c : l.a = a
  · rw [if_pos c]
    cases hf : (B.flush a).find l.a l.p with
    | none => rfl
    | some l' =>
      obtain ⟨j, _, e, e1, _⟩ := Buf.find_some hf
      exact absurd (e1.trans c) (Buf.flush_some.1 e).2
  · rw [if_neg c]
    exact (h.flush a).find_of (Buf.flush_some.2 ⟨hi, c⟩)
theorem filterMap_filter {α β : Type} (f g : α → Option β) (q : β → Bool) (h : ∀ x, g x = (f x).filter q) : ∀ l : List α, l.filterMap g = (l.filterMap f).filter q
  | [] => rfl
  | x :: r => by
    rw [List.filterMap_cons, List.filterMap_cons, filterMap_filter f g q h r, h x]
    cases f x with
    | none => rfl
    | some y => cases hq : q y <;> simp [hq, Option.filter]
theorem Buf.lines_flush (B : Buf) (a : Int) : (B.flush a).lines = B.lines.filter (fun l => !decide (l.a = a)) := by
  unfold Buf.lines Buf.linesTo
  refine filterMap_filter _ _ _ (fun i => ?_) _
  unfold Buf.flush
  cases B i with
  | none => rfl
  | some l => by_cases e : l.a = a <;> simp [e, Option.filter]
theorem filter_len {α β : Type} (f : α → Option β) (q : β → Bool) : ∀ l : List α, (l.filter (fun x => match f x with | some y => q y | none => false)).length = ((l.filterMap f).filter q).length
  | [] => rfl
  | x :: r => by
    have ih := filter_len f q r
    rw [List.filterMap_cons, List.filter_cons]
    cases f x with
    | none => simpa using ih
    | some y => cases hq : q y <;> simp [hq, ih]
theorem Buf.many_lines (B : Buf) (a : Int) : B.many a 8 = (B.lines.filter (fun l => decide (l.a = a))).length := by
  unfold Buf.many Buf.lines Buf.linesTo
  rw [← filter_len B (fun l => decide (l.a = a))]
  congr 2
  funext j
  cases B j <;> rfl
theorem filter_two {α : Type} (q : α → Bool) : ∀ l : List α, (l.filter q).length + (l.filter (fun x => !q x)).length = l.length
  | [] => rfl
  | x :: r => by
    have ih := filter_two q r
    cases hq : q x <;> simp [hq] <;> omega
theorem Buf.many_flush (B : Buf) (a : Int) : (B.flush a).many a 8 = 0 := by
  rw [Buf.many_lines, Buf.lines_flush]
  rw [List.length_eq_zero_iff, List.filter_eq_nil_iff]
  intro l hl
  have := (List.mem_filter.1 hl).2
  simpa using this
theorem Buf.lines_le (B : Buf) : B.lines.length ≤ 8 := B.linesTo_len 8
/-- how many of the first k lines are of others -/
def lefts (L : List Ln) (a : Int) (k : Nat) : Nat := ((L.take k).filter (fun l => !decide (l.a = a))).length
theorem lefts_no {L : List Ln} {a : Int} {k : Nat} {l : Ln} (h : L[k]? = some l) (ha : l.a = a) : lefts L a (k + 1) = lefts L a k := by
  unfold lefts
  rw [List.take_add_one, h, List.filter_append]
  simp [ha]
theorem lefts_yes {L : List Ln} {a : Int} {k : Nat} {l : Ln} (h : L[k]? = some l) (ha : ¬ l.a = a) : lefts L a (k + 1) = lefts L a k + 1 := by
  unfold lefts
  rw [List.take_add_one, h, List.filter_append]
  simp [ha]
theorem lefts_le (L : List Ln) (a : Int) (k : Nat) : lefts L a k ≤ k := by
  unfold lefts
  exact Nat.le_trans (List.length_filter_le _ _) (by simp; omega)
theorem Buf.lefts_all (B : Buf) (a : Int) : lefts B.lines a B.lines.length = (B.flush a).lines.length := by
  unfold lefts
  rw [List.take_length, B.lines_flush]
theorem Buf.many_left (B : Buf) (a : Int) : B.many a 8 + (B.flush a).lines.length = B.lines.length := by
  rw [B.many_lines, B.lines_flush]
  exact filter_two _ _
theorem LnAt.eight {w : World} {b : Nat} {x y z : Int} {r : Bool} (h : LnAt w b x y z r) : w.cell? ⟨b, 0, none⟩ = some (.int .i64 x) ∧ w.cell? ⟨b, 1, none⟩ = some (.int .i64 y) ∧ w.cell? ⟨b, 2, none⟩ = some (.int .i64 z) ∧ w.cell? ⟨b, 3, none⟩ = some (.bool r) ∧
    w.frozen? ⟨b, 0, none⟩ = false ∧ w.frozen? ⟨b, 1, none⟩ = false ∧ w.frozen? ⟨b, 2, none⟩ = false ∧ w.frozen? ⟨b, 3, none⟩ = false :=
  ⟨h.range 0 _ rfl, h.range 1 _ rfl, h.range 2 _ rfl, h.range 3 _ rfl, frozen_block h _, frozen_block h _, frozen_block h _, frozen_block h _⟩
/-- the cells of the lines that Lines told -/
theorem lns_row {w : World} {N cap : Nat} {o : Option Addr} {L : List Ln} (h : w.ownsRow N 41 4 (.slice o L.length cap) L.length (lnsC L)) (i : Nat) (l : Ln) (hi : L[i]? = some l) :
    ∃ g, o = some ⟨g, 0, none⟩ ∧ w.rangeAt g (i * 4) [.int .i64 l.a, .int .i64 l.p, .int .i64 l.f, .bool l.w] := by
  have hlt : i < L.length := (List.getElem?_eq_some_iff.1 hi).1
  obtain ⟨g, rfl, hc⟩ := rows_at h (by omega)
  refine ⟨g, rfl, fun j v hv => hc _ _ ?_⟩
  have hj : j < 4 := (List.getElem?_eq_some_iff.1 hv).1
  rw [lnsC_at L i l j hi hj]
  exact hv
end Go.Proofs.YtfdnfllefednjaaDoor

/-
  Package mmu: the unit in memory; exists, walked.
-/
namespace Go.Proofs.YtfdnfllefednjaaDoor
open Go.ChangeShapes Go.WideShapes Go.ChangeAt Go.RowKit Go.Shelf

/-- a unit of memory MA and buffer BA -/
structure UnAt (w : World) (U MA BA : Nat) (root asid : Int) : Prop where
  head : w.heap[U]? = some (.cells #[.pointer (some ⟨MA, 0, none⟩), .func (.func 75) #[.pointer (some ⟨BA, 0, none⟩)] #[], .func (.func 21) #[.pointer (some ⟨BA, 0, none⟩)] #[], .int .i64 root, .int .i64 asid] 102 (0, 0))
theorem UnAt.kept {S : Nat → Prop} {w w' : World} {U MA BA : Nat} {root asid : Int} (h : UnAt w U MA BA root asid) (u : Upd S w w') (hs : ¬ S U) : UnAt w' U MA BA root asid := ⟨u.at h.head hs⟩
theorem UnAt.lt {w : World} {U MA BA : Nat} {root asid : Int} (h : UnAt w U MA BA root asid) : U < w.heap.size := lt_of_heap h.head
theorem UnAt.c {w : World} {U MA BA : Nat} {root asid : Int} (h : UnAt w U MA BA root asid) : w.cell? ⟨U, 0, none⟩ = some (.pointer (some ⟨MA, 0, none⟩)) ∧ w.cell? ⟨U, 1, none⟩ = some (.func (.func 75) #[.pointer (some ⟨BA, 0, none⟩)] #[]) ∧
    w.cell? ⟨U, 2, none⟩ = some (.func (.func 21) #[.pointer (some ⟨BA, 0, none⟩)] #[]) ∧ w.cell? ⟨U, 3, none⟩ = some (.int .i64 root) ∧ w.cell? ⟨U, 4, none⟩ = some (.int .i64 asid) := by
  refine ⟨?_, ?_, ?_, ?_, ?_⟩ <;> (rw [cell_of_row w U _ _ _ _ h.head]; rfl)
/-- a line that is the only result, in a cell -/
theorem ret_ln1 {fn : Func} {p : Tmp} (h : fn.results = #[.cell p 41]) (tmps : Array Value) (w : World) (b : Nat) (x y z : Int) (r : Bool) (hp : tmps.getD p undef = .pointer (some ⟨b, 0, none⟩)) (he : LnAt w b x y z r) :
    (results fn tmps).run Tryd.prog w = .ok (.agg #[.int .i64 x, .int .i64 y, .int .i64 z, .bool r]) w := by
  exact results_cell_row h tmps w b _ _ _ _ hp he Tryd.underlying41 rfl size_ln
theorem uexists_any (U MA BA : Nat) (root asid : Int) (m : Mem) (f : Int) (w : World) (h : UnAt w U MA BA root asid) (hm : MemAt w MA m) :
    Calls Tryd.prog 52 #[.pointer (some ⟨U, 0, none⟩), .int .i64 f] w fun e w' => e = .returned (.bool (m.ex f 1)) ∧ w = w' := by
  have hc := h.c.1
  have hn := hm.hi
  by_cases h0 : f < 0
  · have hv := Lib.hid (show m.ex f 1 = false from by unfold Mem.ex; simp; omega)
    go_enter Tryd.func52, Tryd.ntmps52
    go_wp2_with (go_at_call 74; refine (frames_any MA m _ hm).mono ?_; rintro e w' ⟨rfl, rfl⟩)
    go_ret
    exact ⟨by rw [hv.out]; rfl, rfl⟩
  · have hv := Lib.hid (show m.ex f 1 = decide (f < (m.n : Int)) from by unfold Mem.ex; rw [Bool.eq_iff_iff]; simp; omega)
    go_enter Tryd.func52, Tryd.ntmps52
    go_wp2_with (go_at_call 74; refine (frames_any MA m _ hm).mono ?_; rintro e w' ⟨rfl, rfl⟩)
    go_ret
    exact ⟨by rw [hv.out]; rfl, rfl⟩

set_option maxRecDepth 100000 in
set_option maxHeartbeats 2000000 in
theorem uwalked_any (U MA BA : Nat) (root asid q : Int) (m : Mem) (w : World) (h : UnAt w U MA BA root asid) (hm : MemAt w MA m) (T : Tab w) (hg : m.good) :
    Calls Tryd.prog 81 #[.pointer (some ⟨U, 0, none⟩), .int .i64 q] w fun e w' => e = .returned (lnOf (m.wL root asid q)).val ∧ Upd (fun _ => False) w w' := by
  have cW := Lib.hid (fun (W : World) (h : MemAt W MA m) (T : Tab W) => wwalk_any MA m root q W h T hg)
  have cX := Lib.hid (fun f (W : World) (h : UnAt W U MA BA root asid) (hm : MemAt W MA m) => uexists_any U MA BA root asid m f W h hm)
  have hL0 : Hid (m.wX root q ≠ 0 → m.wL root asid q = none) := Lib.hid (fun e => by unfold Mem.wL; rw [if_neg (fun c => e c.1)])
  have hL1 : Hid (m.wX root q = 0 → m.ex (m.wE root q).f 1 = true → m.wL root asid q = some ⟨asid, q, (m.wE root q).f, (m.wE root q).r⟩) := Lib.hid (fun a b => by unfold Mem.wL; rw [if_pos ⟨a, b⟩])
  have hL2 : Hid (m.ex (m.wE root q).f 1 = false → m.wL root asid q = none) := Lib.hid (fun e => by unfold Mem.wL; rw [if_neg (fun c => by rw [e] at c; cases c.2)])
  generalize m.wL root asid q = LL at hL0 hL1 hL2 ⊢
  generalize m.wX root q = X at cW hL0 hL1
  generalize m.wE root q = E at cW hL1 hL2
  obtain ⟨ev, er, et, ef⟩ := E
  simp only at hL1 hL2
  have HU := Lib.hid h
  have HM := Lib.hid hm
  have HT := Lib.hid T
  clear h hm T hg
  go_enter Tryd.func81, Tryd.ntmps81
  go_upto_region 1 with fail
  have k0 := Lib.hid (show LnAt (w.alloc (.cells #[.int .i64 0, .int .i64 0, .int .i64 0, .bool false] 41)) w.heap.size 0 0 0 false from heap_alloc_last w _)
  have U0 := Lib.hid ((Upd.refl (fun _ => False) w).alloc (.cells #[.int .i64 0, .int .i64 0, .int .i64 0, .bool false] 41))
  obtain ⟨wr, hwr⟩ : ∃ wr, wr = w.alloc (.cells #[.int .i64 0, .int .i64 0, .int .i64 0, .bool false] 41) := ⟨_, rfl⟩
  obtain ⟨N, hN⟩ : ∃ N, N = w.heap.size := ⟨_, rfl⟩
  have HN := Lib.hid (Nat.le_of_eq hN.symm)
  rw [← hwr, ← hN] at k0
  rw [← hwr] at U0 ⊢
  rw [← hN]
  clear hwr hN
  have h1 := Lib.hid (HU.out.kept U0.out id)
  have M1 := Lib.hid (HM.out.kept U0.out id id)
  have T1 := Lib.hid (HT.out.kept U0.out)
  obtain ⟨c0, -, -, c3, c4⟩ := h1.out.c
  have hS := Lib.hid (show ∀ (W' : World), Upd (fun _ => False) wr W' → W'.cell? ⟨U, 0, none⟩ = some (.pointer (some ⟨MA, 0, none⟩)) ∧ W'.cell? ⟨U, 3, none⟩ = some (.int .i64 root) ∧ Upd (fun _ => False) wr W' from fun W' u => ⟨u.cell c0 id, u.cell c3 id, u⟩)
  clear HU HM HT c4
  go_cut [5, 6, 7] (fun s5 s6 s7 wx => ∃ (D : Nat), s5 = .pointer (some ⟨D, 0, none⟩) ∧ s7 = .int .i64 X ∧ Hid (EntAt wx D ev er et ef) ∧ Upd (fun _ => False) wr wx)
  case first =>
    go_region_held3 (fun w' => w'.cell? ⟨U, 0, none⟩ = some (.pointer (some ⟨MA, 0, none⟩)) ∧ w'.cell? ⟨U, 3, none⟩ = some (.int .i64 root) ∧ Upd (fun _ => False) wr w')
      (first
        | assumption
        | exact hS.out _ (Upd.refl _ _).drew
        | exact hS.out _ ((Upd.refl _ _).drew.alloc _)
        | exact hS.out _ u7
        | exact hS.out _ (u7.alloc _)
        | exact hS.out _ ((((u7.setCell (.inr (Nat.le_refl _)) _).setCell (.inr (Nat.le_refl _)) _).setCell (.inr (Nat.le_refl _)) _).setCell (.inr (Nat.le_refl _)) _)
        | exact hS.out _ (((((u7.alloc _).setCell (.inr u7.size) _).setCell (.inr u7.size) _).setCell (.inr u7.size) _).setCell (.inr u7.size) _))
      (first
        | (go_at_call 65; go_split_ands; rename_i s1 s2 s3; refine (cW.out (wr.alloc (.cells #[.bool false, .bool false, .bool false, .int .i64 0] 34)).drew (M1.out.kept s3 id id) (T1.out.kept s3)).mono ?_; rintro e w6 ⟨o, rfl, -, u6⟩; have u7 := s3.trans u6; have e7 : Hid (EntAt w6 wr.heap.size false false false 0) := Lib.hid (u6.at (heap_alloc_last wr _) id); obtain ⟨e0, e1, e2, e3, z0, z1, z2, z3⟩ := e7.out.eight)
        | (go_at_call 65; go_split_ands; rename_i s1 s2 s3; refine (cW.out _ (M1.out.kept s3 id id) (T1.out.kept s3)).mono ?_; rintro e w6 ⟨o, rfl, -, u6⟩; have u7 := s3.trans u6))
    all_goals (go_wp2_with fail)
    all_goals go_meet
    all_goals
      first
        | exact ⟨wr.heap.size, rfl, rfl, Lib.hid (e7.out.set ev er et ef), (((u7.setCell (.inr (Nat.le_refl _)) _).setCell (.inr (Nat.le_refl _)) _).setCell (.inr (Nat.le_refl _)) _).setCell (.inr (Nat.le_refl _)) _⟩
        | exact ⟨w6.heap.size, rfl, rfl, Lib.hid (heap_alloc_last w6 _), u7.alloc _⟩
  case rest =>
    obtain ⟨D, rfl, rfl, hD, u8⟩ := hcut
    have k1 := Lib.hid (k0.out.kept u8 id)
    have h2 := Lib.hid (h1.out.kept u8 id)
    have M2 := Lib.hid (M1.out.kept u8 id id)
    have U := Lib.hid (U0.out.trans u8)
    obtain ⟨e0, e1, e2, e3, -, -, -, -⟩ := hD.out.eight
    have cx := cX.out ef wc h2.out M2.out
    clear hS c0 c3 h1 M1 T1 cW k0 u8 U0 cX hD M2
    by_cases hX : X = 0
    · subst hX
      cases hb : m.ex ef 1
      · rw [hb] at cx
        have hL := hL2.out hb
        subst hL
        have K := k1.out.there
        clear hL0 hL1 hL2 hb
        go_wp2_with (first
          | (go_at_call 52; refine cx.mono ?_; rintro e w' ⟨rfl, rfl⟩)
          | (with_reducible refine wpList_store_sz rfl 41 (.tmp 4) (.tmp 31) rfl N 0 #[.int .i64 0, .int .i64 0, .int .i64 0, .bool false] rfl rfl 4 (ln_sz _ _ _ _) K size_ln (ln_one _ _ _ _) [.int .i64 0, .int .i64 0, .int .i64 0, .bool false] (ln_ls _ _ _ _) ?_))
        (try simp only [Exit.inBlock, Exit.then])
        refine bodyPost_ret (ret_ln1 rfl _ _ N 0 0 0 false rfl (k1.out.set 0 0 0 false)) rfl ⟨rfl, ?_⟩
        exact Upd.setCells (.inr HN.out) _ _ U.out
      · rw [hb] at cx
        have hL := hL1.out rfl hb
        subst hL
        clear hL0 hL1 hL2 hb
        have HE := Lib.hid (And.intro e1 e3)
        go_upto_region 4 with (go_at_call 52; refine cx.mono ?_; rintro e w' ⟨rfl, rfl⟩)
        refine wp_region_tail 10 (by kernel_rfl) (by kernel_rfl) ?_
        simp only [List.take_succ_cons, List.take_zero, List.drop_succ_cons, List.drop_zero]
        intro w9 hw9
        have u9 := Lib.hid (show Upd (fun _ => False) wc w9 from by rw [hw9]; exact (Upd.refl _ _).drew)
        have q4 := (h2.out.kept u9.out id).c.2.2.2.2
        have q1 := u9.out.cell HE.out.1 id
        have q3 := u9.out.cell HE.out.2 id
        have K9 := Lib.hid (k1.out.kept u9.out id)
        have U9 := Lib.hid (U.out.trans u9.out)
        clear hw9 HE u9 k1 U h2 e0 e1 e2 e3 cx
        have K := K9.out.there
        iterate 10 still_step
        refine wpStill_nil ?_
        go_wp2_with (with_reducible refine wpList_store_sz rfl 41 (.tmp 4) (.tmp 41) rfl N 0 #[.int .i64 asid, .int .i64 q, .int .i64 ef, .bool er] rfl rfl 4 (ln_sz _ _ _ _) K size_ln (ln_one _ _ _ _) [.int .i64 asid, .int .i64 q, .int .i64 ef, .bool er] (ln_ls _ _ _ _) ?_)
        (try simp only [Exit.inBlock, Exit.then])
        refine bodyPost_ret (ret_ln1 rfl _ _ N asid q ef er rfl (K9.out.set asid q ef er)) rfl ⟨rfl, ?_⟩
        exact Upd.setCells (.inr HN.out) _ _ U9.out
    · have hL := hL0.out hX
      subst hL
      have K := k1.out.there
      have hX' : (X != 0) = true := by simp [hX]
      clear hL0 hL1 hL2
      go_wp2_with (with_reducible refine wpList_store_sz rfl 41 (.tmp 4) (.tmp 31) rfl N 0 #[.int .i64 0, .int .i64 0, .int .i64 0, .bool false] rfl rfl 4 (ln_sz _ _ _ _) K size_ln (ln_one _ _ _ _) [.int .i64 0, .int .i64 0, .int .i64 0, .bool false] (ln_ls _ _ _ _) ?_)
      (try simp only [Exit.inBlock, Exit.then])
      refine bodyPost_ret (ret_ln1 rfl _ _ N 0 0 0 false rfl (k1.out.set 0 0 0 false)) rfl ⟨rfl, ?_⟩
      exact Upd.setCells (.inr HN.out) _ _ U.out
end Go.Proofs.YtfdnfllefednjaaDoor

/-
  Package mmu: line.
-/
namespace Go.Proofs.YtfdnfllefednjaaDoor
open Go.ChangeShapes Go.WideShapes Go.ChangeAt Go.RowKit Go.Shelf

set_option maxRecDepth 100000 in
set_option maxHeartbeats 4000000 in
theorem uline_any (U MA BA : Nat) (root asid q at' : Int) (m : Mem) (B : Buf) (hB : B.Ok) (w : World) (h : UnAt w U MA BA root asid) (hm : MemAt w MA m) (hb : BufAt w BA B) (T : Tab w) (hg : m.good) (ha : asid ≠ 0) (hUB : U ≠ BA) :
    Calls Tryd.prog 60 #[.pointer (some ⟨U, 0, none⟩), .int .i64 q, .int .i64 at'] w fun e w' => e = .returned (lnOf (uLine m B root asid q)).val ∧ BufAt w' BA (uPut m B root asid q at') ∧ Upd (· = BA) w w' := by
  have cF := Lib.hid (fun (W : World) (h : BufAt W BA B) => tfind_any BA B hB asid q W h)
  have cW := Lib.hid (fun (W : World) (h : UnAt W U MA BA root asid) (hm : MemAt W MA m) (T : Tab W) => uwalked_any U MA BA root asid q m W h hm T hg)
  have cP := Lib.hid (fun (l : Ln) (W : World) (h : BufAt W BA B) => tput_any BA B hB l.a l.p l.f l.w at' W h)
  have hl : Hid (∀ l, m.wL root asid q = some l → l.a = asid) := Lib.hid (fun l e => (wL_a e).1)
  have h1 : Hid (∀ l, B.find asid q = some l → uLine m B root asid q = some l ∧ uPut m B root asid q at' = B) := Lib.hid (fun l e => by unfold uLine uPut; rw [e]; exact ⟨rfl, rfl⟩)
  have h2 : Hid (B.find asid q = none → uLine m B root asid q = m.wL root asid q ∧ uPut m B root asid q at' = match m.wL root asid q with | some l => B.put l at' | none => B) := Lib.hid (fun e => by unfold uLine uPut; rw [e]; exact ⟨rfl, rfl⟩)
  generalize uLine m B root asid q = R at h1 h2 ⊢
  generalize uPut m B root asid q at' = PB at h1 h2 ⊢
  generalize B.find asid q = F at cF h1 h2
  generalize m.wL root asid q = LL at cW hl h2
  have HU := Lib.hid h
  have HM := Lib.hid hm
  have HT := Lib.hid T
  have HB := Lib.hid hb
  have Ha := Lib.hid ha
  have Hne := Lib.hid hUB
  clear h hm T hg hb ha hUB
  go_enter Tryd.func60, Tryd.ntmps60
  go_upto_region 1 with fail
  have k0 := Lib.hid (show LnAt (w.alloc (.cells #[.int .i64 0, .int .i64 0, .int .i64 0, .bool false] 41)) w.heap.size 0 0 0 false from heap_alloc_last w _)
  have U0 := Lib.hid ((Upd.refl (fun _ => False) w).alloc (.cells #[.int .i64 0, .int .i64 0, .int .i64 0, .bool false] 41))
  obtain ⟨wr, hwr⟩ : ∃ wr, wr = w.alloc (.cells #[.int .i64 0, .int .i64 0, .int .i64 0, .bool false] 41) := ⟨_, rfl⟩
  obtain ⟨N, hN⟩ : ∃ N, N = w.heap.size := ⟨_, rfl⟩
  have HN := Lib.hid (Nat.le_of_eq hN.symm)
  rw [← hwr, ← hN] at k0
  rw [← hwr] at U0 ⊢
  rw [← hN]
  clear hwr hN
  have U1 := Lib.hid (HU.out.kept U0.out id)
  have M1 := Lib.hid (HM.out.kept U0.out id id)
  have T1 := Lib.hid (HT.out.kept U0.out)
  have B1 := Lib.hid (HB.out.kept U0.out id)
  have NB := Lib.hid (show BA ≠ N from Nat.ne_of_lt (Nat.lt_of_lt_of_le HB.out.lt HN.out))
  obtain ⟨-, c1, -, -, c4⟩ := U1.out.c
  have hS := Lib.hid (show ∀ (W' : World), Upd (fun _ => False) wr W' → W'.cell? ⟨U, 1, none⟩ = some (.func (.func 75) #[.pointer (some ⟨BA, 0, none⟩)] #[]) ∧ W'.cell? ⟨U, 4, none⟩ = some (.int .i64 asid) ∧ Upd (fun _ => False) wr W' from fun W' u => ⟨u.cell c1 id, u.cell c4 id, u⟩)
  obtain ⟨fl, hfl⟩ : ∃ fl, fl = lnOf F := ⟨_, rfl⟩
  have Hfl := Lib.hid hfl
  rw [← hfl] at cF
  clear hfl HU HM HT HB
  obtain ⟨la, lp, lf, lw⟩ := fl
  go_cut [7, 8] (fun s7 s8 wx => ∃ (D : Nat), s7 = .pointer (some ⟨D, 0, none⟩) ∧ s8 = .bool F.isSome ∧ Hid (LnAt wx D la lp lf lw) ∧ Upd (fun _ => False) wr wx)
  case first =>
    go_region_held3 (fun w' => w'.cell? ⟨U, 1, none⟩ = some (.func (.func 75) #[.pointer (some ⟨BA, 0, none⟩)] #[]) ∧ w'.cell? ⟨U, 4, none⟩ = some (.int .i64 asid) ∧ Upd (fun _ => False) wr w')
      (first
        | assumption
        | exact hS.out _ (Upd.refl _ _).drew
        | exact hS.out _ ((Upd.refl _ _).drew.alloc _)
        | exact hS.out _ u7
        | exact hS.out _ (u7.alloc _)
        | exact hS.out _ ((((u7.setCell (.inr (Nat.le_refl _)) _).setCell (.inr (Nat.le_refl _)) _).setCell (.inr (Nat.le_refl _)) _).setCell (.inr (Nat.le_refl _)) _)
        | exact hS.out _ (((((u7.alloc _).setCell (.inr u7.size) _).setCell (.inr u7.size) _).setCell (.inr u7.size) _).setCell (.inr u7.size) _))
      (first
        | (go_at_call 75; go_split_ands; rename_i s1 s2 s3; refine (cF.out (wr.alloc (.cells #[.int .i64 0, .int .i64 0, .int .i64 0, .bool false] 41)).drew (B1.out.kept s3 id)).mono ?_; rintro e w6 ⟨rfl, u6⟩; have u7 := s3.trans u6; have e7 : Hid (LnAt w6 wr.heap.size 0 0 0 false) := Lib.hid (u6.at (heap_alloc_last wr _) id); obtain ⟨e0, e1, e2, e3, z0, z1, z2, z3⟩ := e7.out.eight)
        | (go_at_call 75; go_split_ands; rename_i s1 s2 s3; refine (cF.out _ (B1.out.kept s3 id)).mono ?_; rintro e w6 ⟨rfl, u6⟩; have u7 := s3.trans u6))
    all_goals (go_wp2_with fail)
    all_goals go_meet
    all_goals
      first
        | exact ⟨wr.heap.size, rfl, rfl, Lib.hid (e7.out.set la lp lf lw), (((u7.setCell (.inr (Nat.le_refl _)) _).setCell (.inr (Nat.le_refl _)) _).setCell (.inr (Nat.le_refl _)) _).setCell (.inr (Nat.le_refl _)) _⟩
        | exact ⟨w6.heap.size, rfl, rfl, Lib.hid (heap_alloc_last w6 _), u7.alloc _⟩
  case rest =>
    obtain ⟨D, rfl, rfl, hD, u8⟩ := hcut
    have k1 := Lib.hid (k0.out.kept u8 id)
    have U2 := Lib.hid (U1.out.kept u8 id)
    have M2 := Lib.hid (M1.out.kept u8 id id)
    have T2 := Lib.hid (T1.out.kept u8)
    have B2 := Lib.hid (B1.out.kept u8 id)
    have UU := Lib.hid (U0.out.trans u8)
    clear hS c1 c4 U1 M1 T1 B1 cF k0 u8 U0
    cases F with
    | some l =>
      obtain ⟨rfl, rfl⟩ := h1.out l rfl
      have hl2 : l = ⟨la, lp, lf, lw⟩ := Hfl.out.symm
      subst hl2
      clear h1 h2 hl cW cP Hfl
      have K := k1.out.there
      go_wp2_with (first
        | (with_reducible refine wpList_load_sz rfl 41 (.tmp 7) rfl D 0 rfl [.int .i64 la, .int .i64 lp, .int .i64 lf, .bool lw] _ hD.out.range Tryd.underlying41 rfl 4 (ln_len _ _ _ _) size_ln ?_)
        | (with_reducible refine wpList_store_sz rfl 41 (.tmp 6) (.tmp 24) rfl N 0 #[.int .i64 la, .int .i64 lp, .int .i64 lf, .bool lw] rfl rfl 4 (ln_sz _ _ _ _) K size_ln (ln_one _ _ _ _) [.int .i64 la, .int .i64 lp, .int .i64 lf, .bool lw] (ln_ls _ _ _ _) ?_))
      (try simp only [Exit.inBlock, Exit.then])
      refine bodyPost_ret (ret_ln1 rfl _ _ N la lp lf lw rfl (k1.out.set la lp lf lw)) rfl ⟨rfl, ?_, ?_⟩
      · exact B2.out.kept (S := fun x => x = N) (Upd.setCells (S := fun x => x = N) (.inl rfl) _ _ (Upd.refl _ _)) NB.out
      · exact (Upd.setCells (.inr HN.out) _ _ UU.out).sub
    | none =>
      obtain ⟨rfl, hPB⟩ := h2.out rfl
      have HP := Lib.hid hPB
      clear h1 h2 hPB Hfl hD
      go_wp2_with fail
      refine (cW.out wc U2.out M2.out T2.out).mono ?_
      rintro e w5 ⟨rfl, u5⟩
      have k5 := Lib.hid (k1.out.kept u5 id)
      have U5 := Lib.hid (U2.out.kept u5 id)
      have B5 := Lib.hid (B2.out.kept u5 id)
      have UU5 := Lib.hid (UU.out.trans u5)
      clear cW k1 U2 M2 T2 B2 UU u5
      obtain ⟨xl, hxl⟩ : ∃ xl, xl = lnOf R := ⟨_, rfl⟩
      rw [← hxl]
      obtain ⟨xa, xp, xf, xw⟩ := xl
      have Hx := Lib.hid hxl
      clear hxl
      obtain ⟨a1, a2, a3⟩ := ln_box w5 xa xp xf xw
      have A1 := Lib.hid a1
      have A2 := Lib.hid a2
      have A3 := Lib.hid a3
      have k6 := Lib.hid (k5.out.kept a2 id)
      have U6 := Lib.hid (U5.out.kept a2 id)
      have B6 := Lib.hid (B5.out.kept a2 id)
      have UU6 := Lib.hid (UU5.out.trans a2)
      have hD2 := Lib.hid (show w5.heap.size ≠ BA from Nat.ne_of_gt B5.out.lt)
      clear a1 a2 a3 k5 U5 B5 UU5
      go_upto_region 5 with (with_reducible refine wpList_store_sz rfl 41 (.tmp 9) (.tmp 27) rfl w5.heap.size 0 #[.int .i64 xa, .int .i64 xp, .int .i64 xf, .bool xw] rfl rfl 4 (ln_sz _ _ _ _) A3.out size_ln (ln_one _ _ _ _) [.int .i64 xa, .int .i64 xp, .int .i64 xf, .bool xw] (ln_ls _ _ _ _) ?_)
      clear A2 A3
      generalize (w5.alloc (.cells #[.int .i64 0, .int .i64 0, .int .i64 0, .bool false] 41)).setCells w5.heap.size 0 [.int .i64 xa, .int .i64 xp, .int .i64 xf, .bool xw] = w6 at A1 k6 U6 B6 UU6 ⊢
      generalize w5.heap.size = D2 at A1 hD2 ⊢
      cases R with
      | some l =>
        have hl2 : l = ⟨xa, xp, xf, xw⟩ := Hx.out.symm
        subst hl2
        have hxa : xa = asid := hl.out _ rfl
        have he := run_eqL xa xp xf xw 0 0 0 false false (by simp; intro e; rw [hxa] at e; exact absurd e Ha.out)
        have hP := HP.out
        simp only at hP
        subst hP
        clear hl Hx hxa HP
        go_upto_region 6 with (with_reducible refine wpList_load_sz rfl 41 (.tmp 9) rfl D2 0 rfl [.int .i64 xa, .int .i64 xp, .int .i64 xf, .bool xw] _ A1.out.range Tryd.underlying41 rfl 4 (ln_len _ _ _ _) size_ln ?_)
        refine wp_region_tail 6 (by kernel_rfl) (by kernel_rfl) ?_
        simp only [List.take_succ_cons, List.take_zero, List.drop_succ_cons, List.drop_zero]
        intro w9 hw9
        have u9 : Upd (fun _ => False) w6 w9 := by rw [hw9]; exact (Upd.refl _ _).drew
        have q2 := (U6.out.kept u9 id).c.2.2.1
        have B9 := Lib.hid (B6.out.kept u9 id)
        have A9 := Lib.hid (A1.out.kept u9 id)
        have k9 := Lib.hid (k6.out.kept u9 id)
        have UU9 := Lib.hid (UU6.out.trans u9)
        clear hw9 u9 U6 B6 A1 k6 UU6
        iterate 4 still_step
        with_reducible refine wpStill_load_sz rfl 41 (.tmp 9) rfl D2 0 rfl [.int .i64 xa, .int .i64 xp, .int .i64 xf, .bool xw] _ A9.out.range Tryd.underlying41 rfl 4 (ln_len _ _ _ _) size_ln ?_
        simp only [Act.put, List.setIfInBounds_toArray, List.set_cons_succ, List.set_cons_zero]
        still_step
        refine wpStill_nil ?_
        go_wp2_with fail
        refine (cP.out ⟨xa, xp, xf, xw⟩ w9 B9.out).mono ?_
        rintro e wp ⟨rfl, BP, uP⟩
        have AP := Lib.hid (A9.out.kept uP hD2.out)
        have kP := Lib.hid (k9.out.kept uP (Ne.symm NB.out))
        have UUP := Lib.hid (UU9.out.sub.trans uP)
        have BPh := Lib.hid BP
        clear BP uP A9 k9 UU9 B9 cP
        have K := kP.out.there
        go_wp2_with (first
          | (with_reducible refine wpList_load_sz rfl 41 (.tmp 9) rfl D2 0 rfl [.int .i64 xa, .int .i64 xp, .int .i64 xf, .bool xw] _ AP.out.range Tryd.underlying41 rfl 4 (ln_len _ _ _ _) size_ln ?_)
          | (with_reducible refine wpList_store_sz rfl 41 (.tmp 6) (.tmp 38) rfl N 0 #[.int .i64 xa, .int .i64 xp, .int .i64 xf, .bool xw] rfl rfl 4 (ln_sz _ _ _ _) K size_ln (ln_one _ _ _ _) [.int .i64 xa, .int .i64 xp, .int .i64 xf, .bool xw] (ln_ls _ _ _ _) ?_))
        (try simp only [Exit.inBlock, Exit.then])
        refine bodyPost_ret (ret_ln1 rfl _ _ N xa xp xf xw rfl (kP.out.set xa xp xf xw)) rfl ⟨rfl, ?_, ?_⟩
        · exact BPh.out.kept (S := fun x => x = N) (Upd.setCells (S := fun x => x = N) (.inl rfl) _ _ (Upd.refl _ _)) NB.out
        · exact Upd.setCells (.inr HN.out) _ _ UUP.out
      | none =>
        have hx0 := Hx.out
        unfold lnOf ln0 at hx0
        injection hx0 with x1 x2 x3 x4
        subst x1 x2 x3 x4
        have he := run_eqL 0 0 0 false 0 0 0 false true (by simp)
        have hP := HP.out
        simp only at hP
        subst hP
        clear hl Hx HP
        have K := k6.out.there
        go_wp2_with (first
          | (with_reducible refine wpList_load_sz rfl 41 (.tmp 9) rfl D2 0 rfl [.int .i64 0, .int .i64 0, .int .i64 0, .bool false] _ A1.out.range Tryd.underlying41 rfl 4 (ln_len _ _ _ _) size_ln ?_)
          | (with_reducible refine wpList_store_sz rfl 41 (.tmp 6) (.tmp 38) rfl N 0 #[.int .i64 0, .int .i64 0, .int .i64 0, .bool false] rfl rfl 4 (ln_sz _ _ _ _) K size_ln (ln_one _ _ _ _) [.int .i64 0, .int .i64 0, .int .i64 0, .bool false] (ln_ls _ _ _ _) ?_))
        (try simp only [Exit.inBlock, Exit.then])
        refine bodyPost_ret (ret_ln1 rfl _ _ N 0 0 0 false rfl (k6.out.set 0 0 0 false)) rfl ⟨rfl, ?_, ?_⟩
        · exact B6.out.kept (S := fun x => x = N) (Upd.setCells (S := fun x => x = N) (.inl rfl) _ _ (Upd.refl _ _)) NB.out
        · exact (Upd.setCells (.inr HN.out) _ _ UU6.out).sub
end Go.Proofs.YtfdnfllefednjaaDoor

/-
  Package mmu: Find.
-/
namespace Go.Proofs.YtfdnfllefednjaaDoor
open Go.ChangeShapes Go.WideShapes Go.ChangeAt Go.RowKit Go.Shelf

theorem uArg_no {m : Mem} {B : Buf} {root asid addr : Int} {wr : Bool} {at' : Int} (h : uArg asid addr at' = false) : uX m B root asid addr wr at' = 1 ∧ uF m B root asid addr wr at' = 0 ∧ uO m B root asid addr wr at' = 0 ∧ uB m B root asid addr at' = B := by
  have hx : uX m B root asid addr wr at' = 1 := by unfold uX; rw [h]; rfl
  exact ⟨hx, by unfold uF; rw [hx]; rfl, by unfold uO; rw [hx]; rfl, by unfold uB; rw [h]; rfl⟩
theorem uArg_yes {m : Mem} {B : Buf} {root asid addr : Int} {wr : Bool} {at' : Int} (h : uArg asid addr at' = true) : ∀ X, lnX m wr (uLine m B root asid (spP addr)) = X → uX m B root asid addr wr at' = X ∧ uF m B root asid addr wr at' = (if X = 0 then (lnOf (uLine m B root asid (spP addr))).f else 0) ∧ uO m B root asid addr wr at' = (if X = 0 then spO addr else 0) ∧ uB m B root asid addr at' = uPut m B root asid (spP addr) at' := by
  intro X hX
  have hx : uX m B root asid addr wr at' = X := by unfold uX; rw [h, if_pos rfl, hX]
  exact ⟨hx, by unfold uF; rw [hx], by unfold uO; rw [hx], by unfold uB; rw [h, if_pos rfl]⟩
theorem uArg_iff (asid addr at' : Int) : uArg asid addr at' = true ↔ asid ≠ 0 ∧ spB addr = true ∧ 0 ≤ at' ∧ at' < 8 := by
  unfold uArg
  simp [and_assoc]

set_option maxRecDepth 100000 in
set_option maxHeartbeats 4000000 in
theorem ufind_any (U MA BA : Nat) (root asid addr : Int) (wr : Bool) (at' : Int) (m : Mem) (B : Buf) (hB : B.Ok) (w : World) (h : UnAt w U MA BA root asid) (hm : MemAt w MA m) (hb : BufAt w BA B) (T : Tab w) (hg : m.good) (hUB : U ≠ BA) (hMB : MA ≠ BA) (hWB : m.B ≠ BA) :
    Calls Tryd.prog 23 #[.pointer (some ⟨U, 0, none⟩), .int .i64 addr, .bool wr, .int .i64 at'] w fun e w' => e = .returned (.tuple #[.int .i64 (uF m B root asid addr wr at'), .int .i64 (uO m B root asid addr wr at'), .int .i64 (uX m B root asid addr wr at')]) ∧ BufAt w' BA (uB m B root asid addr at') ∧ Upd (· = BA) w w' := by
  have cS := Lib.hid (esplit_any addr w T)
  cases hA : uArg asid addr at'
  · obtain ⟨e1, e2, e3, e4⟩ := uArg_no (m := m) (B := B) (root := root) (wr := wr) hA
    rw [e1, e2, e3, e4]
    clear e1 e2 e3 e4 T hg hm hUB hMB hWB
    have HB := Lib.hid hb
    clear hb
    obtain ⟨-, -, -, -, c4⟩ := h.c
    have hA' : Hid (¬ (asid ≠ 0 ∧ spB addr = true ∧ 0 ≤ at' ∧ at' < 8)) := Lib.hid (fun e => by rw [(uArg_iff _ _ _).2 e] at hA; cases hA)
    clear hA
    generalize spP addr = P at cS
    generalize spO addr = O at cS
    by_cases h0 : asid = 0
    · subst h0
      clear hA'
      generalize spB addr = sb at cS
      go_enter Tryd.func23, Tryd.ntmps23
      go_wp2_with fail
      refine cS.out.mono ?_
      rintro e w1 ⟨rfl, n1, rfl⟩
      have c4' : (w.drewN n1).cell? ⟨U, 4, none⟩ = some (.int .i64 0) := c4
      have u1 := Lib.hid ((Upd.refl (fun _ => False) w).drewN n1)
      generalize w.drewN n1 = w1 at c4' u1 ⊢
      go_wp2
      go_ret3
      exact ⟨rfl, HB.out.kept u1.out id, u1.out.sub⟩
    · have e0 : (asid == 0) = false := by simp [h0]
      cases hsp : spB addr
      · rw [hsp] at cS
        clear hA' hsp
        go_enter Tryd.func23, Tryd.ntmps23
        go_wp2_with fail
        refine cS.out.mono ?_
        rintro e w1 ⟨rfl, n1, rfl⟩
        have c4' : (w.drewN n1).cell? ⟨U, 4, none⟩ = some (.int .i64 asid) := c4
        have u1 := Lib.hid ((Upd.refl (fun _ => False) w).drewN n1)
        generalize w.drewN n1 = w1 at c4' u1 ⊢
        go_wp2
        go_ret3
        exact ⟨rfl, HB.out.kept u1.out id, u1.out.sub⟩
      · rw [hsp] at cS
        have hat : at' < 0 ∨ 8 ≤ at' := by
          have := hA'.out
          by_cases c : at' < 0
          · exact .inl c
          · refine .inr ?_
            by_cases d : 8 ≤ at'
            · exact d
            · exact absurd ⟨h0, hsp, by omega, by omega⟩ this
        clear hA' hsp
        rcases hat with hat | hat
        · go_enter Tryd.func23, Tryd.ntmps23
          go_wp2_with fail
          refine cS.out.mono ?_
          rintro e w1 ⟨rfl, n1, rfl⟩
          have c4' : (w.drewN n1).cell? ⟨U, 4, none⟩ = some (.int .i64 asid) := c4
          have u1 := Lib.hid ((Upd.refl (fun _ => False) w).drewN n1)
          generalize w.drewN n1 = w1 at c4' u1 ⊢
          go_wp2
          go_ret3
          exact ⟨rfl, HB.out.kept u1.out id, u1.out.sub⟩
        · have hat0 : ¬ at' < 0 := by omega
          go_enter Tryd.func23, Tryd.ntmps23
          go_wp2_with fail
          refine cS.out.mono ?_
          rintro e w1 ⟨rfl, n1, rfl⟩
          have c4' : (w.drewN n1).cell? ⟨U, 4, none⟩ = some (.int .i64 asid) := c4
          have u1 := Lib.hid ((Upd.refl (fun _ => False) w).drewN n1)
          generalize w.drewN n1 = w1 at c4' u1 ⊢
          go_wp2
          go_ret3
          exact ⟨rfl, HB.out.kept u1.out id, u1.out.sub⟩
  · obtain ⟨h0, hsp, ha0, ha8⟩ := (uArg_iff _ _ _).1 hA
    have hr := Lib.hid (uArg_yes (m := m) (B := B) (root := root) (wr := wr) hA)
    rw [hsp] at cS
    have cL := Lib.hid (fun (W : World) (h : UnAt W U MA BA root asid) (hm : MemAt W MA m) (hb : BufAt W BA B) (T : Tab W) => uline_any U MA BA root asid (spP addr) at' m B hB W h hm hb T hg h0 hUB)
    have cX := Lib.hid (fun f (W : World) (h : UnAt W U MA BA root asid) (hm : MemAt W MA m) => uexists_any U MA BA root asid m f W h hm)
    have hll := Lib.hid (show ∀ l, uLine m B root asid (spP addr) = some l → l.a = asid from fun l e => (uLine_a e).1)
    obtain ⟨-, -, -, -, c4⟩ := h.c
    have e0 : (asid == 0) = false := by simp [h0]
    have H0 := Lib.hid h0
    have HU := Lib.hid h
    have HM := Lib.hid hm
    have HT := Lib.hid T
    have HB := Lib.hid hb
    have hN := Lib.hid (And.intro hUB (And.intro hMB hWB))
    have ha0' : ¬ at' < 0 := by omega
    have ha8' : ¬ 8 ≤ at' := by omega
    clear hA hsp h hm T hg hb hUB hMB hWB ha0 ha8 h0
    generalize uX m B root asid addr wr at' = X at hr ⊢
    generalize uF m B root asid addr wr at' = Fr at hr ⊢
    generalize uO m B root asid addr wr at' = O at hr ⊢
    generalize uB m B root asid addr at' = B' at hr ⊢
    generalize uLine m B root asid (spP addr) = R at hr cL hll
    generalize uPut m B root asid (spP addr) at' = PB at hr cL
    generalize spP addr = P at cS cL
    generalize spO addr = Of at cS hr
    go_enter Tryd.func23, Tryd.ntmps23
    go_wp2_with fail
    refine cS.out.mono ?_
    rintro e w1 ⟨rfl, n1, rfl⟩
    have c4' : (w.drewN n1).cell? ⟨U, 4, none⟩ = some (.int .i64 asid) := c4
    have u1 := Lib.hid ((Upd.refl (fun _ => False) w).drewN n1)
    generalize w.drewN n1 = w1 at c4' u1 ⊢
    clear c4 cS
    go_wp2_with fail
    refine (cL.out w1 (HU.out.kept u1.out id) (HM.out.kept u1.out id id) (HB.out.kept u1.out id) (HT.out.kept u1.out)).mono ?_
    rintro e w2 ⟨rfl, b2, u2⟩
    have U2 := Lib.hid (HU.out.kept (u1.out.sub.trans u2) hN.out.1)
    have M2 := Lib.hid (HM.out.kept (u1.out.sub.trans u2) hN.out.2.1 hN.out.2.2)
    have B2 := Lib.hid b2
    have W2 := Lib.hid (u1.out.sub.trans u2)
    clear u1 u2 b2 cL HB HT HU HM c4'
    obtain ⟨xl, hxl⟩ : ∃ xl, xl = lnOf R := ⟨_, rfl⟩
    rw [← hxl]
    obtain ⟨xa, xp, xf, xw⟩ := xl
    have Hx := Lib.hid hxl
    clear hxl
    obtain ⟨a1, a2, a3⟩ := ln_box w2 xa xp xf xw
    have A1 := Lib.hid a1
    have A3 := Lib.hid a3
    have U3 := Lib.hid (U2.out.kept a2 id)
    have M3 := Lib.hid (M2.out.kept a2 id id)
    have B3 := Lib.hid (B2.out.kept a2 id)
    have W3 := Lib.hid (W2.out.trans a2.sub)
    clear a1 a2 a3 U2 M2 B2 W2
    go_upto_region 5 with (with_reducible refine wpList_store_sz rfl 41 (.tmp 14) (.tmp 41) rfl w2.heap.size 0 #[.int .i64 xa, .int .i64 xp, .int .i64 xf, .bool xw] rfl rfl 4 (ln_sz _ _ _ _) A3.out size_ln (ln_one _ _ _ _) [.int .i64 xa, .int .i64 xp, .int .i64 xf, .bool xw] (ln_ls _ _ _ _) ?_)
    clear A3
    generalize (w2.alloc (.cells #[.int .i64 0, .int .i64 0, .int .i64 0, .bool false] 41)).setCells w2.heap.size 0 [.int .i64 xa, .int .i64 xp, .int .i64 xf, .bool xw] = w3 at A1 U3 M3 B3 W3 ⊢
    generalize w2.heap.size = D at A1 ⊢
    cases R with
    | none =>
      have hx0 := Hx.out
      unfold lnOf ln0 at hx0
      injection hx0 with x1 x2 x3 x4
      subst x1 x2 x3 x4
      have he := run_eqL 0 0 0 false 0 0 0 false true (by simp)
      obtain ⟨rfl, rfl, rfl, rfl⟩ := hr.out 10 rfl
      clear hll Hx hr cX U3 M3
      go_wp2_with (with_reducible refine wpList_load_sz rfl 41 (.tmp 14) rfl D 0 rfl [.int .i64 0, .int .i64 0, .int .i64 0, .bool false] _ A1.out.range Tryd.underlying41 rfl 4 (ln_len _ _ _ _) size_ln ?_)
      go_ret3
      exact ⟨rfl, B3.out, W3.out⟩
    | some l =>
      have hl2 : l = ⟨xa, xp, xf, xw⟩ := Hx.out.symm
      subst hl2
      have hxa : xa = asid := hll.out _ rfl
      have he := run_eqL xa xp xf xw 0 0 0 false false (by simp; intro e; rw [hxa] at e; exact absurd e H0.out)
      obtain ⟨q0, q1, q2, q3, -, -, -, -⟩ := A1.out.eight
      have cx := cX.out xf w3 U3.out M3.out
      clear hll Hx hxa cX U3 M3 q0 q1
      by_cases hw : wr = true ∧ xw = false
      · obtain ⟨rfl, rfl⟩ := hw
        obtain ⟨rfl, rfl, rfl, rfl⟩ := hr.out 9 (by simp [lnX])
        clear hr cx
        go_wp2_with (with_reducible refine wpList_load_sz rfl 41 (.tmp 14) rfl D 0 rfl [.int .i64 xa, .int .i64 xp, .int .i64 xf, .bool false] _ A1.out.range Tryd.underlying41 rfl 4 (ln_len _ _ _ _) size_ln ?_)
        go_ret3
        exact ⟨rfl, B3.out, W3.out⟩
      · have hwx : (wr && !xw) = false := by cases wr <;> cases xw <;> simp_all
        have hv : lnX m wr (some ⟨xa, xp, xf, xw⟩) = if m.ex xf 1 = true then 0 else 10 := by
          show (if wr = true ∧ xw = false then (9 : Int) else if m.ex xf 1 = true then 0 else 10) = _
          rw [if_neg hw]
        have HV := Lib.hid hv
        clear hv hw
        go_upto_region 7 with (with_reducible refine wpList_load_sz rfl 41 (.tmp 14) rfl D 0 rfl [.int .i64 xa, .int .i64 xp, .int .i64 xf, .bool xw] _ A1.out.range Tryd.underlying41 rfl 4 (ln_len _ _ _ _) size_ln ?_)
        cases hb : m.ex xf 1
        · rw [hb] at cx
          obtain ⟨rfl, rfl, rfl, rfl⟩ := hr.out 10 (by rw [HV.out, hb]; rfl)
          clear hr hb HV
          cases wr <;> cases xw
          all_goals try (simp at hwx; done)
          all_goals clear hwx
          all_goals
            as_aux_lemma =>
              go_wp2_with (go_at_call 52; refine cx.mono ?_; rintro e w' ⟨rfl, rfl⟩)
              go_ret3
              exact ⟨rfl, B3.out, W3.out⟩
        · rw [hb] at cx
          obtain ⟨rfl, rfl, rfl, rfl⟩ := hr.out 0 (by rw [HV.out, hb]; rfl)
          clear hr hb HV
          cases wr <;> cases xw
          all_goals try (simp at hwx; done)
          all_goals clear hwx
          all_goals
            as_aux_lemma =>
              go_wp2_with (go_at_call 52; refine cx.mono ?_; rintro e w' ⟨rfl, rfl⟩)
              go_ret3
              exact ⟨rfl, B3.out, W3.out⟩
end Go.Proofs.YtfdnfllefednjaaDoor

/-
  Package mmu: Load, Store, Use, New.
-/
namespace Go.Proofs.YtfdnfllefednjaaDoor
open Go.ChangeShapes Go.WideShapes Go.ChangeAt Go.RowKit Go.Shelf

theorem uX_zero {m : Mem} {B : Buf} {root asid addr : Int} {wr : Bool} {at' : Int} (h : uX m B root asid addr wr at' = 0) : (0 ≤ uF m B root asid addr wr at' ∧ uF m B root asid addr wr at' < m.n) ∧ 0 ≤ uO m B root asid addr wr at' ∧ uO m B root asid addr wr at' < 16 := by
  cases hA : uArg asid addr at'
  · rw [(uArg_no hA).1] at h
    cases h
  · obtain ⟨h0, hsp, -, -⟩ := (uArg_iff _ _ _).1 hA
    obtain ⟨e1, e2, e3, -⟩ := uArg_yes (m := m) (B := B) (root := root) (wr := wr) hA _ rfl
    rw [e1] at h
    rw [e2, e3, h, if_pos rfl, if_pos rfl]
    have ho : 0 ≤ spO addr ∧ spO addr < 16 := by unfold spO; rw [if_pos hsp]; omega
    refine ⟨?_, ho⟩
    cases hl : uLine m B root asid (spP addr) with
    | none => rw [hl] at h; cases h
    | some l =>
      rw [hl] at h
      have h2 : (if wr = true ∧ l.w = false then (9 : Int) else if m.ex l.f 1 = true then 0 else 10) = 0 := h
      split at h2
      · cases h2
      · split at h2
        · rename_i hx
          have := of_decide_eq_true hx
          show 0 ≤ l.f ∧ l.f < m.n
          omega
        · cases h2
set_option maxHeartbeats 400000 in
theorem uphys_any (f p : Int) (w : World) (h1 : 0 ≤ f) (h2 : f ≤ 256) (h3 : 0 ≤ p) (h4 : p < 16) :
    Calls Tryd.prog 49 #[.int .i64 f, .int .i64 p] w fun e w' => e = .returned (.int .i64 (16 * f + p)) ∧ w = w' := by
  have e1 := IntWalk.i64_in (f * 16) (by omega)
  have e2 := IntWalk.i64_in (f * 16 + p) (by omega)
  go_enter Tryd.func49, Tryd.ntmps49
  go_wp2
  go_ret
  exact ⟨by rw [show f * 16 + p = 16 * f + p from by omega]; rfl, rfl⟩
set_option maxRecDepth 100000 in
set_option maxHeartbeats 1000000 in
theorem uload_any (U MA BA : Nat) (root asid addr at' : Int) (m : Mem) (B : Buf) (hB : B.Ok) (w : World) (h : UnAt w U MA BA root asid) (hm : MemAt w MA m) (hb : BufAt w BA B) (T : Tab w) (hg : m.good) (hUB : U ≠ BA) (hMB : MA ≠ BA) (hWB : m.B ≠ BA) :
    Calls Tryd.prog 13 #[.pointer (some ⟨U, 0, none⟩), .int .i64 addr, .int .i64 at'] w fun e w' => e = .returned (.tuple #[.int .u64 (uW m B root asid addr at'), .int .i64 (uX m B root asid addr false at')]) ∧ BufAt w' BA (uB m B root asid addr at') ∧ Upd (· = BA) w w' := by
  have cF := Lib.hid (ufind_any U MA BA root asid addr false at' m B hB w h hm hb T hg hUB hMB hWB)
  have hz := Lib.hid (uX_zero (m := m) (B := B) (root := root) (asid := asid) (addr := addr) (wr := false) (at' := at'))
  have hW : Hid (uW m B root asid addr at' = if uX m B root asid addr false at' = 0 then m.rd (16 * uF m B root asid addr false at' + uO m B root asid addr false at') else 0) := Lib.hid rfl
  generalize uW m B root asid addr at' = W at hW ⊢
  generalize uX m B root asid addr false at' = X at hW hz cF ⊢
  generalize uF m B root asid addr false at' = F at hW hz cF
  generalize uO m B root asid addr false at' = O at hW hz cF
  generalize uB m B root asid addr at' = B' at cF ⊢
  have HU := Lib.hid h
  have HM := Lib.hid hm
  have hn := Lib.hid hm.hi
  have hN := Lib.hid (And.intro hUB (And.intro hMB hWB))
  clear h hm hb T hg hUB hMB hWB
  go_enter Tryd.func13, Tryd.ntmps13
  go_wp2_with fail
  refine cF.out.mono ?_
  rintro e w1 ⟨rfl, b1, u1⟩
  have B1 := Lib.hid b1
  have V1 := Lib.hid u1
  clear b1 u1 cF
  by_cases hX : X = 0
  · subst hX
    obtain ⟨⟨f1, f2⟩, o1, o2⟩ := hz.out rfl
    have hW' := Lib.hid (show W = m.rd (16 * F + O) from by rw [hW.out, if_pos rfl])
    have c0 := (HU.out.kept V1.out hN.out.1).c.1
    have Z1 := Lib.hid (show ∀ q, Calls Tryd.prog 49 #[.int .i64 F, .int .i64 O] (w1.drewN q) fun e w'' => e = .returned (.int .i64 (16 * F + O)) ∧ ∃ p, w'' = w1.drewN p from fun q => still0 (uphys_any F O _ f1 (by have := hn.out; omega) o1 o2))
    have Z2 := Lib.hid (show ∀ q, Calls Tryd.prog 28 #[.pointer (some ⟨MA, 0, none⟩), .int .i64 (16 * F + O)] (w1.drewN q) fun e w'' => e = .returned (.tuple #[.int .u64 W, .int .i64 0]) ∧ ∃ p, w'' = w1.drewN p from fun q => still0 (by
      rw [hW'.out]
      have hx : errI (m.has (16 * F + O)) = 0 := by rw [show m.has (16 * F + O) = true from decide_eq_true (by omega)]; rfl
      rw [← hx]
      exact read_any MA m (16 * F + O) _ ((HM.out.kept V1.out hN.out.2.1 hN.out.2.2).kept ((Upd.refl (fun _ => False) _).drewN q) id id)))
    clear hz hW hW' HM HU f1 f2 o1 o2 hn
    generalize 16 * F + O = A at Z1 Z2
    go_upto_region 4 with fail
    go_quiet (first | (go_at_call 49; exact Z1.out _) | (go_at_call 28; exact Z2.out _))
    go_wp2
    go_ret2
    have u2 := (Upd.refl (fun _ => False) w1).drewN nq
    exact ⟨rfl, B1.out.kept u2 id, V1.out.trans u2.sub⟩
  · have hW' : W = 0 := by rw [hW.out, if_neg hX]
    subst hW'
    have hX' : (X != 0) = true := by simp [hX]
    clear hz hW HM HU hn
    go_wp2
    go_ret2
    exact ⟨rfl, B1.out, V1.out⟩
set_option maxRecDepth 100000 in
set_option maxHeartbeats 1000000 in
theorem ustore_any (U MA BA : Nat) (root asid addr v at' : Int) (m : Mem) (B : Buf) (hB : B.Ok) (w : World) (h : UnAt w U MA BA root asid) (hm : MemAt w MA m) (hb : BufAt w BA B) (T : Tab w) (hg : m.good) (hUB : U ≠ BA) (hMB : MA ≠ BA) (hWB : m.B ≠ BA) (hUW : U ≠ m.B) :
    Calls Tryd.prog 15 #[.pointer (some ⟨U, 0, none⟩), .int .i64 addr, .int .u64 v, .int .i64 at'] w fun e w' => e = .returned (.int .i64 (uX m B root asid addr true at')) ∧ BufAt w' BA (uB m B root asid addr at') ∧ MemAt w' MA (uM m B root asid addr v at') ∧ Upd (fun k => k = BA ∨ k = m.B) w w' := by
  have cF := Lib.hid (ufind_any U MA BA root asid addr true at' m B hB w h hm hb T hg hUB hMB hWB)
  have hz := Lib.hid (uX_zero (m := m) (B := B) (root := root) (asid := asid) (addr := addr) (wr := true) (at' := at'))
  have hM : Hid (uM m B root asid addr v at' = if uX m B root asid addr true at' = 0 then m.wr (16 * uF m B root asid addr true at' + uO m B root asid addr true at') v else m) := Lib.hid rfl
  generalize uM m B root asid addr v at' = M' at hM ⊢
  generalize uX m B root asid addr true at' = X at hM hz cF ⊢
  generalize uF m B root asid addr true at' = F at hM hz cF
  generalize uO m B root asid addr true at' = O at hM hz cF
  generalize uB m B root asid addr at' = B' at cF ⊢
  have HU := Lib.hid h
  have HM := Lib.hid hm
  have hn := Lib.hid hm.hi
  have hN := Lib.hid (And.intro hUB (And.intro hMB (And.intro hWB hUW)))
  clear h hm hb T hg hUB hMB hWB hUW
  go_enter Tryd.func15, Tryd.ntmps15
  go_wp2_with fail
  refine cF.out.mono ?_
  rintro e w1 ⟨rfl, b1, u1⟩
  have B1 := Lib.hid b1
  have V1 := Lib.hid (show Upd (fun k => k = BA ∨ k = m.B) w w1 from u1.mono fun _ _ e => .inl e)
  have M1 := Lib.hid (HM.out.kept u1 hN.out.2.1 hN.out.2.2.1)
  have c0 := (HU.out.kept u1 hN.out.1).c.1
  clear b1 u1 cF HU HM
  by_cases hX : X = 0
  · subst hX
    obtain ⟨⟨f1, f2⟩, o1, o2⟩ := hz.out rfl
    have hM' := Lib.hid (show M' = m.wr (16 * F + O) v from by rw [hM.out, if_pos rfl])
    have Z1 := Lib.hid (fun W => uphys_any F O W f1 (by have := hn.out; omega) o1 o2)
    have hx := Lib.hid (show errI (m.has (16 * F + O)) = 0 from by rw [show m.has (16 * F + O) = true from decide_eq_true (by omega)]; rfl)
    clear hz hM f1 f2 o1 o2 hn
    generalize 16 * F + O = A at Z1 hM' hx
    go_upto_region 4 with fail
    have hS := Lib.hid (show ∀ (W' : World), Upd (fun k => k = m.B) w1 W' → W'.cell? ⟨U, 0, none⟩ = some (.pointer (some ⟨MA, 0, none⟩)) ∧ Upd (fun k => k = m.B) w1 W' from fun W' u => ⟨u.cell c0 hN.out.2.2.2, u⟩)
    go_cut [8] (fun s8 wx => s8 = .int .i64 0 ∧ Hid (MemAt wx MA M') ∧ Hid (BufAt wx BA B') ∧ Upd (fun k => k = m.B) w1 wx)
    case first =>
      go_region_held3 (fun w' => w'.cell? ⟨U, 0, none⟩ = some (.pointer (some ⟨MA, 0, none⟩)) ∧ Upd (fun k => k = m.B) w1 w')
        (first
          | assumption
          | exact hS.out _ (Upd.refl _ _).drew
          | exact hS.out _ u7)
        (first
          | (go_at_call 49; refine (Z1.out _).mono ?_; rintro e w6 ⟨rfl, rfl⟩)
          | (go_at_call 50; go_split_ands; rename_i s1 s2; refine (write_any MA m A v _ (M1.out.kept (Upd.refl (fun _ => False) w1).drew id id)).mono ?_; rintro e w6 ⟨rfl, m6, u6⟩; have u7 := s2.trans u6))
      all_goals (go_wp2_with fail)
      all_goals go_meet
      all_goals exact ⟨by rw [hx.out], Lib.hid (by rw [hM'.out]; exact m6), Lib.hid (B1.out.kept u7 (Ne.symm hN.out.2.2.1)), u7⟩
    case rest =>
      obtain ⟨rfl, m6, b6, u6⟩ := hcut
      go_wp2
      go_ret
      exact ⟨rfl, b6.out, m6.out, V1.out.trans (u6.mono fun _ _ e => .inr e)⟩
  · have hM' : M' = m := by rw [hM.out, if_neg hX]
    subst hM'
    have hX' : (X != 0) = true := by simp [hX]
    clear hz hM hn
    go_wp2
    go_ret
    exact ⟨rfl, B1.out, M1.out, V1.out⟩
/-- may a space with that root and that asid be used? -/
def useB (m : Mem) (r a : Int) : Bool := m.ex r 1 && decide (1 ≤ a ∧ a ≤ 8)
theorem UnAt.set {w : World} {U MA BA : Nat} {root asid : Int} (h : UnAt w U MA BA root asid) (r a : Int) : UnAt ((w.setCell ⟨U, 3, none⟩ (.int .i64 r)).setCell ⟨U, 4, none⟩ (.int .i64 a)) U MA BA r a := by
  have h1 := heap_setCell_same (C := [_, _, _, _, _]) h.head 3 (.int .i64 r)
  exact ⟨heap_setCell_same (C := [_, _, _, _, _]) h1 4 (.int .i64 a)⟩
set_option maxHeartbeats 1000000 in
theorem uuse_any (U MA BA : Nat) (root asid r a : Int) (m : Mem) (w : World) (h : UnAt w U MA BA root asid) (hm : MemAt w MA m) :
    Calls Tryd.prog 18 #[.pointer (some ⟨U, 0, none⟩), .int .i64 r, .int .i64 a] w fun e w' => e = .returned (.int .i64 (if useB m r a = true then 0 else 1)) ∧ UnAt w' U MA BA (if useB m r a = true then r else root) (if useB m r a = true then a else asid) ∧ Upd (· = U) w w' := by
  have cx := Lib.hid (uexists_any U MA BA root asid m r w h hm)
  have HU := Lib.hid h
  have hb : Hid (useB m r a = (m.ex r 1 && decide (1 ≤ a ∧ a ≤ 8))) := Lib.hid rfl
  obtain ⟨-, -, -, c3, c4⟩ := h.c
  have z3 := frozen_block h.head 3
  have z4 := frozen_block h.head 4
  generalize useB m r a = ub at hb ⊢
  clear h hm
  cases he : m.ex r 1
  · rw [he] at cx hb
    have hu : ub = false := hb.out
    subst hu
    clear hb he
    go_enter Tryd.func18, Tryd.ntmps18
    go_wp2_with fail
    refine cx.out.mono ?_
    rintro e w1 ⟨rfl, rfl⟩
    go_wp2
    go_ret
    exact ⟨rfl, HU.out, Upd.refl _ _⟩
  · rw [he] at cx hb
    by_cases h1 : a < 1
    · have hu : ub = false := by rw [hb.out]; simp; omega
      subst hu
      clear hb he
      go_enter Tryd.func18, Tryd.ntmps18
      go_wp2_with fail
      refine cx.out.mono ?_
      rintro e w1 ⟨rfl, rfl⟩
      go_wp2
      go_ret
      exact ⟨rfl, HU.out, Upd.refl _ _⟩
    · by_cases h8 : 8 < a
      · have hu : ub = false := by rw [hb.out]; simp; omega
        subst hu
        clear hb he
        go_enter Tryd.func18, Tryd.ntmps18
        go_wp2_with fail
        refine cx.out.mono ?_
        rintro e w1 ⟨rfl, rfl⟩
        go_wp2
        go_ret
        exact ⟨rfl, HU.out, Upd.refl _ _⟩
      · have hu : ub = true := by rw [hb.out]; simp; omega
        subst hu
        clear hb he
        go_enter Tryd.func18, Tryd.ntmps18
        go_wp2_with fail
        refine cx.out.mono ?_
        rintro e w1 ⟨rfl, rfl⟩
        go_wp2
        go_ret
        have key : ∀ (k : Nat) (v : Value) (w1 : World), Upd (fun x => x = U) w w1 → Upd (fun x => x = U) w (w1.setCell ⟨U, k, none⟩ v) := fun k v w1 h => h.setCell (.inl rfl) _
        exact ⟨rfl, HU.out.set r a, key _ _ _ (key _ _ _ (Upd.refl _ _))⟩
set_option maxHeartbeats 1000000 in
theorem unew_any (MA BA : Nat) (w : World) :
    Calls Tryd.prog 40 #[.pointer (some ⟨MA, 0, none⟩), .pointer (some ⟨BA, 0, none⟩)] w fun e w' => e = .returned (.tuple #[.pointer (some ⟨w.heap.size, 0, none⟩), .int .i64 0]) ∧ UnAt w' w.heap.size MA BA 0 0 ∧ Upd (fun _ => False) w w' := by
  have hmf : ∀ (fn : Fn) (first cap : Array Value) (w : World), (Instr.makeFunc fn first cap).run Tryd.prog w = .ok (.func fn first cap) w := fun _ _ _ _ => rfl
  go_enter Tryd.func40, Tryd.ntmps40
  go_wp2
  go_ret2
  exact ⟨rfl, ⟨heap_alloc_last w _⟩, (Upd.refl _ _).alloc _⟩
end Go.Proofs.YtfdnfllefednjaaDoor

/-
  Package buddy, in plain numbers: blocks, free ones, the greatest free ones in their order.
-/
namespace Go.Proofs.YtfdnfllefednjaaDoor

/-! dyadic blocks: the block of 2^k numbers in which j lies begins at st j k -/
def st (j k : Nat) : Nat := j / 2 ^ k * 2 ^ k
theorem st_le (j k : Nat) : st j k ≤ j := Nat.div_mul_le_self _ _
theorem st_lt (j k : Nat) : j < st j k + 2 ^ k := by
  have := Nat.div_add_mod j (2 ^ k)
  have h2 := Nat.mod_lt j (Nat.two_pow_pos k)
  unfold st
  rw [Nat.mul_comm]
  omega
theorem st_mod (j k : Nat) : st j k % 2 ^ k = 0 := Nat.mul_mod_left _ _
theorem st_of {i j k : Nat} (hi : i % 2 ^ k = 0) (h1 : i ≤ j) (h2 : j < i + 2 ^ k) : st j k = i := by
  obtain ⟨q, rfl⟩ := Nat.dvd_of_mod_eq_zero hi
  unfold st
  have hp := Nat.two_pow_pos k
  have : j / 2 ^ k = q := by
    apply Nat.div_eq_of_lt_le
    · rw [Nat.mul_comm]; exact h1
    · rw [Nat.add_mul, Nat.mul_comm q, Nat.one_mul]; exact h2
  rw [this, Nat.mul_comm]
theorem st_self {i k : Nat} (hi : i % 2 ^ k = 0) : st i k = i := st_of hi (Nat.le_refl _) (by have := Nat.two_pow_pos k; omega)
theorem st_nest (j : Nat) {k l : Nat} (h : k ≤ l) : st j l ≤ st j k ∧ st j k + 2 ^ k ≤ st j l + 2 ^ l := by
  obtain ⟨d, rfl⟩ := Nat.le.dest h
  have e1 : j / 2 ^ (k + d) = j / 2 ^ k / 2 ^ d := by rw [Nat.pow_add, Nat.div_div_eq_div_mul]
  unfold st
  rw [e1]
  generalize j / 2 ^ k = q
  have hp := Nat.two_pow_pos k
  have h1 : q / 2 ^ d * 2 ^ d ≤ q := Nat.div_mul_le_self _ _
  have h2 : q < q / 2 ^ d * 2 ^ d + 2 ^ d := st_lt q d
  have e2 : q / 2 ^ d * 2 ^ (k + d) = q / 2 ^ d * 2 ^ d * 2 ^ k := by rw [Nat.pow_add, Nat.mul_comm (2 ^ k), Nat.mul_assoc]
  have e3 : 2 ^ (k + d) = 2 ^ d * 2 ^ k := by rw [Nat.pow_add, Nat.mul_comm]
  constructor
  · rw [e2]; exact Nat.mul_le_mul_right _ h1
  · rw [e2, e3, ← Nat.add_mul]
    have : q + 1 ≤ q / 2 ^ d * 2 ^ d + 2 ^ d := h2
    have := Nat.mul_le_mul_right (2 ^ k) this
    rw [Nat.add_mul, Nat.one_mul] at this
    exact this
theorem st_st (j : Nat) {k l : Nat} (h : k ≤ l) : st (st j k) l = st j l := by
  have h1 := st_nest j h
  have := Nat.two_pow_pos k
  exact st_of (st_mod j l) h1.1 (by omega)

/-- the block of order k from i on lies below n, and all of it is free -/
structure Blk (F : Nat → Bool) (n i k : Nat) : Prop where
  al : i % 2 ^ k = 0
  le : i + 2 ^ k ≤ n
  fr : ∀ j, i ≤ j → j < i + 2 ^ k → F j = true
/-- .. and it lies in no greater free one -/
structure Mx (F : Nat → Bool) (n i k : Nat) : Prop where
  hi : k ≤ 8
  b : Blk F n i k
  top : k < 8 → ¬ Blk F n (st i (k + 1)) (k + 1)

theorem Blk.down {F : Nat → Bool} {n j k l : Nat} (h : Blk F n (st j l) l) (hk : k ≤ l) : Blk F n (st j k) k := by
  have := st_nest j hk
  have h2 := h.le
  exact ⟨st_mod _ _, by omega, fun x h1 h2 => h.fr x (by omega) (by omega)⟩
theorem Mx.of_mem {F : Nat → Bool} {n i k j : Nat} (h : Mx F n i k) (h1 : i ≤ j) (h2 : j < i + 2 ^ k) : st j k = i := st_of h.b.al h1 h2
theorem Mx.unique {F : Nat → Bool} {n i k i' k' j : Nat} (h : Mx F n i k) (h' : Mx F n i' k') (h1 : i ≤ j) (h2 : j < i + 2 ^ k) (h1' : i' ≤ j) (h2' : j < i' + 2 ^ k') : i = i' ∧ k = k' := by
  have e := h.of_mem h1 h2
  have e' := h'.of_mem h1' h2'
  have key : ∀ {i k i' k' : Nat}, Mx F n i k → Mx F n i' k' → st j k = i → st j k' = i' → ¬ k < k' := by
    intro i k i' k' h h' e e' hlt
    have hb := h'.b
    rw [← e'] at hb
    have hd := Blk.down (k := k + 1) hb (by omega)
    have := h.top (by have := h'.hi; omega)
    rw [← e, st_st j (by omega)] at this
    exact this hd
  have hk : k = k' := by
    have a := key h h' e e'
    have b := key h' h e' e
    omega
  subst hk
  exact ⟨by rw [← e, ← e'], rfl⟩
theorem exists_mx {F : Nat → Bool} {n j : Nat} (hF : F j = true) (hj : j < n) : ∃ k, Mx F n (st j k) k := by
  have h0 : Blk F n (st j 0) 0 := by
    have e : st j 0 = j := by unfold st; simp
    rw [e]
    exact ⟨Nat.mod_one _, by simp; omega, fun x h1 h2 => by rw [show x = j from by simp at h2; omega]; exact hF⟩
  have key : ∀ d k, k + d = 8 → Blk F n (st j k) k → ∃ k, Mx F n (st j k) k := by
    intro d
    induction d with
    | zero => intro k hk hb; exact ⟨k, by omega, hb, fun h => by omega⟩
    | succ d ih =>
      intro k hk hb
      by_cases hn : Blk F n (st j (k + 1)) (k + 1)
      · exact ih (k + 1) (by omega) hn
      · exact ⟨k, by omega, hb, fun _ => by rw [st_st j (by omega)]; exact hn⟩
  exact key 8 0 rfl h0
theorem Blk.in_mx {F : Nat → Bool} {n i k : Nat} (h : Blk F n i k) (hk : k ≤ 8) : ∃ l, k ≤ l ∧ Mx F n (st i l) l := by
  have hp := Nat.two_pow_pos k
  obtain ⟨l, hl⟩ := exists_mx (n := n) (h.fr i (Nat.le_refl _) (by omega)) (by have := h.le; omega)
  refine ⟨l, ?_, hl⟩
  rcases Nat.lt_or_ge l k with hlt | hge
  · exfalso
    have h8 := hl.top (by omega)
    rw [st_st i (by omega)] at h8
    have e := st_self h.al
    rw [← e] at h
    exact h8 (h.down (by omega))
  · exact hge

/-! the same as answers, and the list of the greatest free blocks -/
def blkB (F : Nat → Bool) (n i k : Nat) : Bool := decide (i % 2 ^ k = 0) && decide (i + 2 ^ k ≤ n) && (List.range (2 ^ k)).all fun j => F (i + j)
theorem blkB_iff {F : Nat → Bool} {n i k : Nat} : blkB F n i k = true ↔ Blk F n i k := by
  unfold blkB
  simp only [Bool.and_eq_true, decide_eq_true_eq, List.all_eq_true, List.mem_range]
  constructor
  · rintro ⟨⟨h1, h2⟩, h3⟩
    exact ⟨h1, h2, fun j a b => by have := h3 (j - i) (by omega); rwa [show i + (j - i) = j from by omega] at this⟩
  · rintro ⟨h1, h2, h3⟩
    exact ⟨⟨h1, h2⟩, fun j hj => h3 (i + j) (by omega) (by omega)⟩
def mxB (F : Nat → Bool) (n i k : Nat) : Bool := decide (k ≤ 8) && blkB F n i k && (decide (8 ≤ k) || !blkB F n (st i (k + 1)) (k + 1))
theorem mxB_iff {F : Nat → Bool} {n i k : Nat} : mxB F n i k = true ↔ Mx F n i k := by
  unfold mxB
  simp only [Bool.and_eq_true, decide_eq_true_eq, Bool.or_eq_true, Bool.not_eq_true', blkB_iff]
  have e : blkB F n (st i (k + 1)) (k + 1) = false ↔ ¬ Blk F n (st i (k + 1)) (k + 1) := by rw [← blkB_iff]; simp
  constructor
  · rintro ⟨⟨h1, h2⟩, h3⟩
    exact ⟨h1, h2, fun hlt => by rcases h3 with h3 | h3; omega; exact e.1 h3⟩
  · rintro ⟨h1, h2, h3⟩
    refine ⟨⟨h1, h2⟩, ?_⟩
    by_cases h8 : 8 ≤ k
    · exact .inl h8
    · exact .inr (e.2 (h3 (by omega)))
/-- the greatest free block that begins at i, if one does -/
def mxAt (F : Nat → Bool) (n i : Nat) : List (Nat × Nat) := ((List.range 9).filter (mxB F n i)).map fun k => (i, k)
theorem mem_mxAt {F : Nat → Bool} {n i : Nat} {x : Nat × Nat} : x ∈ mxAt F n i ↔ x.1 = i ∧ Mx F n i x.2 := by
  unfold mxAt
  simp only [List.mem_map, List.mem_filter, List.mem_range, mxB_iff]
  constructor
  · rintro ⟨k, ⟨_, h⟩, rfl⟩; exact ⟨rfl, h⟩
  · rintro ⟨rfl, h⟩; exact ⟨x.2, ⟨by have := h.hi; omega, h⟩, rfl⟩
theorem filter_one {α : Type} (l : List α) (p : α → Bool) (a : α) (hn : l.Nodup) (ha : a ∈ l) (hp : p a = true) (hu : ∀ b, b ∈ l → p b = true → b = a) : l.filter p = [a] := by
  induction l with
  | nil => cases ha
  | cons x r ih =>
    rw [List.nodup_cons] at hn
    by_cases hx : x = a
    · subst hx
      rw [List.filter_cons_of_pos hp, List.filter_eq_nil_iff.2]
      intro b hb hpb
      exact hn.1 (hu b (by simp [hb]) hpb ▸ hb)
    · have hpx : ¬ p x = true := fun h => hx (hu x (by simp) h)
      rw [List.filter_cons_of_neg hpx]
      exact ih hn.2 ((List.mem_cons.1 ha).resolve_left (fun e => hx e.symm)) fun b hb => hu b (by simp [hb])
theorem mxAt_one {F : Nat → Bool} {n i k : Nat} (h : Mx F n i k) : mxAt F n i = [(i, k)] := by
  unfold mxAt
  rw [filter_one (List.range 9) (mxB F n i) k List.nodup_range (by have := h.hi; simp; omega) (mxB_iff.2 h) fun b _ hb => by
    have h1 := Nat.two_pow_pos k
    have h2 := Nat.two_pow_pos b
    exact ((mxB_iff.1 hb).unique h (Nat.le_refl _) (by omega) (Nat.le_refl _) (by omega)).2]
  rfl
theorem mxAt_none {F : Nat → Bool} {n i : Nat} (h : ∀ k, ¬ Mx F n i k) : mxAt F n i = [] := by
  unfold mxAt
  rw [List.filter_eq_nil_iff.2 fun k _ hk => h k (mxB_iff.1 hk)]
  rfl
/-- those that begin below m, in order -/
def mxTo (F : Nat → Bool) (n m : Nat) : List (Nat × Nat) := (List.range m).flatMap (mxAt F n)
theorem mxTo_succ (F : Nat → Bool) (n m : Nat) : mxTo F n (m + 1) = mxTo F n m ++ mxAt F n m := by
  unfold mxTo
  rw [List.range_succ, List.flatMap_append]
  simp
def blocks (F : Nat → Bool) (n : Nat) : List (Nat × Nat) := mxTo F n n
theorem mem_mxTo {F : Nat → Bool} {n m : Nat} {x : Nat × Nat} : x ∈ mxTo F n m ↔ x.1 < m ∧ Mx F n x.1 x.2 := by
  unfold mxTo
  simp only [List.mem_flatMap, List.mem_range, mem_mxAt]
  constructor
  · rintro ⟨i, hi, rfl, h⟩; exact ⟨hi, h⟩
  · rintro ⟨h1, h2⟩; exact ⟨x.1, h1, rfl, h2⟩
theorem mem_blocks {F : Nat → Bool} {n : Nat} {x : Nat × Nat} : x ∈ blocks F n ↔ Mx F n x.1 x.2 := by
  unfold blocks
  rw [mem_mxTo]
  exact ⟨fun h => h.2, fun h => ⟨by have := h.b.le; have := Nat.two_pow_pos x.2; omega, h⟩⟩
/-- no greatest block goes over the number i -/
def Edge (F : Nat → Bool) (n i : Nat) : Prop := ∀ f k, Mx F n f k → f < i → f + 2 ^ k ≤ i
theorem edge_zero (F : Nat → Bool) (n : Nat) : Edge F n 0 := fun f k _ h => by omega
theorem mxTo_jump {F : Nat → Bool} {n i k : Nat} (h : Mx F n i k) : mxTo F n (i + 2 ^ k) = mxTo F n i ++ [(i, k)] := by
  have key : ∀ d, 1 ≤ d → d ≤ 2 ^ k → mxTo F n (i + d) = mxTo F n i ++ [(i, k)] := by
    intro d
    induction d with
    | zero => intro h1; omega
    | succ d ih =>
      intro _ h2
      rw [← Nat.add_assoc, mxTo_succ]
      by_cases h0 : d = 0
      · subst h0
        rw [Nat.add_zero, mxAt_one h]
      · rw [ih (by omega) (by omega), mxAt_none, List.append_nil]
        intro l hl
        have hp := Nat.two_pow_pos l
        have := (h.unique hl (j := i + d) (by omega) (by omega) (Nat.le_refl _) (by omega)).1
        omega
  exact key (2 ^ k) (Nat.two_pow_pos k) (Nat.le_refl _)
theorem edge_jump {F : Nat → Bool} {n i k : Nat} (h : Mx F n i k) (he : Edge F n i) : Edge F n (i + 2 ^ k) := by
  intro f l hl hf
  have hp := Nat.two_pow_pos k
  rcases Nat.lt_or_ge f i with h1 | h1
  · have := he f l hl h1; omega
  · obtain ⟨e1, e2⟩ := h.unique hl h1 hf (Nat.le_refl _) (by have := Nat.two_pow_pos l; omega)
    subst e1 e2
    exact Nat.le_refl _
theorem edge_skip {F : Nat → Bool} {n i : Nat} (hF : F i = false) (he : Edge F n i) : Edge F n (i + 1) := by
  intro f l hl hf
  rcases Nat.lt_or_ge f i with h1 | h1
  · have := he f l hl h1; omega
  · have e : f = i := by omega
    subst e
    have := hl.b.fr f (Nat.le_refl _) (by have := Nat.two_pow_pos l; omega)
    rw [hF] at this
    cases this
theorem mxTo_skip {F : Nat → Bool} {n i : Nat} (hF : F i = false) : mxTo F n (i + 1) = mxTo F n i := by
  rw [mxTo_succ, mxAt_none, List.append_nil]
  intro k h
  have := h.b.fr i (Nat.le_refl _) (by have := Nat.two_pow_pos k; omega)
  rw [hF] at this
  cases this
/-- where the scan meets a free number, a greatest block begins; it is the greatest free one there -/
theorem edge_mx {F : Nat → Bool} {n i : Nat} (he : Edge F n i) (hF : F i = true) (hi : i < n) : ∃ k, Mx F n i k ∧ ∀ l, l ≤ 8 → Blk F n i l → l ≤ k := by
  obtain ⟨k, hk⟩ := exists_mx hF hi
  have h1 := st_le i k
  have h2 := st_lt i k
  have e : st i k = i := by
    rcases Nat.lt_or_ge (st i k) i with hlt | hge
    · have := he _ _ hk hlt; omega
    · omega
  rw [e] at hk
  refine ⟨k, hk, fun l hl hb => ?_⟩
  rcases Nat.lt_or_ge k l with hlt | hge
  · exfalso
    have es := st_self hb.al
    rw [← es] at hb
    exact hk.top (by omega) (hb.down (by omega))
  · exact hge
end Go.Proofs.YtfdnfllefednjaaDoor

/-
  Package buddy, in plain numbers: an allocator's state, Alloc, Free, Held, and what always holds of it.
-/
namespace Go.Proofs.YtfdnfllefednjaaDoor

/-- does frame j lie in the block? -/
def inBlk (x : Nat × Nat) (j : Nat) : Bool := decide (x.1 ≤ j) && decide (j < x.1 + 2 ^ x.2)
theorem inBlk_iff {x : Nat × Nat} {j : Nat} : inBlk x j = true ↔ x.1 ≤ j ∧ j < x.1 + 2 ^ x.2 := by simp [inBlk]
theorem inBlk_no {x : Nat × Nat} {j : Nat} : inBlk x j = false ↔ ¬ (x.1 ≤ j ∧ j < x.1 + 2 ^ x.2) := by rw [← inBlk_iff]; simp
/-- an allocator: how many frames, how many of them reserved, which are free, the blocks that were given, one by one -/
structure Bud where
  n : Nat
  res : Nat
  F : Nat → Bool
  gave : List (Nat × Nat)
def bud0 (n res : Nat) : Bud := ⟨n, res, fun j => decide (res ≤ j) && decide (j < n), []⟩
structure Bud.Ok (b : Bud) : Prop where
  lo : 1 ≤ b.n
  hi : b.n ≤ 256
  rs : b.res ≤ b.n
  blk : ∀ x, x ∈ b.gave → x.2 ≤ 8 ∧ x.1 % 2 ^ x.2 = 0 ∧ b.res ≤ x.1 ∧ x.1 + 2 ^ x.2 ≤ b.n
  apart : b.gave.Pairwise fun x y => ∀ j, inBlk x j = true → inBlk y j = false
  fr : ∀ j, b.F j = true ↔ b.res ≤ j ∧ j < b.n ∧ ∀ x, x ∈ b.gave → inBlk x j = false
theorem bud0_ok {n res : Nat} (h1 : 1 ≤ n) (h2 : n ≤ 256) (h3 : res ≤ n) : (bud0 n res).Ok :=
  ⟨h1, h2, h3, fun x hx => by simp [bud0] at hx, by simp [bud0], fun j => by simp [bud0]⟩
theorem Bud.Ok.ext {b c : Bud} (h : b.Ok) (h' : c.Ok) (e1 : b.n = c.n) (e2 : b.res = c.res) (e3 : ∀ x, x ∈ b.gave ↔ x ∈ c.gave) : b.F = c.F := by
  funext j
  have e : b.F j = true ↔ c.F j = true := by
    rw [h.fr, h'.fr, e1, e2]
    constructor
    · rintro ⟨a1, a2, a3⟩; exact ⟨a1, a2, fun x hx => a3 x ((e3 x).2 hx)⟩
    · rintro ⟨a1, a2, a3⟩; exact ⟨a1, a2, fun x hx => a3 x ((e3 x).1 hx)⟩
  cases hb : b.F j <;> cases hc : c.F j <;> simp_all

/-! Alloc -/
/-- the best block so far, one more looked at -/
def better (o : Nat) (b : Option (Nat × Nat)) (x : Nat × Nat) : Option (Nat × Nat) :=
  match b with
  | none => if o ≤ x.2 then some x else none
  | some y => if o ≤ x.2 ∧ x.2 < y.2 then some x else some y
def pick (o : Nat) (l : List (Nat × Nat)) : Option (Nat × Nat) := l.foldl (better o) none
theorem pick_snoc (o : Nat) (l : List (Nat × Nat)) (x : Nat × Nat) : pick o (l ++ [x]) = better o (pick o l) x := by simp [pick]
theorem snoc_induction {α : Type} {P : List α → Prop} (h0 : P []) (h1 : ∀ l x, P l → P (l ++ [x])) (l : List α) : P l := by
  have : ∀ r : List α, P r.reverse := by
    intro r
    induction r with
    | nil => exact h0
    | cons x r ih => rw [List.reverse_cons]; exact h1 _ _ ih
  have h := this l.reverse
  rwa [List.reverse_reverse] at h
theorem pick_spec (o : Nat) (l : List (Nat × Nat)) : match pick o l with
    | none => ∀ y, y ∈ l → y.2 < o
    | some x => x ∈ l ∧ o ≤ x.2 ∧ ∀ y, y ∈ l → o ≤ y.2 → x.2 ≤ y.2 := by
  induction l using snoc_induction with
  | h0 => simp [pick]
  | h1 l x ih =>
    rw [pick_snoc]
    cases hp : pick o l with
    | none =>
      rw [hp] at ih
      unfold better
      by_cases hx : o ≤ x.2
      · simp only [hx, if_true]
        refine ⟨by simp, trivial, fun y hy ho => ?_⟩
        rcases List.mem_append.1 hy with h | h
        · have := ih y h; omega
        · simp at h; subst h; exact Nat.le_refl _
      · simp only [hx, if_false]
        intro y hy
        rcases List.mem_append.1 hy with h | h
        · exact ih y h
        · simp at h; subst h; omega
    | some y =>
      rw [hp] at ih
      obtain ⟨i1, i2, i3⟩ := ih
      unfold better
      by_cases hx : o ≤ x.2 ∧ x.2 < y.2
      · simp only [hx, and_self, if_true]
        refine ⟨by simp, trivial, fun z hz ho => ?_⟩
        rcases List.mem_append.1 hz with h | h
        · have := i3 z h ho; omega
        · simp at h; subst h; exact Nat.le_refl _
      · simp only [hx, if_false]
        refine ⟨by simp [i1], i2, fun z hz ho => ?_⟩
        rcases List.mem_append.1 hz with h | h
        · exact i3 z h ho
        · simp at h; subst h; omega
theorem pick_none {o : Nat} {l : List (Nat × Nat)} (h : pick o l = none) : ∀ y, y ∈ l → y.2 < o := by have := pick_spec o l; rw [h] at this; exact this
theorem pick_some {o : Nat} {l : List (Nat × Nat)} {x : Nat × Nat} (h : pick o l = some x) : x ∈ l ∧ o ≤ x.2 ∧ ∀ y, y ∈ l → o ≤ y.2 → x.2 ≤ y.2 := by have := pick_spec o l; rw [h] at this; exact this

def cutF (F : Nat → Bool) (x : Nat × Nat) : Nat → Bool := fun j => F j && !inBlk x j
def addF (F : Nat → Bool) (x : Nat × Nat) : Nat → Bool := fun j => F j || inBlk x j
/-- the block that Alloc chooses -/
def Bud.sel (b : Bud) (o : Nat) : Option (Nat × Nat) := pick o (blocks b.F b.n)
def Bud.give (b : Bud) (x : Nat × Nat) : Bud := { b with F := cutF b.F x, gave := b.gave ++ [x] }
def Bud.take (b : Bud) (x : Nat × Nat) : Bud := { b with F := addF b.F x, gave := b.gave.erase x }

theorem sel_blk {b : Bud} {o : Nat} {x : Nat × Nat} (h : b.sel o = some x) : Mx b.F b.n x.1 x.2 ∧ o ≤ x.2 := by
  have := pick_some h
  exact ⟨mem_blocks.1 this.1, this.2.1⟩
theorem pow_mono {o k : Nat} (h : o ≤ k) : 2 ^ o ≤ 2 ^ k := Nat.pow_le_pow_right (by decide) h
theorem mod_pow_of {i o k : Nat} (h : o ≤ k) (hi : i % 2 ^ k = 0) : i % 2 ^ o = 0 := by
  obtain ⟨d, rfl⟩ := Nat.le.dest h
  rw [Nat.pow_add] at hi
  exact Nat.mod_eq_zero_of_dvd (Nat.dvd_trans (Nat.dvd_mul_right _ _) (Nat.dvd_of_mod_eq_zero hi))
/-- a block of order o at the beginning of a free one -/
theorem Blk.head {F : Nat → Bool} {n i k o : Nat} (h : Blk F n i k) (ho : o ≤ k) : Blk F n i o := by
  have := pow_mono ho
  have h2 := h.le
  exact ⟨mod_pow_of ho h.al, by omega, fun j h1 h2 => h.fr j h1 (by omega)⟩
theorem Bud.Ok.give {b : Bud} (h : b.Ok) {f o : Nat} (ho : o ≤ 8) (hb : Blk b.F b.n f o) : (b.give (f, o)).Ok := by
  have hp := Nat.two_pow_pos o
  have hf := (h.fr f).1 (hb.fr f (Nat.le_refl _) (by omega))
  refine ⟨h.lo, h.hi, h.rs, fun x hx => ?_, ?_, fun j => ?_⟩
  · rcases List.mem_append.1 hx with hx | hx
    · exact h.blk x hx
    · simp at hx; subst hx; exact ⟨ho, hb.al, hf.1, hb.le⟩
  · show (b.gave ++ [(f, o)]).Pairwise _
    rw [List.pairwise_append]
    refine ⟨h.apart, by simp, fun x hx y hy j hj => ?_⟩
    simp at hy; subst hy
    rw [inBlk_no]
    intro hj2
    have := ((h.fr j).1 (hb.fr j hj2.1 hj2.2)).2.2 x hx
    rw [hj] at this; cases this
  · show (b.F j && !inBlk (f, o) j) = true ↔ _
    simp only [Bool.and_eq_true, Bool.not_eq_true']
    rw [h.fr]
    show _ ↔ b.res ≤ j ∧ j < b.n ∧ ∀ x, x ∈ b.gave ++ [(f, o)] → _
    simp only [List.mem_append, List.mem_singleton]
    constructor
    · rintro ⟨⟨a1, a2, a3⟩, a4⟩
      exact ⟨a1, a2, fun x hx => by rcases hx with hx | hx; exact a3 x hx; rw [hx]; exact a4⟩
    · rintro ⟨a1, a2, a3⟩
      exact ⟨⟨a1, a2, fun x hx => a3 x (.inl hx)⟩, a3 _ (.inr rfl)⟩
theorem Bud.Ok.nodup {b : Bud} (h : b.Ok) : b.gave.Nodup := by
  refine List.Pairwise.imp (fun {x y} hxy e => ?_) h.apart
  subst e
  have hx : inBlk x x.1 = true := by rw [inBlk_iff]; have := Nat.two_pow_pos x.2; omega
  have := hxy x.1 hx
  rw [hx] at this; cases this
theorem Bud.Ok.two {b : Bud} (h : b.Ok) {x y : Nat × Nat} (hx : x ∈ b.gave) (hy : y ∈ b.gave) (hne : x ≠ y) (j : Nat) (hj : inBlk x j = true) : inBlk y j = false := by
  have key : ∀ l : List (Nat × Nat), l.Pairwise (fun x y => ∀ j, inBlk x j = true → inBlk y j = false) → x ∈ l → y ∈ l → inBlk y j = false := by
    intro l hl
    induction l with
    | nil => intro hx; cases hx
    | cons z r ih =>
      intro hx hy
      rw [List.pairwise_cons] at hl
      rcases List.mem_cons.1 hx with e | hx'
      · rcases List.mem_cons.1 hy with e' | hy'
        · exact absurd (e.trans e'.symm) hne
        · subst e; exact hl.1 y hy' j hj
      · rcases List.mem_cons.1 hy with e' | hy'
        · subst e'
          cases hb : inBlk y j
          · rfl
          · have := hl.1 x hx' j hb
            rw [hj] at this; cases this
        · exact ih hl.2 hx' hy'
  exact key b.gave h.apart hx hy
theorem Bud.Ok.take {b : Bud} (h : b.Ok) {x : Nat × Nat} (hx : x ∈ b.gave) : (b.take x).Ok := by
  have hmem : ∀ y, y ∈ b.gave.erase x ↔ y ≠ x ∧ y ∈ b.gave := fun y => h.nodup.mem_erase_iff
  refine ⟨h.lo, h.hi, h.rs, fun y hy => h.blk y ((hmem y).1 hy).2, h.apart.sublist List.erase_sublist, fun j => ?_⟩
  show (b.F j || inBlk x j) = true ↔ b.res ≤ j ∧ j < b.n ∧ ∀ y, y ∈ b.gave.erase x → _
  rw [Bool.or_eq_true, h.fr]
  obtain ⟨b1, b2, b3, b4⟩ := h.blk x hx
  constructor
  · rintro (⟨a1, a2, a3⟩ | hj)
    · exact ⟨a1, a2, fun y hy => a3 y ((hmem y).1 hy).2⟩
    · have hj' := inBlk_iff.1 hj
      exact ⟨by omega, by omega, fun y hy => h.two hx ((hmem y).1 hy).2 (fun e => ((hmem y).1 hy).1 e.symm) j hj⟩
  · rintro ⟨a1, a2, a3⟩
    cases hj : inBlk x j
    · refine .inl ⟨a1, a2, fun y hy => ?_⟩
      by_cases e : y = x
      · rw [e]; exact hj
      · exact a3 y ((hmem y).2 ⟨e, hy⟩)
    · exact .inr rfl
theorem sel_give {b : Bud} (h : b.Ok) {o : Nat} {x : Nat × Nat} (ho : o ≤ 8) (hs : b.sel o = some x) : (b.give (x.1, o)).Ok ∧ Blk b.F b.n x.1 o := by
  obtain ⟨h1, h2⟩ := sel_blk hs
  exact ⟨h.give ho (h1.b.head h2), h1.b.head h2⟩

/-! Left -/
def cnt (F : Nat → Bool) (n : Nat) : Nat := ((List.range n).filter F).length
theorem cnt_succ (F : Nat → Bool) (n : Nat) : cnt F (n + 1) = cnt F n + (F n).toNat := by
  unfold cnt
  rw [List.range_succ, List.filter_append, List.length_append]
  cases h : F n <;> simp [h]
theorem cnt_le (F : Nat → Bool) (n : Nat) : cnt F n ≤ n := by
  have := List.length_filter_le F (List.range n)
  simpa [cnt] using this
theorem cnt_cut (F : Nat → Bool) (f k : Nat) (hf : ∀ j, f ≤ j → j < f + 2 ^ k → F j = true) : ∀ n, cnt (cutF F (f, k)) n + (min n (f + 2 ^ k) - min n f) = cnt F n
  | 0 => by simp [cnt]
  | n + 1 => by
    rw [cnt_succ, cnt_succ]
    have ih := cnt_cut F f k hf n
    have hp := Nat.two_pow_pos k
    by_cases h1 : f ≤ n ∧ n < f + 2 ^ k
    · have e1 : cutF F (f, k) n = false := by unfold cutF; rw [inBlk_iff.2 h1]; simp
      rw [e1, hf n h1.1 h1.2]
      simp only [Bool.toNat_false, Bool.toNat_true]
      omega
    · have e1 : cutF F (f, k) n = F n := by unfold cutF; rw [inBlk_no.2 h1]; simp
      rw [e1]
      omega
def Bud.left (b : Bud) : Nat := cnt b.F b.n
theorem left_give {b : Bud} {f o : Nat} (hb : Blk b.F b.n f o) : (b.give (f, o)).left + 2 ^ o = b.left := by
  have h := cnt_cut b.F f o hb.fr b.n
  have := hb.le
  have hp := Nat.two_pow_pos o
  show cnt (cutF b.F (f, o)) b.n + 2 ^ o = cnt b.F b.n
  rw [Nat.min_eq_right (by omega), Nat.min_eq_right (by omega)] at h
  omega
theorem left_take {b : Bud} (h : b.Ok) {x : Nat × Nat} (hx : x ∈ b.gave) : (b.take x).left = b.left + 2 ^ x.2 := by
  obtain ⟨b1, b2, b3, b4⟩ := h.blk x hx
  have hfull : ∀ j, x.1 ≤ j → j < x.1 + 2 ^ x.2 → addF b.F x j = true := fun j h1 h2 => by unfold addF; rw [inBlk_iff.2 ⟨h1, h2⟩]; simp
  have hc := cnt_cut (addF b.F x) x.1 x.2 hfull b.n
  have e : cutF (addF b.F x) (x.1, x.2) = b.F := by
    funext j
    unfold cutF addF
    cases hj : inBlk x j
    · simp
    · have : b.F j = false := by
        cases hF : b.F j
        · rfl
        · have := ((h.fr j).1 hF).2.2 x hx
          rw [hj] at this; cases this
      simp [this]
  have hp := Nat.two_pow_pos x.2
  rw [e, Nat.min_eq_right (by omega), Nat.min_eq_right (by omega)] at hc
  show cnt (addF b.F x) b.n = cnt b.F b.n + 2 ^ x.2
  omega

theorem nodup_len : ∀ (n : Nat) (l : List Nat), l.Nodup → (∀ x, x ∈ l → x < n) → l.length ≤ n
  | 0, l, _, h => by
    cases l with
    | nil => exact Nat.le_refl _
    | cons x r => have := h x (by simp); omega
  | n + 1, l, hn, h => by
    have ih := nodup_len n (l.erase n) (hn.erase n) fun x hx => by
      have h1 := hn.mem_erase_iff.1 hx
      have := h x h1.2
      have := h1.1
      omega
    have := List.length_erase (a := n) (l := l)
    rw [this] at ih
    split at ih <;> omega
/-- blocks that lie apart below n are at most n -/
theorem apart_len : ∀ (l : List (Nat × Nat)) (n : Nat), l.Pairwise (fun x y => ∀ j, inBlk x j = true → inBlk y j = false) → (∀ x, x ∈ l → x.1 + 2 ^ x.2 ≤ n) → l.length ≤ n := by
  intro l n hp hb
  have hnd : (l.map Prod.fst).Nodup := by
    rw [List.Nodup, List.pairwise_map]
    refine hp.imp fun {x y} hxy e => ?_
    have h1 := Nat.two_pow_pos x.2
    have h2 := Nat.two_pow_pos y.2
    have := hxy x.1 (inBlk_iff.2 ⟨Nat.le_refl _, by omega⟩)
    rw [inBlk_iff.2 ⟨by omega, by omega⟩] at this
    cases this
  have := nodup_len n _ hnd fun j hj => by
    obtain ⟨x, hx, rfl⟩ := List.mem_map.1 hj
    have := hb x hx
    have := Nat.two_pow_pos x.2
    omega
  simpa using this
theorem Bud.Ok.gave_len {b : Bud} (h : b.Ok) : b.gave.length ≤ 256 :=
  Nat.le_trans (apart_len b.gave b.n h.apart fun x hx => (h.blk x hx).2.2.2) h.hi
end Go.Proofs.YtfdnfllefednjaaDoor

/-
  The document's own allocator: where it lies, and the contracts of its power, free, Blocks, Left.
-/
namespace Go.Proofs.YtfdnfllefednjaaDoor
open Go.ChangeShapes Go.WideShapes Go.ChangeAt Go.RowKit

/-- the cells of blocks -/
def bcells (l : List (Nat × Nat)) : List Value := l.flatMap fun x => [.int .i64 (x.1 : Int), .int .i64 (x.2 : Int)]
theorem bcells_app (l l' : List (Nat × Nat)) : bcells (l ++ l') = bcells l ++ bcells l' := List.flatMap_append
theorem bcells_length (l : List (Nat × Nat)) : (bcells l).length = l.length * 2 := by
  induction l with
  | nil => rfl
  | cons x r ih => rw [show x :: r = [x] ++ r from rfl, bcells_app, List.length_append, ih]; simp [bcells]; omega
def fcells (n : Nat) (F : Nat → Bool) : List Value := (List.range n).map fun i => .bool (F i)
theorem fcell {w : World} {FB n : Nat} {F : Nat → Bool} {t : TypeId} (h : w.heap[FB]? = some (.cells (fcells n F).toArray t (0, 0))) (i : Nat) (hi : i < n) : w.cell? ⟨FB, i, none⟩ = some (.bool (F i)) := by
  rw [cell_of_row w FB i _ _ _ h, List.getElem?_toArray]
  simp [fcells, hi]

theorem row_kept {S : Nat → Prop} {w w' : World} {base sz k : Nat} {e : TypeId} {v : Value} {xs : List Value} (h : w.ownsRow base e sz v k xs) (u : Upd S w w') (hg : ∀ j, v.ownBlock = some j → ¬ S j) : w'.ownsRow base e sz v k xs := by
  refine ⟨h.1, ?_⟩
  rcases h.2 with hn | ⟨g, cap, cur, rfl, hb, hgg, rest⟩
  · exact .inl hn
  · exact .inr ⟨g, cap, cur, rfl, hb, u.at hgg (hg g rfl), rest⟩
theorem upd_of_below {B : Nat} {w w' : World} (h : Below B w w') (hB : w.heap.size ≤ B) : Upd (fun _ => False) w w' := ⟨h.os, h.tape, h.output, h.size, fun k hk _ => h.block k (by omega)⟩
/-- two to the power of k, as a number that the walk leaves alone -/
def pw (k : Nat) : Int := ((2 ^ k : Nat) : Int)
theorem pw_succ (k : Nat) : pw (k + 1) = pw k * 2 := by unfold pw; rw [Nat.pow_succ]; omega
theorem pw_bd (k : Nat) (h : k ≤ 8) : 1 ≤ pw k ∧ pw k ≤ 256 := by
  have h1 : 2 ^ k ≤ 2 ^ 8 := pow_mono h
  have h2 := Nat.two_pow_pos k
  unfold pw
  omega
def freeAll (F : Nat → Bool) (n i q : Nat) : Bool := decide (i + q ≤ n) && (List.range q).all fun j => F (i + j)
theorem blkB_free (F : Nat → Bool) (n i k : Nat) : blkB F n i k = (decide (i % 2 ^ k = 0) && freeAll F n i (2 ^ k)) := by
  unfold blkB freeAll
  rw [Bool.and_assoc]
theorem freeAll_no {F : Nat → Bool} {n i q : Nat} (h : ¬ i + q ≤ n) : freeAll F n i q = false := by unfold freeAll; simp [h]
theorem freeAll_hit {F : Nat → Bool} {n i q j : Nat} (h1 : i ≤ j) (h2 : j < i + q) (hF : F j = false) : freeAll F n i q = false := by
  cases hb : freeAll F n i q
  · rfl
  · unfold freeAll at hb
    rw [Bool.and_eq_true, List.all_eq_true] at hb
    have := hb.2 (j - i) (by simp; omega)
    rw [show i + (j - i) = j from by omega, hF] at this
    cases this
theorem freeAll_yes {F : Nat → Bool} {n i q : Nat} (h : i + q ≤ n) (hF : ∀ j, i ≤ j → j < i + q → F j = true) : freeAll F n i q = true := by
  unfold freeAll
  rw [Bool.and_eq_true, List.all_eq_true]
  exact ⟨decide_eq_true h, fun j hj => hF (i + j) (by omega) (by simp at hj; omega)⟩

/-- the greatest order below k of a free block at i, as Blocks looks for it -/
def bestTo (F : Nat → Bool) (n i : Nat) : Nat → Int
  | 0 => -1
  | k + 1 => if blkB F n i k = true then (k : Int) else bestTo F n i k
theorem bestTo_none {F : Nat → Bool} {n i : Nat} (h : F i = false) : ∀ k, bestTo F n i k = -1
  | 0 => rfl
  | k + 1 => by
    rw [bestTo, if_neg, bestTo_none h k]
    intro hb
    have := (blkB_iff.1 hb).fr i (Nat.le_refl _) (by have := Nat.two_pow_pos k; omega)
    rw [h] at this; cases this
theorem bestTo_is {F : Nat → Bool} {n i k : Nat} (h : Blk F n i k) (hk : k ≤ 8) (hu : ∀ l, l ≤ 8 → Blk F n i l → l ≤ k) : ∀ d, k < d → d ≤ 9 → bestTo F n i d = k
  | 0, h1, _ => by omega
  | d + 1, h1, h2 => by
    rw [bestTo]
    by_cases hd : d = k
    · subst hd; rw [if_pos (blkB_iff.2 h)]
    · rw [if_neg, bestTo_is h hk hu d (by omega) (by omega)]
      intro hb
      have := hu d (by omega) (blkB_iff.1 hb)
      omega
theorem bestTo_bd (F : Nat → Bool) (n i : Nat) : ∀ k, -1 ≤ bestTo F n i k ∧ bestTo F n i k < k
  | 0 => by simp [bestTo]
  | k + 1 => by
    have := bestTo_bd F n i k
    rw [bestTo]
    split <;> omega

theorem mxTo_len (F : Nat → Bool) (n : Nat) : ∀ m, (mxTo F n m).length ≤ m
  | 0 => by simp [mxTo]
  | m + 1 => by
    rw [mxTo_succ, List.length_append]
    have := mxTo_len F n m
    by_cases h : ∃ k, Mx F n m k
    · obtain ⟨k, hk⟩ := h
      rw [mxAt_one hk]; simp; omega
    · rw [mxAt_none fun k hk => h ⟨k, hk⟩]; simp; omega
theorem slice2 {w : World} {base : Nat} {e : TypeId} {v : Value} {k : Nat} {xs : List Value} (h : w.ownsRow base e 2 v k xs) : ∃ o cap, v = .slice o k cap := by
  rcases h.2 with ⟨rfl, rfl⟩ | ⟨g, cap, cur, rfl, _⟩
  · exact ⟨none, 0, rfl⟩
  · exact ⟨_, _, rfl⟩
theorem cell_two (w : World) (x y : Value) (t : TypeId) : ∀ j u, [x, y][j]? = some u → (w.alloc (.cells #[x, y] t)).cell? ((⟨w.heap.size, 0, none⟩ : Addr).add j) = some u := by
  intro j u hj
  have hadd : (⟨w.heap.size, 0, none⟩ : Addr).add j = ⟨w.heap.size, j, none⟩ := by unfold Addr.add; split <;> simp_all
  rw [hadd, cell_of_row _ _ j _ _ _ (heap_alloc_last w (.cells #[x, y] t))]
  simpa using hj

end Go.Proofs.YtfdnfllefednjaaDoor

/-
  The document's own allocator: New, and marks that are set.
-/
namespace Go.Proofs.YtfdnfllefednjaaDoor
open Go.ChangeShapes Go.WideShapes Go.ChangeAt Go.RowKit

def updF (F : Nat → Bool) (i : Nat) (v : Bool) : Nat → Bool := fun j => if j = i then v else F j
theorem fcells_set (n : Nat) (F : Nat → Bool) (i : Nat) (v : Bool) : (fcells n F).set i (.bool v) = fcells n (updF F i v) := by
  apply List.ext_getElem
  · simp [fcells]
  · intro j h1 h2
    simp only [fcells, List.getElem_set, List.getElem_map, List.getElem_range, updF]
    by_cases e : i = j
    · subst e; simp
    · rw [if_neg e, if_neg (fun e' => e e'.symm)]
theorem fcells_congr {n : Nat} {F G : Nat → Bool} (h : ∀ j, j < n → F j = G j) : fcells n F = fcells n G := by
  unfold fcells
  exact List.map_congr_left fun j hj => by rw [h j (List.mem_range.1 hj)]
theorem fcells_none (n : Nat) (F : Nat → Bool) (h : ∀ j, j < n → F j = false) : fcells n F = List.replicate n (.bool false) := by
  apply List.ext_getElem
  · simp [fcells]
  · intro j h1 h2
    simp [fcells] at h1 ⊢
    exact h j h1
/-- from a to b -/
def betw (a b : Nat) : Nat → Bool := fun j => decide (a ≤ j) && decide (j < b)
theorem betw_step (n a i : Nat) (h : a ≤ i) : fcells n (updF (betw a i) i true) = fcells n (betw a (i + 1)) := fcells_congr fun j _ => by
  unfold updF betw
  by_cases e : j = i
  · rw [if_pos e]; simp; omega
  · rw [if_neg e]
    by_cases h1 : a ≤ j
    · by_cases h2 : j < i
      · simp [h1, h2]; omega
      · simp [h1, h2]; omega
    · simp [h1]

theorem info_bool : (Tryd.prog.info? 4).map (fun i => (i.zero, i.size, i.bytes)) = some (some (.bool false), 1, 1) := by kernel_rfl

end Go.Proofs.YtfdnfllefednjaaDoor
