/-
  What a walk answers, in numbers; rows of steps.
-/
import Derived.Test.YtbakhipabeaojaaDoorWkC
namespace Go.Proofs.YtbakhipabeaojaaDoor
open Go.ChangeShapes Go.WideShapes Go.ChangeAt Go.RowKit

/-- the table at a level -/
def Mem.wF (m : Mem) (root q : Int) : Nat → Int
  | 0 => root
  | k + 1 => (m.getE (m.wF root q k) (idxI q k)).f
/-- what stops a walk at an entry: 0 if nothing does -/
def codeI (E : En) (X : Int) (k : Nat) : Int := if X ≠ 0 then 11 else if E.v = false then 10 else if E.t ≠ decide (k < 2) then 11 else 0
def Mem.wC (m : Mem) (root q : Int) (k : Nat) : Int := codeI (m.getE (m.wF root q k) (idxI q k)) (m.getX (m.wF root q k) (idxI q k)) k
def Mem.wB (m : Mem) (root q : Int) : Bool := m.ex root 1 && pageB q
/-- how many steps, which error, which entry -/
def Mem.wN (m : Mem) (root q : Int) : Nat := if m.wB root q = true then (if m.wC root q 0 ≠ 0 then 1 else if m.wC root q 1 ≠ 0 then 2 else 3) else 0
def Mem.wX (m : Mem) (root q : Int) : Int := if m.wB root q = true then (if m.wC root q 0 ≠ 0 then m.wC root q 0 else if m.wC root q 1 ≠ 0 then m.wC root q 1 else m.wC root q 2) else 1
def Mem.wE (m : Mem) (root q : Int) : En := if m.wB root q = true ∧ m.wC root q 0 = 0 ∧ m.wC root q 1 = 0 ∧ m.wC root q 2 = 0 then m.getE (m.wF root q 2) (idxI q 2) else En.zero
/-- the first k steps' cells -/
def Mem.wS (m : Mem) (root q : Int) : Nat → List Value
  | 0 => []
  | k + 1 => m.wS root q k ++ [.int .i64 (m.wF root q k), .int .i64 (idxI q k)]
theorem Mem.walk_no (m : Mem) (root q : Int) (h : m.wB root q = false) : m.wN root q = 0 ∧ m.wX root q = 1 ∧ m.wE root q = En.zero := by
  refine ⟨?_, ?_, ?_⟩
  · unfold Mem.wN; rw [h]; rfl
  · unfold Mem.wX; rw [h]; rfl
  · unfold Mem.wE; rw [h]; simp
theorem Mem.walk_stop (m : Mem) (root q : Int) (h : m.wB root q = true) (k : Nat) (hk : k < 3) (h0 : ∀ j, j < k → m.wC root q j = 0) (h1 : m.wC root q k ≠ 0) : m.wN root q = k + 1 ∧ m.wX root q = m.wC root q k ∧ m.wE root q = En.zero := by
  unfold Mem.wN Mem.wX Mem.wE
  rw [h]
  match k, hk with
  | 0, _ => simp [h1]
  | 1, _ => simp [h1, h0 0 (by omega)]
  | 2, _ => simp [h1, h0 0 (by omega), h0 1 (by omega)]
theorem Mem.walk_end (m : Mem) (root q : Int) (h : m.wB root q = true) (h0 : ∀ j, j < 3 → m.wC root q j = 0) : m.wN root q = 3 ∧ m.wX root q = 0 ∧ m.wE root q = m.getE (m.wF root q 2) (idxI q 2) := by
  unfold Mem.wN Mem.wX Mem.wE
  rw [h]
  simp [h0 0 (by omega), h0 1 (by omega), h0 2 (by omega)]
theorem Mem.wS_len (m : Mem) (root q : Int) : ∀ k, (m.wS root q k).length = k * 2
  | 0 => rfl
  | k + 1 => by rw [Mem.wS, List.length_append, m.wS_len root q k]; simp; omega
theorem Mem.wS_at (m : Mem) (root q : Int) (k : Nat) : ∀ n, k < n → (m.wS root q n)[k * 2]? = some (.int .i64 (m.wF root q k)) ∧ (m.wS root q n)[k * 2 + 1]? = some (.int .i64 (idxI q k))
  | 0, h => absurd h (by omega)
  | n + 1, h => by
    rw [Mem.wS]
    by_cases e : k = n
    · subst e
      rw [List.getElem?_append_right (by rw [m.wS_len]; omega), List.getElem?_append_right (by rw [m.wS_len]; omega), m.wS_len]
      rw [show k * 2 - k * 2 = 0 from by omega, show k * 2 + 1 - k * 2 = 1 from by omega]
      exact ⟨rfl, rfl⟩
    · rw [List.getElem?_append_left (by rw [m.wS_len]; omega), List.getElem?_append_left (by rw [m.wS_len]; omega)]
      exact m.wS_at root q k n (by omega)
/-! rows that the call itself makes -/
theorem wk_kept {S : Nat → Prop} {w w' : World} {base sz k : Nat} {e : TypeId} {v : Value} {xs : List Value} (h : w.ownsRow base e sz v k xs) (u : Upd S w w') (hg : ∀ j, v.ownBlock = some j → ¬ S j) : w'.ownsRow base e sz v k xs := by
  refine ⟨h.1, ?_⟩
  rcases h.2 with hn | ⟨g, cap, cur, rfl, hb, hgg, rest⟩
  · exact .inl hn
  · exact .inr ⟨g, cap, cur, rfl, hb, u.at hgg (hg g rfl), rest⟩
theorem wk_slice {w : World} {base sz : Nat} {e : TypeId} {v : Value} {k : Nat} {xs : List Value} (h : w.ownsRow base e sz v k xs) : ∃ o cap, v = .slice o k cap := by
  rcases h.2 with ⟨rfl, rfl⟩ | ⟨g, cap, cur, rfl, _⟩
  · exact ⟨none, 0, rfl⟩
  · exact ⟨_, _, rfl⟩
theorem wk_two (w : World) (x y : Value) (t : TypeId) : ∀ j u, [x, y][j]? = some u → (w.alloc (.cells #[x, y] t)).cell? ((⟨w.heap.size, 0, none⟩ : Addr).add j) = some u := by
  intro j u hj
  have hadd : (⟨w.heap.size, 0, none⟩ : Addr).add j = ⟨w.heap.size, j, none⟩ := by unfold Addr.add; split <;> simp_all
  rw [hadd, cell_of_row _ _ j _ _ _ (heap_alloc_last w (.cells #[x, y] t))]
  simpa using hj
theorem wk_ne {w : World} {base sz k : Nat} {e t : TypeId} {v : Value} {xs : List Value} {X : Nat} {c : Array Value} (h : w.ownsRow base e sz v k xs) (hX : w.heap[X]? = some (.cells c t (0, 0))) (ht : t ≠ e) : ∀ j, v.ownBlock = some j → ¬ j = X := by
  intro j hj e'
  rcases h.2 with ⟨rfl, _⟩ | ⟨g, cap, cur, rfl, _, hgg, _⟩
  · simp [Value.ownBlock] at hj
  · simp [Value.ownBlock] at hj
    subst hj e'
    rw [hX] at hgg
    simp at hgg
    exact ht hgg.2
/-- behind an append onto one's own row -/
theorem wk_grown {w wr w4 : World} {N sz n : Nat} {e : TypeId} {v : Value} {xs : List Value} {o : Obj} (hrow : wr.ownsRow N e sz v n xs) (hgr : (wr.alloc o).grownBy w4 v.ownBlock) (hU : Upd (fun _ => False) w wr) (hN : w.heap.size ≤ N) :
    Upd (fun _ => False) w w4 ∧ ∀ (X : Nat) (c : Array Value) (t : TypeId), wr.heap[X]? = some (.cells c t (0, 0)) → t ≠ e → w4.heap[X]? = some (.cells c t (0, 0)) := by
  have hs := hU.size
  refine ⟨⟨hgr.os.trans hU.os, hgr.tape.trans hU.tape, hgr.output.trans hU.output, by have := hgr.size; simp at this; omega, fun k hk hs => ?_⟩, fun X c t hX ht => ?_⟩
  · rw [hgr.block k (by simp; omega) (fun e => by have := (hrow.lt k e.symm).1; omega), Below.heap_alloc _ _ _ (by omega)]
    exact hU.block k hk hs
  · have hlt := lt_of_heap hX
    rw [hgr.block X (by simp; omega) (fun e' => wk_ne hrow hX ht X e'.symm rfl), Below.heap_alloc _ _ _ hlt]
    exact hX
theorem results_cell_tmp2 {fn : Func} {p u v : Tmp} {ty : TypeId} (h : fn.results = #[.cell p ty, .tmp u, .tmp v]) (tmps : Array Value) (P : Program) (w : World) :
    (results fn tmps).run P w =
      ((asAddr (tmps.getD p undef)).run P w).andThen fun a w₁ => ((loadVar ty a).run P w₁).andThen fun x w₂ => .ok (.tuple #[x, tmps.getD u undef, tmps.getD v undef]) w₂ := by
  simp only [results, h]
  simp [Sem.run_bind, Result.andThen]
theorem ret_ent2 {fn : Func} {p u y : Tmp} (h : fn.results = #[.cell p 35, .tmp u, .tmp y]) (tmps : Array Value) (w : World) (b : Nat) (v r t : Bool) (f : Int) (hp : tmps.getD p undef = .pointer (some ⟨b, 0, none⟩)) (he : EntAt w b v r t f) :
    (results fn tmps).run Tryd.prog w = .ok (.tuple #[entV v r t f, tmps.getD u undef, tmps.getD y undef]) w := by
  rw [results_cell_tmp2 h, hp]
  have := run_loadVar_mid w b 0 35 (entL v r t f) _ he.range Tryd.underlying35 rfl size_ent
  simp only [asAddr, Sem.run_pure, Result.andThen_ok]
  rw [this]
  rfl
theorem arr_box (w : World) (a b c : Int) :
    ArrAt ((w.alloc (.cells #[.int .i64 0, .int .i64 0, .int .i64 0] 74)).setCells w.heap.size 0 [.int .i64 a, .int .i64 b, .int .i64 c]) w.heap.size a b c ∧
    Upd (fun _ => False) w ((w.alloc (.cells #[.int .i64 0, .int .i64 0, .int .i64 0] 74)).setCells w.heap.size 0 [.int .i64 a, .int .i64 b, .int .i64 c]) ∧
    (w.alloc (.cells #[.int .i64 0, .int .i64 0, .int .i64 0] 74)).there w.heap.size 0 3 := by
  have h0 : ArrAt (w.alloc (.cells #[.int .i64 0, .int .i64 0, .int .i64 0] 74)) w.heap.size 0 0 0 := heap_alloc_last w _
  exact ⟨h0.sets a b c, Upd.setCells (.inr (Nat.le_refl _)) _ _ ((Upd.refl _ _).alloc _), h0.there⟩
theorem info_step : (Tryd.prog.info? 55).map (fun i => (i.zero, i.size, i.bytes)) = some (some (.agg #[.int .i64 0, .int .i64 0]), 2, 16) := by kernel_rfl
end Go.Proofs.YtbakhipabeaojaaDoor
