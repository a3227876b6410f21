/-
  Texts that the laws stand on, joined: WkC, WkD, WkE, WkL, TlM, TlA, TlB, TlC, TlD.
-/
import Derived.Deep.CutBlock
import Derived.Deep.RegionHeld3
import Derived.Laws.ResultCell
import Derived.Shelf.Abstract
import Derived.WalkMore
import Derived.Test.YtfdnfllefednjaaDoorPart2

/-
  Contracts of package walk: indices.
-/
namespace Go.Proofs.YtfdnfllefednjaaDoor
open Go.ChangeShapes Go.WideShapes Go.ChangeAt Go.RowKit

def pageB (q : Int) : Bool := decide (0 ≤ q ∧ q ≤ 4095)
theorem idxB_page (q l : Int) (h0 : 0 ≤ l) (h1 : l ≤ 2) : idxB q l = pageB q := by
  unfold idxB pageB
  rw [Bool.eq_iff_iff, decide_eq_true_eq, decide_eq_true_eq]
  omega
theorem idx_bd (q l : Int) : 0 ≤ idxI q l ∧ idxI q l ≤ 15 := by
  unfold idxI
  cases h : idxB q l
  · simp
  · have h' := of_decide_eq_true h
    simp only [if_true]
    split
    · omega
    · split <;> omega
/-- the first k places of a page -/
def ixs (q : Int) (k : Nat) (j : Nat) : Int := if j < k then idxI q j else 0
theorem ArrAt.there {w : World} {B : Nat} {a b c : Int} (h : ArrAt w B a b c) : w.there B 0 3 := fun j hj =>
  ⟨by rw [Nat.zero_add, h.cellk j hj]; rfl, h.frozen _⟩
theorem ArrAt.sets {w : World} {B : Nat} {a b c : Int} (h : ArrAt w B a b c) (a' b' c' : Int) : ArrAt (w.setCells B 0 [.int .i64 a', .int .i64 b', .int .i64 c']) B a' b' c' := by
  unfold ArrAt
  have := heap_setCells_same B _ [.int .i64 a', .int .i64 b', .int .i64 c'] 0 w [.int .i64 a, .int .i64 b, .int .i64 c] h (by simp)
  rw [this, splice_all _ _ (by simp)]
theorem ArrAt.putk {w : World} {B : Nat} {q : Int} {k : Nat} (hk : k < 3) (h : ArrAt w B (ixs q k 0) (ixs q k 1) (ixs q k 2)) : ArrAt (w.setCell ⟨B, k, none⟩ (.int .i64 (idxI q k))) B (ixs q (k + 1) 0) (ixs q (k + 1) 1) (ixs q (k + 1) 2) := by
  unfold ArrAt
  have := heap_setCell_same (C := [.int .i64 (ixs q k 0), .int .i64 (ixs q k 1), .int .i64 (ixs q k 2)]) h k (.int .i64 (idxI q k))
  rw [this]
  match k, hk with
  | 0, _ => rfl
  | 1, _ => rfl
  | 2, _ => rfl
theorem arr3_sz (a b c : Int) : (#[.int .i64 a, .int .i64 b, .int .i64 c] : Array Value).size = 3 := rfl
theorem arr3_one (a b c : Int) : (#[.int .i64 a, .int .i64 b, .int .i64 c] : Array Value).all (·.oneCell') = true := by simp [Value.oneCell']
theorem arr3_ls (a b c : Int) : (#[.int .i64 a, .int .i64 b, .int .i64 c] : Array Value).toList = [.int .i64 a, .int .i64 b, .int .i64 c] := rfl
/-- a result that lies in a cell -/
theorem ret_arr3 {fn : Func} {p u : Tmp} (h : fn.results = #[.cell p 77, .tmp u]) (tmps : Array Value) (w : World) (B : Nat) (a b c : Int) (hp : tmps.getD p undef = .pointer (some ⟨B, 0, none⟩)) (he : ArrAt w B a b c) :
    (results fn tmps).run Tryd.prog w = .ok (.tuple #[arr3 a b c, tmps.getD u undef]) w := by
  rw [results_cell_tmp h, hp]
  have := run_loadVar_mid w B 0 77 [.int .i64 a, .int .i64 b, .int .i64 c] _ he.range Tryd.underlying77 rfl size_arr3
  simp only [asAddr, Sem.run_pure, Result.andThen_ok]
  rw [this]
  rfl
theorem arr_blocks (w : World) : ArrAt ((w.alloc (.cells #[.int .i64 0, .int .i64 0, .int .i64 0] 77)).alloc (.cells #[.int .i64 0, .int .i64 0, .int .i64 0] 77)) w.heap.size 0 0 0 ∧
    ArrAt ((w.alloc (.cells #[.int .i64 0, .int .i64 0, .int .i64 0] 77)).alloc (.cells #[.int .i64 0, .int .i64 0, .int .i64 0] 77)) (w.heap.size + 1) 0 0 0 :=
  ⟨(two_blocks w 0 _ _).1, (two_blocks w 0 _ _).2⟩
set_option maxHeartbeats 1000000 in
theorem windices_any (q : Int) (w : World) (T : Tab w) :
    Calls Tryd.prog 84 #[.int .i64 q] w fun e w' => e = .returned (.tuple #[arr3 (idxI q 0) (idxI q 1) (idxI q 2), .int .i64 (errB (pageB q))]) ∧ Upd (fun _ => False) w w' := by
  have c := Lib.hid (fun (l : Int) W (T : Tab W) => eindex_any q l W T)
  have hix := Lib.hid (idxB_page q)
  obtain ⟨k0, k1⟩ := arr_blocks w
  have U0 : Upd (fun _ => False) w ((w.alloc (.cells #[.int .i64 0, .int .i64 0, .int .i64 0] 77)).alloc (.cells #[.int .i64 0, .int .i64 0, .int .i64 0] 77)) := ((Upd.refl _ _).alloc _).alloc _
  cases hq : pageB q
  · have e0 : idxI q 0 = 0 := by unfold idxI; rw [if_neg (by rw [hix.out 0 (by omega) (by omega), hq]; decide)]
    have e1 : idxI q 1 = 0 := by unfold idxI; rw [if_neg (by rw [hix.out 1 (by omega) (by omega), hq]; decide)]
    have e2 : idxI q 2 = 0 := by unfold idxI; rw [if_neg (by rw [hix.out 2 (by omega) (by omega), hq]; decide)]
    have h0 := Lib.hid (c.out 0 _ (T.kept U0))
    rw [show idxB q 0 = false from by rw [hix.out 0 (by omega) (by omega), hq], e0] at h0
    rw [e0, e1, e2]
    clear e0 e1 e2 hq c hix
    go_enter Tryd.func84, Tryd.ntmps84
    go_wp2
    generalize (w.alloc (.cells #[.int .i64 0, .int .i64 0, .int .i64 0] 77)).alloc (.cells #[.int .i64 0, .int .i64 0, .int .i64 0] 77) = W at k0 k1 U0 h0 ⊢
    obtain ⟨B, hB⟩ : ∃ B, B = w.heap.size := ⟨_, rfl⟩
    rw [← hB] at k0 k1 ⊢
    have hB' := Lib.hid hB
    clear hB
    have K0 := Lib.hid k0
    have HU := Lib.hid U0
    clear k0 k1 U0 T
    go_loopw [8] (fun t wr => t = .int .i64 0 ∧ wr = W) (fun _ _ => 0)
    case atStart => exact ⟨rfl, rfl⟩
    case round =>
      obtain ⟨rfl, rfl⟩ := hrel
      go_wp2_with fail
      refine h0.out.mono ?_
      rintro e w1 ⟨rfl, n1, rfl⟩
      have K1 : Hid (ArrAt (wr.drewN n1) B 0 0 0) := Lib.hid (show ArrAt (wr.drewN n1) B 0 0 0 from K0.out)
      rw [show errB false = 1 from rfl]
      go_wp2_with (with_reducible refine wpList_store_sz rfl 77 (.tmp 2) (.tmp 19) rfl B 0 #[.int .i64 0, .int .i64 0, .int .i64 0] rfl rfl 3 (arr3_sz _ _ _) K1.out.there size_arr3 (arr3_one _ _ _) [.int .i64 0, .int .i64 0, .int .i64 0] (arr3_ls _ _ _) ?_)
      (try simp only [Exit.inBlock, Exit.then])
      refine bodyPost_ret (ret_arr3 rfl _ _ B 0 0 0 rfl (K1.out.sets 0 0 0)) rfl ⟨rfl, ?_⟩
      exact Upd.setCells (.inr (Nat.le_of_eq hB'.out.symm)) _ _ (HU.out.drewN _)
  · go_enter Tryd.func84, Tryd.ntmps84
    go_wp2
    generalize (w.alloc (.cells #[.int .i64 0, .int .i64 0, .int .i64 0] 77)).alloc (.cells #[.int .i64 0, .int .i64 0, .int .i64 0] 77) = W at k0 k1 U0 ⊢
    obtain ⟨B, hB⟩ : ∃ B, B = w.heap.size := ⟨_, rfl⟩
    rw [← hB] at k0 k1 ⊢
    have hB' := Lib.hid hB
    clear hB
    go_loopw [8] (fun t wr => ∃ k : Nat, k ≤ 3 ∧ t = .int .i64 k ∧ Upd (fun _ => False) w wr ∧ Hid (ArrAt wr B 0 0 0) ∧ Hid (ArrAt wr (B + 1) (ixs q k 0) (ixs q k 1) (ixs q k 2))) (fun t _ => 3 - (intOf t).toNat)
    case atStart => exact ⟨0, by omega, rfl, U0, Lib.hid k0, Lib.hid k1⟩
    case round =>
      obtain ⟨k, hk, rfl, hU, K0, K1⟩ := hrel
      by_cases hlt : k < 3
      · have hc := Lib.hid (c.out k wr (T.kept hU))
        rw [hix.out k (by omega) (by omega), hq] at hc
        have b := Lib.hid (K1.out.putk hlt)
        have hcell := K1.out.cellk k hlt
        have hfr := K1.out.frozen k
        have hbd := idx_bd q k
        have K0' := Lib.hid (K0.out.other (C := B + 1) (by omega) k (.int .i64 (idxI q k)))
        generalize idxI q k = z at hc b hbd K0'
        clear c hix k0 k1 U0 hq
        go_wp2_with fail
        refine hc.out.mono ?_
        rintro e w1 ⟨rfl, n1, rfl⟩
        rw [show errB true = 0 from rfl]
        go_wp2
        exact ⟨⟨k + 1, by omega, by go_num, (hU.drewN _).setCell (.inr (by have := hB'.out; show _ ≤ B + 1; omega)) _, Lib.hid (show ArrAt _ _ _ _ _ from K0'.out), Lib.hid (show ArrAt _ _ _ _ _ from b.out)⟩, by simp [intOf]; omega⟩
      · obtain rfl : k = 3 := by omega
        clear c hix k0 k1 U0 hq
        go_wp2_with (first
          | (with_reducible refine wpList_load_sz rfl 77 (.tmp 4) rfl (B + 1) 0 rfl [.int .i64 (ixs q 3 0), .int .i64 (ixs q 3 1), .int .i64 (ixs q 3 2)] _ K1.out.range Tryd.underlying77 rfl 3 (arr_len _ _ _) size_arr3 ?_)
          | (with_reducible refine wpList_store_sz rfl 77 (.tmp 2) (.tmp 25) rfl B 0 #[.int .i64 (ixs q 3 0), .int .i64 (ixs q 3 1), .int .i64 (ixs q 3 2)] rfl rfl 3 (arr3_sz _ _ _) K0.out.there size_arr3 (arr3_one _ _ _) [.int .i64 (ixs q 3 0), .int .i64 (ixs q 3 1), .int .i64 (ixs q 3 2)] (arr3_ls _ _ _) ?_))
        (try simp only [Exit.inBlock, Exit.then])
        refine bodyPost_ret (ret_arr3 rfl _ _ B _ _ _ rfl (K0.out.sets _ _ _)) rfl ⟨rfl, ?_⟩
        exact Upd.setCells (.inr (Nat.le_of_eq hB'.out.symm)) _ _ hU
end Go.Proofs.YtfdnfllefednjaaDoor

/-
  What a walk answers, in numbers; rows of steps.
-/
namespace Go.Proofs.YtfdnfllefednjaaDoor
open Go.ChangeShapes Go.WideShapes Go.ChangeAt Go.RowKit

/-- the table at a level -/
def Mem.wF (m : Mem) (root q : Int) : Nat → Int
  | 0 => root
  | k + 1 => (m.getE (m.wF root q k) (idxI q k)).f
/-- what stops a walk at an entry: 0 if nothing does -/
def codeI (E : En) (X : Int) (k : Nat) : Int := if X ≠ 0 then 11 else if E.v = false then 10 else if E.t ≠ decide (k < 2) then 11 else 0
def Mem.wC (m : Mem) (root q : Int) (k : Nat) : Int := codeI (m.getE (m.wF root q k) (idxI q k)) (m.getX (m.wF root q k) (idxI q k)) k
def Mem.wB (m : Mem) (root q : Int) : Bool := m.ex root 1 && pageB q
/-- how many steps, which error, which entry -/
def Mem.wN (m : Mem) (root q : Int) : Nat := if m.wB root q = true then (if m.wC root q 0 ≠ 0 then 1 else if m.wC root q 1 ≠ 0 then 2 else 3) else 0
def Mem.wX (m : Mem) (root q : Int) : Int := if m.wB root q = true then (if m.wC root q 0 ≠ 0 then m.wC root q 0 else if m.wC root q 1 ≠ 0 then m.wC root q 1 else m.wC root q 2) else 1
def Mem.wE (m : Mem) (root q : Int) : En := if m.wB root q = true ∧ m.wC root q 0 = 0 ∧ m.wC root q 1 = 0 ∧ m.wC root q 2 = 0 then m.getE (m.wF root q 2) (idxI q 2) else En.zero
/-- the first k steps' cells -/
def Mem.wS (m : Mem) (root q : Int) : Nat → List Value
  | 0 => []
  | k + 1 => m.wS root q k ++ [.int .i64 (m.wF root q k), .int .i64 (idxI q k)]
theorem Mem.walk_no (m : Mem) (root q : Int) (h : m.wB root q = false) : m.wN root q = 0 ∧ m.wX root q = 1 ∧ m.wE root q = En.zero := by
  refine ⟨?_, ?_, ?_⟩
  · unfold Mem.wN; rw [h]; rfl
  · unfold Mem.wX; rw [h]; rfl
  · unfold Mem.wE; rw [h]; simp
theorem Mem.walk_stop (m : Mem) (root q : Int) (h : m.wB root q = true) (k : Nat) (hk : k < 3) (h0 : ∀ j, j < k → m.wC root q j = 0) (h1 : m.wC root q k ≠ 0) : m.wN root q = k + 1 ∧ m.wX root q = m.wC root q k ∧ m.wE root q = En.zero := by
  unfold Mem.wN Mem.wX Mem.wE
  rw [h]
  match k, hk with
  | 0, _ => simp [h1]
  | 1, _ => simp [h1, h0 0 (by omega)]
  | 2, _ => simp [h1, h0 0 (by omega), h0 1 (by omega)]
theorem Mem.walk_end (m : Mem) (root q : Int) (h : m.wB root q = true) (h0 : ∀ j, j < 3 → m.wC root q j = 0) : m.wN root q = 3 ∧ m.wX root q = 0 ∧ m.wE root q = m.getE (m.wF root q 2) (idxI q 2) := by
  unfold Mem.wN Mem.wX Mem.wE
  rw [h]
  simp [h0 0 (by omega), h0 1 (by omega), h0 2 (by omega)]
theorem Mem.wS_len (m : Mem) (root q : Int) : ∀ k, (m.wS root q k).length = k * 2
  | 0 => rfl
  | k + 1 => by rw [Mem.wS, List.length_append, m.wS_len root q k]; simp; omega
theorem Mem.wS_at (m : Mem) (root q : Int) (k : Nat) : ∀ n, k < n → (m.wS root q n)[k * 2]? = some (.int .i64 (m.wF root q k)) ∧ (m.wS root q n)[k * 2 + 1]? = some (.int .i64 (idxI q k))
  | 0, h => absurd h (by omega)
  | n + 1, h => by
    rw [Mem.wS]
    by_cases e : k = n
    · subst e
      rw [List.getElem?_append_right (by rw [m.wS_len]; omega), List.getElem?_append_right (by rw [m.wS_len]; omega), m.wS_len]
      rw [show k * 2 - k * 2 = 0 from by omega, show k * 2 + 1 - k * 2 = 1 from by omega]
      exact ⟨rfl, rfl⟩
    · rw [List.getElem?_append_left (by rw [m.wS_len]; omega), List.getElem?_append_left (by rw [m.wS_len]; omega)]
      exact m.wS_at root q k n (by omega)
/-! rows that the call itself makes -/
theorem wk_kept {S : Nat → Prop} {w w' : World} {base sz k : Nat} {e : TypeId} {v : Value} {xs : List Value} (h : w.ownsRow base e sz v k xs) (u : Upd S w w') (hg : ∀ j, v.ownBlock = some j → ¬ S j) : w'.ownsRow base e sz v k xs := by
  refine ⟨h.1, ?_⟩
  rcases h.2 with hn | ⟨g, cap, cur, rfl, hb, hgg, rest⟩
  · exact .inl hn
  · exact .inr ⟨g, cap, cur, rfl, hb, u.at hgg (hg g rfl), rest⟩
theorem wk_slice {w : World} {base sz : Nat} {e : TypeId} {v : Value} {k : Nat} {xs : List Value} (h : w.ownsRow base e sz v k xs) : ∃ o cap, v = .slice o k cap := by
  rcases h.2 with ⟨rfl, rfl⟩ | ⟨g, cap, cur, rfl, _⟩
  · exact ⟨none, 0, rfl⟩
  · exact ⟨_, _, rfl⟩
theorem wk_two (w : World) (x y : Value) (t : TypeId) : ∀ j u, [x, y][j]? = some u → (w.alloc (.cells #[x, y] t)).cell? ((⟨w.heap.size, 0, none⟩ : Addr).add j) = some u := by
  intro j u hj
  have hadd : (⟨w.heap.size, 0, none⟩ : Addr).add j = ⟨w.heap.size, j, none⟩ := by unfold Addr.add; split <;> simp_all
  rw [hadd, cell_of_row _ _ j _ _ _ (heap_alloc_last w (.cells #[x, y] t))]
  simpa using hj
theorem wk_ne {w : World} {base sz k : Nat} {e t : TypeId} {v : Value} {xs : List Value} {X : Nat} {c : Array Value} (h : w.ownsRow base e sz v k xs) (hX : w.heap[X]? = some (.cells c t (0, 0))) (ht : t ≠ e) : ∀ j, v.ownBlock = some j → ¬ j = X := by
  intro j hj e'
  rcases h.2 with ⟨rfl, _⟩ | ⟨g, cap, cur, rfl, _, hgg, _⟩
  · simp [Value.ownBlock] at hj
  · simp [Value.ownBlock] at hj
    subst hj e'
    rw [hX] at hgg
    simp at hgg
    exact ht hgg.2
/-- behind an append onto one's own row -/
theorem wk_grown {w wr w4 : World} {N sz n : Nat} {e : TypeId} {v : Value} {xs : List Value} {o : Obj} (hrow : wr.ownsRow N e sz v n xs) (hgr : (wr.alloc o).grownBy w4 v.ownBlock) (hU : Upd (fun _ => False) w wr) (hN : w.heap.size ≤ N) :
    Upd (fun _ => False) w w4 ∧ ∀ (X : Nat) (c : Array Value) (t : TypeId), wr.heap[X]? = some (.cells c t (0, 0)) → t ≠ e → w4.heap[X]? = some (.cells c t (0, 0)) := by
  have hs := hU.size
  refine ⟨⟨hgr.os.trans hU.os, hgr.tape.trans hU.tape, hgr.output.trans hU.output, by have := hgr.size; simp at this; omega, fun k hk hs => ?_⟩, fun X c t hX ht => ?_⟩
  · rw [hgr.block k (by simp; omega) (fun e => by have := (hrow.lt k e.symm).1; omega), Below.heap_alloc _ _ _ (by omega)]
    exact hU.block k hk hs
  · have hlt := lt_of_heap hX
    rw [hgr.block X (by simp; omega) (fun e' => wk_ne hrow hX ht X e'.symm rfl), Below.heap_alloc _ _ _ hlt]
    exact hX
theorem results_cell_tmp2 {fn : Func} {p u v : Tmp} {ty : TypeId} (h : fn.results = #[.cell p ty, .tmp u, .tmp v]) (tmps : Array Value) (P : Program) (w : World) :
    (results fn tmps).run P w =
      ((asAddr (tmps.getD p undef)).run P w).andThen fun a w₁ => ((loadVar ty a).run P w₁).andThen fun x w₂ => .ok (.tuple #[x, tmps.getD u undef, tmps.getD v undef]) w₂ := by
  simp only [results, h]
  simp [Sem.run_bind, Result.andThen]
theorem ret_ent2 {fn : Func} {p u y : Tmp} (h : fn.results = #[.cell p 34, .tmp u, .tmp y]) (tmps : Array Value) (w : World) (b : Nat) (v r t : Bool) (f : Int) (hp : tmps.getD p undef = .pointer (some ⟨b, 0, none⟩)) (he : EntAt w b v r t f) :
    (results fn tmps).run Tryd.prog w = .ok (.tuple #[entV v r t f, tmps.getD u undef, tmps.getD y undef]) w := by
  rw [results_cell_tmp2 h, hp]
  have := run_loadVar_mid w b 0 34 (entL v r t f) _ he.range Tryd.underlying34 rfl size_ent
  simp only [asAddr, Sem.run_pure, Result.andThen_ok]
  rw [this]
  rfl
theorem arr_box (w : World) (a b c : Int) :
    ArrAt ((w.alloc (.cells #[.int .i64 0, .int .i64 0, .int .i64 0] 77)).setCells w.heap.size 0 [.int .i64 a, .int .i64 b, .int .i64 c]) w.heap.size a b c ∧
    Upd (fun _ => False) w ((w.alloc (.cells #[.int .i64 0, .int .i64 0, .int .i64 0] 77)).setCells w.heap.size 0 [.int .i64 a, .int .i64 b, .int .i64 c]) ∧
    (w.alloc (.cells #[.int .i64 0, .int .i64 0, .int .i64 0] 77)).there w.heap.size 0 3 := by
  have h0 : ArrAt (w.alloc (.cells #[.int .i64 0, .int .i64 0, .int .i64 0] 77)) w.heap.size 0 0 0 := heap_alloc_last w _
  exact ⟨h0.sets a b c, Upd.setCells (.inr (Nat.le_refl _)) _ _ ((Upd.refl _ _).alloc _), h0.there⟩
theorem info_step : (Tryd.prog.info? 128).map (fun i => (i.zero, i.size, i.bytes)) = some (some (.agg #[.int .i64 0, .int .i64 0]), 2, 16) := by kernel_rfl
end Go.Proofs.YtfdnfllefednjaaDoor

/-
  Contracts of package walk: Walk.
-/
namespace Go.Proofs.YtfdnfllefednjaaDoor
open Go.ChangeShapes Go.WideShapes Go.ChangeAt Go.RowKit

set_option maxRecDepth 100000 in
set_option maxHeartbeats 2000000 in
theorem wwalk_any (A : Nat) (m : Mem) (root q : Int) (w : World) (h : MemAt w A m) (T : Tab w) (hg : m.good) :
    Calls Tryd.prog 65 #[.pointer (some ⟨A, 0, none⟩), .int .i64 root, .int .i64 q] w fun e w' => ∃ v, e = .returned (.tuple #[(m.wE root q).val, v, .int .i64 (m.wX root q)]) ∧
      w'.ownsRow w.heap.size 128 2 v (m.wN root q) (m.wS root q (m.wN root q)) ∧ Upd (fun _ => False) w w' := by
  obtain ⟨i0, hi, hz0, hz1, hz2⟩ := info_parts info_step
  have cI := Lib.hid (fun W (T : Tab W) => windices_any q W T)
  have cX := Lib.hid (fun W (h : MemAt W A m) => wexists_any A m root W h)
  have cG := Lib.hid (fun f p W (h : MemAt W A m) (T : Tab W) => wget_any A m f p W h T hg)
  have k0 : Hid (EntAt (w.alloc (.cells #[.bool false, .bool false, .bool false, .int .i64 0] 34)) w.heap.size false false false 0) := Lib.hid (heap_alloc_last w _)
  clear hg
  obtain ⟨p0, e0⟩ : ∃ p, p = idxI q 0 := ⟨_, rfl⟩
  obtain ⟨p1, e1⟩ : ∃ p, p = idxI q 1 := ⟨_, rfl⟩
  obtain ⟨p2, e2⟩ : ∃ p, p = idxI q 2 := ⟨_, rfl⟩
  rw [← e0, ← e1, ← e2] at cI
  have hP := Lib.hid (And.intro e0 (And.intro e1 e2))
  clear e0 e1 e2
  cases hw : m.wB root q
  · obtain ⟨n1, n2, n3⟩ := m.walk_no root q hw
    rw [n1, n2, n3]
    clear n1 n2 n3 cG hP
    cases hq : pageB q
    · rw [hq] at cI
      clear hq hw cX
      go_enter Tryd.func65, Tryd.ntmps65
      go_wp2
      go_step3
      go_wp2_with fail
      refine (cI.out _ (T.kept ((Upd.refl _ _).alloc _))).mono ?_
      rintro e w1 ⟨rfl, u⟩
      rw [show errB false = 1 from rfl]
      have k1 : Hid (EntAt w1 w.heap.size false false false 0) := Lib.hid (k0.out.kept u id)
      have U := Lib.hid (((Upd.refl (fun _ => False) w).alloc _).trans u)
      clear u k0 T h cI
      obtain ⟨a1, a2, a3⟩ := arr_box w1 p0 p1 p2
      have A3 := Lib.hid a3
      have U2 := Lib.hid (U.out.trans a2)
      have k2 := Lib.hid (k1.out.kept a2 id)
      clear a1 a2 a3 U k1
      obtain ⟨B, hB⟩ : ∃ B, B = w.heap.size := ⟨_, rfl⟩
      rw [← hB] at k2 ⊢
      have hB' := Lib.hid hB
      clear hB
      go_upto_region 2 with ((with_reducible refine wpList_store_sz rfl 77 (.tmp 9) (.tmp 22) rfl w1.heap.size 0 #[.int .i64 p0, .int .i64 p1, .int .i64 p2] rfl rfl 3 (arr3_sz _ _ _) A3.out size_arr3 (arr3_one _ _ _) [.int .i64 p0, .int .i64 p1, .int .i64 p2] (arr3_ls _ _ _) ?_))
      generalize (w1.alloc (.cells #[.int .i64 0, .int .i64 0, .int .i64 0] 77)).setCells w1.heap.size 0 [.int .i64 p0, .int .i64 p1, .int .i64 p2] = w2 at U2 k2 ⊢
      clear A3
      go_wp2_with (with_reducible refine wpList_store_sz rfl 34 (.tmp 6) (.tmp 32) rfl B 0 #[.bool false, .bool false, .bool false, .int .i64 0] rfl rfl 4 (ent_sz _ _ _ _) k2.out.there size_ent (ent_one _ _ _ _) [.bool false, .bool false, .bool false, .int .i64 0] (ent_ls _ _ _ _) ?_)
      (try simp only [Exit.inBlock, Exit.then])
      (try rw [Exit.noGoto_ret])
      refine bodyPost_ret (ret_ent2 rfl _ _ B false false false 0 rfl (k2.out.set false false false 0)) rfl ⟨_, rfl, World.ownsRow_nil _ _ _ _, ?_⟩
      exact Upd.setCells (.inr (Nat.le_of_eq hB'.out.symm)) _ _ U2.out
    · have hr : m.ex root 1 = false := by unfold Mem.wB at hw; rw [hq, Bool.and_true] at hw; exact hw
      rw [hq] at cI
      rw [hr] at cX
      clear hq hw hr
      go_enter Tryd.func65, Tryd.ntmps65
      go_wp2
      go_step3
      go_wp2_with fail
      refine (cI.out _ (T.kept ((Upd.refl _ _).alloc _))).mono ?_
      rintro e w1 ⟨rfl, u⟩
      rw [show errB true = 0 from rfl]
      have k1 : Hid (EntAt w1 w.heap.size false false false 0) := Lib.hid (k0.out.kept u id)
      have U := Lib.hid (((Upd.refl (fun _ => False) w).alloc _).trans u)
      clear u k0 T cI
      obtain ⟨a1, a2, a3⟩ := arr_box w1 p0 p1 p2
      have A3 := Lib.hid a3
      have U2 := Lib.hid (U.out.trans a2)
      have k2 := Lib.hid (k1.out.kept a2 id)
      clear a1 a2 a3 U k1
      obtain ⟨B, hB⟩ : ∃ B, B = w.heap.size := ⟨_, rfl⟩
      rw [← hB] at k2 ⊢
      have hB' := Lib.hid hB
      clear hB
      go_upto_region 2 with ((with_reducible refine wpList_store_sz rfl 77 (.tmp 9) (.tmp 22) rfl w1.heap.size 0 #[.int .i64 p0, .int .i64 p1, .int .i64 p2] rfl rfl 3 (arr3_sz _ _ _) A3.out size_arr3 (arr3_one _ _ _) [.int .i64 p0, .int .i64 p1, .int .i64 p2] (arr3_ls _ _ _) ?_))
      generalize (w1.alloc (.cells #[.int .i64 0, .int .i64 0, .int .i64 0] 77)).setCells w1.heap.size 0 [.int .i64 p0, .int .i64 p1, .int .i64 p2] = w2 at U2 k2 ⊢
      clear A3
      go_wp2_with fail
      refine (cX.out _ (h.kept U2.out id id)).mono ?_
      rintro e w3 ⟨rfl, rfl⟩
      go_wp2_with (with_reducible refine wpList_store_sz rfl 34 (.tmp 6) (.tmp 32) rfl B 0 #[.bool false, .bool false, .bool false, .int .i64 0] rfl rfl 4 (ent_sz _ _ _ _) k2.out.there size_ent (ent_one _ _ _ _) [.bool false, .bool false, .bool false, .int .i64 0] (ent_ls _ _ _ _) ?_)
      (try simp only [Exit.inBlock, Exit.then])
      (try rw [Exit.noGoto_ret])
      refine bodyPost_ret (ret_ent2 rfl _ _ B false false false 0 rfl (k2.out.set false false false 0)) rfl ⟨_, rfl, World.ownsRow_nil _ _ _ _, ?_⟩
      exact Upd.setCells (.inr (Nat.le_of_eq hB'.out.symm)) _ _ U2.out
  · obtain ⟨hr, hq⟩ : m.ex root 1 = true ∧ pageB q = true := by simpa [Mem.wB] using hw
    rw [hq] at cI
    rw [hr] at cX
    have hw' := Lib.hid hw
    clear hq hr hw
    go_enter Tryd.func65, Tryd.ntmps65
    go_wp2
    go_step3
    go_wp2_with fail
    refine (cI.out _ (T.kept ((Upd.refl _ _).alloc _))).mono ?_
    rintro e w1 ⟨rfl, u⟩
    rw [show errB true = 0 from rfl]
    have k1 : Hid (EntAt w1 w.heap.size false false false 0) := Lib.hid (k0.out.kept u id)
    have U := Lib.hid (((Upd.refl (fun _ => False) w).alloc _).trans u)
    clear u k0 cI
    obtain ⟨a1, a2, a3⟩ := arr_box w1 p0 p1 p2
    have A1 := Lib.hid a1
    have A3 := Lib.hid a3
    have U2 := Lib.hid (U.out.trans a2)
    have k2 := Lib.hid (k1.out.kept a2 id)
    have hs1 := lt_of_heap k1.out
    clear a1 a2 a3 U k1
    obtain ⟨R, hR⟩ : ∃ R, R = w.heap.size := ⟨_, rfl⟩
    rw [← hR] at k2 hs1 ⊢
    have hRN := Lib.hid (Nat.le_of_eq hR.symm)
    clear hR
    have hRF1 := Lib.hid (lt_of_heap A1.out)
    have hs2 := Lib.hid hs1
    clear hs1
    go_upto_region 2 with ((with_reducible refine wpList_store_sz rfl 77 (.tmp 9) (.tmp 22) rfl w1.heap.size 0 #[.int .i64 p0, .int .i64 p1, .int .i64 p2] rfl rfl 3 (arr3_sz _ _ _) A3.out size_arr3 (arr3_one _ _ _) [.int .i64 p0, .int .i64 p1, .int .i64 p2] (arr3_ls _ _ _) ?_))
    generalize (w1.alloc (.cells #[.int .i64 0, .int .i64 0, .int .i64 0] 77)).setCells w1.heap.size 0 [.int .i64 p0, .int .i64 p1, .int .i64 p2] = w2 at U2 k2 A1 hRF1 ⊢
    generalize w1.heap.size = Bx at A1 hRF1 hs2 ⊢
    have hRF2 : Hid (R < w2.heap.size) := Lib.hid (Nat.lt_trans hs2.out hRF1.out)
    clear A3 hs2 hRF1
    go_wp2_with fail
    refine (cX.out _ (h.kept U2.out id id)).mono ?_
    rintro e w3 ⟨rfl, rfl⟩
    have u3 := (Upd.refl (fun _ => False) w2).alloc (.cells #[.bool false, .bool false, .bool false, .int .i64 0] 34)
    have A2 := Lib.hid (A1.out.kept u3 id)
    have k3 := Lib.hid (k2.out.kept u3 id)
    have kF : Hid (EntAt (w2.alloc (.cells #[.bool false, .bool false, .bool false, .int .i64 0] 34)) w2.heap.size false false false 0) := Lib.hid (heap_alloc_last w2 _)
    have U3 := U2.out.trans u3
    have hFN := Lib.hid U2.out.size
    clear u3 k2 A1 U2 cX
    go_wp2
    go_step3
    generalize w2.alloc (.cells #[.bool false, .bool false, .bool false, .int .i64 0] 34) = W at A2 k3 kF U3 ⊢
    obtain ⟨F, hF⟩ : ∃ F, F = w2.heap.size := ⟨_, rfl⟩
    rw [← hF] at kF hFN hRF2 ⊢
    have hRF0 := hRF2
    clear hF hRF2
    go_wp2_with (with_reducible refine wpList_load_sz rfl 77 (.tmp 9) rfl Bx 0 rfl [.int .i64 p0, .int .i64 p1, .int .i64 p2] _ A2.out.range Tryd.underlying77 rfl 3 (arr_len _ _ _) size_arr3 ?_)
    go_loopw [12, 13, 14, 35] (fun s t x c wr => ∃ k : Nat, k ≤ 3 ∧ c = .int .i64 k ∧ x = .int .i64 0 ∧ (∃ z, t = .int .i64 z ∧ Hid (k < 3 → z = m.wF root q k)) ∧ Hid (wr.ownsRow w.heap.size 128 2 s k (m.wS root q k)) ∧ Upd (fun _ => False) w wr ∧ Hid (EntAt wr R false false false 0) ∧
      (∃ E : En, Hid (EntAt wr F E.v E.r E.t E.f) ∧ Hid (k < 3 → E = En.zero) ∧ Hid (k = 3 → E = m.getE (m.wF root q 2) (idxI q 2))) ∧ Hid (∀ j, j < k → m.wC root q j = 0)) (fun _ _ _ c _ => 3 - (intOf c).toNat)
    case atStart => exact ⟨0, by omega, rfl, rfl, ⟨root, rfl, Lib.hid fun _ => rfl⟩, Lib.hid (World.ownsRow_nil _ _ _ _), U3, k3, ⟨En.zero, kF, Lib.hid fun _ => rfl, Lib.hid fun h => absurd h (by omega)⟩, Lib.hid fun j hj => absurd hj (by omega)⟩
    case round =>
      obtain ⟨k, hk, rfl, rfl, ⟨z, rfl, hz⟩, hrow, hU, KR, ⟨E, KF, hE0, hE3⟩, hC⟩ := hrel
      clear A2 k3 kF U3
      by_cases hlt : k < 3
      · obtain rfl := hE0.out hlt
        have hz' := Lib.hid (hz.out hlt)
        obtain ⟨y, hy⟩ : ∃ y, y = [p0, p1, p2].getD k 0 := ⟨_, rfl⟩
        have hx : ∀ w, (Instr.index 77 (.agg #[.int .i64 p0, .int .i64 p1, .int .i64 p2]) (.int .i64 k)).run Tryd.prog w = .ok (.int .i64 y) w := run_index_ints (P := Tryd.prog) Tryd.underlying77 Tryd.underlying3 (by kernel_rfl) [p0, p1, p2] rfl .i64 k hlt y hy.symm
        have hy' : Hid (y = idxI q k) := Lib.hid (by
          rw [hy]
          have := hP.out
          match k, hlt with
          | 0, _ => exact this.1
          | 1, _ => exact this.2.1
          | 2, _ => exact this.2.2)
        clear hy hE0 hE3 hz
        obtain ⟨o, cap, rfl⟩ := wk_slice hrow.out
        have hsz := hU.size
        have ck := Lib.hid (fun W hM hT => cG.out z y W hM hT)
        have hcd : Hid (m.wC root q k = codeI (m.getE z y) (m.getX z y) k) := Lib.hid (by rw [hz'.out, hy'.out]; rfl)
        have hFn : Hid (m.wF root q (k + 1) = (m.getE z y).f) := Lib.hid (by rw [hz'.out, hy'.out]; rfl)
        have hE2 : Hid (k = 2 → m.getE (m.wF root q 2) (idxI q 2) = m.getE z y) := Lib.hid (by rw [hz'.out, hy'.out]; rintro rfl; rfl)
        have hSn : Hid (m.wS root q (k + 1) = m.wS root q k ++ [.int .i64 z, .int .i64 y]) := Lib.hid (by rw [hz'.out, hy'.out]; rfl)
        generalize m.getE z y = G at ck hcd hFn hE2
        generalize m.getX z y = X at ck hcd
        obtain ⟨v, r, t, f⟩ := G
        clear cG hz' hy' hP
        go_upto_region 11 with ((at_builtin; refine wpList_append_own _ rfl _ _ 119 rfl w.heap.size 128 i0 (.agg #[.int .i64 0, .int .i64 0]) 2 16 Tryd.underlying119 hi hz0 hz1 hz2 rfl (by decide) _ _ _ rfl (hrow.out.alloc _) ⟨wr.heap.size, 0, none⟩ 1 1 [.int .i64 z, .int .i64 y] rfl rfl (wk_two _ _ _ _) (by simp [Value.oneCell']) (by simp [maxLen]; omega) (by omega) (by simp; omega) ?_; intro v' w4 hown' hgrow _; obtain ⟨g', cap', rfl⟩ := ownsRow_succ hown'))
        obtain ⟨U4, hat⟩ := wk_grown hrow.out hgrow hU (Nat.le_refl _)
        have KR4 : Hid (EntAt w4 R false false false 0) := Lib.hid (hat R _ _ KR.out (by decide))
        have KF4 : Hid (EntAt w4 F false false false 0) := Lib.hid (hat F _ _ KF.out (by decide))
        rw [← hSn.out] at hown'
        have hrow4 := Lib.hid hown'
        have ck4 := Lib.hid (ck.out w4 (h.kept U4 id id) (T.kept U4))
        clear hown' hgrow hat hrow hU KR KF hSn hx hsz ck
        go_wp2_with fail
        refine ck4.out.mono ?_
        rintro e w5 ⟨rfl, u⟩
        clear ck4
        obtain ⟨a1, a2, a3, a4⟩ := ent_box w5 v r t f
        have u5 := u.trans a2
        have hU5 := U4.trans u5
        have KR5 := Lib.hid (KR4.out.kept u5 id)
        have KF5 := Lib.hid (KF4.out.kept u5 id)
        have hrow5 := Lib.hid (wk_kept hrow4.out u5 (fun _ _ => id))
        have A1 := Lib.hid a1
        have A3 := Lib.hid a3
        have b0 := a1.range 0 _ rfl
        have b2 := a1.range 2 _ rfl
        have b3 := a1.range 3 _ rfl
        clear a1 a2 a3 a4 u u5 U4 KR4 KF4 hrow4
        go_upto_region 13 with ((with_reducible refine wpList_store_sz rfl 34 (.tmp 17) (.tmp 50) rfl w5.heap.size 0 #[.bool v, .bool r, .bool t, .int .i64 f] rfl rfl 4 (ent_sz _ _ _ _) A3.out size_ent (ent_one _ _ _ _) [.bool v, .bool r, .bool t, .int .i64 f] (ent_ls _ _ _ _) ?_))
        generalize (w5.alloc (.cells #[.bool false, .bool false, .bool false, .int .i64 0] 34)).setCells w5.heap.size 0 [.bool v, .bool r, .bool t, .int .i64 f] = w6 at A1 b0 b2 b3 hU5 KR5 KF5 hrow5 ⊢
        generalize w5.heap.size = Eb at A1 b0 b2 b3 ⊢
        clear A3
        by_cases hX : X = 0
        · subst hX
          cases v
          · have hc : m.wC root q k = 10 := by rw [hcd.out]; simp [codeI]
            have hS0 := m.walk_stop root q hw'.out k hlt hC.out (by rw [hc]; decide)
            rw [hc] at hS0
            have hS := Lib.hid hS0
            clear hc hS0 hcd hFn hE2 hC A1 hw'
            go_wp2_with (first
              | (with_reducible refine wpList_load_sz rfl 34 (.tmp 11) rfl F 0 rfl [.bool false, .bool false, .bool false, .int .i64 0] _ KF5.out.range Tryd.underlying34 rfl 4 (ent_len _ _ _ _) size_ent ?_)
              | (with_reducible refine wpList_store_sz rfl 34 (.tmp 6) (.tmp 72) rfl R 0 #[.bool false, .bool false, .bool false, .int .i64 0] rfl rfl 4 (ent_sz _ _ _ _) KR5.out.there size_ent (ent_one _ _ _ _) [.bool false, .bool false, .bool false, .int .i64 0] (ent_ls _ _ _ _) ?_))
            (try simp only [Exit.inBlock, Exit.then])
            (try rw [Exit.noGoto_ret])
            refine bodyPost_ret (ret_ent2 rfl _ _ R false false false 0 rfl (KR5.out.set false false false 0)) rfl ⟨_, by rw [hS.out.2.1, hS.out.2.2]; rfl, ?_, ?_⟩
            · rw [hS.out.1]
              exact wk_kept hrow5.out (Upd.setCells (S := (· = R)) (.inl rfl) _ _ (Upd.refl _ _)) (fun j hj e => wk_ne hrow5.out KR5.out (by decide) j hj e)
            · exact Upd.setCells (.inr hRN.out) _ _ hU5
          · by_cases ht : t = decide (k < 2)
            · have hc : m.wC root q k = 0 := by rw [hcd.out]; simp [codeI, ht]
              have hC' : Hid (∀ j, j < k + 1 → m.wC root q j = 0) := Lib.hid (fun j hj => by
                by_cases e : j = k
                · rw [e]; exact hc
                · exact hC.out j (by omega))
              clear hc hcd hC
              by_cases h2 : k < 2
              · obtain rfl : t = true := by rw [ht]; exact decide_eq_true h2
                have hdec : decide ((k : Int) < 2) = true := decide_eq_true (by omega)
                clear ht A1 hE2
                go_wp2
                exact ⟨⟨k + 1, by omega, by go_num, rfl, ⟨f, rfl, Lib.hid fun _ => hFn.out.symm⟩, hrow5, hU5, KR5, ⟨En.zero, KF5, Lib.hid fun _ => rfl, Lib.hid fun h => absurd h (by omega)⟩, hC'⟩, by simp [intOf]; omega⟩
              · obtain rfl : t = false := by rw [ht]; exact decide_eq_false h2
                obtain rfl : k = 2 := by omega
                have hE2' := Lib.hid (hE2.out rfl)
                clear ht hE2
                go_wp2_with (first
                  | (with_reducible refine wpList_load_sz rfl 34 (.tmp 17) rfl Eb 0 rfl [.bool true, .bool r, .bool false, .int .i64 f] _ A1.out.range Tryd.underlying34 rfl 4 (ent_len _ _ _ _) size_ent ?_)
                  | (with_reducible refine wpList_store_sz rfl 34 (.tmp 11) (.tmp 52) rfl F 0 #[.bool true, .bool r, .bool false, .int .i64 f] rfl rfl 4 (ent_sz _ _ _ _) KF5.out.there size_ent (ent_one _ _ _ _) [.bool true, .bool r, .bool false, .int .i64 f] (ent_ls _ _ _ _) ?_))
                have hRF : ¬ R = F := fun e => by have := hRF0.out; omega
                have us := Upd.setCells (S := (· = F)) (.inl rfl) [.bool true, .bool r, .bool false, .int .i64 f] 0 (Upd.refl _ w6)
                exact ⟨⟨2 + 1, by omega, by go_num, rfl, ⟨z, rfl, Lib.hid fun h => absurd h (by omega)⟩, Lib.hid (wk_kept hrow5.out us (fun j hj e => wk_ne hrow5.out KF5.out (by decide) j hj e)), Upd.setCells (.inr hFN.out) _ _ hU5, Lib.hid (KR5.out.kept us hRF),
                  ⟨⟨true, r, false, f⟩, Lib.hid (KF5.out.set true r false f), Lib.hid fun h => absurd h (by omega), Lib.hid fun _ => hE2'.out.symm⟩, hC'⟩, by simp [intOf]⟩
            · have hc : m.wC root q k = 11 := by rw [hcd.out]; simp [codeI, ht]
              have hS0 := m.walk_stop root q hw'.out k hlt hC.out (by rw [hc]; decide)
              rw [hc] at hS0
              have hS := Lib.hid hS0
              clear hc hS0 hcd hFn hE2 hC A1 hw'
              by_cases h2 : k < 2
              · obtain rfl : t = false := by simpa [h2] using ht
                have hdec : decide ((k : Int) < 2) = true := decide_eq_true (by omega)
                clear ht
                go_wp2_with (first
                  | (with_reducible refine wpList_load_sz rfl 34 (.tmp 11) rfl F 0 rfl [.bool false, .bool false, .bool false, .int .i64 0] _ KF5.out.range Tryd.underlying34 rfl 4 (ent_len _ _ _ _) size_ent ?_)
                  | (with_reducible refine wpList_store_sz rfl 34 (.tmp 6) (.tmp 72) rfl R 0 #[.bool false, .bool false, .bool false, .int .i64 0] rfl rfl 4 (ent_sz _ _ _ _) KR5.out.there size_ent (ent_one _ _ _ _) [.bool false, .bool false, .bool false, .int .i64 0] (ent_ls _ _ _ _) ?_))
                (try simp only [Exit.inBlock, Exit.then])
                (try rw [Exit.noGoto_ret])
                refine bodyPost_ret (ret_ent2 rfl _ _ R false false false 0 rfl (KR5.out.set false false false 0)) rfl ⟨_, by rw [hS.out.2.1, hS.out.2.2]; rfl, ?_, ?_⟩
                · rw [hS.out.1]
                  exact wk_kept hrow5.out (Upd.setCells (S := (· = R)) (.inl rfl) _ _ (Upd.refl _ _)) (fun j hj e => wk_ne hrow5.out KR5.out (by decide) j hj e)
                · exact Upd.setCells (.inr hRN.out) _ _ hU5
              · obtain rfl : t = true := by simpa [h2] using ht
                have hdec : decide ((k : Int) < 2) = false := decide_eq_false (by omega)
                clear ht
                go_wp2_with (first
                  | (with_reducible refine wpList_load_sz rfl 34 (.tmp 11) rfl F 0 rfl [.bool false, .bool false, .bool false, .int .i64 0] _ KF5.out.range Tryd.underlying34 rfl 4 (ent_len _ _ _ _) size_ent ?_)
                  | (with_reducible refine wpList_store_sz rfl 34 (.tmp 6) (.tmp 72) rfl R 0 #[.bool false, .bool false, .bool false, .int .i64 0] rfl rfl 4 (ent_sz _ _ _ _) KR5.out.there size_ent (ent_one _ _ _ _) [.bool false, .bool false, .bool false, .int .i64 0] (ent_ls _ _ _ _) ?_))
                (try simp only [Exit.inBlock, Exit.then])
                (try rw [Exit.noGoto_ret])
                refine bodyPost_ret (ret_ent2 rfl _ _ R false false false 0 rfl (KR5.out.set false false false 0)) rfl ⟨_, by rw [hS.out.2.1, hS.out.2.2]; rfl, ?_, ?_⟩
                · rw [hS.out.1]
                  exact wk_kept hrow5.out (Upd.setCells (S := (· = R)) (.inl rfl) _ _ (Upd.refl _ _)) (fun j hj e => wk_ne hrow5.out KR5.out (by decide) j hj e)
                · exact Upd.setCells (.inr hRN.out) _ _ hU5
        · have hc : m.wC root q k = 11 := by rw [hcd.out]; simp [codeI, hX]
          have hS0 := m.walk_stop root q hw'.out k hlt hC.out (by rw [hc]; decide)
          rw [hc] at hS0
          have hS := Lib.hid hS0
          clear hc hS0 hcd hFn hE2 hC A1 hw'
          go_wp2_with (first
            | (with_reducible refine wpList_load_sz rfl 34 (.tmp 11) rfl F 0 rfl [.bool false, .bool false, .bool false, .int .i64 0] _ KF5.out.range Tryd.underlying34 rfl 4 (ent_len _ _ _ _) size_ent ?_)
            | (with_reducible refine wpList_store_sz rfl 34 (.tmp 6) (.tmp 72) rfl R 0 #[.bool false, .bool false, .bool false, .int .i64 0] rfl rfl 4 (ent_sz _ _ _ _) KR5.out.there size_ent (ent_one _ _ _ _) [.bool false, .bool false, .bool false, .int .i64 0] (ent_ls _ _ _ _) ?_))
          (try simp only [Exit.inBlock, Exit.then])
          (try rw [Exit.noGoto_ret])
          refine bodyPost_ret (ret_ent2 rfl _ _ R false false false 0 rfl (KR5.out.set false false false 0)) rfl ⟨_, by rw [hS.out.2.1, hS.out.2.2]; rfl, ?_, ?_⟩
          · rw [hS.out.1]
            exact wk_kept hrow5.out (Upd.setCells (S := (· = R)) (.inl rfl) _ _ (Upd.refl _ _)) (fun j hj e => wk_ne hrow5.out KR5.out (by decide) j hj e)
          · exact Upd.setCells (.inr hRN.out) _ _ hU5
      · obtain rfl : k = 3 := by omega
        obtain ⟨v, r, t, f⟩ := E
        have hE := hE3.out rfl
        have hS0 := m.walk_end root q hw'.out hC.out
        rw [← hE] at hS0
        have hS := Lib.hid hS0
        obtain ⟨o, cap, rfl⟩ := wk_slice hrow.out
        clear hS0 hE hE3 hE0 hC hz hw' cG
        go_wp2_with (first
          | (with_reducible refine wpList_load_sz rfl 34 (.tmp 11) rfl F 0 rfl [.bool v, .bool r, .bool t, .int .i64 f] _ KF.out.range Tryd.underlying34 rfl 4 (ent_len _ _ _ _) size_ent ?_)
          | (with_reducible refine wpList_store_sz rfl 34 (.tmp 6) (.tmp 72) rfl R 0 #[.bool v, .bool r, .bool t, .int .i64 f] rfl rfl 4 (ent_sz _ _ _ _) KR.out.there size_ent (ent_one _ _ _ _) [.bool v, .bool r, .bool t, .int .i64 f] (ent_ls _ _ _ _) ?_))
        (try simp only [Exit.inBlock, Exit.then])
        (try rw [Exit.noGoto_ret])
        refine bodyPost_ret (ret_ent2 rfl _ _ R v r t f rfl (KR.out.set v r t f)) rfl ⟨_, by rw [hS.out.2.1, hS.out.2.2]; rfl, ?_, ?_⟩
        · rw [hS.out.1]
          exact wk_kept hrow.out (Upd.setCells (S := (· = R)) (.inl rfl) _ _ (Upd.refl _ _)) (fun j hj e => wk_ne hrow.out KR.out (by decide) j hj e)
        · exact Upd.setCells (.inr hRN.out) _ _ hU
end Go.Proofs.YtfdnfllefednjaaDoor

/-
  The laws' tables and awake over package walk.
-/
namespace Go.Proofs.YtfdnfllefednjaaDoor
open Go.ChangeShapes Go.WideShapes Go.ChangeAt Go.RowKit

/-- three tables -/
def Mem.tabs (m : Mem) : Mem := ((m.put 0 1 ⟨true, false, true, 1⟩).put 1 2 ⟨true, false, true, 2⟩).put 2 3 ⟨true, true, false, 7⟩
theorem Mem.tabs_B (m : Mem) : m.tabs.B = m.B := by unfold Mem.tabs; rw [Mem.put_B, Mem.put_B, Mem.put_B]
theorem Mem.tabs_n (m : Mem) : m.tabs.n = m.n := by unfold Mem.tabs; rw [Mem.put_n, Mem.put_n, Mem.put_n]
theorem Mem.tabs_ok (m : Mem) (h : m.ok) : m.tabs.ok := Mem.put_ok _ (Mem.put_ok _ (Mem.put_ok _ h ..) ..) ..
theorem Mem.tabs_good (m : Mem) (h : m.ok) (hg : m.good) : m.tabs.good := by
  have h1 := m.put_good h hg 0 1 ⟨true, false, true, 1⟩
  have k1 := m.put_ok h 0 1 ⟨true, false, true, 1⟩
  have h2 := Mem.put_good _ k1 h1 1 2 ⟨true, false, true, 2⟩
  have k2 := Mem.put_ok _ k1 1 2 ⟨true, false, true, 2⟩
  exact Mem.put_good _ k2 h2 2 3 ⟨true, true, false, 7⟩
theorem wk_aw (B : Nat) : (memNew B 4).tabs.wE 0 291 = ⟨true, true, false, 7⟩ ∧ (memNew B 4).tabs.wX 0 291 = 0 ∧ (memNew B 4).tabs.wN 0 291 = 3 ∧ (memNew B 4).tabs.wX 0 547 = 10 ∧ (memNew B 4).tabs.wN 0 547 = 1 ∧
    (memNew B 4).tabs.zero 3 = true ∧ (memNew B 4).tabs.zero 1 = false := ⟨by kernel_rfl, by kernel_rfl, by kernel_rfl, by kernel_rfl, by kernel_rfl, by kernel_rfl, by kernel_rfl⟩
/-- a memory that the call itself made -/
theorem Upd.fresh {a b c : World} {B : Nat} (h : Upd (fun _ => False) a b) (u : Upd (· = B) b c) (hB : a.heap.size ≤ B) : Upd (fun _ => False) a c :=
  ⟨u.os.trans h.os, u.tape.trans h.tape, u.output.trans h.output, Nat.le_trans h.size u.size, fun k hk hs => (u.block k (Nat.lt_of_lt_of_le hk h.size) (by omega)).trans (h.block k hk hs)⟩
end Go.Proofs.YtfdnfllefednjaaDoor

/-
  Package tlb, in plain numbers: a buffer of eight places, what is found there, Put, Drop, Flush, Lines.
-/
namespace Go.Proofs.YtfdnfllefednjaaDoor

/-- a line -/
structure Ln where
  a : Int
  p : Int
  f : Int
  w : Bool
deriving DecidableEq
/-- a buffer: what lies in each of the eight places -/
abbrev Buf := Nat → Option Ln
def Buf.hit (B : Buf) (a p : Int) (i : Nat) : Bool := match B i with
  | some l => decide (l.a = a) && decide (l.p = p)
  | none => false
/-- the first place of the first k with that line; k if there is none -/
def Buf.first (q : Nat → Bool) : Nat → Nat
  | 0 => 0
  | k + 1 => if Buf.first q k < k then Buf.first q k else if q k then k else k + 1
theorem first_le (q : Nat → Bool) : ∀ k, Buf.first q k ≤ k
  | 0 => Nat.le_refl _
  | k + 1 => by
    have := first_le q k
    rw [Buf.first]
    split
    · omega
    · split <;> omega
theorem first_none {q : Nat → Bool} : ∀ {k : Nat}, Buf.first q k = k → ∀ j, j < k → q j = false
  | 0, _, j, hj => absurd hj (by omega)
  | k + 1, h, j, hj => by
    rw [Buf.first] at h
    by_cases h1 : Buf.first q k < k
    · rw [if_pos h1] at h; omega
    · rw [if_neg h1] at h
      have hk : Buf.first q k = k := by have := first_le q k; omega
      cases hq : q k
      · by_cases e : j = k
        · rw [e]; exact hq
        · exact first_none hk j (by omega)
      · rw [hq] at h; simp at h
theorem first_lt {q : Nat → Bool} : ∀ {k : Nat}, Buf.first q k < k → q (Buf.first q k) = true ∧ ∀ j, j < Buf.first q k → q j = false
  | 0, h => absurd h (by omega)
  | k + 1, h => by
    rw [Buf.first] at h ⊢
    by_cases h1 : Buf.first q k < k
    · rw [if_pos h1]; exact first_lt h1
    · rw [if_neg h1] at h ⊢
      have hk : Buf.first q k = k := by have := first_le q k; omega
      have hall : ∀ j, j < k → q j = false := first_none hk
      cases hq : q k
      · rw [hq] at h; simp at h
      · simp only [if_true]; exact ⟨hq, hall⟩
theorem first_of {q : Nat → Bool} {k i : Nat} (hi : i < k) (hq : q i = true) (hb : ∀ j, j < i → q j = false) : Buf.first q k = i := by
  have hlt : Buf.first q k < k := by
    have := first_le q k
    by_cases e : Buf.first q k = k
    · have := first_none e i hi; rw [hq] at this; cases this
    · omega
  obtain ⟨h1, h2⟩ := first_lt hlt
  by_cases c : i < Buf.first q k
  · have := h2 i c; rw [hq] at this; cases this
  · by_cases c2 : Buf.first q k < i
    · have := hb _ c2; rw [h1] at this; cases this
    · omega
theorem first_all {q : Nat → Bool} {k : Nat} (h : ∀ j, j < k → q j = false) : Buf.first q k = k := by
  have := first_le q k
  by_cases e : Buf.first q k < k
  · have := (first_lt e).1; rw [h _ e] at this; cases this
  · omega
/-- the place of a line; 8 if there is none -/
def Buf.at (B : Buf) (a p : Int) : Nat := Buf.first (B.hit a p) 8
/-- the first empty place; 8 if there is none -/
def Buf.gap (B : Buf) : Nat := Buf.first (fun i => (B i).isNone) 8
def Buf.find (B : Buf) (a p : Int) : Option Ln := if B.at a p < 8 then B (B.at a p) else none
def Buf.set (B : Buf) (i : Nat) (x : Option Ln) : Buf := fun j => if j = i then x else B j
/-- may it be put? -/
def putOk (l : Ln) (at' : Int) : Bool := decide (1 ≤ l.a ∧ l.a ≤ 8 ∧ 0 ≤ l.p ∧ l.p ≤ 4095 ∧ 0 ≤ l.f ∧ l.f ≤ 255 ∧ 0 ≤ at' ∧ at' ≤ 7)
def Buf.place (B : Buf) (l : Ln) (at' : Int) : Nat := if B.at l.a l.p < 8 then B.at l.a l.p else if B.gap < 8 then B.gap else at'.toNat
def Buf.put (B : Buf) (l : Ln) (at' : Int) : Buf := if putOk l at' = true then B.set (B.place l at') (some l) else B
def Buf.drop (B : Buf) (a p : Int) : Buf := if B.at a p < 8 then B.set (B.at a p) none else B
def Buf.flush (B : Buf) (a : Int) : Buf := fun j => match B j with
  | some l => if l.a = a then none else some l
  | none => none
def Buf.linesTo (B : Buf) (k : Nat) : List Ln := (List.range k).filterMap B
def Buf.lines (B : Buf) : List Ln := B.linesTo 8
def Buf.many (B : Buf) (a : Int) (k : Nat) : Nat := ((List.range k).filter fun j => match B j with
  | some l => decide (l.a = a)
  | none => false).length
/-- no two lines of the same; nothing behind the eighth place; all lines right -/
structure Buf.Ok (B : Buf) : Prop where
  one : ∀ i j l l', B i = some l → B j = some l' → l.a = l'.a → l.p = l'.p → i = j
  lt : ∀ i l, B i = some l → i < 8
  r : ∀ i l, B i = some l → 1 ≤ l.a ∧ l.a ≤ 8 ∧ 0 ≤ l.p ∧ l.p ≤ 4095 ∧ 0 ≤ l.f ∧ l.f ≤ 255
theorem Buf.hit_iff {B : Buf} {a p : Int} {i : Nat} : B.hit a p i = true ↔ ∃ l, B i = some l ∧ l.a = a ∧ l.p = p := by
  unfold Buf.hit
  cases h : B i with
  | none => simp
  | some l => simp
theorem Buf.Ok.at_of {B : Buf} (h : B.Ok) {i : Nat} {l : Ln} (hi : B i = some l) : B.at l.a l.p = i := by
  refine first_of (h.lt i l hi) (Buf.hit_iff.2 ⟨l, hi, rfl, rfl⟩) fun j hj => ?_
  cases hh : B.hit l.a l.p j
  · rfl
  · obtain ⟨l', e, e1, e2⟩ := Buf.hit_iff.1 hh
    have := h.one _ _ _ _ e hi e1 e2
    omega
theorem Buf.Ok.find_of {B : Buf} (h : B.Ok) {i : Nat} {l : Ln} (hi : B i = some l) : B.find l.a l.p = some l := by
  unfold Buf.find
  rw [h.at_of hi, if_pos (h.lt i l hi)]
  exact hi
theorem Buf.find_some {B : Buf} {a p : Int} {l : Ln} (h : B.find a p = some l) : ∃ i, i < 8 ∧ B i = some l ∧ l.a = a ∧ l.p = p := by
  unfold Buf.find at h
  split at h
  · rename_i hlt
    obtain ⟨h1, _⟩ := first_lt (q := B.hit a p) hlt
    obtain ⟨l', e, e1, e2⟩ := Buf.hit_iff.1 h1
    have : l' = l := by
      have e3 : B (B.at a p) = some l' := e
      rw [e3] at h
      exact Option.some.inj h
    subst this
    exact ⟨_, hlt, e, e1, e2⟩
  · cases h
theorem Buf.find_none {B : Buf} {a p : Int} (h : B.find a p = none) : ∀ i l, i < 8 → B i = some l → ¬ (l.a = a ∧ l.p = p) := by
  rintro i l hi e ⟨e1, e2⟩
  unfold Buf.find at h
  have hlt : B.at a p < 8 := by
    have := first_le (B.hit a p) 8
    by_cases c : Buf.first (B.hit a p) 8 = 8
    · have := first_none c i hi
      rw [Buf.hit_iff.2 ⟨l, e, e1, e2⟩] at this
      cases this
    · show Buf.first (B.hit a p) 8 < 8
      omega
  rw [if_pos hlt] at h
  obtain ⟨h1, _⟩ := first_lt (q := B.hit a p) hlt
  obtain ⟨l', e', _⟩ := Buf.hit_iff.1 h1
  have e3 : B (B.at a p) = some l' := e'
  rw [e3] at h
  cases h
theorem Buf.at_ge {B : Buf} {a p : Int} (h : ¬ B.at a p < 8) : B.at a p = 8 := by have := first_le (B.hit a p) 8; show Buf.first (B.hit a p) 8 = 8; unfold Buf.at at h; omega
theorem Buf.place_lt {B : Buf} {l : Ln} {at' : Int} (h : putOk l at' = true) : B.place l at' < 8 := by
  have := of_decide_eq_true h
  unfold Buf.place
  split
  · assumption
  · split
    · assumption
    · omega
/-- Put keeps a buffer right -/
theorem Buf.Ok.put {B : Buf} (h : B.Ok) (l : Ln) (at' : Int) : (B.put l at').Ok := by
  unfold Buf.put
  split
  · rename_i hp
    have hpl := Buf.place_lt (B := B) hp
    have hr := of_decide_eq_true hp
    have other : ∀ j l', j ≠ B.place l at' → B j = some l' → ¬ (l'.a = l.a ∧ l'.p = l.p) := by
      rintro j l' hj e ⟨e1, e2⟩
      have hat := h.at_of e
      rw [e1, e2] at hat
      have hlt := h.lt j l' e
      refine hj ?_
      unfold Buf.place
      rw [if_pos (by omega)]
      exact hat.symm
    refine ⟨?_, ?_, ?_⟩
    · intro i j x y hi hj ea ep
      unfold Buf.set at hi hj
      by_cases ci : i = B.place l at'
      · by_cases cj : j = B.place l at'
        · omega
        · rw [if_pos ci] at hi
          rw [if_neg cj] at hj
          obtain rfl := Option.some.inj hi
          exact absurd ⟨ea.symm, ep.symm⟩ (other j y cj hj)
      · rw [if_neg ci] at hi
        by_cases cj : j = B.place l at'
        · rw [if_pos cj] at hj
          obtain rfl := Option.some.inj hj
          exact absurd ⟨ea, ep⟩ (other i x ci hi)
        · rw [if_neg cj] at hj
          exact h.one _ _ _ _ hi hj ea ep
    · intro i x hi
      unfold Buf.set at hi
      by_cases ci : i = B.place l at'
      · omega
      · rw [if_neg ci] at hi; exact h.lt i x hi
    · intro i x hi
      unfold Buf.set at hi
      by_cases ci : i = B.place l at'
      · rw [if_pos ci] at hi
        obtain rfl := Option.some.inj hi
        omega
      · rw [if_neg ci] at hi; exact h.r i x hi
  · exact h
theorem Buf.Ok.set_none {B : Buf} (h : B.Ok) (i : Nat) : (B.set i none).Ok := by
  have hs : ∀ j x, B.set i none j = some x → B j = some x := by
    intro j x hj
    unfold Buf.set at hj
    split at hj
    · cases hj
    · exact hj
  exact ⟨fun a b x y h1 h2 => h.one _ _ _ _ (hs _ _ h1) (hs _ _ h2), fun a x h1 => h.lt _ _ (hs _ _ h1), fun a x h1 => h.r _ _ (hs _ _ h1)⟩
theorem Buf.Ok.drop {B : Buf} (h : B.Ok) (a p : Int) : (B.drop a p).Ok := by
  unfold Buf.drop
  split
  · exact h.set_none _
  · exact h
theorem Buf.flush_some {B : Buf} {a : Int} {j : Nat} {x : Ln} : B.flush a j = some x ↔ B j = some x ∧ x.a ≠ a := by
  unfold Buf.flush
  cases h : B j with
  | none => simp
  | some l =>
    by_cases e : l.a = a
    · simp only [e, if_true]
      constructor
      · intro c; cases c
      · rintro ⟨c, d⟩
        obtain rfl := Option.some.inj c
        exact absurd e d
    · simp only [e, if_false]
      constructor
      · intro c; exact ⟨c, by obtain rfl := Option.some.inj c; exact e⟩
      · exact fun c => c.1
theorem Buf.Ok.flush {B : Buf} (h : B.Ok) (a : Int) : (B.flush a).Ok :=
  ⟨fun _ _ _ _ h1 h2 => h.one _ _ _ _ (Buf.flush_some.1 h1).1 (Buf.flush_some.1 h2).1, fun _ _ h1 => h.lt _ _ (Buf.flush_some.1 h1).1, fun _ _ h1 => h.r _ _ (Buf.flush_some.1 h1).1⟩
def buf0 : Buf := fun _ => none
theorem buf0_ok : buf0.Ok := ⟨fun i j l l' h => (by cases h), fun i l h => (by cases h), fun i l h => (by cases h)⟩
theorem Buf.mem_lines {B : Buf} (h : B.Ok) {l : Ln} : l ∈ B.lines ↔ ∃ i, B i = some l := by
  unfold Buf.lines Buf.linesTo
  rw [List.mem_filterMap]
  constructor
  · rintro ⟨i, _, e⟩; exact ⟨i, e⟩
  · rintro ⟨i, e⟩; exact ⟨i, List.mem_range.2 (h.lt i l e), e⟩
theorem Buf.linesTo_succ (B : Buf) (k : Nat) : B.linesTo (k + 1) = B.linesTo k ++ (B k).toList := by
  unfold Buf.linesTo
  rw [List.range_succ, List.filterMap_append]
  cases h : B k <;> simp [h]
theorem Buf.linesTo_len (B : Buf) : ∀ k, (B.linesTo k).length ≤ k
  | 0 => by simp [Buf.linesTo]
  | k + 1 => by
    have := B.linesTo_len k
    rw [B.linesTo_succ, List.length_append]
    cases h : B k <;> simp <;> omega
end Go.Proofs.YtfdnfllefednjaaDoor

/-
  Package tlb: lines and buffers in memory; isEmpty, below, isLine, sameAs, the closures.
-/
namespace Go.Proofs.YtfdnfllefednjaaDoor
open Go.ChangeShapes Go.WideShapes Go.ChangeAt Go.RowKit Go.Shelf

/-! rows of structs -/
/-- cells of a row: k of them, each of n cells -/
def rowC {α : Type} (c : α → List Value) (S : Nat → α) (k : Nat) : List Value := (List.range k).flatMap fun i => c (S i)
theorem rowC_succ {α : Type} (c : α → List Value) (S : Nat → α) (k : Nat) : rowC c S (k + 1) = rowC c S k ++ c (S k) := by
  unfold rowC; rw [List.range_succ, List.flatMap_append]; simp
theorem rowC_len {α : Type} {c : α → List Value} {n : Nat} (hc : ∀ x, (c x).length = n) (S : Nat → α) : ∀ k, (rowC c S k).length = k * n
  | 0 => by simp [rowC]
  | k + 1 => by rw [rowC_succ, List.length_append, rowC_len hc S k, hc, Nat.succ_mul]
theorem rowC_at {α : Type} {c : α → List Value} {n : Nat} (hc : ∀ x, (c x).length = n) (S : Nat → α) : ∀ (k i j : Nat), i < k → j < n → (rowC c S k)[i * n + j]? = (c (S i))[j]?
  | 0, _, _, h, _ => absurd h (by omega)
  | k + 1, i, j, h, hj => by
    have hl := rowC_len hc S k
    rw [rowC_succ]
    by_cases e : i = k
    · subst e
      rw [List.getElem?_append_right (by omega), hl]
      congr 1; omega
    · have : i * n + n ≤ k * n := by rw [← Nat.succ_mul]; exact Nat.mul_le_mul_right _ (by omega)
      rw [List.getElem?_append_left (by omega), rowC_at hc S k i j (by omega) hj]
theorem splice_at {α : Type} (L : List α) (o : Nat) (vs : List α) (m : Nat) (h : o + vs.length ≤ L.length) :
    (splice L o vs)[m]? = if m < o then L[m]? else if m < o + vs.length then vs[m - o]? else L[m]? := by
  unfold splice
  by_cases h1 : m < o
  · rw [if_pos h1, List.getElem?_append_left (by simp; omega), List.getElem?_take_of_lt h1]
  · rw [if_neg h1, List.getElem?_append_right (by simp; omega)]
    by_cases h2 : m < o + vs.length
    · rw [if_pos h2, List.getElem?_append_left (by simp; omega)]
      congr 1; simp; omega
    · rw [if_neg h2, List.getElem?_append_right (by simp; omega), List.getElem?_drop]
      congr 1; simp; omega
theorem rowC_set {α : Type} {c : α → List Value} {n : Nat} (hc : ∀ x, (c x).length = n) (hn : 0 < n) (S : Nat → α) (k i : Nat) (x : α) (h : i < k) :
    splice (rowC c S k) (i * n) (c x) = rowC c (fun j => if j = i then x else S j) k := by
  have hb : i * n + n ≤ k * n := by rw [← Nat.succ_mul]; exact Nat.mul_le_mul_right _ (by omega)
  apply List.ext_getElem?
  intro m
  rw [splice_at _ _ _ _ (by rw [rowC_len hc, hc]; omega), hc]
  have hd : m = m / n * n + m % n := by rw [Nat.mul_comm]; exact (Nat.div_add_mod m n).symm
  have hm : m % n < n := Nat.mod_lt _ hn
  by_cases hk : m < k * n
  · have hq : m / n < k := (Nat.div_lt_iff_lt_mul hn).2 hk
    have e1 := rowC_at hc S k (m / n) (m % n) hq hm
    have e2 := rowC_at hc (fun j => if j = i then x else S j) k (m / n) (m % n) hq hm
    rw [← hd] at e1 e2
    rw [e1, e2]
    by_cases hi : m / n = i
    · rw [hi] at hd
      rw [if_neg (by omega), if_pos (by omega), if_pos hi]
      congr 1; omega
    · rw [if_neg hi]
      rcases Nat.lt_or_gt_of_ne hi with c1 | c1
      · have : m / n * n + n ≤ i * n := by rw [← Nat.succ_mul]; exact Nat.mul_le_mul_right _ (by omega)
        rw [if_pos (by omega)]
      · have : i * n + n ≤ m / n * n := by rw [← Nat.succ_mul]; exact Nat.mul_le_mul_right _ (by omega)
        rw [if_neg (by omega), if_neg (by omega)]
  · rw [if_neg (by omega), if_neg (by omega), List.getElem?_eq_none (by rw [rowC_len hc]; omega), List.getElem?_eq_none (by rw [rowC_len hc]; omega)]

/-! lines -/
def Ln.c (l : Ln) : List Value := [.int .i64 l.a, .int .i64 l.p, .int .i64 l.f, .bool l.w]
abbrev Ln.val (l : Ln) : Value := .agg #[.int .i64 l.a, .int .i64 l.p, .int .i64 l.f, .bool l.w]
theorem Ln.c_len (l : Ln) : l.c.length = 4 := rfl
def ln0 : Ln := ⟨0, 0, 0, false⟩
def lnOf : Option Ln → Ln
  | none => ln0
  | some l => l
/-- what lies in a place -/
def Buf.ln (B : Buf) (i : Nat) : Ln := lnOf (B i)
theorem Buf.ln_set (B : Buf) (i : Nat) (x : Option Ln) : (B.set i x).ln = fun j => if j = i then lnOf x else B.ln j := by
  funext j; unfold Buf.ln Buf.set; split <;> rfl
theorem Buf.Ok.empty {B : Buf} (h : B.Ok) (i : Nat) : decide ((B.ln i).a = 0) = (B i).isNone := by
  unfold Buf.ln
  cases e : B i with
  | none => rfl
  | some l =>
    have := h.r i l e
    have e : ¬ (lnOf (some l)).a = 0 := by show ¬ l.a = 0; omega
    rw [decide_eq_false e]; rfl
theorem Buf.Ok.hits {B : Buf} (h : B.Ok) (a p : Int) (i : Nat) : (!decide ((B.ln i).a = 0) && decide ((B.ln i).a = a) && decide ((B.ln i).p = p)) = B.hit a p i := by
  rw [h.empty i]
  unfold Buf.ln Buf.hit
  cases e : B i with
  | none => rfl
  | some l =>
    show (true && decide (l.a = a) && decide (l.p = p)) = (decide (l.a = a) && decide (l.p = p))
    rw [Bool.true_and]
def BufAt (w : World) (A : Nat) (B : Buf) : Prop := w.heap[A]? = some (.cells (rowC Ln.c B.ln 8).toArray 107 (0, 0))
theorem BufAt.kept {S : Nat → Prop} {w w' : World} {A : Nat} {B : Buf} (h : BufAt w A B) (u : Upd S w w') (hs : ¬ S A) : BufAt w' A B := u.at h hs
theorem BufAt.alloc {w : World} {A : Nat} {B : Buf} (h : BufAt w A B) (o : Obj) : BufAt (w.alloc o) A B := h.kept ((Upd.refl (fun _ => False) w).alloc o) id
theorem size_ln : (Tryd.prog.info? 41).map (·.size) = some 4 := by kernel_rfl
theorem size_lns : (Tryd.prog.info? 42).map (·.size) = some 32 := by kernel_rfl
theorem ln_sz (a p f : Int) (b : Bool) : (#[.int .i64 a, .int .i64 p, .int .i64 f, .bool b] : Array Value).size = 4 := rfl
theorem ln_one (a p f : Int) (b : Bool) : (#[.int .i64 a, .int .i64 p, .int .i64 f, .bool b] : Array Value).all (·.oneCell') = true := by simp [Value.oneCell']
theorem ln_ls (a p f : Int) (b : Bool) : (#[.int .i64 a, .int .i64 p, .int .i64 f, .bool b] : Array Value).toList = [.int .i64 a, .int .i64 p, .int .i64 f, .bool b] := rfl
theorem ln_len (a p f : Int) (b : Bool) : ([.int .i64 a, .int .i64 p, .int .i64 f, .bool b] : List Value).length = 4 := rfl
theorem rangeAt_of {w : World} {A t : Nat} {C : List Value} (h : w.heap[A]? = some (.cells C.toArray t (0, 0))) (o : Nat) (cs : List Value) (hc : ∀ j, j < cs.length → C[o + j]? = cs[j]?) : w.rangeAt A o cs := by
  intro j v hv
  have hj : j < cs.length := (List.getElem?_eq_some_iff.1 hv).1
  rw [cell_of_row w A _ _ _ _ h, List.getElem?_toArray, hc j hj, hv]
theorem there_of {w : World} {A t : Nat} {C : List Value} (h : w.heap[A]? = some (.cells C.toArray t (0, 0))) (o n : Nat) (hn : o + n ≤ C.length) : w.there A o n := fun j hj =>
  ⟨by rw [cell_of_row w A _ _ _ _ h, List.getElem?_toArray, List.getElem?_eq_getElem (by omega)]; rfl, frozen_block h _⟩
theorem BufAt.range {w : World} {A : Nat} {B : Buf} (h : BufAt w A B) (i : Nat) (hi : i < 8) : w.rangeAt A (i * 4) [.int .i64 (B.ln i).a, .int .i64 (B.ln i).p, .int .i64 (B.ln i).f, .bool (B.ln i).w] :=
  rangeAt_of h _ (B.ln i).c fun j hj => rowC_at Ln.c_len _ 8 i j hi hj
theorem BufAt.rangeAll {w : World} {A : Nat} {B : Buf} (h : BufAt w A B) : w.rangeAt A 0 (rowC Ln.c B.ln 8) := rangeAt_of h 0 _ fun j _ => by rw [Nat.zero_add]
theorem BufAt.there {w : World} {A : Nat} {B : Buf} (h : BufAt w A B) (i : Nat) (hi : i < 8) : w.there A (i * 4) 4 := there_of h _ _ (by rw [rowC_len Ln.c_len]; omega)
theorem BufAt.set {w : World} {A : Nat} {B : Buf} (h : BufAt w A B) (i : Nat) (hi : i < 8) (x : Option Ln) :
    BufAt (w.setCells A (i * 4) [.int .i64 (lnOf x).a, .int .i64 (lnOf x).p, .int .i64 (lnOf x).f, .bool (lnOf x).w]) A (B.set i x) := by
  unfold BufAt
  rw [heap_setCells_same A _ [.int .i64 (lnOf x).a, .int .i64 (lnOf x).p, .int .i64 (lnOf x).f, .bool (lnOf x).w] (i * 4) w _ h (by rw [rowC_len Ln.c_len]; simp; omega), show [Value.int .i64 (lnOf x).a, .int .i64 (lnOf x).p, .int .i64 (lnOf x).f, .bool (lnOf x).w] = (lnOf x).c from rfl, rowC_set Ln.c_len (by omega) _ _ _ _ hi, Buf.ln_set]
/-- a line in a box of its own -/
def LnAt (w : World) (b : Nat) (a p f : Int) (r : Bool) : Prop := w.heap[b]? = some (.cells ([.int .i64 a, .int .i64 p, .int .i64 f, .bool r] : List Value).toArray 41 (0, 0))
theorem LnAt.range {w : World} {b : Nat} {a p f : Int} {r : Bool} (h : LnAt w b a p f r) : w.rangeAt b 0 [.int .i64 a, .int .i64 p, .int .i64 f, .bool r] := World.rangeAt_of_block h 0 4
theorem LnAt.there {w : World} {b : Nat} {a p f : Int} {r : Bool} (h : LnAt w b a p f r) : w.there b 0 4 := there_of h 0 4 (by simp)
theorem LnAt.set {w : World} {b : Nat} {a p f : Int} {r : Bool} (h : LnAt w b a p f r) (a' p' f' : Int) (r' : Bool) : LnAt (w.setCells b 0 [.int .i64 a', .int .i64 p', .int .i64 f', .bool r']) b a' p' f' r' := by
  unfold LnAt
  rw [heap_setCells_same b _ [.int .i64 a', .int .i64 p', .int .i64 f', .bool r'] 0 w _ h (by simp), splice_all _ _ (by simp)]
theorem LnAt.kept {S : Nat → Prop} {w w' : World} {b : Nat} {a p f : Int} {r : Bool} (h : LnAt w b a p f r) (u : Upd S w w') (hs : ¬ S b) : LnAt w' b a p f r := u.at h hs
/-- a line that is a result in a cell -/
theorem ret_ln {fn : Func} {p u : Tmp} (h : fn.results = #[.cell p 41, .tmp u]) (tmps : Array Value) (w : World) (b : Nat) (x y z : Int) (r : Bool) (hp : tmps.getD p undef = .pointer (some ⟨b, 0, none⟩)) (he : LnAt w b x y z r) :
    (results fn tmps).run Tryd.prog w = .ok (.tuple #[.agg #[.int .i64 x, .int .i64 y, .int .i64 z, .bool r], tmps.getD u undef]) w := by
  rw [results_cell_tmp h, hp]
  have := run_loadVar_mid w b 0 41 [.int .i64 x, .int .i64 y, .int .i64 z, .bool r] _ he.range Tryd.underlying41 rfl size_ln
  simp only [asAddr, Sem.run_pure, Result.andThen_ok]
  rw [this]
  rfl
/-- two lines compared -/
theorem run_eqLd (d : Nat) (a p f : Int) (r : Bool) (a' p' f' : Int) (r' : Bool) (w : World) :
    (Op.equalIn (d + 2) 41 (.agg #[.int .i64 a, .int .i64 p, .int .i64 f, .bool r]) (.agg #[.int .i64 a', .int .i64 p', .int .i64 f', .bool r'])).run Tryd.prog w = .ok (decide ((⟨a, p, f, r⟩ : Ln) = ⟨a', p', f', r'⟩)) w := by
  have hF : (Tryd.prog.fieldsOf 41).toList.map (fun f => (f.name == "_", f.type, f.offset)) = [(false, 3, 0), (false, 3, 1), (false, 3, 2), (false, 4, 3)] := by kernel_rfl
  rw [run_equalIn_struct w (d + 1) _ _ _ (by kernel_rfl) (by kernel_rfl)]
  have hag : ∀ (e : TypeId) (d : TypeDesc), Tryd.prog.underlying e = some d → d.isRow = false → (isAgg e).run Tryd.prog w = .ok false w := by
    intro e d he hd
    unfold isAgg
    rw [Sem.run_bind, run_underlying he w]
    cases d <;> first | rfl | cases hd
  have hpart : ∀ (e : TypeId) (d : TypeDesc), Tryd.prog.underlying e = some d → d.isRow = false → ∀ (cs : Array Value) (i : Nat) (x : Value), cs[i]? = some x → (part e cs i).run Tryd.prog w = .ok x w := by
    intro e d he hd cs i x hx
    unfold part
    rw [Sem.run_bind, hag e d he hd]
    simp only [Result.andThen_ok, Bool.false_eq_true, if_false, hx]
    rfl
  have hlen := congrArg List.length hF
  rw [List.length_map] at hlen
  generalize (Tryd.prog.fieldsOf 41).toList = L at hF hlen ⊢
  match L, hlen with
  | [g0, g1, g2, g3], _ =>
    simp only [List.map_cons, List.map_nil, List.cons.injEq, Prod.mk.injEq, and_true] at hF
    obtain ⟨⟨n0, t0, o0⟩, ⟨n1, t1, o1⟩, ⟨n2, t2, o2⟩, ⟨n3, t3, o3⟩⟩ := hF
    have n0 : g0.name ≠ "_" := by simpa using n0
    have n1 : g1.name ≠ "_" := by simpa using n1
    have n2 : g2.name ≠ "_" := by simpa using n2
    have n3 : g3.name ≠ "_" := by simpa using n3
    have ub := Tryd.underlying4
    have ui := Tryd.underlying3
    have step : ∀ (X Y : Array Value) (g : Field) (fs : List Field) (x y : Value) (q : Bool), g.name ≠ "_" → (part g.type X g.offset).run Tryd.prog w = .ok x w → (part g.type Y g.offset).run Tryd.prog w = .ok y w →
        (Op.equalIn (d + 1) g.type x y).run Tryd.prog w = .ok q w → (Op.eqFields (d + 1) X Y (g :: fs)).run Tryd.prog w = if q = true then (Op.eqFields (d + 1) X Y fs).run Tryd.prog w else .ok false w := by
      intro X Y g fs x y q hn hx hy hq
      rw [Op.eqFields, if_pos hn, Sem.run_bind, hx, Result.andThen_ok, Sem.run_bind, hy, Result.andThen_ok, Sem.run_bind, hq, Result.andThen_ok]
      cases q
      · rfl
      · rfl
    rw [step _ _ g0 _ (.int .i64 a) (.int .i64 a') (a == a') n0 (by rw [t0, o0]; exact hpart _ _ ui rfl _ _ _ rfl) (by rw [t0, o0]; exact hpart _ _ ui rfl _ _ _ rfl) (by rw [t0]; exact run_equalIn_int w d _ .i64 .i64 _ _ ui),
      step _ _ g1 _ (.int .i64 p) (.int .i64 p') (p == p') n1 (by rw [t1, o1]; exact hpart _ _ ui rfl _ _ _ rfl) (by rw [t1, o1]; exact hpart _ _ ui rfl _ _ _ rfl) (by rw [t1]; exact run_equalIn_int w d _ .i64 .i64 _ _ ui),
      step _ _ g2 _ (.int .i64 f) (.int .i64 f') (f == f') n2 (by rw [t2, o2]; exact hpart _ _ ui rfl _ _ _ rfl) (by rw [t2, o2]; exact hpart _ _ ui rfl _ _ _ rfl) (by rw [t2]; exact run_equalIn_int w d _ .i64 .i64 _ _ ui),
      step _ _ g3 _ (.bool r) (.bool r') (r == r') n3 (by rw [t3, o3]; exact hpart _ _ ub rfl _ _ _ rfl) (by rw [t3, o3]; exact hpart _ _ ub rfl _ _ _ rfl) (by rw [t3]; exact run_equalIn_bool' w d _ _ _ ub)]
    by_cases e1 : a = a'
    · by_cases e2 : p = p'
      · by_cases e3 : f = f'
        · by_cases e4 : r = r'
          · simp [e1, e2, e3, e4, Op.eqFields]
          · simp [e1, e2, e3, e4]
        · simp [e1, e2, e3]
      · simp [e1, e2]
    · simp [e1]
theorem run_eqL (a p f : Int) (r : Bool) (a' p' f' : Int) (r' : Bool) (b : Bool) (hb : decide ((⟨a, p, f, r⟩ : Ln) = ⟨a', p', f', r'⟩) = b) (w : World) :
    (Op.equalIn 10000 41 (.agg #[.int .i64 a, .int .i64 p, .int .i64 f, .bool r]) (.agg #[.int .i64 a', .int .i64 p', .int .i64 f', .bool r'])).run Tryd.prog w = .ok b w := by
  subst hb
  exact run_eqLd 9998 a p f r a' p' f' r' w
/-- an array of lines, indexed -/
theorem run_index_lns (S : Nat → Ln) (n : Nat) (kk : IntKind) (i : Nat) (hi : i < 8) (hn : n = 8) (w : World) :
    (Instr.index 42 (.agg (rowC Ln.c S n).toArray) (.int kk i)).run Tryd.prog w = .ok (.agg #[.int .i64 (S i).a, .int .i64 (S i).p, .int .i64 (S i).f, .bool (S i).w]) w := by
  subst hn
  have hz : (sizeOf 41).run Tryd.prog w = .ok 4 w := by kernel_rfl
  have hag : (isAgg 41).run Tryd.prog w = .ok true w := by kernel_rfl
  unfold Instr.index
  rw [Sem.run_bind, show (asIntOf (.int kk (i : Int))).run Tryd.prog w = .ok (kk, (i : Int)) w from rfl, Result.andThen_ok]
  simp only [Sem.run_bind, run_underlying Tryd.underlying42, Result.andThen_ok]
  rw [if_pos (by omega)]
  simp only [Sem.run_bind, hz, Result.andThen_ok, Int.toNat_natCast]
  unfold part
  rw [Sem.run_bind, hag]
  simp only [Result.andThen_ok, if_true, Sem.run_bind, hz]
  rw [Sem.run_pure]
  have e : ((rowC Ln.c S 8).toArray.extract (i * 4) (i * 4 + 4)) = #[.int .i64 (S i).a, .int .i64 (S i).p, .int .i64 (S i).f, .bool (S i).w] := by
    apply Array.ext'
    apply List.ext_getElem?
    intro j
    have hl := rowC_len Ln.c_len S 8
    by_cases hj : j < 4
    · have := rowC_at Ln.c_len S 8 i j hi hj
      simp only [List.extract_toArray, List.extract_eq_take_drop, Nat.add_sub_cancel_left]
      rw [List.getElem?_take_of_lt hj, List.getElem?_drop, this]
      rfl
    · rw [List.getElem?_eq_none (by simp; omega), List.getElem?_eq_none (by simp; omega)]
  rw [e]
/-! small functions -/
set_option maxHeartbeats 400000 in
theorem tempty_any (a p f : Int) (r : Bool) (w : World) :
    Calls Tryd.prog 63 #[.agg #[.int .i64 a, .int .i64 p, .int .i64 f, .bool r]] w fun e w' => e = .returned (.bool (decide (a = 0))) ∧ Upd (fun _ => False) w w' := by
  have U := Lib.hid (fun o => (Upd.refl (fun _ => False) w).alloc o)
  go_enter Tryd.func63, Tryd.ntmps63
  go_wp2
  go_ret
  exact ⟨rfl, U.out _⟩
set_option maxHeartbeats 400000 in
theorem tbelow_any (n k : Int) (w : World) : Calls Tryd.prog 56 #[.int .i64 n, .int .i64 k] w fun e w' => e = .returned (.bool (decide (0 ≤ n ∧ n < k))) ∧ w = w' := by
  by_cases h : 0 ≤ n
  · have hv := Lib.hid (show decide (0 ≤ n ∧ n < k) = decide (n < k) from by rw [Bool.eq_iff_iff]; simp [h])
    go_enter Tryd.func56, Tryd.ntmps56
    go_wp2
    go_ret
    exact ⟨by rw [hv.out]; rfl, rfl⟩
  · go_enter Tryd.func56, Tryd.ntmps56
    go_wp2
    go_ret
    exact ⟨by simp; omega, rfl⟩
/-- may it be put, but for the place? -/
def lineB (a p f : Int) : Bool := decide (1 ≤ a ∧ a ≤ 8 ∧ (0 ≤ p ∧ p < 4096) ∧ (0 ≤ f ∧ f < 256))
set_option maxHeartbeats 400000 in
theorem tline_any (a p f : Int) (r : Bool) (w : World) :
    Calls Tryd.prog 55 #[.agg #[.int .i64 a, .int .i64 p, .int .i64 f, .bool r]] w fun e w' => e = .returned (.bool (lineB a p f)) ∧ Upd (fun _ => False) w w' := by
  have U := Lib.hid (fun o => (Upd.refl (fun _ => False) w).alloc o)
  have c1 := Lib.hid (fun W => tbelow_any p 4096 W)
  have c2 := Lib.hid (fun W => tbelow_any f 256 W)
  have hv : Hid (lineB a p f = (decide (1 ≤ a) && (decide (a ≤ 8) && (decide (0 ≤ p ∧ p < 4096) && decide (0 ≤ f ∧ f < 256))))) := Lib.hid (by unfold lineB; rw [Bool.eq_iff_iff]; simp)
  generalize lineB a p f = x at hv ⊢
  generalize decide (0 ≤ p ∧ p < 4096) = y at hv c1
  generalize decide (0 ≤ f ∧ f < 256) = z at hv c2
  have hb := hv.out
  clear hv
  by_cases h1 : 1 ≤ a
  · by_cases h2 : a ≤ 8
    · have : x = (y && z) := by rw [hb]; simp [h1, h2]
      clear hb
      cases y
      · obtain rfl : x = false := this
        go_enter Tryd.func55, Tryd.ntmps55
        go_wp2_with (go_at_call 56; refine (c1.out _).mono ?_; rintro e w1 ⟨rfl, rfl⟩)
        go_ret
        exact ⟨rfl, U.out _⟩
      · obtain rfl : x = z := this
        go_enter Tryd.func55, Tryd.ntmps55
        go_wp2_with fail
        refine (c1.out _).mono ?_
        rintro e w1 ⟨rfl, rfl⟩
        go_wp2_with fail
        refine (c2.out _).mono ?_
        rintro e w1 ⟨rfl, rfl⟩
        go_wp2
        go_ret
        exact ⟨rfl, U.out _⟩
    · obtain rfl : x = false := by rw [hb]; simp [h1, h2]
      clear hb
      go_enter Tryd.func55, Tryd.ntmps55
      go_wp2
      go_ret
      exact ⟨rfl, U.out _⟩
  · obtain rfl : x = false := by rw [hb]; simp [h1]
    clear hb
    go_enter Tryd.func55, Tryd.ntmps55
    go_wp2
    go_ret
    exact ⟨rfl, U.out _⟩
/-- a number in a box of its own -/
def NumAt (w : World) (b : Nat) (x : Int) : Prop := w.heap[b]? = some (.cells #[.int .i64 x] 3 (0, 0))
theorem NumAt.kept {S : Nat → Prop} {w w' : World} {b : Nat} {x : Int} (h : NumAt w b x) (u : Upd S w w') (hs : ¬ S b) : NumAt w' b x := u.at h hs
theorem NumAt.cell {w : World} {b : Nat} {x : Int} (h : NumAt w b x) : w.cell? ⟨b, 0, none⟩ = some (.int .i64 x) := by rw [cell_of_row w b _ _ _ _ h]; rfl
set_option maxHeartbeats 400000 in
theorem tlsame_any (a p : Int) (w : World) :
    Calls Tryd.prog 72 #[.int .i64 a, .int .i64 p] w fun e w' => ∃ B1 B2, e = .returned (.func (.func 93) #[] #[.pointer (some ⟨B1, 0, none⟩), .pointer (some ⟨B2, 0, none⟩)]) ∧ w.heap.size ≤ B1 ∧ w.heap.size ≤ B2 ∧ NumAt w' B1 a ∧ NumAt w' B2 p ∧ Upd (fun _ => False) w w' := by
  have U := Lib.hid (fun o o' => ((Upd.refl (fun _ => False) w).alloc o).alloc o')
  have h1 : Hid (NumAt ((w.alloc (.cells #[.int .i64 a] 3)).alloc (.cells #[.int .i64 p] 3)) w.heap.size a) := Lib.hid (by unfold NumAt; rw [Below.heap_alloc _ _ _ (by simp)]; exact heap_alloc_last _ _)
  have h2 : Hid (NumAt ((w.alloc (.cells #[.int .i64 a] 3)).alloc (.cells #[.int .i64 p] 3)) (w.heap.size + 1) p) := Lib.hid (by
    have := heap_alloc_last (w.alloc (.cells #[.int .i64 a] 3)) (.cells #[.int .i64 p] 3)
    rwa [World.size_alloc] at this)
  go_enter Tryd.func72, Tryd.ntmps72
  go_wp2
  go_ret
  exact ⟨_, _, rfl, Nat.le_refl _, by omega, h1.out, h2.out, U.out _ _⟩
set_option maxHeartbeats 400000 in
theorem tsame1_any (a p f : Int) (r : Bool) (x y : Int) (B1 B2 : Nat) (w : World) (h1 : NumAt w B1 x) (h2 : NumAt w B2 y) :
    Calls Tryd.prog 93 #[.agg #[.int .i64 a, .int .i64 p, .int .i64 f, .bool r], .pointer (some ⟨B1, 0, none⟩), .pointer (some ⟨B2, 0, none⟩)] w fun e w' => e = .returned (.bool (!decide (a = 0) && decide (a = x) && decide (p = y))) ∧ Upd (fun _ => False) w w' := by
  have U := Lib.hid (fun o => (Upd.refl (fun _ => False) w).alloc o)
  have c1 := Lib.hid (fun W => tempty_any a p f r W)
  have k1 := Lib.hid (fun W (u : Upd (fun _ => False) w W) => (h1.kept u id).cell)
  have k2 := Lib.hid (fun W (u : Upd (fun _ => False) w W) => (h2.kept u id).cell)
  have k0 : Hid (LnAt (w.alloc (.cells #[.int .i64 a, .int .i64 p, .int .i64 f, .bool r] 41)) w.heap.size a p f r) := Lib.hid (heap_alloc_last w _)
  clear h1 h2
  go_enter Tryd.func93, Tryd.ntmps93
  go_wp2_with fail
  refine (c1.out _).mono ?_
  rintro e w1 ⟨rfl, u⟩
  have U1 := Lib.hid ((U.out _).trans u)
  have K1 := k1.out _ U1.out
  have K2 := k2.out _ U1.out
  have K0 : LnAt w1 w.heap.size a p f r := k0.out.kept u id
  have q0 := K0.range 0 _ rfl
  have q1 := K0.range 1 _ rfl
  clear k1 k2 k0 K0 u c1
  generalize w.heap.size = C at q0 q1 ⊢
  go_wp2
  all_goals go_ret
  all_goals exact ⟨by first | (simp_all; done) | (simp_all; rw [Bool.eq_iff_iff]; simp), U1.out⟩
set_option maxHeartbeats 400000 in
theorem tflush1_any (a p f : Int) (r : Bool) (x : Int) (B1 : Nat) (w : World) (h1 : NumAt w B1 x) :
    Calls Tryd.prog 54 #[.agg #[.int .i64 a, .int .i64 p, .int .i64 f, .bool r], .pointer (some ⟨B1, 0, none⟩)] w fun e w' => e = .returned (.bool (decide (a = x))) ∧ Upd (fun _ => False) w w' := by
  have U := Lib.hid (fun o => (Upd.refl (fun _ => False) w).alloc o)
  have k1 := Lib.hid (fun W (u : Upd (fun _ => False) w W) => (h1.kept u id).cell)
  have k2 := k1.out _ (U.out (.cells #[.int .i64 a, .int .i64 p, .int .i64 f, .bool r] 41))
  clear k1 h1
  go_enter Tryd.func54, Tryd.ntmps54
  go_wp2
  go_ret
  exact ⟨rfl, U.out _⟩
end Go.Proofs.YtfdnfllefednjaaDoor

/-
  Package tlb: the library's search over the places of a buffer; place, remove.
-/
namespace Go.Proofs.YtfdnfllefednjaaDoor
open Go.ChangeShapes Go.WideShapes Go.ChangeAt Go.RowKit Go.Shelf

/-- what is asked of a function that is asked about lines -/
structure Asks (A g : Nat) (caps : Array Value) (J : World → Prop) (q : Ln → Bool) : Prop where
  kept : ∀ W W', J W → Upd (· = A) W W' → J W'
  ask : ∀ (a p f : Int) (r : Bool) W, J W → Calls Tryd.prog g (#[.agg #[.int .i64 a, .int .i64 p, .int .i64 f, .bool r]] ++ caps) W fun e W' => e = .returned (.bool (q ⟨a, p, f, r⟩)) ∧ Upd (fun _ => False) W W'
def ixI (k : Nat) : Int := if k < 8 then k else -1
set_option maxHeartbeats 400000 in
theorem tindex_any (A g : Nat) (eg : Enters Tryd.prog g) (caps : Array Value) (J : World → Prop) (q : Ln → Bool) (hq : Asks A g caps J q) (B : Buf) (w : World) (hA : BufAt w A B) (hJ : J w) :
    Calls Tryd.prog 80 #[.slice (some ⟨A, 0, none⟩) 8 8, .func (.func g) #[] caps] w fun e W' => e = .returned (.int .i64 (ixI (Buf.first (fun i => q (B.ln i)) 8))) ∧ Upd (fun _ => False) w W' := by
  have eg2 : ∀ args w, Sem.run Tryd.prog (callFunc g args) w = .ok (.enter g args) w := eg
  go_enter Tryd.func80, Tryd.ntmps80
  go_wp2_with fail
  go_loopw [8, 5] (fun t u wr => ∃ k : Nat, k ≤ 8 ∧ t = .int .i64 k ∧ Upd (fun _ => False) w wr ∧ Hid (∀ j, j < k → q (B.ln j) = false)) (fun t _ _ => 8 - (intOf t).toNat)
  case atStart => exact ⟨0, by omega, rfl, Upd.refl _ _, Lib.hid (by omega)⟩
  case round =>
    obtain ⟨k, hk, rfl, u, hno⟩ := hrel
    by_cases hlt : k < 8
    · have hs := fun W (U : Upd (fun _ => False) w W) => hq.ask (B.ln k).a (B.ln k).p (B.ln k).f (B.ln k).w W (hq.kept _ _ hJ (U.mono fun _ _ h => h.elim))
      have hr := (hA.kept u id).range k hlt
      have hs1 := Lib.hid (hs _ u)
      clear hs
      obtain ⟨Q, hQ⟩ : ∃ Q, Q = q (B.ln k) := ⟨_, rfl⟩
      have hQ' := Lib.hid hQ
      rw [show q ⟨(B.ln k).a, (B.ln k).p, (B.ln k).f, (B.ln k).w⟩ = q (B.ln k) from rfl, ← hQ] at hs1
      clear hQ
      generalize (B.ln k).a = la at hr hs1
      generalize (B.ln k).p = lp at hr hs1
      generalize (B.ln k).f = lf at hr hs1
      generalize (B.ln k).w = lw at hr hs1
      cases Q
      · go_wp2_with (first
          | (with_reducible refine wpList_load_sz rfl 41 (.tmp 14) rfl A (k * 4) rfl [.int .i64 la, .int .i64 lp, .int .i64 lf, .bool lw] _ hr Tryd.underlying41 rfl 4 (ln_len _ _ _ _) size_ln ?_)
          | (go_at_fn g; refine hs1.out.mono ?_; rintro e W' ⟨rfl, u'⟩))
        go_roundw
        case rel => exact ⟨k + 1, by omega, by go_num, u.trans u', Lib.hid fun j hj => by
          by_cases e : j = k
          · rw [e]; exact hQ'.out.symm
          · exact hno.out j (by omega)⟩
        case measure => simp [intOf]; omega
      · go_wp2_with (first
          | (with_reducible refine wpList_load_sz rfl 41 (.tmp 14) rfl A (k * 4) rfl [.int .i64 la, .int .i64 lp, .int .i64 lf, .bool lw] _ hr Tryd.underlying41 rfl 4 (ln_len _ _ _ _) size_ln ?_)
          | (go_at_fn g; refine hs1.out.mono ?_; rintro e W' ⟨rfl, u'⟩))
        go_ret
        refine ⟨?_, u.trans u'⟩
        rw [first_of hlt hQ'.out.symm hno.out]
        unfold ixI
        rw [if_pos hlt]
        rfl
    · obtain rfl : k = 8 := by omega
      go_wp2
      go_ret
      refine ⟨?_, u⟩
      rw [first_all hno.out]
      rfl
/-! a new box -/
theorem ln_box (w : World) (a p f : Int) (r : Bool) :
    LnAt ((w.alloc (.cells #[.int .i64 0, .int .i64 0, .int .i64 0, .bool false] 41)).setCells w.heap.size 0 [.int .i64 a, .int .i64 p, .int .i64 f, .bool r]) w.heap.size a p f r ∧
    Upd (fun _ => False) w ((w.alloc (.cells #[.int .i64 0, .int .i64 0, .int .i64 0, .bool false] 41)).setCells w.heap.size 0 [.int .i64 a, .int .i64 p, .int .i64 f, .bool r]) ∧
    (w.alloc (.cells #[.int .i64 0, .int .i64 0, .int .i64 0, .bool false] 41)).there w.heap.size 0 4 := by
  have h0 : LnAt (w.alloc (.cells #[.int .i64 0, .int .i64 0, .int .i64 0, .bool false] 41)) w.heap.size 0 0 0 false := heap_alloc_last w _
  exact ⟨h0.set a p f r, Upd.setCells (.inr (Nat.le_refl _)) _ _ ((Upd.refl _ _).alloc _), h0.there⟩
/-! what is removed -/
def Buf.sel (B : Buf) (q : Ln → Bool) (j : Nat) : Bool := match B j with
  | some l => q l
  | none => false
def Buf.wipeTo (B : Buf) (q : Ln → Bool) (k : Nat) : Buf := fun j => if j < k ∧ B.sel q j = true then none else B j
def Buf.cntTo (B : Buf) (q : Ln → Bool) (k : Nat) : Nat := ((List.range k).filter (B.sel q)).length
theorem Buf.wipeTo_zero (B : Buf) (q : Ln → Bool) : B.wipeTo q 0 = B := by
  funext j; unfold Buf.wipeTo; rw [if_neg (by omega)]
theorem Buf.wipeTo_no {B : Buf} {q : Ln → Bool} {k : Nat} (h : B.sel q k = false) : B.wipeTo q (k + 1) = B.wipeTo q k := by
  funext j
  unfold Buf.wipeTo
  by_cases e : j = k
  · subst e; rw [if_neg (by rw [h]; simp), if_neg (by omega)]
  · by_cases c : j < k ∧ B.sel q j = true
    · rw [if_pos ⟨by omega, c.2⟩, if_pos c]
    · rw [if_neg (fun d => c ⟨by omega, d.2⟩), if_neg c]
theorem Buf.wipeTo_yes {B : Buf} {q : Ln → Bool} {k : Nat} (h : B.sel q k = true) : B.wipeTo q (k + 1) = (B.wipeTo q k).set k none := by
  funext j
  show (if j < k + 1 ∧ B.sel q j = true then none else B j) = if j = k then none else if j < k ∧ B.sel q j = true then none else B j
  by_cases e : j = k
  · subst e; rw [if_pos ⟨by omega, h⟩, if_pos rfl]
  · rw [if_neg e]
    by_cases c : j < k ∧ B.sel q j = true
    · rw [if_pos ⟨by omega, c.2⟩, if_pos c]
    · rw [if_neg (fun d => c ⟨by omega, d.2⟩), if_neg c]
theorem Buf.cntTo_no {B : Buf} {q : Ln → Bool} {k : Nat} (h : B.sel q k = false) : B.cntTo q (k + 1) = B.cntTo q k := by
  unfold Buf.cntTo; rw [List.range_succ, List.filter_append]; simp [h]
theorem Buf.cntTo_yes {B : Buf} {q : Ln → Bool} {k : Nat} (h : B.sel q k = true) : B.cntTo q (k + 1) = B.cntTo q k + 1 := by
  unfold Buf.cntTo; rw [List.range_succ, List.filter_append]; simp [h]
theorem Buf.cntTo_le (B : Buf) (q : Ln → Bool) (k : Nat) : B.cntTo q k ≤ k := by
  unfold Buf.cntTo; exact Nat.le_trans (List.length_filter_le _ _) (by simp)
set_option maxHeartbeats 1000000 in
theorem tremove_any (A g : Nat) (eg : Enters Tryd.prog g) (caps : Array Value) (J : World → Prop) (q : Ln → Bool) (hq : Asks A g caps J q) (B : Buf) (hB : B.Ok) (w : World) (hA : BufAt w A B) (hJ : J w) :
    Calls Tryd.prog 53 #[.pointer (some ⟨A, 0, none⟩), .func (.func g) #[] caps] w fun e W' => e = .returned (.int .i64 (B.cntTo q 8 : Nat)) ∧ BufAt W' A (B.wipeTo q 8) ∧ Upd (· = A) w W' := by
  have eg2 : ∀ args w, Sem.run Tryd.prog (callFunc g args) w = .ok (.enter g args) w := eg
  obtain ⟨X, hX⟩ : ∃ X, X = rowC Ln.c B.ln 8 := ⟨_, rfl⟩
  have hr := hA.rangeAll
  rw [← hX] at hr
  have hl : X.length = 32 := by rw [hX, rowC_len Ln.c_len]
  have hix := Lib.hid (fun (i : Nat) (hi : i < 8) (W : World) => run_index_lns B.ln 8 .i64 i hi rfl W)
  rw [← hX] at hix
  clear hX
  have h0 : BufAt w A (B.wipeTo q 0) := by rw [B.wipeTo_zero]; exact hA
  clear hA
  go_enter Tryd.func53, Tryd.ntmps53
  go_wp2_with (with_reducible refine wpList_load_sz rfl 42 (.tmp 10) rfl A 0 rfl X _ hr Tryd.underlying42 rfl 32 hl size_lns ?_)
  clear hr hl
  go_loopw [12, 5] (fun t u wr => ∃ k : Nat, k ≤ 8 ∧ t = .int .i64 k ∧ u = .int .i64 (B.cntTo q k : Nat) ∧ BufAt wr A (B.wipeTo q k) ∧ Upd (· = A) w wr) (fun t _ _ => 8 - (intOf t).toNat)
  case atStart => exact ⟨0, by omega, rfl, rfl, h0, Upd.refl _ _⟩
  case round =>
    obtain ⟨k, hk, rfl, rfl, hA, u⟩ := hrel
    by_cases hlt : k < 8
    · have hi := hix.out k hlt
      have hc := B.cntTo_le q k
      have hq1 := Lib.hid (fun W (U : Upd (· = A) w W) => hq.ask (B.ln k).a (B.ln k).p (B.ln k).f (B.ln k).w W (hq.kept _ _ hJ U))
      have hem := Lib.hid (hB.empty k)
      have hsel : Hid (B k ≠ none → B.sel q k = q (B.ln k)) := Lib.hid (by unfold Buf.sel Buf.ln; cases B k with | none => intro h; exact absurd rfl h | some l => intro _; rfl)
      have hsel0 : Hid (B k = none → B.sel q k = false) := Lib.hid (by unfold Buf.sel; intro h; rw [h])
      obtain ⟨Q, hQ⟩ : ∃ Q, Q = q (B.ln k) := ⟨_, rfl⟩
      rw [show q ⟨(B.ln k).a, (B.ln k).p, (B.ln k).f, (B.ln k).w⟩ = q (B.ln k) from rfl, ← hQ] at hq1
      rw [← hQ] at hsel
      clear hQ hix
      obtain ⟨b1, b2, b3⟩ := ln_box wr (B.ln k).a (B.ln k).p (B.ln k).f (B.ln k).w
      have e1 := Lib.hid (fun W => tempty_any (B.ln k).a (B.ln k).p (B.ln k).f (B.ln k).w W)
      generalize (B.ln k).a = la at hi hq1 hem b1 b2 b3 e1
      generalize (B.ln k).p = lp at hi hq1 b1 b2 b3 e1
      generalize (B.ln k).f = lf at hi hq1 b1 b2 b3 e1
      generalize (B.ln k).w = lw at hi hq1 b1 b2 b3 e1
      obtain ⟨V, hV⟩ : ∃ V, V = decide (la = 0) := ⟨_, rfl⟩
      rw [← hV] at hem e1
      clear hV
      have A1 : Hid (BufAt _ A (B.wipeTo q k)) := Lib.hid (hA.kept b2 id)
      have U1 : Hid (Upd (· = A) w _) := Lib.hid (u.trans (b2.mono fun _ _ h => h.elim))
      have B1 := Lib.hid b1
      have B3 := Lib.hid b3
      clear b1 b2 b3
      go_upto_region 5 with (first
        | (with_reducible refine wpList_store_sz rfl 41 (.tmp 7) (.tmp 15) rfl wr.heap.size 0 #[.int .i64 la, .int .i64 lp, .int .i64 lf, .bool lw] rfl rfl 4 (ln_sz _ _ _ _) B3.out size_ln (ln_one _ _ _ _) [.int .i64 la, .int .i64 lp, .int .i64 lf, .bool lw] (ln_ls _ _ _ _) ?_))
      clear B3 hi u hA h0
      generalize (wr.alloc (.cells #[.int .i64 0, .int .i64 0, .int .i64 0, .bool false] 41)).setCells wr.heap.size 0 [.int .i64 la, .int .i64 lp, .int .i64 lf, .bool lw] = w1 at A1 U1 B1 ⊢
      generalize wr.heap.size = C at B1 ⊢
      have r1 := B1.out.range
      go_wp2_with (with_reducible refine wpList_load_sz rfl 41 (.tmp 7) rfl C 0 rfl [.int .i64 la, .int .i64 lp, .int .i64 lf, .bool lw] _ r1 Tryd.underlying41 rfl 4 (ln_len _ _ _ _) size_ln ?_)
      refine (e1.out _).mono ?_
      rintro e w2 ⟨rfl, u2⟩
      have A2 : Hid (BufAt w2 A (B.wipeTo q k)) := Lib.hid (A1.out.kept u2 id)
      have U2 : Hid (Upd (· = A) w w2) := Lib.hid (U1.out.trans (u2.mono fun _ _ h => h.elim))
      have r2 := (B1.out.kept u2 id).range
      clear A1 U1 r1 B1 e1 u2
      cases V
      · have hne : B k ≠ none := fun h => by have := hem.out; rw [h] at this; cases this
        have hs : Hid (B.sel q k = Q) := Lib.hid (hsel.out hne)
        have q1 := Lib.hid (hq1.out _ U2.out)
        clear hq1 hsel hsel0 hne hem
        cases Q
        · go_wp2_with (first
            | (with_reducible refine wpList_load_sz rfl 41 (.tmp 7) rfl C 0 rfl [.int .i64 la, .int .i64 lp, .int .i64 lf, .bool lw] _ r2 Tryd.underlying41 rfl 4 (ln_len _ _ _ _) size_ln ?_)
            | (go_at_fn g; refine q1.out.mono ?_; rintro e w3 ⟨rfl, u3⟩))
          go_roundw
          case rel => exact ⟨k + 1, by omega, by go_num, by rw [Buf.cntTo_no hs.out], by rw [Buf.wipeTo_no hs.out]; exact A2.out.kept u3 id, U2.out.trans (u3.mono fun _ _ h => h.elim)⟩
          case measure => simp [intOf]; omega
        · go_upto_region 6 with (first
            | (with_reducible refine wpList_load_sz rfl 41 (.tmp 7) rfl C 0 rfl [.int .i64 la, .int .i64 lp, .int .i64 lf, .bool lw] _ r2 Tryd.underlying41 rfl 4 (ln_len _ _ _ _) size_ln ?_)
            | (go_at_fn g; refine q1.out.mono ?_; rintro e w3 ⟨rfl, u3⟩))
          have A3 : Hid (BufAt w3 A (B.wipeTo q k)) := Lib.hid (A2.out.kept u3 id)
          have U3 : Hid (Upd (· = A) w w3) := Lib.hid (U2.out.trans (u3.mono fun _ _ h => h.elim))
          clear A2 U2 r2 q1 u3
          have T3 := A3.out.there k hlt
          go_upto_region 7 with (first
            | (with_reducible refine wpList_store_sz rfl 41 (.tmp 29) (.tmp 26) rfl A (k * 4) #[.int .i64 0, .int .i64 0, .int .i64 0, .bool false] rfl rfl 4 (ln_sz _ _ _ _) T3 size_ln (ln_one _ _ _ _) [.int .i64 0, .int .i64 0, .int .i64 0, .bool false] (ln_ls _ _ _ _) ?_))
          have A4 : Hid (BufAt (w3.setCells A (k * 4) [.int .i64 0, .int .i64 0, .int .i64 0, .bool false]) A ((B.wipeTo q k).set k none)) := Lib.hid (A3.out.set k hlt none)
          have U4 : Hid (Upd (· = A) w (w3.setCells A (k * 4) [.int .i64 0, .int .i64 0, .int .i64 0, .bool false])) := Lib.hid (Upd.setCells (S := (· = A)) (.inl rfl) _ _ U3.out)
          clear A3 U3 T3
          generalize w3.setCells A (k * 4) [.int .i64 0, .int .i64 0, .int .i64 0, .bool false] = w4 at A4 U4 ⊢
          go_wp2
          go_roundw
          case rel => exact ⟨k + 1, by omega, by go_num, by rw [Buf.cntTo_yes hs.out]; go_num, by rw [Buf.wipeTo_yes hs.out]; exact A4.out, U4.out⟩
          case measure => simp [intOf]; omega
      · have hs : Hid (B.sel q k = false) := Lib.hid (hsel0.out (by have := hem.out; cases h : B k with | none => rfl | some l => rw [h] at this; cases this))
        clear hq1 hsel hsel0 hem
        go_wp2
        go_roundw
        case rel => exact ⟨k + 1, by omega, by go_num, by rw [Buf.cntTo_no hs.out], by rw [Buf.wipeTo_no hs.out]; exact A2.out, U2.out⟩
        case measure => simp [intOf]; omega
    · obtain rfl : k = 8 := by omega
      go_wp2
      go_ret
      exact ⟨rfl, hA, u⟩
end Go.Proofs.YtfdnfllefednjaaDoor

/-
  Package tlb: place, Find, Put, Drop, Flush, Clear.
-/
namespace Go.Proofs.YtfdnfllefednjaaDoor
open Go.ChangeShapes Go.WideShapes Go.ChangeAt Go.RowKit Go.Shelf

def qSame (a p : Int) (l : Ln) : Bool := !decide (l.a = 0) && decide (l.a = a) && decide (l.p = p)
theorem asks_same (A : Nat) (a p : Int) (B1 B2 : Nat) (h1 : B1 ≠ A) (h2 : B2 ≠ A) : Asks A 93 #[.pointer (some ⟨B1, 0, none⟩), .pointer (some ⟨B2, 0, none⟩)] (fun W => NumAt W B1 a ∧ NumAt W B2 p) (qSame a p) where
  kept := fun _ _ h u => ⟨h.1.kept u h1, h.2.kept u h2⟩
  ask := fun x y z r W h => tsame1_any x y z r a p B1 B2 W h.1 h.2
theorem asks_empty (A : Nat) : Asks A 63 #[] (fun _ => True) (fun l => decide (l.a = 0)) where
  kept := fun _ _ _ _ => trivial
  ask := fun x y z r W _ => tempty_any x y z r W
theorem asks_flush (A : Nat) (a : Int) (B1 : Nat) (h1 : B1 ≠ A) : Asks A 54 #[.pointer (some ⟨B1, 0, none⟩)] (fun W => NumAt W B1 a) (fun l => decide (l.a = a)) where
  kept := fun _ _ h u => h.kept u h1
  ask := fun x y z r W h => tflush1_any x y z r a B1 W h
theorem Buf.Ok.first_same {B : Buf} (h : B.Ok) (a p : Int) : Buf.first (fun i => qSame a p (B.ln i)) 8 = B.at a p := by
  unfold Buf.at
  congr 1
  funext i
  exact h.hits a p i
theorem Buf.Ok.first_empty {B : Buf} (h : B.Ok) : Buf.first (fun i => decide ((B.ln i).a = 0)) 8 = B.gap := by
  unfold Buf.gap
  congr 1
  funext i
  exact h.empty i
theorem Upd.sub {S : Nat → Prop} {a b : World} (h : Upd (fun _ => False) a b) : Upd S a b := h.mono fun _ _ h => h.elim
/-- the search for a line, from a world in which the function was made -/
theorem tfind_ix (A : Nat) (B : Buf) (hB : B.Ok) (a p : Int) (B1 B2 : Nat) (w : World) (hA : BufAt w A B) (h1 : B1 ≠ A) (h2 : B2 ≠ A) (n1 : NumAt w B1 a) (n2 : NumAt w B2 p) :
    Calls Tryd.prog 80 #[.slice (some ⟨A, 0, none⟩) 8 8, .func (.func 93) #[] #[.pointer (some ⟨B1, 0, none⟩), .pointer (some ⟨B2, 0, none⟩)]] w fun e W' => e = .returned (.int .i64 (ixI (B.at a p))) ∧ Upd (fun _ => False) w W' := by
  have := tindex_any A 93 (enters_of Tryd.func93 (by kernel_rfl) rfl) _ _ _ (asks_same A a p B1 B2 h1 h2) B w hA ⟨n1, n2⟩
  rwa [hB.first_same] at this
theorem tgap_ix (A : Nat) (B : Buf) (hB : B.Ok) (w : World) (hA : BufAt w A B) :
    Calls Tryd.prog 80 #[.slice (some ⟨A, 0, none⟩) 8 8, .func (.func 63) #[] #[]] w fun e W' => e = .returned (.int .i64 (ixI B.gap)) ∧ Upd (fun _ => False) w W' := by
  have := tindex_any A 63 (enters_of Tryd.func63 (by kernel_rfl) rfl) _ _ _ (asks_empty A) B w hA trivial
  rwa [hB.first_empty] at this
theorem BufAt.lt {w : World} {A : Nat} {B : Buf} (h : BufAt w A B) : A < w.heap.size := lt_of_heap h
set_option maxHeartbeats 1000000 in
theorem tplace_any (A : Nat) (B : Buf) (hB : B.Ok) (la lp lf : Int) (lw : Bool) (at' : Int) (w : World) (hA : BufAt w A B) (hp : putOk ⟨la, lp, lf, lw⟩ at' = true) :
    Calls Tryd.prog 57 #[.pointer (some ⟨A, 0, none⟩), .agg #[.int .i64 la, .int .i64 lp, .int .i64 lf, .bool lw], .int .i64 at'] w fun e w' => e = .returned (.int .i64 (B.place ⟨la, lp, lf, lw⟩ at' : Nat)) ∧ Upd (fun _ => False) w w' := by
  have hpl : Hid (B.place ⟨la, lp, lf, lw⟩ at' = if B.at la lp < 8 then B.at la lp else if B.gap < 8 then B.gap else at'.toNat) := Lib.hid rfl
  have hat := Lib.hid (show ((at'.toNat : Nat) : Int) = at' from by have := of_decide_eq_true hp; omega)
  clear hp
  generalize B.place ⟨la, lp, lf, lw⟩ at' = R at hpl ⊢
  have k0 : Hid (LnAt (w.alloc (.cells #[.int .i64 la, .int .i64 lp, .int .i64 lf, .bool lw] 41)) w.heap.size la lp lf lw) := Lib.hid (heap_alloc_last w _)
  have U0 := Lib.hid ((Upd.refl (fun _ => False) w).alloc (.cells #[.int .i64 la, .int .i64 lp, .int .i64 lf, .bool lw] 41))
  have HA := Lib.hid hA
  have cS := Lib.hid (fun W => tlsame_any la lp W)
  have cI := Lib.hid (fun B1 B2 W (hA : BufAt W A B) h1 h2 n1 n2 => tfind_ix A B hB la lp B1 B2 W hA h1 h2 n1 n2)
  have cG := Lib.hid (fun W (hA : BufAt W A B) => tgap_ix A B hB W hA)
  have hlt := hA.lt
  clear hA
  generalize B.at la lp = I at hpl cI
  generalize B.gap = G at hpl cG
  go_enter Tryd.func57, Tryd.ntmps57
  go_upto_region 1 with fail
  obtain ⟨w0, hw0⟩ : ∃ w0, w0 = w.alloc (.cells #[.int .i64 la, .int .i64 lp, .int .i64 lf, .bool lw] 41) := ⟨_, rfl⟩
  rw [← hw0] at k0 U0 ⊢
  clear hw0
  have hA0 := Lib.hid (HA.out.kept U0.out id)
  generalize w.heap.size = C at k0 ⊢
  have c0 := k0.out.range 0 _ rfl
  have c1 := k0.out.range 1 _ rfl
  have hS := Lib.hid (show ∀ (W' : World), Upd (fun _ => False) w0 W' → W'.cell? ⟨C, 0, none⟩ = some (.int .i64 la) ∧ W'.cell? ⟨C, 1, none⟩ = some (.int .i64 lp) ∧ Upd (fun _ => False) w0 W' from fun W' u => ⟨u.cell c0 id, u.cell c1 id, u⟩)
  go_cut [7] from 7 to 18 (fun s7 wx => s7 = .int .i64 (ixI I) ∧ Upd (fun _ => False) w0 wx)
  case first =>
    go_region_held3 (fun w' => w'.cell? ⟨C, 0, none⟩ = some (.int .i64 la) ∧ w'.cell? ⟨C, 1, none⟩ = some (.int .i64 lp) ∧ Upd (fun _ => False) w0 w')
      (first
        | assumption
        | exact hS.out _ (Upd.refl _ _).drew
        | exact hS.out _ u7
        | exact hS.out _ u8)
      (first
        | (go_at_call 72; go_split_ands; rename_i s1 s2 s3; refine (cS.out _).mono ?_; rintro e w2 ⟨B1, B2, rfl, g1, g2, n1, n2, u2⟩; have u7 := s3.trans u2; have l1 := Nat.ne_of_gt (Nat.lt_of_lt_of_le hA0.out.lt (Nat.le_trans s3.size g1)); have l2 := Nat.ne_of_gt (Nat.lt_of_lt_of_le hA0.out.lt (Nat.le_trans s3.size g2)))
        | (go_at_call 80; refine (cI.out _ _ _ (hA0.out.kept u7 id) l1 l2 n1 n2).mono ?_; rintro e w3 ⟨rfl, u3⟩; have u8 := u7.trans u3))
    all_goals (go_wp2_with fail)
    all_goals go_meet
    all_goals exact ⟨rfl, u8⟩
  case rest =>
    obtain ⟨rfl, u1⟩ := hcut
    have U1 := Lib.hid (U0.out.trans u1)
    have hA1 := Lib.hid (hA0.out.kept u1 id)
    clear u1 hS c0 c1 cS cI k0 U0 hA0 HA
    by_cases hI : I < 8
    · have hx : ixI I = (I : Int) := by unfold ixI; rw [if_pos hI]
      rw [hx]
      obtain rfl : R = I := by rw [hpl.out, if_pos hI]
      clear hpl cG hx
      go_wp2
      go_ret
      exact ⟨rfl, U1.out⟩
    · have hx : ixI I = -1 := by unfold ixI; rw [if_neg hI]
      rw [hx]
      have hp2 : Hid (R = if G < 8 then G else at'.toNat) := Lib.hid (by rw [hpl.out, if_neg hI])
      clear hpl hx hI
      go_wp2_with fail
      refine (cG.out _ hA1.out).mono ?_
      rintro e w2 ⟨rfl, u2⟩
      have U2 := Lib.hid (U1.out.trans u2)
      clear u2 U1 cG hA1
      by_cases hG : G < 8
      · have hx : ixI G = (G : Int) := by unfold ixI; rw [if_pos hG]
        rw [hx]
        obtain rfl : R = G := by rw [hp2.out, if_pos hG]
        clear hp2 hx hat
        go_wp2
        go_ret
        exact ⟨rfl, U2.out⟩
      · have hx : ixI G = -1 := by unfold ixI; rw [if_neg hG]
        rw [hx]
        have hR : Hid ((R : Int) = at') := Lib.hid (by rw [hp2.out, if_neg hG]; exact hat.out)
        clear hp2 hx hG hat
        go_wp2
        go_ret
        exact ⟨by rw [hR.out]; rfl, U2.out⟩
set_option maxHeartbeats 1000000 in
theorem tfind_any (A : Nat) (B : Buf) (hB : B.Ok) (a p : Int) (w : World) (hA : BufAt w A B) :
    Calls Tryd.prog 75 #[.pointer (some ⟨A, 0, none⟩), .int .i64 a, .int .i64 p] w fun e w' => e = .returned (.tuple #[(lnOf (B.find a p)).val, .bool (B.find a p).isSome]) ∧ Upd (fun _ => False) w w' := by
  have hfd : Hid (B.find a p = if B.at a p < 8 then B (B.at a p) else none) := Lib.hid rfl
  have hno : Hid (B.at a p < 8 → ∃ l, B (B.at a p) = some l) := Lib.hid (fun h => by
    obtain ⟨l, e, _⟩ := Buf.hit_iff.1 (first_lt (q := B.hit a p) h).1
    exact ⟨l, e⟩)
  generalize B.find a p = F at hfd ⊢
  have k0 : Hid (LnAt (w.alloc (.cells #[.int .i64 0, .int .i64 0, .int .i64 0, .bool false] 41)) w.heap.size 0 0 0 false) := Lib.hid (heap_alloc_last w _)
  have U0 := Lib.hid ((Upd.refl (fun _ => False) w).alloc (.cells #[.int .i64 0, .int .i64 0, .int .i64 0, .bool false] 41))
  have HA := Lib.hid hA
  have cS := Lib.hid (fun W => tlsame_any a p W)
  have cI := Lib.hid (fun B1 B2 W (hA : BufAt W A B) h1 h2 n1 n2 => tfind_ix A B hB a p B1 B2 W hA h1 h2 n1 n2)
  clear hA
  generalize B.at a p = I at hfd hno cI
  go_enter Tryd.func75, Tryd.ntmps75
  go_upto_region 1 with fail
  obtain ⟨w0, hw0⟩ : ∃ w0, w0 = w.alloc (.cells #[.int .i64 0, .int .i64 0, .int .i64 0, .bool false] 41) := ⟨_, rfl⟩
  rw [← hw0] at k0 U0 ⊢
  clear hw0
  have hA0 := Lib.hid (HA.out.kept U0.out id)
  have hC : Hid (w.heap.size ≤ w.heap.size) := Lib.hid (Nat.le_refl _)
  obtain ⟨C, hCe⟩ : ∃ C, C = w.heap.size := ⟨_, rfl⟩
  rw [← hCe] at k0 ⊢
  have hC : Hid (w.heap.size ≤ C) := Lib.hid (Nat.le_of_eq hCe.symm)
  clear hCe
  go_cut [8] from 8 to 16 (fun s7 wx => s7 = .int .i64 (ixI I) ∧ Upd (fun _ => False) w0 wx)
  case first =>
    go_region_held3 (fun w' => True ∧ Upd (fun _ => False) w0 w')
      (first
        | assumption
        | exact ⟨trivial, (Upd.refl _ _).drew⟩
        | exact ⟨trivial, u7⟩
        | exact ⟨trivial, u8⟩)
      (first
        | (go_at_call 72; go_split_ands; rename_i s3; refine (cS.out _).mono ?_; rintro e w2 ⟨B1, B2, rfl, g1, g2, n1, n2, u2⟩; have u7 := s3.trans u2; have l1 := Nat.ne_of_gt (Nat.lt_of_lt_of_le hA0.out.lt (Nat.le_trans s3.size g1)); have l2 := Nat.ne_of_gt (Nat.lt_of_lt_of_le hA0.out.lt (Nat.le_trans s3.size g2)))
        | (go_at_call 80; refine (cI.out _ _ _ (hA0.out.kept u7 id) l1 l2 n1 n2).mono ?_; rintro e w3 ⟨rfl, u3⟩; have u8 := u7.trans u3))
    all_goals (go_wp2_with fail)
    all_goals go_meet
    all_goals exact ⟨rfl, u8⟩
  case rest =>
    obtain ⟨rfl, u1⟩ := hcut
    have U1 := Lib.hid (U0.out.trans u1)
    have hA1 := Lib.hid (hA0.out.kept u1 id)
    have k1 := Lib.hid (k0.out.kept u1 id)
    clear u1 cS cI k0 U0 hA0 HA
    by_cases hI : I < 8
    · have hx : ixI I = (I : Int) := by unfold ixI; rw [if_pos hI]
      rw [hx]
      obtain ⟨l, hl⟩ := hno.out hI
      have hr := hA1.out.range I hI
      rw [show B.ln I = l from by unfold Buf.ln; rw [hl]; rfl] at hr
      have hF := Lib.hid (show F = some l from by rw [hfd.out, if_pos hI, hl])
      clear hfd hx hno hl hA1
      obtain ⟨la, lp, lf, lw⟩ := l
      simp only at hr
      have K := k1.out.there
      go_wp2_with (first
        | (with_reducible refine wpList_load_sz rfl 41 (.tmp 24) rfl A (I * 4) rfl [.int .i64 la, .int .i64 lp, .int .i64 lf, .bool lw] _ hr Tryd.underlying41 rfl 4 (ln_len _ _ _ _) size_ln ?_)
        | (with_reducible refine wpList_store_sz rfl 41 (.tmp 6) (.tmp 25) rfl C 0 #[.int .i64 la, .int .i64 lp, .int .i64 lf, .bool lw] rfl rfl 4 (ln_sz _ _ _ _) K size_ln (ln_one _ _ _ _) [.int .i64 la, .int .i64 lp, .int .i64 lf, .bool lw] (ln_ls _ _ _ _) ?_))
      (try simp only [Exit.inBlock, Exit.then])
      refine bodyPost_ret (ret_ln rfl _ _ C la lp lf lw rfl (k1.out.set la lp lf lw)) rfl ⟨?_, ?_⟩
      · rw [hF.out]; rfl
      · exact Upd.setCells (.inr hC.out) _ _ U1.out
    · have hx : ixI I = -1 := by unfold ixI; rw [if_neg hI]
      rw [hx]
      have hF := Lib.hid (show F = none from by rw [hfd.out, if_neg hI])
      clear hfd hx hno hA1
      have K := k1.out.there
      go_wp2_with (with_reducible refine wpList_store_sz rfl 41 (.tmp 6) (.tmp 19) rfl C 0 #[.int .i64 0, .int .i64 0, .int .i64 0, .bool false] rfl rfl 4 (ln_sz _ _ _ _) K size_ln (ln_one _ _ _ _) [.int .i64 0, .int .i64 0, .int .i64 0, .bool false] (ln_ls _ _ _ _) ?_)
      (try simp only [Exit.inBlock, Exit.then])
      refine bodyPost_ret (ret_ln rfl _ _ C 0 0 0 false rfl (k1.out.set 0 0 0 false)) rfl ⟨?_, ?_⟩
      · rw [hF.out]; rfl
      · exact Upd.setCells (.inr hC.out) _ _ U1.out
end Go.Proofs.YtfdnfllefednjaaDoor

/-
  Package tlb: New, Drop, Flush, Clear, Put, Lines.
-/
namespace Go.Proofs.YtfdnfllefednjaaDoor
open Go.ChangeShapes Go.WideShapes Go.ChangeAt Go.RowKit Go.Shelf

theorem Buf.Ok.sel_same {B : Buf} (a p : Int) (h : B.Ok) (j : Nat) : B.sel (qSame a p) j = B.hit a p j := by
  rw [← h.hits a p j]
  unfold Buf.sel Buf.ln
  cases e : B j with
  | none => rfl
  | some l => rfl
theorem Buf.at_lt {B : Buf} {a p : Int} {i : Nat} (hi : i < 8) (h : B.hit a p i = true) : B.at a p < 8 := by
  have := first_le (B.hit a p) 8
  by_cases c : Buf.first (B.hit a p) 8 = 8
  · have := first_none c i hi; rw [h] at this; cases this
  · show Buf.first (B.hit a p) 8 < 8; omega
theorem Buf.Ok.hit_one {B : Buf} (h : B.Ok) {a p : Int} {j : Nat} (hh : B.hit a p j = true) : B.at a p = j := by
  obtain ⟨l, e, rfl, rfl⟩ := Buf.hit_iff.1 hh
  exact h.at_of e
theorem Buf.Ok.wipe_drop {B : Buf} (h : B.Ok) (a p : Int) : B.wipeTo (qSame a p) 8 = B.drop a p := by
  funext j
  unfold Buf.wipeTo Buf.drop
  rw [h.sel_same a p j]
  by_cases hh : B.hit a p j = true
  · have ha := h.hit_one hh
    obtain ⟨l, e, _⟩ := Buf.hit_iff.1 hh
    have hj := h.lt j l e
    rw [if_pos ⟨hj, hh⟩, if_pos (by omega), ha]
    show none = if j = j then none else B j
    rw [if_pos rfl]
  · rw [if_neg (fun c => hh c.2)]
    split
    · rename_i hlt
      show B j = if j = B.at a p then none else B j
      rw [if_neg]
      rintro rfl
      exact hh (first_lt (q := B.hit a p) hlt).1
    · rfl
theorem Buf.Ok.cnt_drop {B : Buf} (h : B.Ok) (a p : Int) : decide (0 < B.cntTo (qSame a p) 8) = decide (B.at a p < 8) := by
  rw [Bool.eq_iff_iff, decide_eq_true_eq, decide_eq_true_eq]
  unfold Buf.cntTo
  rw [show B.sel (qSame a p) = B.hit a p from funext (h.sel_same a p)]
  constructor
  · intro hc
    obtain ⟨i, hi⟩ := List.length_pos_iff_exists_mem.1 (show 0 < ((List.range 8).filter (B.hit a p)).length by omega)
    obtain ⟨h1, h2⟩ := List.mem_filter.1 hi
    exact Buf.at_lt (List.mem_range.1 h1) h2
  · intro hc
    have := (first_lt (q := B.hit a p) hc).1
    have hm : B.at a p ∈ (List.range 8).filter (B.hit a p) := List.mem_filter.2 ⟨List.mem_range.2 hc, this⟩
    have := List.length_pos_of_mem hm
    omega
theorem Buf.Ok.wipe_flush {B : Buf} (h : B.Ok) (a : Int) : B.wipeTo (fun l => decide (l.a = a)) 8 = B.flush a := by
  funext j
  unfold Buf.wipeTo Buf.flush Buf.sel
  cases e : B j with
  | none => simp
  | some l =>
    have := h.lt j l e
    by_cases c : l.a = a
    · simp [c, this]
    · simp [c]
theorem Buf.cnt_flush (B : Buf) (a : Int) : B.cntTo (fun l => decide (l.a = a)) 8 = B.many a 8 := rfl
theorem Buf.Ok.wipe_all {B : Buf} (h : B.Ok) : B.wipeTo (fun _ => true) 8 = buf0 := by
  funext j
  unfold Buf.wipeTo Buf.sel buf0
  cases e : B j with
  | none => simp
  | some l => simp [h.lt j l e]
set_option maxHeartbeats 400000 in
theorem tnew_any (w : World) : Calls Tryd.prog 39 #[] w fun e w' => ∃ A, e = .returned (.pointer (some ⟨A, 0, none⟩)) ∧ w.heap.size ≤ A ∧ BufAt w' A buf0 ∧ Upd (fun _ => False) w w' := by
  have hz : ∀ w : World, (zeroValue 107).run Tryd.prog w = .ok (.agg (rowC Ln.c buf0.ln 8).toArray) w := fun w => by kernel_rfl
  generalize hX : (rowC Ln.c buf0.ln 8).toArray = X at hz
  have h0 : Hid (BufAt (w.alloc (.cells X 107)) w.heap.size buf0) := Lib.hid (by unfold BufAt; rw [hX]; exact heap_alloc_last _ _)
  have U := Lib.hid ((Upd.refl (fun _ => False) w).alloc (.cells X 107))
  clear hX
  go_enter Tryd.func39, Tryd.ntmps39
  go_wp2
  go_ret
  exact ⟨_, rfl, Nat.le_refl _, h0.out, U.out⟩
set_option maxHeartbeats 400000 in
theorem tdrop_any (A : Nat) (B : Buf) (hB : B.Ok) (a p : Int) (w : World) (hA : BufAt w A B) :
    Calls Tryd.prog 33 #[.pointer (some ⟨A, 0, none⟩), .int .i64 a, .int .i64 p] w fun e w' => e = .returned (.bool (decide (B.at a p < 8))) ∧ BufAt w' A (B.drop a p) ∧ Upd (· = A) w w' := by
  have hr := Lib.hid (fun B1 B2 W (hA : BufAt W A B) (h1 : B1 ≠ A) (h2 : B2 ≠ A) n1 n2 => tremove_any A 93 (enters_of Tryd.func93 (by kernel_rfl) rfl) _ _ _ (asks_same A a p B1 B2 h1 h2) B hB W hA ⟨n1, n2⟩)
  rw [hB.wipe_drop] at hr
  have hc := Lib.hid (hB.cnt_drop a p)
  generalize B.cntTo (qSame a p) 8 = k at hr hc
  generalize decide (B.at a p < 8) = R at hc ⊢
  have cS := Lib.hid (fun W => tlsame_any a p W)
  go_enter Tryd.func33, Tryd.ntmps33
  go_wp2_with fail
  refine (cS.out _).mono ?_
  rintro e w2 ⟨B1, B2, rfl, g1, g2, n1, n2, u2⟩
  have l := hA.lt
  go_wp2_with fail
  refine (hr.out B1 B2 _ (hA.kept u2 id) (by omega) (by omega) n1 n2).mono ?_
  rintro e w3 ⟨rfl, hA3, u3⟩
  go_wp2
  go_ret
  exact ⟨by rw [← hc.out]; rfl, hA3, u2.sub.trans u3⟩
set_option maxHeartbeats 400000 in
theorem tflush_any (A : Nat) (B : Buf) (hB : B.Ok) (a : Int) (w : World) (hA : BufAt w A B) :
    Calls Tryd.prog 19 #[.pointer (some ⟨A, 0, none⟩), .int .i64 a] w fun e w' => e = .returned (.int .i64 (B.many a 8 : Nat)) ∧ BufAt w' A (B.flush a) ∧ Upd (· = A) w w' := by
  have hr := Lib.hid (fun B1 W (hA : BufAt W A B) (h1 : B1 ≠ A) n1 => tremove_any A 54 (enters_of Tryd.func54 (by kernel_rfl) rfl) _ _ _ (asks_flush A a B1 h1) B hB W hA n1)
  rw [hB.wipe_flush, B.cnt_flush] at hr
  generalize B.many a 8 = k at hr ⊢
  have n1 : Hid (NumAt (w.alloc (.cells #[.int .i64 a] 3)) w.heap.size a) := Lib.hid (heap_alloc_last w _)
  have U0 := Lib.hid ((Upd.refl (fun _ => False) w).alloc (.cells #[.int .i64 a] 3))
  have l := hA.lt
  go_enter Tryd.func19, Tryd.ntmps19
  go_wp2_with fail
  refine (hr.out _ _ (hA.kept U0.out id) (by omega) n1.out).mono ?_
  rintro e w3 ⟨rfl, hA3, u3⟩
  go_wp2
  go_ret
  exact ⟨rfl, hA3, U0.out.sub.trans u3⟩
theorem BufAt.eight {w : World} {A : Nat} {B : Buf} (h : BufAt w A B) (i : Nat) (hi : i < 8) :
    w.cell? ⟨A, i * 4, none⟩ = some (.int .i64 (B.ln i).a) ∧ w.cell? ⟨A, i * 4 + 1, none⟩ = some (.int .i64 (B.ln i).p) ∧ w.cell? ⟨A, i * 4 + 2, none⟩ = some (.int .i64 (B.ln i).f) ∧ w.cell? ⟨A, i * 4 + 3, none⟩ = some (.bool (B.ln i).w) ∧
    w.frozen? ⟨A, i * 4, none⟩ = false ∧ w.frozen? ⟨A, i * 4 + 1, none⟩ = false ∧ w.frozen? ⟨A, i * 4 + 2, none⟩ = false ∧ w.frozen? ⟨A, i * 4 + 3, none⟩ = false :=
  ⟨h.range i hi 0 _ rfl, h.range i hi 1 _ rfl, h.range i hi 2 _ rfl, h.range i hi 3 _ rfl, frozen_block h _, frozen_block h _, frozen_block h _, frozen_block h _⟩
theorem putOk_iff (l : Ln) (at' : Int) : putOk l at' = (lineB l.a l.p l.f && decide (0 ≤ at' ∧ at' < 8)) := by
  unfold putOk lineB
  rw [Bool.eq_iff_iff, Bool.and_eq_true, decide_eq_true_eq, decide_eq_true_eq, decide_eq_true_eq]
  omega
def errP (b : Bool) : Int := if b = true then 0 else 1
set_option maxHeartbeats 1000000 in
theorem tput_any (A : Nat) (B : Buf) (hB : B.Ok) (la lp lf : Int) (lw : Bool) (at' : Int) (w : World) (hA : BufAt w A B) :
    Calls Tryd.prog 21 #[.pointer (some ⟨A, 0, none⟩), .agg #[.int .i64 la, .int .i64 lp, .int .i64 lf, .bool lw], .int .i64 at'] w fun e w' => e = .returned (.int .i64 (errP (putOk ⟨la, lp, lf, lw⟩ at'))) ∧ BufAt w' A (B.put ⟨la, lp, lf, lw⟩ at') ∧ Upd (· = A) w w' := by
  have c1 := Lib.hid (fun W => tline_any la lp lf lw W)
  have c2 := Lib.hid (fun W => tbelow_any at' 8 W)
  have hP := Lib.hid (putOk_iff ⟨la, lp, lf, lw⟩ at')
  have k0 : Hid (LnAt (w.alloc (.cells #[.int .i64 la, .int .i64 lp, .int .i64 lf, .bool lw] 41)) w.heap.size la lp lf lw) := Lib.hid (heap_alloc_last w _)
  have U0 := Lib.hid ((Upd.refl (fun _ => False) w).alloc (.cells #[.int .i64 la, .int .i64 lp, .int .i64 lf, .bool lw] 41))
  have cP := Lib.hid (fun W hA hp => tplace_any A B hB la lp lf lw at' W hA hp)
  have hpl := Lib.hid (fun h => Buf.place_lt (B := B) (l := ⟨la, lp, lf, lw⟩) (at' := at') h)
  have hput : Hid (B.put ⟨la, lp, lf, lw⟩ at' = if putOk ⟨la, lp, lf, lw⟩ at' = true then B.set (B.place ⟨la, lp, lf, lw⟩ at') (some ⟨la, lp, lf, lw⟩) else B) := Lib.hid rfl
  have HA := Lib.hid (hA.kept U0.out id)
  have hlt := hA.lt
  clear hA
  simp only at hP
  generalize putOk ⟨la, lp, lf, lw⟩ at' = R at hP cP hpl hput ⊢
  generalize B.place ⟨la, lp, lf, lw⟩ at' = I at cP hpl hput
  generalize B.put ⟨la, lp, lf, lw⟩ at' = B' at hput ⊢
  generalize lineB la lp lf = x at hP c1
  generalize decide (0 ≤ at' ∧ at' < 8) = y at hP c2
  have hP2 := hP.out
  clear hP
  obtain ⟨w0, hw0⟩ : ∃ w0, w0 = w.alloc (.cells #[.int .i64 la, .int .i64 lp, .int .i64 lf, .bool lw] 41) := ⟨_, rfl⟩
  have hW := Lib.hid hw0
  rw [← hw0] at k0 U0 HA
  clear hw0
  obtain ⟨C, hCe⟩ : ∃ C, C = w.heap.size := ⟨_, rfl⟩
  have hC := Lib.hid hCe
  rw [← hCe] at k0 hlt
  clear hCe
  have r0 := k0.out.range
  cases x
  · obtain rfl : R = false := hP2
    obtain rfl : B' = B := by rw [hput.out, if_neg (by decide)]
    clear cP hput hpl c2
    go_enter Tryd.func21, Tryd.ntmps21
    go_upto_region 1 with fail
    rw [← hW.out, ← hC.out]
    go_wp2_with (with_reducible refine wpList_load_sz rfl 41 (.tmp 4) rfl C 0 rfl [.int .i64 la, .int .i64 lp, .int .i64 lf, .bool lw] _ r0 Tryd.underlying41 rfl 4 (ln_len _ _ _ _) size_ln ?_)
    refine (c1.out _).mono ?_
    rintro e w1 ⟨rfl, u1⟩
    go_wp2
    go_ret
    exact ⟨rfl, HA.out.kept u1 id, U0.out.sub.trans u1.sub⟩
  · obtain rfl : R = y := hP2
    cases R
    · obtain rfl : B' = B := by rw [hput.out, if_neg (by decide)]
      clear cP hput hpl
      go_enter Tryd.func21, Tryd.ntmps21
      go_upto_region 1 with fail
      rw [← hW.out, ← hC.out]
      go_wp2_with (with_reducible refine wpList_load_sz rfl 41 (.tmp 4) rfl C 0 rfl [.int .i64 la, .int .i64 lp, .int .i64 lf, .bool lw] _ r0 Tryd.underlying41 rfl 4 (ln_len _ _ _ _) size_ln ?_)
      refine (c1.out _).mono ?_
      rintro e w1 ⟨rfl, u1⟩
      go_wp2_with fail
      refine (c2.out _).mono ?_
      rintro e w1 ⟨rfl, rfl⟩
      go_wp2
      go_ret
      exact ⟨rfl, HA.out.kept u1 id, U0.out.sub.trans u1.sub⟩
    · have hB' : Hid (B' = B.set I (some ⟨la, lp, lf, lw⟩)) := Lib.hid (by rw [hput.out, if_pos rfl])
      have hI := hpl.out rfl
      clear hput hpl
      go_enter Tryd.func21, Tryd.ntmps21
      go_upto_region 1 with fail
      rw [← hW.out, ← hC.out]
      go_wp2_with (with_reducible refine wpList_load_sz rfl 41 (.tmp 4) rfl C 0 rfl [.int .i64 la, .int .i64 lp, .int .i64 lf, .bool lw] _ r0 Tryd.underlying41 rfl 4 (ln_len _ _ _ _) size_ln ?_)
      refine (c1.out _).mono ?_
      rintro e w1 ⟨rfl, u1⟩
      go_upto_region 3 with (go_at_call 56; refine (c2.out _).mono ?_; rintro e w2 ⟨rfl, rfl⟩)
      have HA1 := Lib.hid (HA.out.kept u1 id)
      have K1 := Lib.hid (k0.out.kept u1 id)
      have U1 := Lib.hid (U0.out.trans u1)
      have q0 := K1.out.range 0 _ rfl
      have q1 := K1.out.range 1 _ rfl
      have q2 := K1.out.range 2 _ rfl
      have q3 := K1.out.range 3 _ rfl
      clear u1 k0 HA U0 r0 hW c1 c2
      have hne : C ≠ A := by omega
      have i0 : (0 : Int) ≤ (I : Int) := by omega
      have i8 : (I : Int) < 8 := by omega
      have hS := Lib.hid (show ∀ (W' : World), Upd (· = A) w1 W' → W'.cell? ⟨C, 0, none⟩ = some (.int .i64 la) ∧ W'.cell? ⟨C, 1, none⟩ = some (.int .i64 lp) ∧ W'.cell? ⟨C, 2, none⟩ = some (.int .i64 lf) ∧ W'.cell? ⟨C, 3, none⟩ = some (.bool lw) ∧ Upd (· = A) w1 W' from fun W' u => ⟨u.cell q0 hne, u.cell q1 hne, u.cell q2 hne, u.cell q3 hne, u⟩)
      go_cut [7] from 7 to 23 (fun s7 wx => BufAt wx A (B.set I (some ⟨la, lp, lf, lw⟩)) ∧ Upd (· = A) w1 wx)
      case first =>
        go_region_held3 (fun w' => w'.cell? ⟨C, 0, none⟩ = some (.int .i64 la) ∧ w'.cell? ⟨C, 1, none⟩ = some (.int .i64 lp) ∧ w'.cell? ⟨C, 2, none⟩ = some (.int .i64 lf) ∧ w'.cell? ⟨C, 3, none⟩ = some (.bool lw) ∧ Upd (· = A) w1 w')
          (first
            | assumption
            | exact hS.out _ (Upd.refl _ _).drew
            | exact hS.out _ u7
            | exact hS.out _ ((((u7.setCell (.inl rfl) _).setCell (.inl rfl) _).setCell (.inl rfl) _).setCell (.inl rfl) _))
          (first
            | (go_at_call 57; go_split_ands; rename_i s1 s2 s3 s4 s5; refine (cP.out w1.drew HA1.out trivial).mono ?_; rintro e w2 ⟨rfl, u2⟩; have u7 := s5.trans u2.sub; have e7 := Lib.hid (BufAt.kept (w := w1.drew) HA1.out u2 id); obtain ⟨e0, e1, e2, e3, z0, z1, z2, z3⟩ := e7.out.eight I hI))
        all_goals (go_wp2_with fail)
        all_goals go_meet
        all_goals exact ⟨e7.out.set I hI (some ⟨la, lp, lf, lw⟩), (((u7.setCell (.inl rfl) _).setCell (.inl rfl) _).setCell (.inl rfl) _).setCell (.inl rfl) _⟩
      case rest =>
        obtain ⟨hA2, u2⟩ := hcut
        go_wp2
        go_ret
        exact ⟨rfl, by rw [hB'.out]; exact hA2, U1.out.sub.trans u2⟩
end Go.Proofs.YtfdnfllefednjaaDoor
