/-
  Texts that the laws stand on, joined: TbJ, TbK, TbR, TbS, TbT, TbV, TbW, TbX.
-/
import Derived.LoopIn
import Derived.LoopNIn
import Derived.OwnWalkIn
import Derived.RangeFuncBound
import Derived.RangeFuncCalls
import Derived.RangeFuncLeaves
import Derived.RangeFuncNested
import Derived.Shelf.Abstract
import Derived.Shelf.RegionOpen
import Derived.TacticsInMore
import Derived.WalkKit
import Derived.Test.YtpfpcmadhbejiaaDoorPart5

/-
  Package tables: the range over the steps of a walk, from the last one on (slices.Backward over three steps).
-/
namespace Go.Proofs.YtpfpcmadhbejiaaDoor
open Go.ChangeShapes Go.WideShapes Go.ChangeAt Go.RowKit Go.Shelf

attribute [local go_sem] Oper.semAt_some

/-- three steps in a row of cells -/
def Steps3 (w : World) (g : Nat) (F P : Nat → Int) : Prop :=
  w.cell? ⟨g, 0, none⟩ = some (.int .i64 (F 0)) ∧ w.cell? ⟨g, 1, none⟩ = some (.int .i64 (P 0)) ∧ w.cell? ⟨g, 2, none⟩ = some (.int .i64 (F 1)) ∧ w.cell? ⟨g, 3, none⟩ = some (.int .i64 (P 1)) ∧
  w.cell? ⟨g, 4, none⟩ = some (.int .i64 (F 2)) ∧ w.cell? ⟨g, 5, none⟩ = some (.int .i64 (P 2))
theorem Steps3.kept {T : Nat → Prop} {w w' : World} {g : Nat} {F P : Nat → Int} (h : Steps3 w g F P) (u : Upd T w w') (hg : ¬ T g) : Steps3 w' g F P :=
  ⟨u.cell h.1 hg, u.cell h.2.1 hg, u.cell h.2.2.1 hg, u.cell h.2.2.2.1 hg, u.cell h.2.2.2.2.1 hg, u.cell h.2.2.2.2.2 hg⟩
/-- what a round that goes on keeps: the row and the box that names it -/
def Keeps2 (g Bn : Nat) (W W' : World) : Prop := ∀ k, k = g ∨ k = Bn → W'.heap[k]? = W.heap[k]?
theorem keeps2_t {A Bn : Nat} {X Y Z : World} (h : Keeps2 A Bn X Y) (h' : Keeps2 A Bn Y Z) : Keeps2 A Bn X Z := fun k hk => (h' k hk).trans (h k hk)
theorem keeps2_b {A Bn : Nat} {w : World} (hA : A < w.heap.size) (hB : Bn < w.heap.size) (W : World) (l : Nat) (o o' : Obj) (hl : w.heap.size ≤ l) (_ : W.heap[l]? = some o) (_ : o.isCells = false) (_ : o.isWalk = false) : Keeps2 A Bn W (W.putObj l o') := by
  intro k hk
  exact Array.getElem?_setIfInBounds_ne (by omega)
theorem keeps2_upd {T : Nat → Prop} {A Bn : Nat} {W W' : World} (u : Upd T W W') (h1 : A < W.heap.size) (h2 : Bn < W.heap.size) (h3 : ¬ T A) (h4 : ¬ T Bn) : Keeps2 A Bn W W' := by
  rintro k (rfl | rfl)
  · exact u.block _ h1 h3
  · exact u.block _ h2 h4
theorem Steps3.keeps {w w' : World} {g Bn : Nat} {F P : Nat → Int} (h : Steps3 w g F P) (k : Keeps2 g Bn w w') : Steps3 w' g F P := by
  have e := k g (.inl rfl)
  have c : ∀ j v, w.cell? ⟨g, j, none⟩ = some v → w'.cell? ⟨g, j, none⟩ = some v := fun j v h => by rw [World.cell?_of_block (w := w) e]; exact h
  exact ⟨c _ _ h.1, c _ _ h.2.1, c _ _ h.2.2.1, c _ _ h.2.2.2.1, c _ _ h.2.2.2.2.1, c _ _ h.2.2.2.2.2⟩

set_option maxHeartbeats 400000 in
theorem backward_any (o : Option Addr) (k cap : Nat) (w : World) :
    Calls Tryd.prog 26 #[.slice o k cap] w fun e w' => e = .returned (.func (.func 44) #[] #[.pointer (some ⟨w.heap.size, 0, none⟩)]) ∧ w' = w.alloc (.cells #[.slice o k cap] 40) := by
  go_enter Tryd.func26, Tryd.ntmps26
  go_wp2
  go_ret
  exact ⟨rfl, rfl⟩

def enc3 (F P : Nat → Int) (k : Nat) : Array Value := #[.int .i64 k, .agg #[.int .i64 (F k), .int .i64 (P k)]]
def back3 : List Nat := [2, 1, 0]

set_option maxRecDepth 100000 in
set_option maxHeartbeats 2000000 in
theorem back_in (n : Nat) (hn : 1 ≤ n) (l Bn g cap : Nat) (F P : Nat → Int) (J Jx : List Nat → World → Prop) (W : World)
    (hJd : ∀ s X k, J s X → J s (X.drewN k))
    (hY : ∀ pre (x : Nat) W, J pre W → pre.length < 3 → YieldAt Fence.wide (n - 1) Tryd.prog l (enc3 F P x) W fun e W' =>
      (e = .returned (.bool true) ∧ J (pre ++ [x]) W' ∧ Keeps2 g Bn W W') ∨ (e = .returned (.bool false) ∧ Jx (pre ++ [x]) W'))
    (hBn : Boxed W Bn 40 (.slice (some ⟨g, 0, none⟩) 3 cap)) (hA : Steps3 W g F P) (h0 : J [] W) :
    CallsIn Fence.wide n Tryd.prog 44 #[.func (.yield l) #[] #[], .pointer (some ⟨Bn, 0, none⟩)] W fun e W' => (∃ v, e = .returned v) ∧
      ((∃ ys, ys = back3 ∧ J ys W') ∨ (∃ pre, pre <+: back3 ∧ Jx pre W')) := by
  refine callsIn_of_wp Tryd.func44 rfl trivial ?_ rfl
  simp only [Tryd.ntmps44, List.size_toArray, List.length_cons, List.length_nil, Nat.reduceAdd, Nat.reduceSub, Array.replicate_succ, Array.replicate_zero, List.push_toArray, List.append_toArray, List.nil_append, List.cons_append]
  have hc := hBn.cell
  gi_wp2
  clear hc
  gi_loopw [3] (fun p wr => ∃ k : Nat, k ≤ 3 ∧ p = .int .i64 (2 - k) ∧ J (back3.take k) wr ∧ Steps3 wr g F P ∧ Boxed wr Bn 40 (.slice (some ⟨g, 0, none⟩) 3 cap))
    (fun p _ => (intOf p + 1).toNat)
  case atStart => exact ⟨0, by omega, rfl, h0, hA, hBn⟩
  case round =>
    obtain ⟨k, hk, rfl, hJ, hS, hB⟩ := hrel
    have hc := hB.cell
    obtain ⟨s0, s1, s2, s3, s4, s5⟩ := hS
    have hS : Steps3 wr g F P := ⟨s0, s1, s2, s3, s4, s5⟩
    obtain rfl | rfl | rfl | rfl : k = 0 ∨ k = 1 ∨ k = 2 ∨ k = 3 := by omega
    · obtain ⟨fn, tmps, assign, body, hy, hR⟩ := hY [] 2 _ hJ (by decide)
      change (Instr.yield l #[.int .i64 2, .agg #[.int .i64 (F 2), .int .i64 (P 2)]]).run Tryd.prog wr = _ at hy
      clear s0 s1 s2 s3
      gi_wp2
      refine hR.mono ?_
      rintro e W3 (⟨rfl, hJ3, hk3⟩ | ⟨rfl, hJx3⟩)
      · gi_wp2
        go_roundw
        case rel => exact ⟨1, by omega, rfl, hJ3, hS.keeps hk3, (hk3 Bn (.inr rfl)).trans hB⟩
        case measure => simp [intOf]
      · gi_wp2
        refine bodyPost_ret (results_none rfl _ _ _) rfl ?_
        exact ⟨⟨_, rfl⟩, .inr ⟨_, by decide, hJx3⟩⟩
    · obtain ⟨fn, tmps, assign, body, hy, hR⟩ := hY [2] 1 _ hJ (by decide)
      change (Instr.yield l #[.int .i64 1, .agg #[.int .i64 (F 1), .int .i64 (P 1)]]).run Tryd.prog wr = _ at hy
      clear s0 s1 s4 s5
      gi_wp2
      refine hR.mono ?_
      rintro e W3 (⟨rfl, hJ3, hk3⟩ | ⟨rfl, hJx3⟩)
      · gi_wp2
        go_roundw
        case rel => exact ⟨2, by omega, rfl, hJ3, hS.keeps hk3, (hk3 Bn (.inr rfl)).trans hB⟩
        case measure => simp [intOf]
      · gi_wp2
        refine bodyPost_ret (results_none rfl _ _ _) rfl ?_
        exact ⟨⟨_, rfl⟩, .inr ⟨_, by decide, hJx3⟩⟩
    · obtain ⟨fn, tmps, assign, body, hy, hR⟩ := hY [2, 1] 0 _ hJ (by decide)
      change (Instr.yield l #[.int .i64 0, .agg #[.int .i64 (F 0), .int .i64 (P 0)]]).run Tryd.prog wr = _ at hy
      clear s2 s3 s4 s5
      gi_wp2
      refine hR.mono ?_
      rintro e W3 (⟨rfl, hJ3, hk3⟩ | ⟨rfl, hJx3⟩)
      · gi_wp2
        go_roundw
        case rel => exact ⟨3, by omega, rfl, hJ3, hS.keeps hk3, (hk3 Bn (.inr rfl)).trans hB⟩
        case measure => simp [intOf]
      · gi_wp2
        refine bodyPost_ret (results_none rfl _ _ _) rfl ?_
        exact ⟨⟨_, rfl⟩, .inr ⟨_, by decide, hJx3⟩⟩
    · gi_wp2
      go_end0
      exact ⟨⟨_, rfl⟩, .inl ⟨_, rfl, hJ⟩⟩

theorem back_stops (n : Nat) (hn : 1 ≤ n) (Bn g cap : Nat) (F P : Nat → Int) (w : World) (hg : g < w.heap.size) (hB : Boxed w Bn 40 (.slice (some ⟨g, 0, none⟩) 3 cap)) (hA : Steps3 w g F P) :
    SeqStopsK Fence.wide n Tryd.prog 44 #[.pointer (some ⟨Bn, 0, none⟩)] (enc3 F P) (Keeps2 g Bn) (fun ys => ys = back3) (fun pre => pre <+: back3) 3 w := fun l J Jx W hW hJ _ hY h0 =>
  back_in n hn l Bn g cap F P J Jx W (fun s X k h => hJ s X _ none h ⟨rfl, rfl, rfl, Nat.le_refl _, fun _ _ _ => rfl⟩ (by simp)) hY ((hW.block Bn hB.lt).trans hB) (hA.keeps (Bn := Bn) (fun k hk => hW.block k (by rcases hk with rfl | rfl; exact hg; exact hB.lt))) h0
end Go.Proofs.YtpfpcmadhbejiaaDoor

/-
  Package tables: Unmap, over the words of the memory.
-/
namespace Go.Proofs.YtpfpcmadhbejiaaDoor
open Go.ChangeShapes Go.WideShapes Go.ChangeAt Go.RowKit Go.Shelf

attribute [local go_sem] Oper.semAt_some

/-! what one round does to the memory and the allocator -/
section
variable (root : Int) (F P : Nat → Int)
def unPut (m : Mem) (k : Nat) : Mem := m.put (F k) (P k) En.zero
def unBrk (s : Mem × Bud) (k : Nat) : Bool := decide (F k = root) || !(unPut F P s.1 k).zero (F k)
open Classical in
noncomputable def unFree (f : Int) (s : Mem × Bud) : Mem × Bud := if ((f.toNat, 0) : Nat × Nat) ∈ s.2.gave ∧ 0 ≤ f then (s.1.scrub f 1, s.2.take (f.toNat, 0)) else s
noncomputable def unStep (s : Mem × Bud) (k : Nat) : Mem × Bud := if unBrk root F P s k = true then (unPut F P s.1 k, s.2) else unFree (F k) (unPut F P s.1 k, s.2)
noncomputable def unFold (s : Mem × Bud) (l : List Nat) : (Mem × Bud) × Bool := l.foldl (fun t k => (unStep root F P t.1 k, t.2 || unBrk root F P t.1 k)) (s, false)
theorem unFold_snoc (s : Mem × Bud) (l : List Nat) (k : Nat) : unFold root F P s (l ++ [k]) = (unStep root F P (unFold root F P s l).1 k, (unFold root F P s l).2 || unBrk root F P (unFold root F P s l).1 k) := by
  unfold unFold; rw [List.foldl_append]; rfl
end
theorem unFree_B (f : Int) (s : Mem × Bud) : (unFree f s).1.B = s.1.B := by unfold unFree; split; exact Mem.scrub_B ..; rfl
theorem unFree_good (f : Int) (s : Mem × Bud) (h : s.1.ok) (hg : s.1.good) : (unFree f s).1.good := by unfold unFree; split; exact Mem.scrub_good _ h hg _; exact hg
/-- free, whatever frame it is -/
theorem sfree_all (S MA A GB : Nat) (root : Int) (m : Mem) (b : Bud) (f : Int) (w : World) (h : SpAt w S MA A root) (hd : Duo w A MA GB m b) (hwf : (Lit.int .i64 f).wf = true) :
    Calls Tryd.prog 29 #[.pointer (some ⟨S, 0, none⟩), .int .i64 f] w fun e w' => e = .returned (.tuple #[]) ∧ Duo w' A MA GB (unFree f (m, b)).1 (unFree f (m, b)).2 ∧ Upd (fun k => k = GB ∨ k = m.B) w w' := by
  by_cases hf : ((f.toNat, 0) : Nat × Nat) ∈ b.gave ∧ 0 ≤ f
  · refine (sfree_any S MA A GB root m b f w h hd hf.2 hf.1).mono ?_
    rintro e w' ⟨rfl, d, u⟩
    unfold unFree
    rw [if_pos hf]
    exact ⟨rfl, d, u⟩
  · have hc := h.c1
    have hb : Calls Tryd.prog 49 #[.pointer (some ⟨A, 0, none⟩), .int .i64 f, .int .i64 0] w fun e w' => e = .returned (.int .i64 2) ∧ w = w' := (bFree_any A MA GB m b f 0 w hd.B hd.M hwf).mono (by
      rintro e w' (⟨_, h1, h2⟩ | ⟨x, hx, e1, e2, _⟩)
      · exact ⟨h1, h2⟩
      · have h0 : x.2 = 0 := by omega
        exact absurd ⟨by rw [← e1, Int.toNat_natCast, ← h0]; exact hx, by omega⟩ hf)
    have hu : unFree f (m, b) = (m, b) := by unfold unFree; rw [if_neg hf]
    rw [hu]
    clear hu
    clear hf hwf
    go_enter Tryd.func29, Tryd.ntmps29
    go_wp2_with (go_at_call 49; refine hb.mono ?_; rintro e w' ⟨rfl, rfl⟩)
    go_end0
    exact ⟨rfl, hd, Upd.refl _ _⟩

theorem getE_wf (m : Mem) (f p : Int) : (Lit.int .i64 (m.getE f p).f).wf = true := by
  have : 0 ≤ (m.getE f p).f ∧ (m.getE f p).f ≤ 255 := by
    unfold Mem.getE; split
    · unfold enOf ofF; simp only; split
      · rename_i h0; unfold pF; omega
      · omega
    · exact ⟨by decide, by decide⟩
  obtain ⟨j, hj⟩ := Int.eq_ofNat_of_zero_le this.1
  rw [hj]
  exact wf_frame (by omega)
theorem own_un {α : Type} {A MA GB : Nat} (st : α → Mem × Bud) (R : α → Prop) (T : Nat → Prop) (w3 : World) (B : Nat) (hA : A < w3.heap.size) (hM : MA < w3.heap.size) (hG : GB < w3.heap.size) (hB : B < w3.heap.size) (hR : ∀ s, R s → (st s).1.B = B) :
    OwnFrom w3.heap.size (fun s W => Duo W A MA GB (st s).1 (st s).2 ∧ Upd T w3 W ∧ R s) := by
  rintro s W W' row ⟨d, u, r⟩ hg hr
  have u' : Upd (fun k => some k = row) W W' := ⟨hg.os, hg.tape, hg.output, hg.size, fun k hk hn => hg.block k hk hn⟩
  have no : ∀ k, k < w3.heap.size → ¬ some k = row := fun k hk e => by have := (hr k e.symm).1; omega
  refine ⟨d.kept u' (no _ hA) (no _ hG) (no _ hM) (no _ (by rw [hR s r]; exact hB)), ⟨u'.os.trans u.os, u'.tape.trans u.tape, u'.output.trans u.output, Nat.le_trans u.size u'.size, fun k hk hn => ?_⟩, r⟩
  rw [u'.block k (Nat.lt_of_lt_of_le hk u.size) (no k hk)]
  exact u.block k hk hn

theorem Upd.putObjS {S : Nat → Prop} {a b : World} (h : Upd S a b) {l : Nat} (hl : S l ∨ a.heap.size ≤ l) (o : Obj) : Upd S a (b.putObj l o) :=
  ⟨h.os, h.tape, h.output, by have := h.size; simpa [World.putObj] using this, fun k hk hn => by
    have : (b.putObj l o).heap[k]? = b.heap[k]? := Array.getElem?_setIfInBounds_ne (by
      rintro rfl
      rcases hl with hl | hl
      · exact hn hl
      · omega)
    rw [this]; exact h.block k hk hn⟩
theorem Upd.putObj {S : Nat → Prop} {a b : World} (h : Upd S a b) {l : Nat} (hl : a.heap.size ≤ l) (o : Obj) : Upd S a (b.putObj l o) := h.putObjS (.inr hl) o
set_option maxRecDepth 100000 in
set_option maxHeartbeats 1000000 in
theorem sunmap_any (S MA A GB : Nat) (root : Int) (m : Mem) (b : Bud) (q : Int) (w : World) (h : SpAt w S MA A root) (hd : Duo w A MA GB m b) (T : Tab w) (hg : m.good) (hr : (Lit.int .i64 root).wf = true) :
    Calls Tryd.prog 9 #[.pointer (some ⟨S, 0, none⟩), .int .i64 q] w fun e w' =>
      (m.wX root q ≠ 0 ∧ e = .returned (.tuple #[.int .i64 0, .int .i64 (m.wX root q)]) ∧ Upd (fun _ => False) w w') ∨
      (m.wX root q = 0 ∧ ∃ pre, pre <+: back3 ∧ (pre = back3 ∨ (unFold root (m.wF root q) (fun k => idxI q k) (m, b) pre).2 = true) ∧ (unFold root (m.wF root q) (fun k => idxI q k) (m, b) pre.dropLast).2 = false ∧ e = .returned (.tuple #[.int .i64 (m.wE root q).f, .int .i64 0]) ∧
        Duo w' A MA GB (unFold root (m.wF root q) (fun k => idxI q k) (m, b) pre).1.1 (unFold root (m.wF root q) (fun k => idxI q k) (m, b) pre).1.2 ∧ Upd (fun k => k = GB ∨ k = m.B) w w') := by
  have cW := Lib.hid (fun (W : World) (hW : w.heap.size ≤ W.heap.size) (h : MemAt W MA m) (T : Tab W) => walk_row (root := root) (q := q) w.heap.size hW h T hg)
  have hm := hd.M
  have h3 := Lib.hid (fun e => (m.wX_ok root q e).1)
  have hS2 := Lib.hid (fun k n => m.wS_at root q k n)
  generalize eX : m.wX root q = X at cW h3 ⊢
  generalize eN : m.wN root q = n at cW h3
  generalize eE : m.wE root q = E at cW ⊢
  generalize exs : m.wS root q n = xs at cW
  obtain ⟨ev, er, et, ef⟩ := E
  have Hxs := Lib.hid exs
  have Hg := Lib.hid hg
  have Hr := Lib.hid hr
  have hap := h.apart hd
  have hWf : Hid (∀ k, Hid ((Lit.int .i64 (m.wF root q k)).wf = true)) := Lib.hid (fun k => Lib.hid (by
    cases k with
    | zero => exact hr
    | succ k => exact getE_wf m _ _))
  have hlt : Hid (S < w.heap.size ∧ A < w.heap.size ∧ MA < w.heap.size ∧ GB < w.heap.size ∧ m.B < w.heap.size) := Lib.hid ⟨lt_of_heap h, hd.B.lts.1, lt_of_heap hd.M.head, hd.B.lts.2, lt_of_heap hd.M.body⟩
  clear eX eN exs eE hg hr
  refine (callsIn_wide (n := 3)).1 ?_
  refine callsIn_of_wp_marks Tryd.func9 rfl trivial ?_ rfl
  simp only [Tryd.ntmps9, List.size_toArray, List.length_cons, List.length_nil, Nat.reduceAdd, Nat.reduceSub, Array.replicate_succ, Array.replicate_zero, List.push_toArray, List.append_toArray, List.nil_append, List.cons_append]
  refine wpIn_wide.2 ?_
  have uB := (Upd.refl (fun _ => False) w).alloc (.cells #[.pointer (some ⟨S, 0, none⟩)] 26)
  have bx := Boxed.new w 26 (.pointer (some ⟨S, 0, none⟩))
  go_upto_region 1 with fail
  have sz1 : Hid (w.heap.size ≤ (w.alloc (.cells #[.pointer (some ⟨S, 0, none⟩)] 26)).heap.size) := Lib.hid (by simp)
  have h1 := h.kept uB id
  have d1 := hd.still uB
  have T1 := T.kept uB
  clear h hd T hm
  generalize w.alloc (.cells #[.pointer (some ⟨S, 0, none⟩)] 26) = w1 at uB bx sz1 h1 d1 T1 ⊢
  have hm := d1.M
  have c0 := h1.c0
  have c2 := h1.c2
  have cb := bx.cell
  generalize hX : w.heap.size = X0 at cW sz1 bx cb hlt ⊢
  have HX := Lib.hid hX
  clear hX
  have hS := Lib.hid (show ∀ (W' : World), Upd (fun _ => False) w1 W' → W'.cell? ⟨X0, 0, none⟩ = some (.pointer (some ⟨S, 0, none⟩)) ∧ W'.cell? ⟨S, 0, none⟩ = some (.pointer (some ⟨MA, 0, none⟩)) ∧ W'.cell? ⟨S, 2, none⟩ = some (.int .i64 root) ∧ Upd (fun _ => False) w1 W' from fun W' u => ⟨u.cell cb id, u.cell c0 id, u.cell c2 id, u⟩)
  go_cut [6, 7, 8] from 12 to 24 (fun s6 s7 s8 wx => ∃ (D : Nat) (o : Option Addr) (cap : Nat), s6 = .pointer (some ⟨D, 0, none⟩) ∧ s7 = .slice o n cap ∧ s8 = .int .i64 X ∧ Hid (wx.ownsRow X0 66 2 (.slice o n cap) n xs) ∧ Upd (fun _ => False) w1 wx ∧ Hid (EntAt wx D ev er et ef) ∧ Hid (X0 ≤ D))
  case first =>
    go_region_held3 (fun w' => w'.cell? ⟨X0, 0, none⟩ = some (.pointer (some ⟨S, 0, none⟩)) ∧ w'.cell? ⟨S, 0, none⟩ = some (.pointer (some ⟨MA, 0, none⟩)) ∧ w'.cell? ⟨S, 2, none⟩ = some (.int .i64 root) ∧ Upd (fun _ => False) w1 w')
      (first
        | assumption
        | exact hS.out _ (Upd.refl _ _).drew
        | exact hS.out _ ((Upd.refl _ _).drew.alloc _)
        | exact hS.out _ u7
        | exact hS.out _ (u7.alloc _)
        | exact hS.out _ ((((u7.setCell (.inr (Nat.le_refl _)) _).setCell (.inr (Nat.le_refl _)) _).setCell (.inr (Nat.le_refl _)) _).setCell (.inr (Nat.le_refl _)) _)
        | exact hS.out _ (((((u7.alloc _).setCell (.inr u7.size) _).setCell (.inr u7.size) _).setCell (.inr u7.size) _).setCell (.inr u7.size) _))
      (first
        | (go_at_call 13; go_split_ands; rename_i s0 s1 s2 s3; refine (cW.out (w1.alloc (.cells #[.bool false, .bool false, .bool false, .int .i64 0] 37)).drew (Nat.le_trans sz1.out s3.size) (hm.kept s3 id id) (T1.kept s3)).mono ?_; rintro e w6 ⟨o, cap, rfl, r6, u6⟩; have u7 := s3.trans u6; have e7 : Hid (EntAt w6 w1.heap.size false false false 0) := Lib.hid (u6.at (heap_alloc_last w1 _) id); obtain ⟨e0, e1, e2, e3, z0, z1, z2, z3⟩ := e7.out.eight)
        | (go_at_call 13; go_split_ands; rename_i s0 s1 s2 s3; refine (cW.out _ (Nat.le_trans sz1.out s3.size) (hm.kept s3 id id) (T1.kept s3)).mono ?_; rintro e w6 ⟨o, cap, rfl, r6, u6⟩; have u7 := s3.trans u6))
    all_goals (go_wp2_with fail)
    all_goals go_meet
    all_goals
      first
        | exact ⟨w1.heap.size, o, cap, rfl, rfl, rfl, Lib.hid (wk_kept r6.out (((((Upd.refl (· = w1.heap.size) w6).setCell (.inl rfl) _).setCell (.inl rfl) _).setCell (.inl rfl) _).setCell (.inl rfl) _) (wk_ne r6.out e7.out (by decide))), (((u7.setCell (.inr (Nat.le_refl _)) _).setCell (.inr (Nat.le_refl _)) _).setCell (.inr (Nat.le_refl _)) _).setCell (.inr (Nat.le_refl _)) _, Lib.hid (e7.out.set ev er et ef), sz1⟩
        | exact ⟨w6.heap.size, o, cap, rfl, rfl, rfl, Lib.hid (wk_kept r6.out ((Upd.refl (fun _ => False) w6).alloc _) (fun _ _ => id)), u7.alloc _, Lib.hid (heap_alloc_last w6 _), Lib.hid (Nat.le_trans sz1.out u7.size)⟩
  case rest =>
    obtain ⟨D, o, cap, rfl, rfl, rfl, hrow, u8, hE, hDX⟩ := hcut
    clear hS cW c0 c2 cb hm
    have h2 := h1.kept u8 id
    have d2 := d1.still u8
    have T2 := T1.kept u8
    have b2 : Boxed wc X0 26 (.pointer (some ⟨S, 0, none⟩)) := u8.at bx id
    have U2 := uB.trans u8
    clear h1 d1 T1 bx uB u8 sz1
    by_cases hX : X = 0
    · obtain rfl := h3.out hX
      subst hX
      obtain ⟨g, rfl, hgN, hcs⟩ := row2_at hrow.out (by omega)
      have hst : Steps3 wc g (m.wF root q) (fun k => idxI q k) := by
        have a0 := hS2.out 0 3 (by omega)
        have a1 := hS2.out 1 3 (by omega)
        have a2 := hS2.out 2 3 (by omega)
        rw [Hxs.out] at a0 a1 a2
        exact ⟨hcs _ _ a0.1, hcs _ _ a0.2, hcs _ _ a1.1, hcs _ _ a1.2, hcs _ _ a2.1, hcs _ _ a2.2⟩
      have hgl : g < wc.heap.size := World.block_lt_of_cell? wc _ hst.1
      clear hcs hS2 h3 Hxs hrow
      go_wp2_with fail
      refine (backward_any _ _ _ _).mono ?_
      rintro e w3 ⟨rfl, rfl⟩
      have bS := Boxed.new wc 40 (.slice (some ⟨g, 0, none⟩) 3 cap)
      have uS := (Upd.refl (fun _ => False) wc).alloc (.cells #[.slice (some ⟨g, 0, none⟩) 3 cap] 40)
      go_wp2_with fail
      rename_i K hK
      have h3 := h2.kept uS id
      have d3 := d2.still uS
      have T3 := T2.kept uS
      have b3 : Boxed _ X0 26 (.pointer (some ⟨S, 0, none⟩)) := uS.at b2 id
      have U3 := U2.trans uS
      have hE3 := Lib.hid (hE.out.kept uS id)
      have st3 := hst.kept uS id
      have hg3 := Nat.lt_of_lt_of_le hgl uS.size
      have hDl : D < _ := lt_of_heap hE3.out
      have hNl := bS.lt
      clear h2 d2 T2 b2 U2 hE hst uS
      generalize wc.alloc (.cells #[.slice (some ⟨g, 0, none⟩) 3 cap] 40) = w3 at bS h3 d3 T3 b3 U3 hE3 st3 hg3 hDl hNl ⊢
      have hNX : Hid (X0 ≤ wc.heap.size) := Lib.hid (Nat.le_trans hgN (Nat.le_of_lt hgl))
      clear hgl
      generalize wc.heap.size = N at bS hNl hNX ⊢
      have ⟨l1, l2, l3, l4, l5⟩ := hlt.out
      have s3 : X0 ≤ w3.heap.size := by have := lt_of_heap b3; omega
      refine (wpIn_wide (n := 3)).1 ?_
      refine wpIn_rangeFunc_ownH rfl (by decide) (gf := 44) (lb := #[.pointer (some ⟨N, 0, none⟩)]) rfl trivial (enters_of Tryd.func44 (by kernel_rfl) rfl)
        (back_stops (3 - 1) (by decide) N g cap (m.wF root q) (fun k => idxI q k) w3 hg3 bS st3) keeps2_t (keeps2_b hg3 hNl) (Below.refl _ _) (fun _ => rfl)
        (fun pre W => Duo W A MA GB (unFold root (m.wF root q) (fun k => idxI q k) (m, b) pre).1.1 (unFold root (m.wF root q) (fun k => idxI q k) (m, b) pre).1.2 ∧ Upd (fun k => k = GB ∨ k = m.B) w3 W ∧ ((unFold root (m.wF root q) (fun k => idxI q k) (m, b) pre).1.1.B = m.B ∧ (unFold root (m.wF root q) (fun k => idxI q k) (m, b) pre).1.1.good ∧ (unFold root (m.wF root q) (fun k => idxI q k) (m, b) pre).2 = false))
        (fun c pre W => Duo W A MA GB (unFold root (m.wF root q) (fun k => idxI q k) (m, b) pre).1.1 (unFold root (m.wF root q) (fun k => idxI q k) (m, b) pre).1.2 ∧ Upd (fun k => k = GB ∨ k = m.B) w3 W ∧ ((unFold root (m.wF root q) (fun k => idxI q k) (m, b) pre).1.1.B = m.B ∧ c = .exit 0 ∧ (unFold root (m.wF root q) (fun k => idxI q k) (m, b) pre).2 = true ∧ (unFold root (m.wF root q) (fun k => idxI q k) (m, b) pre.dropLast).2 = false))
        (own_un (fun pre => (unFold root (m.wF root q) (fun k => idxI q k) (m, b) pre).1) _ _ w3 m.B (by omega) (by omega) (by omega) (by omega) (fun _ r => r.1))
        (fun c => own_un (fun pre => (unFold root (m.wF root q) (fun k => idxI q k) (m, b) pre).1) _ _ w3 m.B (by omega) (by omega) (by omega) (by omega) (fun _ r => r.1))
        ⟨d3, Upd.refl _ _, rfl, Hg.out, rfl⟩
        (fun x a' W => ∃ B1, w3.heap.size ≤ B1 ∧ W.heap[B1]? = some (.cells #[.int .i64 (m.wF root q x), .int .i64 (idxI q x)] 66 (0, 0)) ∧ a' = { tmps := #[.pointer (some ⟨S, 0, none⟩), .int .i64 q, .pointer (some ⟨X0, 0, none⟩), undef, .int .i64 0, .int .i64 0, .pointer (some ⟨D, 0, none⟩), .slice (some ⟨g, 0, none⟩) 3 cap, .int .i64 0, undef, .pointer (some ⟨B1, 0, none⟩), u11, u12, u13, u14, u15, u16, u17, u18, u19, u20, u21, u22, u23, u24, .int .i64 0, .bool false, undef, .slice (some ⟨g, 0, none⟩) 3 cap, .func (.func 44) #[] #[.pointer (some ⟨N, 0, none⟩)], .int .i64 x, .agg #[.int .i64 (m.wF root q x), .int .i64 (idxI q x)], undef, undef, undef, undef, undef, undef, undef, undef, undef, undef, undef, undef, undef, undef, undef, undef, undef, undef, undef, undef, undef, undef, undef, undef, undef, undef, undef, undef, undef, undef, undef, undef, undef], defers := [] })
        ?ax ?assign ?body ?done ?stop
      case ax =>
        rintro x a' - W W' row ⟨B1, hB1, hc, e⟩ hg hr
        refine ⟨B1, hB1, ?_, e⟩
        rw [hg.block B1 (lt_of_heap hc) (fun e => by obtain ⟨_, o, ho, hk⟩ := hr B1 e.symm; rw [hc] at ho; cases ho; cases hk)]
        exact hc
      case assign =>
        rintro l pre x W K2 hI hK2
        have a1 := heap_alloc_last W (.cells #[.int .i64 0, .int .i64 0] 66)
        rw [show enc3 (m.wF root q) (fun k => idxI q k) x = #[.int .i64 x, .agg #[.int .i64 (m.wF root q x), .int .i64 (idxI q x)]] from rfl, fold2]
        simp only [List.setIfInBounds_toArray, List.set_cons_succ, List.set_cons_zero]
        have th := Lib.hid (two_there a1)
        have a2 := heap_alloc_last W (.cells #[.int .i64 (m.wF root q x), .int .i64 (idxI q x)] 66)
        have u1 : Upd (fun _ => False) W (W.alloc (.cells #[.int .i64 (m.wF root q x), .int .i64 (idxI q x)] 66)) := (Upd.refl _ _).alloc _
        have HK2 := Lib.hid hK2
        obtain ⟨dI, uI, eB, hgI, hbr⟩ := hI
        have k1 : KeepsFrom w3.heap.size W (W.alloc (.cells #[.int .i64 (m.wF root q x), .int .i64 (idxI q x)] 66)) := ⟨u1.size, fun k o _ ho _ => u1.at ho id⟩
        have hsz := uI.size
        refine round_plain (by kernel_rfl) ?_ ?_
        · rintro ⟨_, _, h⟩
          exact h
        go_wp2_with (with_reducible refine wpList_store_sz rfl 66 (.tmp 10) (.tmp 31) rfl W.heap.size 0 #[.int .i64 (m.wF root q x), .int .i64 (idxI q x)] rfl rfl 2 rfl th.out (by kernel_rfl) rfl [.int .i64 (m.wF root q x), .int .i64 (idxI q x)] rfl ?_)
        refine HK2.out _ _ k1 (keeps2_upd u1 (by omega) (by omega) id id) ⟨dI.still u1, uI.trans (u1.mono (fun _ _ x => x.elim)), eB, hgI, hbr⟩ ⟨W.heap.size, hsz, a2, rfl⟩
      case body =>
        rintro l pre x a' W hl1 hl2 ⟨dI, uI, eB, hgI, hbr⟩ ⟨B1, hB1, hc1, rfl⟩ hlen
        have uW : Upd (fun k => k = GB ∨ k = m.B) w3 W := uI
        have hW := h3.kept uW hap
        have bW : Boxed W X0 26 (.pointer (some ⟨S, 0, none⟩)) := uW.at b3 (by omega)
        have TW := T3.keptS uW (by
          rintro (e | e)
          · exact T3.apartG d3.B e
          · exact T3.apart d3.M e)
        have HI := Lib.hid (unFold_snoc root (m.wF root q) (fun k => idxI q k) (m, b) pre x)
        have Hpre : Hid ((unFold root (m.wF root q) (fun k => idxI q k) (m, b) (pre ++ [x]).dropLast).2 = false) := Lib.hid (by rw [List.dropLast_concat]; exact hbr)
        generalize hs : unFold root (m.wF root q) (fun k => idxI q k) (m, b) pre = sp at dI eB hgI hbr HI
        obtain ⟨⟨mm, bb⟩, br⟩ := sp
        dsimp only at dI eB hgI hbr
        subst hbr
        clear hs
        gi_wp2_with fail
        rename_i K6 hK6
        refine round_tail 9 (by kernel_rfl) (by kernel_rfl) (by kernel_rfl) ?_ ?_
        · rintro ⟨_, _, h⟩
          exact h
        simp only [List.take_succ_cons, List.take_zero, List.drop_succ_cons, List.drop_zero]
        intro W5 hW5
        have U5 : Upd (fun k => k = GB ∨ k = m.B) w3 W5 := by rw [hW5]; exact uW.drew
        have u5 : Upd (fun _ => False) W W5 := by rw [hW5]; exact (Upd.refl _ _).drew
        have h5 : SpAt W5 S MA A root := hW.kept u5 id
        have d5 : Duo W5 A MA GB mm bb := dI.still u5
        have T5 : Tab W5 := TW.kept u5
        have a5 := u5.at hc1 id
        have b5 : Boxed W5 X0 26 (.pointer (some ⟨S, 0, none⟩)) := u5.at bW id
        have HS := Lib.hid (show W.heap.size ≤ W5.heap.size from u5.size)
        have HU := Lib.hid u5
        clear hW5 u5 hW dI TW bW
        have c0 := h5.c0
        have cb := b5.cell
        obtain ⟨b0, b1⟩ := box2 a5
        repeat still_step
        refine wpStill_nil ?_
        go_wp2_with fail
        refine (wput_any MA mm (m.wF root q x) (idxI q x) En.zero _ d5.M T5 (by decide)).mono ?_
        rintro z W6 ⟨rfl, M6, u6⟩
        go_wp2_with fail
        try refine hK6 _ _ ?_
        have U6 := U5.trans (u6.mono (T := fun k => k = GB ∨ k = m.B) (fun _ _ e => .inr (e.trans eB)))
        have h6 := h5.kept u6 (fun e => hap (.inr (e.trans eB)))
        have d6 : Duo W6 A MA GB (unPut (m.wF root q) (fun k => idxI q k) mm x) bb := d5.cleared M6 u6 (Mem.put_n _ _ _ _)
        have T6 := T5.keptS u6 (T5.apart d5.M)
        have a6 := u6.at a5 (by omega)
        have b6 : Boxed W6 X0 26 (.pointer (some ⟨S, 0, none⟩)) := u6.at b5 (by omega)
        have HU6 := Lib.hid ((HU.out.mono (T := fun k => k = GB ∨ k = m.B) (fun _ _ x => x.elim)).trans (u6.mono (T := fun k => k = GB ∨ k = m.B) (fun _ _ e => .inr (e.trans eB))))
        have hg6 : Hid ((unPut (m.wF root q) (fun k => idxI q k) mm x).good ∧ (unPut (m.wF root q) (fun k => idxI q k) mm x).B = m.B) := Lib.hid ⟨mm.put_good d5.M.okm hgI _ _ _, (Mem.put_B _ _ _ _).trans eB⟩
        clear U5 h5 d5 T5 a5 b5 HU c0 cb b0 b1 u6 M6 HS
        have hwx : Hid ((Lit.int .i64 (m.wF root q x)).wf = true) := hWf.out x
        have HA := Lib.hid (show unBrk root (m.wF root q) (fun k => idxI q k) (mm, bb) x = true → unFold root (m.wF root q) (fun k => idxI q k) (m, b) (pre ++ [x]) = ((unPut (m.wF root q) (fun k => idxI q k) mm x, bb), true) from fun h => by
          rw [HI.out, h]; unfold unStep; rw [if_pos h]; rfl)
        have HB := Lib.hid (show unBrk root (m.wF root q) (fun k => idxI q k) (mm, bb) x = false → unFold root (m.wF root q) (fun k => idxI q k) (m, b) (pre ++ [x]) = (unFree (m.wF root q x) (unPut (m.wF root q) (fun k => idxI q k) mm x, bb), false) from fun h => by
          rw [HI.out, h]; unfold unStep; rw [if_neg (by rw [h]; decide)]; rfl)
        have HZ : Hid (unBrk root (m.wF root q) (fun k => idxI q k) (mm, bb) x = (decide (m.wF root q x = root) || !(unPut (m.wF root q) (fun k => idxI q k) mm x).zero (m.wF root q x))) := Lib.hid rfl
        clear HI hgI eB
        obtain ⟨res, hres⟩ : ∃ res, unFold root (m.wF root q) (fun k => idxI q k) (m, b) (pre ++ [x]) = res := ⟨_, rfl⟩
        rw [hres] at HA HB
        have Hres := Lib.hid hres
        clear hres
        generalize unBrk root (m.wF root q) (fun k => idxI q k) (mm, bb) x = brk at HA HB HZ
        generalize unPut (m.wF root q) (fun k => idxI q k) mm x = m1 at d6 hg6 HA HB HZ
        have hb1 : Hid (B1 ≠ GB ∧ B1 ≠ m.B) := Lib.hid ⟨by omega, by omega⟩
        have hkf : Hid (∀ W', Upd (fun k => k = GB ∨ k = m.B) W W' → KeepsFrom w3.heap.size W W' ∧ Keeps2 g N W W') := Lib.hid (fun W' u => by
          have := uW.size
          exact ⟨⟨u.size, fun k o hk ho _ => u.at ho (by omega)⟩, keeps2_upd u (by omega) (by omega) (by have := hNX.out; omega) (by have := hNX.out; omega)⟩)
        generalize m.wF root q x = f at a6 hwx HA HB HZ ⊢
        generalize idxI q x = pl at a6 HA HB HZ ⊢
        by_cases hF : f = root
        · subst hF
          have hbk : Hid (brk = true) := Lib.hid (by rw [HZ.out]; simp)
          have HR := Lib.hid (HA.out hbk.out)
          clear HA HB HZ
          gi_wp2_with fail
          rename_i K7 hK7
          refine round_tail 14 (by kernel_rfl) (by kernel_rfl) (by kernel_rfl) ?_ ?_
          · rintro ⟨_, _, h⟩
            exact h
          simp only [List.take_succ_cons, List.take_zero, List.drop_succ_cons, List.drop_zero]
          intro W7 hW7
          have u7 : Upd (fun _ => False) W6 W7 := by rw [hW7]; exact (Upd.refl _ _).drew
          have U7 := U6.trans (u7.mono (T := fun k => k = GB ∨ k = m.B) (fun _ _ x => x.elim))
          have HU7 := Lib.hid (HU6.out.trans (u7.mono (T := fun k => k = GB ∨ k = m.B) (fun _ _ x => x.elim)))
          have h7 := h6.kept u7 id
          have d7 := d6.still u7
          have T7 := T6.kept u7
          have a7 := u7.at a6 id
          have b7 : Boxed W7 X0 26 (.pointer (some ⟨S, 0, none⟩)) := u7.at b6 id
          clear hW7 u7 U6 h6 d6 T6 a6 b6 HU6
          have c0 := h7.c0
          have c2 := h7.c2
          have cb := b7.cell
          obtain ⟨b0, b1⟩ := box2 a7
          iterate 8 still_step
          iterate 6 (with_reducible refine wpStill_off (by simp [Region.wanted, yielded]) ?_; simp only [Act.put, List.setIfInBounds_toArray, List.set_cons_succ, List.set_cons_zero])
          with_reducible refine wpStill_nil ?_
          iterate 2 (with_reducible refine wpList_off (by simp [Region.wanted, yielded]) ?_; simp only [Act.put, List.setIfInBounds_toArray, List.set_cons_succ, List.set_cons_zero])
          go_wp2_with fail
          try refine hK7 _ _ ?_
          gi_wp2
          have R := Hres.out.trans HR.out
          exact ⟨(hkf.out _ HU7.out).1, by rw [R]; exact d7, U7, by rw [R]; exact hg6.out.2, rfl, by rw [R], Hpre.out⟩
        · have hd : decide (f = root) = false := by simp [hF]
          gi_wp2_with fail
          rename_i K7 hK7
          refine round_tail 14 (by kernel_rfl) (by kernel_rfl) (by kernel_rfl) ?_ ?_
          · rintro ⟨_, _, h⟩
            exact h
          simp only [List.take_succ_cons, List.take_zero, List.drop_succ_cons, List.drop_zero]
          intro W7 hW7
          have u7 : Upd (fun _ => False) W6 W7 := by rw [hW7]; exact (Upd.refl _ _).drew
          have U7 := U6.trans (u7.mono (T := fun k => k = GB ∨ k = m.B) (fun _ _ x => x.elim))
          have HU7 := Lib.hid (HU6.out.trans (u7.mono (T := fun k => k = GB ∨ k = m.B) (fun _ _ x => x.elim)))
          have h7 := h6.kept u7 id
          have d7 := d6.still u7
          have T7 := T6.kept u7
          have a7 := u7.at a6 id
          have b7 : Boxed W7 X0 26 (.pointer (some ⟨S, 0, none⟩)) := u7.at b6 id
          clear hW7 u7 U6 h6 d6 T6 a6 b6 HU6
          have c0 := h7.c0
          have c2 := h7.c2
          have cb := b7.cell
          obtain ⟨b0, b1⟩ := box2 a7
          iterate 8 still_step
          iterate 6 (with_reducible refine wpStill_on (by simp [Region.wanted, yielded, hF]) ?_; still_step)
          with_reducible refine wpStill_nil ?_
          with_reducible refine wpList_on ?_ ?_
          · simp [Region.wanted, yielded, hF]
          go_wp2_with fail
          refine (wblank_any MA m1 f _ d7.M T7 hg6.out.1).mono ?_
          rintro z W8 ⟨rfl, u8⟩
          have U8 := U7.trans (u8.mono (T := fun k => k = GB ∨ k = m.B) (fun _ _ x => x.elim))
          have HU8 := Lib.hid (HU7.out.trans (u8.mono (T := fun k => k = GB ∨ k = m.B) (fun _ _ x => x.elim)))
          have h8 := h7.kept u8 id
          have d8 := d7.still u8
          have T8 := T7.kept u8
          have a8 := u8.at a7 id
          have b8 : Boxed W8 X0 26 (.pointer (some ⟨S, 0, none⟩)) := u8.at b7 id
          clear c0 c2 cb b0 b1 U7 HU7 h7 d7 T7 a7 b7 u8
          cases hz : m1.zero f
          · have hbk : Hid (brk = true) := Lib.hid (by rw [HZ.out, hz]; simp)
            have HR := Lib.hid (HA.out hbk.out)
            clear HA HB HZ
            go_wp2_with fail
            try refine hK7 _ _ ?_
            gi_wp2
            have R := Hres.out.trans HR.out
            exact ⟨(hkf.out _ HU8.out).1, by rw [R]; exact d8, U8, by rw [R]; exact hg6.out.2, rfl, by rw [R], Hpre.out⟩
          · have hbk : Hid (brk = false) := Lib.hid (by rw [HZ.out, hz, hd]; rfl)
            have HR := Lib.hid (HB.out hbk.out)
            clear HA HB HZ
            go_wp2_with fail
            try refine hK7 _ _ ?_
            have hmo := d8.M.okm
            have cb := b8.cell
            obtain ⟨b0, b1⟩ := box2 a8
            gi_wp2
            refine ⟨trivial, (callsIn_wide.2 (sfree_all S MA A GB root m1 bb f _ h8 d8 hwx.out)).mono ?_⟩
            rintro z W9 ⟨rfl, d9, u9⟩
            have u9' : Upd (fun k => k = GB ∨ k = m.B) W8 W9 := u9.mono (fun _ _ e => by rwa [hg6.out.2] at e)
            clear u9 cb b0 b1 d8
            gi_wp2
            have R := Hres.out.trans HR.out
            have hk9 := hkf.out _ (HU8.out.trans u9')
            exact ⟨hk9.1, hk9.2, by rw [R]; exact d9, U8.trans u9', by rw [R]; exact (unFree_B f (m1, bb)).trans hg6.out.2, by rw [R]; exact unFree_good f (m1, bb) hmo hg6.out.1, by rw [R]⟩
      case done =>
        rintro D2 ys W hD rfl ⟨dI, uI, eB, hgI, hbr⟩ hdef
        have hEW := Lib.hid (hE3.out.kept uI (by have := hDX.out; omega))
        obtain ⟨e0, e1, e2, e3, z0, z1, z2, z3⟩ := hEW.out.eight
        have uF : Upd (fun k => k = GB ∨ k = m.B) w W := (U3.none).trans uI
        have uF2 := uF.putObj (l := D2) (by have := U3.size; omega) (.deferred none)
        have dF : Duo (W.putObj D2 (.deferred none)) A MA GB _ _ := dI.kept (S := (· = D2)) (Upd.putObjS (S := (· = D2)) (Upd.refl _ W) (.inl rfl) (.deferred none)) (by omega) (by omega) (by omega) (by rw [eB]; omega)
        refine hK _ _ ?_
        go_wp2
        refine ⟨by simp, .inl ⟨_, _, rfl, run_takeDeferred hdef, ?_⟩⟩
        refine ⟨_, results_tmp2 rfl _ _ _, ?_⟩
        have hdl : (unFold root (m.wF root q) (fun k => idxI q k) (m, b) back3.dropLast).2 = false := by
          rw [show back3 = [2, 1] ++ [0] from rfl, unFold_snoc] at hbr
          rw [show back3.dropLast = [2, 1] from rfl]
          cases hx : (unFold root (m.wF root q) (fun k => idxI q k) (m, b) [2, 1]).2
          · rfl
          · rw [hx] at hbr; cases hbr
        first | exact .inr ⟨rfl, back3, List.prefix_refl _, .inl rfl, hdl, rfl, dF, uF2⟩ | exact ⟨back3, List.prefix_refl _, .inl rfl, hdl, rfl, dF, uF2⟩
      case stop =>
        rintro D2 c pre W hD hpre ⟨dI, uI, eB, rfl, hbr⟩ hdef
        have hEW := Lib.hid (hE3.out.kept uI (by have := hDX.out; omega))
        obtain ⟨e0, e1, e2, e3, z0, z1, z2, z3⟩ := hEW.out.eight
        have uF : Upd (fun k => k = GB ∨ k = m.B) w W := (U3.none).trans uI
        have uF2 := uF.putObj (l := D2) (by have := U3.size; omega) (.deferred none)
        have dF : Duo (W.putObj D2 (.deferred none)) A MA GB _ _ := dI.kept (S := (· = D2)) (Upd.putObjS (S := (· = D2)) (Upd.refl _ W) (.inl rfl) (.deferred none)) (by omega) (by omega) (by omega) (by rw [eB]; omega)
        gi_wp2
        go_wp2
        refine ⟨by simp, .inl ⟨_, _, rfl, run_takeDeferred hdef, ?_⟩⟩
        refine ⟨_, results_tmp2 rfl _ _ _, ?_⟩
        first | exact .inr ⟨rfl, pre, hpre, .inr hbr.1, hbr.2, rfl, dF, uF2⟩ | exact ⟨pre, hpre, .inr hbr.1, hbr.2, rfl, dF, uF2⟩
    · go_wp2
      refine ⟨_, results_tmp2 rfl _ _ _, ?_⟩
      first | exact .inl ⟨hX, rfl, U2⟩ | exact ⟨hX, rfl, U2⟩ | exact ⟨rfl, U2⟩
end Go.Proofs.YtpfpcmadhbejiaaDoor

/-
  Package tables: New and Close.
-/
namespace Go.Proofs.YtpfpcmadhbejiaaDoor
open Go.ChangeShapes Go.WideShapes Go.ChangeAt Go.RowKit Go.Shelf Go.Sort

set_option maxHeartbeats 400000 in
theorem snew_nil (o o' : Option Addr) (w : World) (h : o = none ∨ o' = none) :
    Calls Tryd.prog 25 #[.pointer o, .pointer o'] w fun e w' => e = .returned (.tuple #[.pointer none, .int .i64 1]) ∧ w = w' := by
  rcases h with rfl | rfl
  · go_enter Tryd.func25, Tryd.ntmps25
    go_wp2
    go_ret2
    exact ⟨rfl, rfl⟩
  · cases o with
    | none =>
      go_enter Tryd.func25, Tryd.ntmps25
      go_wp2
      go_ret2
      exact ⟨rfl, rfl⟩
    | some a =>
      go_enter Tryd.func25, Tryd.ntmps25
      go_wp2
      go_ret2
      exact ⟨rfl, rfl⟩

set_option maxRecDepth 100000 in
set_option maxHeartbeats 1000000 in
theorem snew_any (MA A GB : Nat) (m : Mem) (b : Bud) (w : World) (hd : Duo w A MA GB m b) :
    Calls Tryd.prog 25 #[.pointer (some ⟨MA, 0, none⟩), .pointer (some ⟨A, 0, none⟩)] w fun e w' =>
      (b.left < 1 ∧ e = .returned (.tuple #[.pointer none, .int .i64 6]) ∧ Upd (fun _ => False) w w') ∨
      (1 ≤ b.left ∧ ∃ S, w.heap.size ≤ S ∧ e = .returned (.tuple #[.pointer (some ⟨S, 0, none⟩), .int .i64 0]) ∧ SpAt w' S MA A ((b.al 1).1.getD 0 0 : Nat) ∧ Duo w' A MA GB (m.clears (b.al 1).1) (b.al 1).2 ∧ Upd (fun k => k = GB ∨ k = m.B) w w') := by
  have hl := hd.B.lts
  have hB := lt_of_heap hd.M.body
  have hM := lt_of_heap hd.M.head
  have u0 := (Upd.refl (fun _ => False) w).alloc (.cells #[.pointer (some ⟨MA, 0, none⟩), .pointer (some ⟨A, 0, none⟩), .int .i64 0] 61)
  have s0 : SpAt (w.alloc (.cells #[.pointer (some ⟨MA, 0, none⟩), .pointer (some ⟨A, 0, none⟩), .int .i64 0] 61)) w.heap.size MA A 0 := heap_alloc_last w _
  have d0 := hd.still u0
  have ok := Lib.hid hd.B.ok
  go_enter Tryd.func25, Tryd.ntmps25
  go_upto_region 2 with fail
  generalize w.alloc (.cells #[.pointer (some ⟨MA, 0, none⟩), .pointer (some ⟨A, 0, none⟩), .int .i64 0] 61) = w0 at u0 s0 d0 ⊢
  generalize hS : w.heap.size = S at s0 hl hB hM ⊢
  have HS := Lib.hid (Nat.le_of_eq hS)
  clear hS
  go_wp2_with fail
  refine (create_any S MA A GB 0 m b 1 _ s0 d0 (by omega)).mono ?_
  rintro e w1 (⟨hlt, rfl, u1⟩ | ⟨hlt, v, rfl, hrow, d1, u1⟩)
  · go_wp2
    go_ret2
    exact .inl ⟨hlt, rfl, u0.trans u1⟩
  · obtain ⟨o, cap, rfl, hcells⟩ := slice1 hrow
    have ha := al_ok ok.out 1 hlt
    obtain ⟨g, rfl, hc⟩ := hcells 0 _ (nat1_at _ _ (by rw [ha.len]; omega))
    have s1 := s0.kept u1 (by omega)
    have cz := s1.c2
    have fz : w1.frozen? ⟨S, 2, none⟩ = false := by unfold World.frozen?; rw [show w1.heap[S]? = _ from s1]; rfl
    clear hcells hrow
    obtain ⟨r, hr⟩ : ∃ r, (b.al 1).1.getD 0 0 = r := ⟨_, rfl⟩
    rw [hr] at hc
    have Hr := Lib.hid hr
    clear hr
    have s2 : SpAt (w1.setCell ⟨S, 2, none⟩ (.int .i64 (r : Nat))) S MA A (r : Nat) := by
      have := heap_setCell_same (C := [.pointer (some ⟨MA, 0, none⟩), .pointer (some ⟨A, 0, none⟩), .int .i64 0]) s1 2 (.int .i64 (r : Nat))
      unfold SpAt
      rw [this]
      rfl
    have u2 : Upd (· = S) w1 (w1.setCell ⟨S, 2, none⟩ (.int .i64 (r : Nat))) := (Upd.refl (· = S) w1).setCell (.inl rfl) _
    have d2 := d1.kept u2 (by omega) (by omega) (by omega) (by rw [Mem.clears_B]; omega)
    go_wp2
    go_ret2
    refine .inr ⟨hlt, S, HS.out, rfl, by rw [Hr.out]; exact s2, d2, ?_⟩
    exact ((u0.none).trans u1).setCell (.inr HS.out) _

/-- frames freed one by one -/
noncomputable def frees (s : Mem × Bud) (l : List Int) : Mem × Bud := l.foldl (fun t f => unFree f t) s
theorem frees_snoc (s : Mem × Bud) (l : List Int) (f : Int) : frees s (l ++ [f]) = unFree f (frees s l) := by unfold frees; rw [List.foldl_append]; rfl
theorem frees_B (s : Mem × Bud) (l : List Int) : (frees s l).1.B = s.1.B := by
  induction l using snoc_induction with
  | h0 => rfl
  | h1 l x ih => rw [frees_snoc, unFree_B, ih]
theorem take_snocI (l : List Int) (k : Nat) (h : k < l.length) : l.take (k + 1) = l.take k ++ [l.getD k 0] := by
  rw [List.take_add_one, List.getElem?_eq_getElem h]
  simp [List.getD_eq_getElem?_getD, List.getElem?_eq_getElem h]
theorem i64s_at (c : List Int) (k : Nat) (h : k < c.length) : (i64s c)[k]? = some (.int .i64 (c.getD k 0)) := by
  simp [i64s, List.getD_eq_getElem?_getD, List.getElem?_eq_getElem h]
set_option maxRecDepth 100000 in
set_option maxHeartbeats 1000000 in
theorem sclose_any (S MA A GB : Nat) (m : Mem) (b : Bud) (s : Sp) (w : World) (h : SpAt w S MA A s.root) (hd : Duo w A MA GB m b) (T : Tab w) (hIn : s.In m) (hOk : s.Ok m.n) (hg : m.good) (hlen : s.tabs.length ≤ 1000) :
    Calls Tryd.prog 20 #[.pointer (some ⟨S, 0, none⟩)] w fun e w' => ∃ v, e = .returned v ∧ w'.ownsRow w.heap.size 3 1 v s.pgs.length (i64s (s.pgs.map fun q => (s.E 3 q).f)) ∧
      Duo w' A MA GB (frees (m, b) (s.tabs.mergeSort leI)).1 (frees (m, b) (s.tabs.mergeSort leI)).2 ∧ Upd (fun k => k = GB ∨ k = m.B) w w' := by
  have hn : m.n ≤ 256 := by have := hd.n; have := hd.B.ok.hi; omega
  have hap := h.apart hd
  have hlts : Hid (S < w.heap.size ∧ A < w.heap.size ∧ MA < w.heap.size ∧ GB < w.heap.size ∧ m.B < w.heap.size) := Lib.hid ⟨lt_of_heap h, hd.B.lts.1, lt_of_heap hd.M.head, hd.B.lts.2, lt_of_heap hd.M.body⟩
  have hv := Lib.hid (svisit_any 40 w.heap.size MA A S m s _ (enters_of Tryd.func40 (by kernel_rfl) rfl) (close_sees w w.heap.size w.heap.size MA A S s.root m [] rfl (Nat.le_refl _) T (by simp)) hIn hOk hg hn _ (Coll.start hd.M T h selC))
  have ht := Lib.hid (fun (W : World) (h : SpAt W S MA A s.root) (hm : MemAt W MA m) (T : Tab W) => stables_any S MA A m s W h hm T hIn hOk hg hn)
  have hE := Lib.hid hOk.vis_selC
  have hwf : Hid (∀ f, f ∈ s.tabs → (Lit.int .i64 f).wf = true) := Lib.hid (fun f hf => by
    obtain ⟨l, d, hl, ho, rfl⟩ := hOk.mem_tabs.1 hf
    obtain ⟨j, hj⟩ := Int.eq_ofNat_of_zero_le (hOk.frb ho).1
    have := (hOk.frb ho).2
    rw [hj] at this ⊢
    exact wf_frame (by omega))
  have hperm := Lib.hid (List.mergeSort_perm s.tabs leI)
  have hlen2 := Lib.hid (hperm.out.length_eq)
  clear hIn hOk hg
  generalize s.tabs.mergeSort leI = L at ht hperm hlen2 ⊢
  have hnone : ∀ k, k = GB ∨ k = m.B → k < w.heap.size := by have := hlts.out; omega
  go_enter Tryd.func20, Tryd.ntmps20
  go_wp2_with fail
  refine hv.out.mono ?_
  rintro e w1 ⟨rfl, j⟩
  obtain ⟨o, cap, hbox, hrow⟩ := j.box
  rw [List.nil_append, hE.out] at hbox hrow
  have hU := j.U
  have hS1 := j.S
  have hT1 := Lib.hid (ht.out w1 j.S j.M j.T)
  have d1 : Duo w1 A MA GB m b := hd.still hU
  clear hv ht j h hd T hE
  rw [List.length_map] at hbox hrow
  obtain ⟨ps, hps⟩ : ∃ ps, s.pgs.map (fun q => (s.E 3 q).f) = ps := ⟨_, rfl⟩
  obtain ⟨n, hn'⟩ : ∃ n, s.pgs.length = n := ⟨_, rfl⟩
  rw [hps] at hrow
  rw [hn'] at hbox hrow
  have Hps := Lib.hid hps
  have Hn := Lib.hid hn'
  clear hps hn'
  go_wp2_with fail
  refine hT1.out.mono ?_
  rintro e w2 ⟨v, rfl, hrow2, u2⟩
  obtain ⟨o2, cap2, rfl⟩ := wk_slice hrow2
  have hbox2 : Boxed w2 w.heap.size 44 (.slice o n cap) := u2.at hbox id
  have hrowB := wk_kept hrow u2 (fun _ _ => id)
  have hS2 := hS1.kept u2 id
  have d2 := d1.still u2
  have hU2 := hU.trans u2
  have hsz := hU.size
  clear hT1 hbox hrow hS1 d1 hU u2
  have hEnt := enters_of Tryd.func29 (by kernel_rfl) rfl
  have hEach := Lib.hid (each_any 29 hEnt S o2 s.tabs.length cap2 (fun i => L.getD i 0)
    (fun i W => Duo W A MA GB (frees (m, b) (L.take i)).1 (frees (m, b) (L.take i)).2 ∧ SpAt W S MA A s.root ∧ W.ownsRow w1.heap.size 3 1 (.slice o2 s.tabs.length cap2) s.tabs.length (i64s L) ∧ Boxed W w.heap.size 44 (.slice o n cap) ∧ W.ownsRow w.heap.size 3 1 (.slice o n cap) n (i64s ps) ∧ Upd (fun k => k = GB ∨ k = m.B) w W) w2 hlen
    ⟨by simpa [frees] using d2, hS2, hrow2, hbox2, hrowB, hU2.none⟩
    (by
      rintro i W ⟨-, -, hrW, -⟩ hi
      obtain ⟨o3, cap3, e3, hc3⟩ := slice1 hrW
      cases e3
      exact hc3 i _ (i64s_at _ _ (by rw [hlen2.out]; exact hi)))
    (by
      rintro i W ⟨hdW, hsW, hrW, hbW, hrB, hUW⟩ hi
      have hi' : i < L.length := by rw [hlen2.out]; exact hi
      refine (sfree_all S MA A GB s.root _ _ (L.getD i 0) W hsW hdW (hwf.out _ (hperm.out.mem_iff.1 (by rw [List.getD_eq_getElem?_getD, List.getElem?_eq_getElem hi']; simp)))).mono ?_
      rintro e W' ⟨rfl, dW, uW⟩
      rw [frees_B] at uW
      refine ⟨rfl, ?_, hsW.kept uW hap, wk_kept hrW uW (fun q hq => ?_), uW.at hbW (fun e => by have := hnone _ e; omega), wk_kept hrB uW (fun q hq => ?_), hUW.trans uW⟩
      · rw [take_snocI _ _ hi', frees_snoc]; exact dW
      · have := (hrW.lt q hq).1; intro e; have := hnone _ e; omega
      · have := (hrB.lt q hq).1; intro e; have := hnone _ e; omega))
  clear hrow2 hbox2 hrowB hS2 d2 hU2 hwf hEnt
  go_wp2_with fail
  refine hEach.out.mono ?_
  rintro e w3 ⟨rfl, d3, -, -, hbox3, hrow3, U3⟩
  have hc := hbox3.cell
  go_wp2
  go_ret
  rw [List.take_of_length_le (by rw [hlen2.out]; exact Nat.le_refl _)] at d3
  exact ⟨_, rfl, by rw [Hps.out, Hn.out]; exact hrow3, d3, U3⟩
end Go.Proofs.YtpfpcmadhbejiaaDoor

/-
  Package tables, in plain numbers: what Protect, Unmap, New and Close do to a space.
-/
namespace Go.Proofs.YtpfpcmadhbejiaaDoor

/-- what a walk tells of a whole space -/
theorem SpInv.wX {s : Sp} {m : Mem} {b : Bud} {Y : Nat × Nat → Prop} (h : SpInv s m b Y) (q : Int) : m.wX s.root q = if 0 ≤ q ∧ q ≤ 4095 then (if (s.E 3 q.toNat).v = true then 0 else 10) else 1 := by
  by_cases hq : 0 ≤ q ∧ q ≤ 4095
  · obtain ⟨j, rfl⟩ := Int.eq_ofNat_of_zero_le hq.1
    rw [if_pos hq, Int.toNat_natCast]
    exact (Sp.walk h.i h.ok h.hn (by omega)).2.1
  · rw [if_neg hq]
    refine (m.walk_no s.root q ?_).2.1
    unfold Mem.wB
    rw [show pageB q = false from decide_eq_false (by omega), Bool.and_false]
theorem SpInv.wE {s : Sp} {m : Mem} {b : Bud} {Y : Nat × Nat → Prop} (h : SpInv s m b Y) (q : Int) : m.wE s.root q = if 0 ≤ q ∧ q ≤ 4095 then s.E 3 q.toNat else En.zero := by
  by_cases hq : 0 ≤ q ∧ q ≤ 4095
  · obtain ⟨j, rfl⟩ := Int.eq_ofNat_of_zero_le hq.1
    rw [if_pos hq, Int.toNat_natCast]
    exact (Sp.walk h.i h.ok h.hn (by omega)).2.2.1
  · rw [if_neg hq]
    refine (m.walk_no s.root q ?_).2.2
    unfold Mem.wB
    rw [show pageB q = false from decide_eq_false (by omega), Bool.and_false]
theorem SpInv.found {s : Sp} {m : Mem} {b : Bud} {Y : Nat × Nat → Prop} (h : SpInv s m b Y) {q : Int} (hx : m.wX s.root q = 0) :
    ∃ qn : Nat, q = qn ∧ qn < 4096 ∧ (s.E 3 qn).v = true ∧ m.wE s.root q = s.E 3 qn ∧ (∀ k, k < 3 → m.wF s.root q k = s.fr k (nd qn k)) ∧ ∀ k, k < 3 → s.on k (nd qn k) = true := by
  rw [h.wX] at hx
  split at hx
  · rename_i hq
    split at hx
    · rename_i hv
      obtain ⟨j, rfl⟩ := Int.eq_ofNat_of_zero_le hq.1
      rw [Int.toNat_natCast] at hv
      obtain ⟨_, _, w3, w4⟩ := Sp.walk h.i h.ok h.hn (q := j) (by omega)
      have hd := (Sp.page_dep h.ok hv).1
      exact ⟨j, rfl, by omega, hv, w3, fun k hk => w4 k (by omega), fun k hk => s.dep_on (by omega) k (by omega)⟩
    · cases hx
  · cases hx
/-- words of others behind a Put into one of a space's tables -/
theorem SameW.put {s : Sp} {m : Mem} {Y : Nat × Nat → Prop} (hok : s.Ok m.n) (hm : m.ok) (hlt : ∀ x, Y x → x.1 < m.n) (hy : ∀ x, Y x → ∀ l d, l ≤ 2 → s.on l d = true → s.fr l d ≠ (x.1 : Nat)) {l d p : Nat} (hl : l ≤ 2) (ho : s.on l d = true) (hp : p < 16) (e : En) (he : e.ok = true) : SameW Y m (m.put (s.fr l d) (p : Nat) e) := by
  intro x hx p' hp'
  have := hlt x hx
  rw [m.word_put hm _ _ _ _ _ (by rw [Mem.slot_iff]; have := hok.frb ho; omega) (by rw [Mem.slot_iff]; omega) he, if_neg (fun c => hy x hx l d hl ho c.1.symm)]
theorem SpInv.protect {s : Sp} {m : Mem} {b : Bud} {Y : Nat × Nat → Prop} (h : SpInv s m b Y) {q : Int} (hx : m.wX s.root q = 0) (wb : Bool) :
    ∃ qn : Nat, q = qn ∧ qn < 4096 ∧ (s.E 3 qn).v = true ∧ m.putB (m.wF s.root q 2) (idxI q 2) { m.wE s.root q with r := wb } = true ∧ SameW Y m (m.put (m.wF s.root q 2) (idxI q 2) { m.wE s.root q with r := wb }) ∧
      ∃ s', SpInv s' (m.put (m.wF s.root q 2) (idxI q 2) { m.wE s.root q with r := wb }) b Y ∧ s'.root = s.root ∧ ∀ q', s'.E 3 q' = if q' = qn then { s.E 3 qn with r := wb } else s.E 3 q' := by
  obtain ⟨qn, rfl, hq, hv, hE, hF, hon⟩ := h.found hx
  rw [hE, hF 2 (by omega)]
  have ho2 := hon 2 (by omega)
  have hidx := idx_nat qn 2 hq (by omega)
  rw [show nd qn (2 + 1) = qn from nd3 qn] at hidx
  rw [show idxI (qn : Nat) 2 = ((qn % 16 : Nat) : Int) from hidx]
  have hst := nd_step qn 2 (by omega)
  rw [show nd qn (2 + 1) = qn from nd3 qn] at hst
  have hp : qn % 16 < 16 := Nat.mod_lt _ (by decide)
  have hf := h.ok.f _ _ hv
  have heok : En.ok { s.E 3 qn with r := wb } = true := by
    unfold En.ok rightB
    have h1 := h.hn
    have h2 := h.ok.pg _ hv
    simp [hv, h2]; omega
  have hs : m.slot (s.fr 2 (nd qn 2)) ((qn % 16 : Nat) : Int) = true := by rw [Mem.slot_iff]; have := h.ok.frb ho2; omega
  have hok := h.ok.page ho2 hp { s.E 3 qn with r := wb } hv (h.ok.pg _ hv) hf.1 hf.2
  have hin := h.i.set h.ok h.mo (l := 2) (by omega) ho2 hp { s.E 3 qn with r := wb } heok (fun h2 => by omega)
  rw [hst] at hok hin
  have hE3 : ∀ q', (s.set 3 qn { s.E 3 qn with r := wb }).E 3 q' = if q' = qn then { s.E 3 qn with r := wb } else s.E 3 q' := by
    intro q'
    by_cases e : q' = qn
    · rw [if_pos e, e, Sp.set_same]
    · rw [if_neg e, s.set_ne _ (by omega)]
  have honn : ∀ l d, l ≤ 2 → (s.set 3 qn { s.E 3 qn with r := wb }).on l d = s.on l d := fun l d hl => s.set_on _ (by omega)
  have hfrn : ∀ l d, l ≤ 2 → (s.set 3 qn { s.E 3 qn with r := wb }).fr l d = s.fr l d := fun l d hl => s.set_fr _ (by omega)
  refine ⟨qn, rfl, hq, hv, by unfold Mem.putB; rw [hs, heok]; rfl, SameW.put h.ok h.mo (fun x hx => h.ylt hx) (fun x hx l d => h.y_fr hx) (by omega) ho2 hp _ heok, s.set 3 qn { s.E 3 qn with r := wb }, ⟨by rw [Mem.put_n]; exact hok, hin, ?_, Mem.put_ok _ h.mo _ _ _, Mem.put_good _ h.mo h.hg _ _ _, h.bk, by rw [Mem.put_n]; exact h.bn, h.y0, ?_, ?_⟩, rfl, hE3⟩
  · intro l d h1 h2 ho
    rw [honn l d h2] at ho
    obtain ⟨p, hp', hc⟩ := h.nee l d h1 h2 ho
    refine ⟨p, hp', ?_⟩
    by_cases e : l = 2
    · subst e
      rw [hE3]
      split
      · exact hv
      · exact hc
    · rw [s.set_ne _ (by omega)]; exact hc
  · intro x
    rw [h.gv]
    constructor
    · rintro (⟨l, d, hl, ho, rfl⟩ | hy)
      · exact .inl ⟨l, d, hl, by rw [honn l d hl]; exact ho, by rw [hfrn l d hl]⟩
      · exact .inr hy
    · rintro (⟨l, d, hl, ho, rfl⟩ | hy)
      · exact .inl ⟨l, d, hl, by rw [← honn l d hl]; exact ho, by rw [hfrn l d hl]⟩
      · exact .inr hy
  · intro l d hl ho
    rw [honn l d hl] at ho
    rw [hfrn l d hl]
    exact h.ap l d hl ho

/-! Unmap -/
/-- a space in which one table may be without an entry -/
structure SpHalf (s : Sp) (m : Mem) (b : Bud) (Y : Nat × Nat → Prop) (X : Nat × Nat) : Prop where
  ok : s.Ok m.n
  i : s.In m
  nee : ∀ l d, 1 ≤ l → l ≤ 2 → (l, d) ≠ X → s.on l d = true → ∃ p, p < 16 ∧ (s.E (l + 1) (16 * d + p)).v = true
  mo : m.ok
  hg : m.good
  bk : b.Ok
  bn : m.n = b.n
  y0 : ∀ x, Y x → x.2 = 0
  gv : ∀ x, x ∈ b.gave ↔ (∃ l d, l ≤ 2 ∧ s.on l d = true ∧ x = ((s.fr l d).toNat, 0)) ∨ Y x
  ap : ∀ l d, l ≤ 2 → s.on l d = true → ¬ Y ((s.fr l d).toNat, 0)
theorem SpHalf.full {s : Sp} {m : Mem} {b : Bud} {Y : Nat × Nat → Prop} {X : Nat × Nat} (h : SpHalf s m b Y X) (hX : X.1 = 0 ∨ ∃ p, p < 16 ∧ (s.E (X.1 + 1) (16 * X.2 + p)).v = true) : SpInv s m b Y :=
  ⟨h.ok, h.i, fun l d h1 h2 ho => by
    by_cases e : (l, d) = X
    · subst e
      rcases hX with hX | hX
      · simp at hX; omega
      · exact hX
    · exact h.nee l d h1 h2 e ho, h.mo, h.hg, h.bk, h.bn, h.y0, h.gv, h.ap⟩
theorem SpInv.half {s : Sp} {m : Mem} {b : Bud} {Y : Nat × Nat → Prop} (h : SpInv s m b Y) (X : Nat × Nat) : SpHalf s m b Y X :=
  ⟨h.ok, h.i, fun l d h1 h2 _ ho => h.nee l d h1 h2 ho, h.mo, h.hg, h.bk, h.bn, h.y0, h.gv, h.ap⟩
theorem En.word_zero {e : En} (h : e.ok = true) (hw : e.word = 0) : e.v = false := by
  have := (of_word e h).2
  rw [hw] at this
  rw [← this]
  decide
theorem SpHalf.hn {s : Sp} {m : Mem} {b : Bud} {Y : Nat × Nat → Prop} {X : Nat × Nat} (h : SpHalf s m b Y X) : m.n ≤ 256 := by have := h.bn; have := h.bk.hi; omega
theorem SpHalf.ylt {s : Sp} {m : Mem} {b : Bud} {Y : Nat × Nat → Prop} {X : Nat × Nat} (h : SpHalf s m b Y X) {x : Nat × Nat} (hx : Y x) : x.1 < m.n := by
  have h1 := h.bk.blk x ((h.gv x).2 (.inr hx))
  have h2 := h.y0 x hx
  rw [h2] at h1
  have := h.bn
  omega
theorem SpHalf.y_fr {s : Sp} {m : Mem} {b : Bud} {Y : Nat × Nat → Prop} {X : Nat × Nat} (h : SpHalf s m b Y X) {x : Nat × Nat} (hx : Y x) {l d : Nat} (hl : l ≤ 2) (ho : s.on l d = true) : s.fr l d ≠ (x.1 : Nat) := fun e => by
  have := h.ap l d hl ho
  rw [e, Int.toNat_natCast] at this
  have h2 := h.y0 x hx
  exact this (by rw [← h2]; exact hx)
/-- is a table blank? -/
theorem SpHalf.blank {s : Sp} {m : Mem} {b : Bud} {Y : Nat × Nat → Prop} {X : Nat × Nat} (h : SpHalf s m b Y X) {l d : Nat} (hl : l ≤ 2) (ho : s.on l d = true) : m.zero (s.fr l d) = true ↔ ∀ p, p < 16 → (s.E (l + 1) (16 * d + p)).v = false := by
  have hb := h.ok.frb ho
  have hex : m.ex (s.fr l d) 1 = true := decide_eq_true (by omega)
  obtain ⟨g, hg⟩ := Int.eq_ofNat_of_zero_le hb.1
  have hat : ∀ p : Nat, m.word (s.fr l d) (p : Nat) = m.at ((s.fr l d).toNat * 16 + p) := by
    intro p
    unfold Mem.word
    rw [hg]
    congr 1
  constructor
  · intro hz p hp
    refine En.word_zero (h.ok.eok h.hn _ _) ?_
    rw [← h.i l d p hl ho hp, hat, ← m.fr_getD _ _ hp]
    unfold Mem.zero at hz
    rw [hex] at hz
    have : m.fr (s.fr l d).toNat = noughts := by simpa using hz
    rw [this]
    unfold noughts
    rw [List.getD_eq_getElem?_getD, List.getElem?_replicate]
    simp [hp]
  · intro hc
    refine m.zero_of h.mo _ hex fun p hp => ?_
    rw [← hat, h.i l d p hl ho hp, h.ok.none _ _ (hc p hp)]
    rfl
theorem mem_erase_iff {l : List (Nat × Nat)} (hn : l.Nodup) {x y : Nat × Nat} : x ∈ l.erase y ↔ x ∈ l ∧ x ≠ y := by
  constructor
  · intro hx
    exact ⟨List.mem_of_mem_erase hx, fun e => by subst e; exact (hn.not_mem_erase) hx⟩
  · rintro ⟨h1, h2⟩
    exact (List.mem_erase_of_ne h2).2 h1
/-- a table that is blank goes: its frame is freed, its entry in the table above is taken away -/
theorem SpHalf.dropT {s : Sp} {m : Mem} {b : Bud} {Y : Nat × Nat → Prop} {l d : Nat} (h : SpHalf s m b Y (l + 1, d)) (hl : l + 1 ≤ 2) (ho : s.on (l + 1) d = true) (hc : ∀ p, p < 16 → (s.E (l + 2) (16 * d + p)).v = false) :
    SpHalf (s.set (l + 1) d En.zero) ((m.scrub (s.fr (l + 1) d) 1).put (s.fr l (d / 16)) ((d % 16 : Nat) : Int) En.zero) (b.take ((s.fr (l + 1) d).toNat, 0)) Y (l, d / 16) ∧ SameW Y m ((m.scrub (s.fr (l + 1) d) 1).put (s.fr l (d / 16)) ((d % 16 : Nat) : Int) En.zero) := by
  have hv : (s.E (l + 1) d).v = true := by rw [← s.onS]; exact ho
  have hou : s.on l (d / 16) = true := (h.ok.lv _ _ hv).2.2.2
  have hb := h.ok.frb ho
  have hex : m.ex (s.fr (l + 1) d) 1 = true := decide_eq_true (by omega)
  have hz := (h.blank (by omega) ho).2 hc
  have hp : d % 16 < 16 := Nat.mod_lt _ (by decide)
  have hdd : 16 * (d / 16) + d % 16 = d := by omega
  have hin2 : s.In (m.scrub (s.fr (l + 1) d) 1) := by
    intro l' d' p' hl' ho' hp'
    have hb' := h.ok.frb ho'
    rw [m.word_scrub h.mo _ _ _ hex (by rw [Mem.slot_iff]; omega)]
    split
    · rename_i e
      obtain ⟨rfl, rfl⟩ := h.ok.inj _ _ _ _ hl' hl ho' ho e
      rw [h.ok.none _ _ (hc p' hp')]
      rfl
    · exact h.i l' d' p' hl' ho' hp'
  have hmo2 := Mem.ok_scrub m h.mo (s.fr (l + 1) d) 1
  have hok2 : s.Ok (m.scrub (s.fr (l + 1) d) 1).n := by rw [Mem.scrub_n]; exact h.ok
  have hin3 := hin2.set hok2 hmo2 (l := l) (d := d / 16) (p := d % 16) (by omega) hou hp En.zero rfl (fun _ e => by cases e)
  rw [hdd] at hin3
  have hok3 := h.ok.drop (l := l) (d := d) (fun _ p hp => hc p hp)
  have hgv := (h.gv _).2 (.inl ⟨l + 1, d, hl, ho, rfl⟩)
  have hon : ∀ l' d', (s.set (l + 1) d En.zero).on l' d' = true ↔ s.on l' d' = true ∧ ¬ (l' = l + 1 ∧ d' = d) := by
    intro l' d'
    by_cases hx : l' = l + 1 ∧ d' = d
    · rw [hx.1, hx.2, Sp.set_on_same]
      simp [En.zero]
    · rw [s.set_on _ hx]; simp [hx]
  have hfr : ∀ l' d', ¬ (l' = l + 1 ∧ d' = d) → (s.set (l + 1) d En.zero).fr l' d' = s.fr l' d' := fun l' d' hx => s.set_fr _ hx
  refine ⟨⟨by rw [Mem.put_n, Mem.scrub_n]; exact hok3, hin3, ?_, Mem.put_ok _ hmo2 _ _ _, Mem.put_good _ hmo2 (Mem.scrub_good _ h.mo h.hg _) _ _ _, h.bk.take hgv, by rw [Mem.put_n, Mem.scrub_n]; exact h.bn, h.y0, ?_, ?_⟩, ?_⟩
  · intro l' d' h1 h2 hne ho'
    obtain ⟨ho1, hx⟩ := (hon l' d').1 ho'
    obtain ⟨p, hp', hcv⟩ := h.nee l' d' h1 h2 (fun e => hx (by simpa using e)) ho1
    refine ⟨p, hp', ?_⟩
    rw [s.set_ne _ ?_]
    · exact hcv
    · rintro ⟨e1, e2⟩
      refine hne ?_
      have : d' = d / 16 := by omega
      rw [this, show l' = l from by omega]
  · intro x
    show x ∈ b.gave.erase _ ↔ _
    rw [mem_erase_iff h.bk.nodup, h.gv]
    constructor
    · rintro ⟨⟨l', d', hl', ho', rfl⟩ | hy, hne⟩
      · have hx : ¬ (l' = l + 1 ∧ d' = d) := fun e => hne (by rw [e.1, e.2])
        exact .inl ⟨l', d', hl', (hon l' d').2 ⟨ho', hx⟩, by rw [hfr l' d' hx]⟩
      · exact .inr hy
    · rintro (⟨l', d', hl', ho', rfl⟩ | hy)
      · obtain ⟨ho1, hx⟩ := (hon l' d').1 ho'
        rw [hfr l' d' hx]
        refine ⟨.inl ⟨l', d', hl', ho1, rfl⟩, fun e => hx ?_⟩
        have e1 : (s.fr l' d').toNat = (s.fr (l + 1) d).toNat := (Prod.mk.inj e).1
        have := h.ok.frb ho1
        exact h.ok.inj _ _ _ _ hl' hl ho1 ho (by omega)
      · exact ⟨.inr hy, fun e => h.ap _ _ hl ho (e ▸ hy)⟩
  · intro l' d' hl' ho'
    obtain ⟨ho1, hx⟩ := (hon l' d').1 ho'
    rw [hfr l' d' hx]
    exact h.ap l' d' hl' ho1
  · refine SameW.trans (b := m.scrub (s.fr (l + 1) d) 1) ?_ (SameW.put hok2 hmo2 (fun x hx => by rw [Mem.scrub_n]; exact h.ylt hx) (fun x hx l d => h.y_fr hx) (by omega) hou hp _ rfl)
    intro x hx p' hp'
    have := h.ylt hx
    rw [m.word_scrub h.mo _ _ _ hex (by rw [Mem.slot_iff]; omega), if_neg (fun e => h.y_fr hx hl ho e.symm)]
end Go.Proofs.YtpfpcmadhbejiaaDoor

/-
  Package tables, in plain numbers: Unmap whole, New, Close.
-/
namespace Go.Proofs.YtpfpcmadhbejiaaDoor

theorem unFree_yes {f : Int} {s : Mem × Bud} (h : ((f.toNat, 0) : Nat × Nat) ∈ s.2.gave) (h0 : 0 ≤ f) : unFree f s = (s.1.scrub f 1, s.2.take (f.toNat, 0)) := by
  unfold unFree; rw [if_pos ⟨h, h0⟩]
theorem unFold_one (root : Int) (F P : Nat → Int) (s : Mem × Bud) (k : Nat) : unFold root F P s [k] = (unStep root F P s k, unBrk root F P s k) := by
  simp [unFold]
theorem prefix3 {pre : List Nat} (h : pre <+: back3) : pre = [] ∨ pre = [2] ∨ pre = [2, 1] ∨ pre = [2, 1, 0] := by
  obtain ⟨t, ht⟩ := h
  unfold back3 at ht
  match pre, ht with
  | [], _ => exact .inl rfl
  | [a], e => simp at e; obtain ⟨rfl, _⟩ := e; exact .inr (.inl rfl)
  | [a, b], e => simp at e; obtain ⟨rfl, rfl, _⟩ := e; exact .inr (.inr (.inl rfl))
  | [a, b, c], e => simp at e; obtain ⟨rfl, rfl, rfl, _⟩ := e; exact .inr (.inr (.inr rfl))
  | a :: b :: c :: d :: r, e => simp at e
theorem not_all {P : Nat → Bool} (h : ¬ ∀ p, p < 16 → P p = false) : ∃ p, p < 16 ∧ P p = true := by
  by_cases hx : ∃ p, p < 16 ∧ P p = true
  · exact hx
  · exact absurd (fun p hp => by
      cases hv : P p
      · rfl
      · exact absurd ⟨p, hp, hv⟩ hx) h
set_option maxHeartbeats 400000 in
theorem SpInv.unmap {s : Sp} {m : Mem} {b : Bud} {Y : Nat × Nat → Prop} (h : SpInv s m b Y) {q : Int} (hx : m.wX s.root q = 0) {pre : List Nat} (hp : pre <+: back3)
    (hend : pre = back3 ∨ (unFold s.root (m.wF s.root q) (fun k => idxI q k) (m, b) pre).2 = true) (hgo : (unFold s.root (m.wF s.root q) (fun k => idxI q k) (m, b) pre.dropLast).2 = false) {m' : Mem} {b' : Bud} (hr : (unFold s.root (m.wF s.root q) (fun k => idxI q k) (m, b) pre).1 = (m', b')) :
    ∃ qn : Nat, q = qn ∧ qn < 4096 ∧ (s.E 3 qn).v = true ∧ m.wE s.root q = s.E 3 qn ∧ m'.n = m.n ∧ m'.B = m.B ∧ b'.n = b.n ∧ b'.res = b.res ∧ SameW Y m m' ∧
      ∃ s', SpInv s' m' b' Y ∧ s'.root = s.root ∧ ∀ q', s'.E 3 q' = if q' = qn then En.zero else s.E 3 q' := by
  obtain ⟨qn, rfl, hq, hv, hE, hF, hon⟩ := h.found hx
  refine ⟨qn, rfl, hq, hv, hE, ?_⟩
  obtain ⟨F, hFe⟩ : ∃ F, m.wF s.root qn = F := ⟨_, rfl⟩
  rw [hFe] at hend hgo hr hF
  obtain ⟨P, hPe⟩ : ∃ P : Nat → Int, (fun k : Nat => idxI (qn : Nat) k) = P := ⟨_, rfl⟩
  rw [hPe] at hend hgo hr
  have hP : ∀ k, k < 3 → P k = ((nd qn (k + 1) % 16 : Nat) : Int) := fun k hk => by rw [← hPe]; exact idx_nat qn k hq hk
  clear hFe hPe
  -- the page goes
  have ho2 := hon 2 (by omega)
  have h33 : nd qn (2 + 1) = qn := nd3 qn
  have hp3 : qn % 16 < 16 := Nat.mod_lt _ (by decide)
  have hst := nd_step qn 2 (by omega)
  rw [h33] at hst
  have e2 : unPut F P m 2 = m.put (s.fr 2 (nd qn 2)) ((qn % 16 : Nat) : Int) En.zero := by
    unfold unPut
    rw [hF 2 (by omega), hP 2 (by omega), h33]
  have hok1 := h.ok.drop (l := 2) (d := qn) (fun h2 => by omega)
  have hin1 := h.i.set h.ok h.mo (l := 2) (by omega) ho2 hp3 En.zero rfl (fun h2 => by omega)
  rw [hst, ← e2] at hin1
  have hsw1 : SameW Y m (unPut F P m 2) := by rw [e2]; exact SameW.put h.ok h.mo (fun x hx => h.ylt hx) (fun x hx l d => h.y_fr hx) (by omega) ho2 hp3 _ rfl
  obtain ⟨s1, hs1⟩ : ∃ s1, s.set 3 qn En.zero = s1 := ⟨_, rfl⟩
  have on1 : ∀ l d, l ≤ 2 → s1.on l d = s.on l d := fun l d hl => by rw [← hs1]; exact s.set_on _ (by omega)
  have fr1 : ∀ l d, l ≤ 2 → s1.fr l d = s.fr l d := fun l d hl => by rw [← hs1]; exact s.set_fr _ (by omega)
  have E1 : ∀ q', s1.E 3 q' = if q' = qn then En.zero else s.E 3 q' := by
    intro q'
    rw [← hs1]
    by_cases e : q' = qn
    · rw [if_pos e, e, Sp.set_same]
    · rw [if_neg e, s.set_ne _ (by omega)]
  have rt1 : s1.root = s.root := by rw [← hs1]; rfl
  rw [hs1] at hok1 hin1
  have half2 : SpHalf s1 (unPut F P m 2) b Y (2, nd qn 2) := by
    refine ⟨by rw [e2, Mem.put_n]; exact hok1, hin1, ?_, by rw [e2]; exact Mem.put_ok _ h.mo _ _ _, by rw [e2]; exact Mem.put_good _ h.mo h.hg _ _ _, h.bk, by rw [e2, Mem.put_n]; exact h.bn, h.y0, ?_, ?_⟩
    · intro l d h1 h2 hne ho
      rw [on1 l d h2] at ho
      obtain ⟨p, hp', hc⟩ := h.nee l d h1 h2 ho
      refine ⟨p, hp', ?_⟩
      by_cases e : l = 2
      · subst e
        rw [E1, if_neg]
        · exact hc
        · intro e'
          refine hne ?_
          rw [show d = nd qn 2 from by rw [nd2]; omega]
      · rw [← hs1, s.set_ne _ (by omega)]; exact hc
    · intro x
      rw [h.gv]
      constructor
      · rintro (⟨l, d, hl, ho, rfl⟩ | hy)
        · exact .inl ⟨l, d, hl, by rw [on1 l d hl]; exact ho, by rw [fr1 l d hl]⟩
        · exact .inr hy
      · rintro (⟨l, d, hl, ho, rfl⟩ | hy)
        · exact .inl ⟨l, d, hl, by rw [← on1 l d hl]; exact ho, by rw [fr1 l d hl]⟩
        · exact .inr hy
    · intro l d hl ho
      rw [on1 l d hl] at ho
      rw [fr1 l d hl]
      exact h.ap l d hl ho
  have o12 : s1.on 2 (nd qn 2) = true := by rw [on1 _ _ (by omega)]; exact ho2
  have f12 : F 2 = s1.fr 2 (nd qn 2) := by rw [hF 2 (by omega), fr1 _ _ (by omega)]
  have n2 : ¬ F 2 = s.root := fun e => by
    have := (h.ok.inj 2 (nd qn 2) 0 0 (by omega) (by omega) ho2 rfl (by rw [← hF 2 (by omega), e, s.fr0])).1
    omega
  have b2 : unBrk s.root F P (m, b) 2 = !(unPut F P m 2).zero (s1.fr 2 (nd qn 2)) := by unfold unBrk; rw [← f12]; simp [n2]
  have hnB2 : (unPut F P m 2).n = m.n ∧ (unPut F P m 2).B = m.B := by rw [e2]; exact ⟨Mem.put_n _ _ _ _, Mem.put_B _ _ _ _⟩
  rcases prefix3 hp with rfl | rfl | rfl | rfl
  · rcases hend with e | e
    · cases e
    · cases e
  · -- the table of level 2 stays
    rw [unFold_one] at hend hr
    have hb : unBrk s.root F P (m, b) 2 = true := by
      rcases hend with e | e
      · cases e
      · exact e
    have hr2 : unStep s.root F P (m, b) 2 = (m', b') := hr
    unfold unStep at hr2
    rw [if_pos hb] at hr2
    obtain ⟨rfl, rfl⟩ := Prod.mk.inj hr2
    rw [b2] at hb
    refine ⟨hnB2.1, hnB2.2, rfl, rfl, hsw1, s1, half2.full (.inr ?_), rt1, E1⟩
    refine not_all (fun hall => ?_)
    rw [(half2.blank (by omega) o12).2 hall] at hb
    cases hb
  all_goals
    have hb2 : unBrk s.root F P (m, b) 2 = false := by
      first
        | (rw [show ([2, 1] : List Nat).dropLast = [2] from rfl, unFold_one] at hgo; exact hgo)
        | (rw [show ([2, 1, 0] : List Nat).dropLast = [2] ++ [1] from rfl, unFold_snoc, unFold_one] at hgo
           cases hx2 : unBrk s.root F P (m, b) 2
           · rfl
           · rw [hx2] at hgo; cases hgo)
    have hz2 : (unPut F P m 2).zero (s1.fr 2 (nd qn 2)) = true := by
      rw [b2] at hb2
      simpa using hb2
    have hc2 := (half2.blank (by omega) o12).1 hz2
    have hT := half2.dropT (l := 1) (by omega) o12 hc2
    have hnd : nd qn 2 / 16 = nd qn 1 := nd_up qn 1 (by omega)
    rw [hnd] at hT
    have hfree : unStep s.root F P (m, b) 2 = ((unPut F P m 2).scrub (s1.fr 2 (nd qn 2)) 1, b.take ((s1.fr 2 (nd qn 2)).toNat, 0)) := by
      unfold unStep
      rw [if_neg (by rw [hb2]; decide), f12]
      exact unFree_yes (s := (unPut F P m 2, b)) ((half2.gv _).2 (.inl ⟨2, _, by omega, o12, rfl⟩)) (half2.ok.frb o12).1
    have e1 : unPut F P ((unPut F P m 2).scrub (s1.fr 2 (nd qn 2)) 1) 1 = ((unPut F P m 2).scrub (s1.fr 2 (nd qn 2)) 1).put (s1.fr 1 (nd qn 1)) ((nd qn 2 % 16 : Nat) : Int) En.zero := by
      unfold unPut
      rw [hF 1 (by omega), hP 1 (by omega), fr1 1 _ (by omega)]
    have f11 : F 1 = s1.fr 1 (nd qn 1) := by rw [hF 1 (by omega), fr1 _ _ (by omega)]
    obtain ⟨st2, hst2⟩ : ∃ st2, st2 = ((unPut F P m 2).scrub (s1.fr 2 (nd qn 2)) 1, b.take ((s1.fr 2 (nd qn 2)).toNat, 0)) := ⟨_, rfl⟩
    rw [← hst2] at hfree
    have e1' : unPut F P st2.1 1 = ((unPut F P m 2).scrub (s1.fr 2 (nd qn 2)) 1).put (s1.fr 1 (nd qn 1)) ((nd qn 2 % 16 : Nat) : Int) En.zero := by rw [hst2]; exact e1
    rw [← e1'] at hT
    obtain ⟨s2, hs2⟩ : ∃ s2, s1.set 2 (nd qn 2) En.zero = s2 := ⟨_, rfl⟩
    have half1 : SpHalf s2 (unPut F P st2.1 1) st2.2 Y (1, nd qn 1) := by
      have := hT.1
      rw [show s1.set (1 + 1) (nd qn 2) En.zero = s2 from hs2] at this
      rw [hst2] at this ⊢
      exact this
    have hsw2 : SameW Y m (unPut F P st2.1 1) := hsw1.trans hT.2
    have E2 : ∀ q', s2.E 3 q' = if q' = qn then En.zero else s.E 3 q' := fun q' => by rw [← hs2, s1.set_ne _ (by omega)]; exact E1 q'
    have rt2 : s2.root = s.root := by rw [← hs2]; exact rt1
    have o21 : s2.on 1 (nd qn 1) = true := by rw [← hs2, s1.set_on _ (by omega), on1 _ _ (by omega)]; exact hon 1 (by omega)
    have f21 : F 1 = s2.fr 1 (nd qn 1) := by rw [f11, ← hs2, s1.set_fr _ (by omega)]
    have n1 : ¬ F 1 = s.root := fun e => by
      have := (h.ok.inj 1 (nd qn 1) 0 0 (by omega) (by omega) (hon 1 (by omega)) rfl (by rw [← hF 1 (by omega), e, s.fr0])).1
      omega
    have b1 : unBrk s.root F P st2 1 = !(unPut F P st2.1 1).zero (s2.fr 1 (nd qn 1)) := by unfold unBrk; rw [← f21]; simp [n1]
    have hnB1 : (unPut F P st2.1 1).n = m.n ∧ (unPut F P st2.1 1).B = m.B := by
      rw [e1', Mem.put_n, Mem.put_B, Mem.scrub_n, Mem.scrub_B]; exact hnB2
    have hbb : st2.2.n = b.n ∧ st2.2.res = b.res := by rw [hst2]; exact ⟨rfl, rfl⟩
  · -- the table of level 1 stays
    rw [show ([2, 1] : List Nat) = [2] ++ [1] from rfl, unFold_snoc, unFold_one, hfree] at hend hr
    dsimp only at hend hr
    have hb : unBrk s.root F P st2 1 = true := by
      rcases hend with e | e
      · cases e
      · rw [hb2, Bool.false_or] at e; exact e
    unfold unStep at hr
    rw [if_pos hb] at hr
    obtain ⟨rfl, rfl⟩ := Prod.mk.inj hr
    rw [b1] at hb
    refine ⟨hnB1.1, hnB1.2, hbb.1, hbb.2, hsw2, s2, half1.full (.inr ?_), rt2, E2⟩
    refine not_all (fun hall => ?_)
    rw [(half1.blank (by omega) o21).2 hall] at hb
    cases hb
  · -- both go
    have hb1 : unBrk s.root F P st2 1 = false := by
      rw [show ([2, 1, 0] : List Nat).dropLast = [2] ++ [1] from rfl, unFold_snoc, unFold_one, hfree, hb2, Bool.false_or] at hgo
      exact hgo
    have hz1 : (unPut F P st2.1 1).zero (s2.fr 1 (nd qn 1)) = true := by
      rw [b1] at hb1
      simpa using hb1
    have hc1 := (half1.blank (by omega) o21).1 hz1
    have hT1 := half1.dropT (l := 0) (by omega) o21 hc1
    have hnd0 : nd qn 1 / 16 = 0 := by rw [nd1]; omega
    rw [hnd0] at hT1
    have hfree1 : unStep s.root F P st2 1 = ((unPut F P st2.1 1).scrub (s2.fr 1 (nd qn 1)) 1, st2.2.take ((s2.fr 1 (nd qn 1)).toNat, 0)) := by
      unfold unStep
      rw [if_neg (by rw [hb1]; decide), f21]
      exact unFree_yes (s := (unPut F P st2.1 1, st2.2)) ((half1.gv _).2 (.inl ⟨1, _, by omega, o21, rfl⟩)) (half1.ok.frb o21).1
    obtain ⟨st1, hst1⟩ : ∃ st1, st1 = ((unPut F P st2.1 1).scrub (s2.fr 1 (nd qn 1)) 1, st2.2.take ((s2.fr 1 (nd qn 1)).toNat, 0)) := ⟨_, rfl⟩
    rw [← hst1] at hfree1
    have f0 : F 0 = s.root := by rw [hF 0 (by omega)]; rfl
    have e0 : unPut F P st1.1 0 = ((unPut F P st2.1 1).scrub (s2.fr 1 (nd qn 1)) 1).put (s2.fr 0 0) ((nd qn 1 % 16 : Nat) : Int) En.zero := by
      show st1.1.put (F 0) (P 0) En.zero = _
      rw [f0, hP 0 (by omega), s2.fr0, rt2, hst1]
    rw [← e0] at hT1
    have hb0 : unBrk s.root F P st1 0 = true := by unfold unBrk; rw [f0]; simp
    rw [show ([2, 1, 0] : List Nat) = ([2] ++ [1]) ++ [0] from rfl, unFold_snoc, unFold_snoc, unFold_one, hfree] at hr
    dsimp only at hr
    rw [hfree1] at hr
    unfold unStep at hr
    rw [if_pos hb0] at hr
    obtain ⟨rfl, rfl⟩ := Prod.mk.inj hr
    have half0 : SpHalf (s2.set 1 (nd qn 1) En.zero) (unPut F P st1.1 0) st1.2 Y (0, 0) := by
      have := hT1.1
      rw [hst1] at this ⊢
      exact this
    refine ⟨by rw [e0, Mem.put_n, Mem.scrub_n]; exact hnB1.1, by rw [e0, Mem.put_B, Mem.scrub_B]; exact hnB1.2, by rw [hst1]; exact hbb.1, by rw [hst1]; exact hbb.2, hsw2.trans hT1.2, _, half0.full (.inl rfl), rt2, fun q' => by rw [s2.set_ne _ (by omega)]; exact E2 q'⟩

/-! New -/
theorem SpInv.new {m : Mem} {b : Bud} (hm : m.ok) (hg : m.good) (hb : b.Ok) (hn : m.n = b.n) (hl : 1 ≤ b.left) {Y : Nat × Nat → Prop} (hY : ∀ x, x ∈ b.gave ↔ Y x) (y0 : ∀ x, Y x → x.2 = 0) :
    SpInv ⟨((b.al 1).1.getD 0 0 : Nat), fun _ _ => En.zero⟩ (m.clears (b.al 1).1) (b.al 1).2 Y ∧ SameW Y m (m.clears (b.al 1).1) := by
  have ha := al_ok hb 1 hl
  obtain ⟨r, hr⟩ : ∃ r, (b.al 1).1 = [r] := List.length_eq_one_iff.1 ha.len
  rw [hr] at ha ⊢
  have hrn := ha.fr r (by simp)
  have hcl : ∀ f p : Nat, f < m.n → p < 16 → (m.clears [r]).word (f : Nat) (p : Nat) = if f ∈ [r] then 0 else m.word (f : Nat) (p : Nat) := fun f p hf hp => m.clears_word hm [r] (fun g hg => by simp at hg; omega) f p hf hp
  have hfree : ((r, 0) : Nat × Nat) ∉ b.gave := fun hmm => by
    have := ((hb.fr r).1 hrn.2).2.2 _ hmm
    rw [inBlk_no] at this
    exact this ⟨Nat.le_refl _, by simp⟩
  have hon : ∀ l d, (Sp.mk ((([r] : List Nat).getD 0 0 : Nat)) fun _ _ => En.zero).on l d = true → l = 0 ∧ d = 0 := by
    intro l d h
    cases l with
    | zero => exact ⟨rfl, by simpa [Sp.on] using h⟩
    | succ l => rw [Sp.onS] at h; cases h
  refine ⟨⟨⟨?_, ?_, fun _ _ _ => rfl, ?_, ?_, ?_, ?_, ?_⟩, ?_, ?_, m.clears_ok hm _, m.clears_good hm hg _, ha.ok, by rw [Mem.clears_n, ha.n]; exact hn, y0, ?_, ?_⟩, ?_⟩
  · show (0 : Int) ≤ (r : Nat); omega
  · show ((r : Nat) : Int) < (m.clears [r]).n; rw [Mem.clears_n]; omega
  · intro l d hv; cases hv
  · intro l d hv; cases hv
  · intro d hv; cases hv
  · intro l d hv; cases hv
  · intro l d l' d' _ _ h1 h2 _
    obtain ⟨rfl, rfl⟩ := hon l d h1
    obtain ⟨rfl, rfl⟩ := hon l' d' h2
    exact ⟨rfl, rfl⟩
  · intro l d p hl ho hp
    obtain ⟨rfl, rfl⟩ := hon l d ho
    show (m.clears [r]).word ((r : Nat) : Int) p = 0
    rw [hcl r p (by omega) hp, if_pos (by simp)]
  · intro l d h1 h2 ho
    have := (hon l d ho).1
    omega
  · intro x
    rw [ha.gave, List.mem_append, hY]
    constructor
    · rintro (hy | hx)
      · exact .inr hy
      · simp at hx
        exact .inl ⟨0, 0, by omega, rfl, by rw [hx]; rfl⟩
    · rintro (⟨l, d, _, ho, rfl⟩ | hy)
      · obtain ⟨rfl, rfl⟩ := hon l d ho
        right
        simp [Sp.fr]
      · exact .inl hy
  · intro l d _ ho
    obtain ⟨rfl, rfl⟩ := hon l d ho
    intro hy
    exact hfree ((hY _).2 hy)
  · intro x hx p hp
    have h1 := hb.blk x ((hY x).2 hx)
    have h2 := y0 x hx
    rw [h2] at h1
    rw [hcl x.1 p (by omega) hp, if_neg]
    intro e
    simp at e
    exact hfree ((hY _).2 (by rw [← e, show ((x.1, 0) : Nat × Nat) = x from by rw [← h2]]; exact hx))
/-! Close -/
structure Freed (m : Mem) (b : Bud) (Y : Nat × Nat → Prop) (m' : Mem) (b' : Bud) : Prop where
  mo : m'.ok
  hg : m'.good
  bk : b'.Ok
  n : m'.n = m.n
  B : m'.B = m.B
  bn : b'.n = b.n
  res : b'.res = b.res
  w : SameW Y m m'
theorem frees_ok {m : Mem} {b : Bud} {Y : Nat × Nat → Prop} (hm : m.ok) (hg : m.good) (hb : b.Ok) (hn : m.n = b.n) (hY : ∀ x, Y x → x ∈ b.gave ∧ x.2 = 0) : ∀ (L : List Int), L.Nodup → (∀ f, f ∈ L → 0 ≤ f ∧ ((f.toNat, 0) : Nat × Nat) ∈ b.gave ∧ ¬ Y (f.toNat, 0)) →
    Freed m b Y (frees (m, b) L).1 (frees (m, b) L).2 ∧ ∀ x, x ∈ (frees (m, b) L).2.gave ↔ x ∈ b.gave ∧ ∀ f, f ∈ L → x ≠ (f.toNat, 0) := by
  intro L
  induction L using snoc_induction with
  | h0 => exact fun _ _ => ⟨⟨hm, hg, hb, rfl, rfl, rfl, rfl, SameW.refl _ _⟩, fun x => by simp [frees]⟩
  | h1 L f ih =>
    intro hnd hall
    rw [List.nodup_append] at hnd
    obtain ⟨F, hG⟩ := ih hnd.1 (fun g hg => hall g (by simp [hg]))
    obtain ⟨h0, h1, h2⟩ := hall f (by simp)
    have hin : ((f.toNat, 0) : Nat × Nat) ∈ (frees (m, b) L).2.gave := (hG _).2 ⟨h1, fun g hg e => by
      have := (hall g (by simp [hg])).1
      have e1 : f.toNat = g.toNat := (Prod.mk.inj e).1
      exact hnd.2.2 g hg f (by simp) (by omega)⟩
    have hex : (frees (m, b) L).1.ex f 1 = true := by
      have := hb.blk _ h1
      refine decide_eq_true ?_
      have := F.n
      simp at *
      omega
    rw [frees_snoc, unFree_yes hin h0]
    refine ⟨⟨Mem.ok_scrub _ F.mo _ _, Mem.scrub_good _ F.mo F.hg _, F.bk.take hin, by rw [Mem.scrub_n]; exact F.n, by rw [Mem.scrub_B]; exact F.B, F.bn, F.res, F.w.trans ?_⟩, ?_⟩
    · intro x hx p hp
      have hx1 := hb.blk _ (hY x hx).1
      rw [(hY x hx).2] at hx1
      rw [Mem.word_scrub _ F.mo _ _ _ hex (by rw [Mem.slot_iff, F.n]; omega), if_neg]
      intro e
      refine h2 ?_
      rw [← e, Int.toNat_natCast, ← (hY x hx).2]
      exact hx
    · intro x
      show x ∈ (frees (m, b) L).2.gave.erase _ ↔ _
      rw [mem_erase_iff F.bk.nodup, hG]
      constructor
      · rintro ⟨⟨a1, a2⟩, a3⟩
        exact ⟨a1, fun g hg => by rcases List.mem_append.1 hg with hg | hg; exact a2 g hg; simp at hg; subst hg; exact a3⟩
      · rintro ⟨a1, a2⟩
        exact ⟨⟨a1, fun g hg => a2 g (by simp [hg])⟩, a2 f (by simp)⟩
theorem SpInv.close {s : Sp} {m : Mem} {b : Bud} {Y : Nat × Nat → Prop} (h : SpInv s m b Y) :
    Freed m b Y (frees (m, b) (s.tabs.mergeSort leI)).1 (frees (m, b) (s.tabs.mergeSort leI)).2 ∧ ∀ x, x ∈ (frees (m, b) (s.tabs.mergeSort leI)).2.gave ↔ Y x := by
  have hp := List.mergeSort_perm s.tabs leI
  have hmem : ∀ f, f ∈ s.tabs.mergeSort leI ↔ ∃ l d, l ≤ 2 ∧ s.on l d = true ∧ f = s.fr l d := fun f => by rw [hp.mem_iff]; exact h.ok.mem_tabs
  obtain ⟨F, hG⟩ := frees_ok (Y := Y) h.mo h.hg h.bk h.bn (fun x hx => ⟨(h.gv x).2 (.inr hx), h.y0 x hx⟩) (s.tabs.mergeSort leI) (hp.nodup_iff.2 h.ok.tabs_nodup) (fun f hf => by
    obtain ⟨l, d, hl, ho, rfl⟩ := (hmem f).1 hf
    exact ⟨(h.ok.frb ho).1, h.has hl ho, h.ap l d hl ho⟩)
  refine ⟨F, fun x => ?_⟩
  rw [hG, h.gv]
  constructor
  · rintro ⟨⟨l, d, hl, ho, rfl⟩ | hy, hne⟩
    · exact absurd rfl (hne _ ((hmem _).2 ⟨l, d, hl, ho, rfl⟩))
    · exact hy
  · intro hy
    refine ⟨.inr hy, fun f hf e => ?_⟩
    obtain ⟨l, d, hl, ho, rfl⟩ := (hmem f).1 hf
    exact h.ap l d hl ho (e ▸ hy)
theorem SpInv.tabs_len {s : Sp} {m : Mem} {b : Bud} (h : SpInv s m b (fun _ => False)) : b.gave.length = s.tabs.length := by
  have hp : b.gave.Perm (s.tabs.map fun f => ((f.toNat, 0) : Nat × Nat)) := by
    refine (List.perm_ext_iff_of_nodup h.bk.nodup ?_).2 ?_
    · have := h.ok.tabs_nodup
      rw [List.nodup_iff_pairwise_ne] at this ⊢
      rw [List.pairwise_map]
      refine this.imp_of_mem ?_
      intro a c ha hc hne e
      have e1 : a.toNat = c.toNat := (Prod.mk.inj e).1
      obtain ⟨l, d, hl, ho, rfl⟩ := h.ok.mem_tabs.1 ha
      obtain ⟨l', d', hl', ho', rfl⟩ := h.ok.mem_tabs.1 hc
      have := h.ok.frb ho
      have := h.ok.frb ho'
      exact hne (by omega)
    · intro x
      rw [h.gv, List.mem_map]
      constructor
      · rintro (⟨l, d, hl, ho, rfl⟩ | hy)
        · exact ⟨_, h.ok.mem_tabs.2 ⟨l, d, hl, ho, rfl⟩, rfl⟩
        · exact hy.elim
      · rintro ⟨f, hf, rfl⟩
        obtain ⟨l, d, hl, ho, rfl⟩ := h.ok.mem_tabs.1 hf
        exact .inl ⟨l, d, hl, ho, rfl⟩
  rw [hp.length_eq, List.length_map]
theorem SpInv.left_len {s : Sp} {m : Mem} {b : Bud} (h : SpInv s m b (fun _ => False)) : b.left + s.tabs.length + b.res = m.n := by
  have := Go.Proofs.YtpfpcmadhbejiaaDoor.left_len _ (b := b) rfl h.bk (fun x hx => h.zero hx)
  rw [h.tabs_len] at this
  rw [h.bn]; exact this
end Go.Proofs.YtpfpcmadhbejiaaDoor

/-
  Package tables: contracts over whole spaces.
-/
namespace Go.Proofs.YtpfpcmadhbejiaaDoor
open Go.ChangeShapes Go.WideShapes Go.ChangeAt Go.RowKit Go.Shelf Go.Sort

/-- a whole space, its memory and its allocator, by their places -/
structure Spc (w : World) (S MA A GB MB : Nat) (s : Sp) (m : Mem) (b : Bud) (Y : Nat × Nat → Prop) : Prop where
  S : SpAt w S MA A s.root
  D : Duo w A MA GB m b
  T : Tab w
  I : SpInv s m b Y
  B : m.B = MB
theorem Spc.kept {U : Nat → Prop} {w w' : World} {S MA A GB MB : Nat} {s : Sp} {m : Mem} {b : Bud} {Y : Nat × Nat → Prop} (h : Spc w S MA A GB MB s m b Y) (u : Upd U w w') (h1 : ¬ U S) (h2 : ¬ U A) (h3 : ¬ U GB) (h4 : ¬ U MA) (h5 : ¬ U MB) (h6 : ¬ U 0) : Spc w' S MA A GB MB s m b Y :=
  ⟨h.S.kept u h1, h.D.kept u h2 h3 h4 (by rw [h.B]; exact h5), h.T.keptS u h6, h.I, h.B⟩
theorem Spc.still {w w' : World} {S MA A GB MB : Nat} {s : Sp} {m : Mem} {b : Bud} {Y : Nat × Nat → Prop} (h : Spc w S MA A GB MB s m b Y) (u : Upd (fun _ => False) w w') : Spc w' S MA A GB MB s m b Y :=
  h.kept u id id id id id id
theorem Spc.tab {w : World} {S MA A GB MB : Nat} {s : Sp} {m : Mem} {b : Bud} {Y : Nat × Nat → Prop} (h : Spc w S MA A GB MB s m b Y) : ¬ (0 = GB ∨ 0 = MB) := by
  rintro (e | e)
  · exact h.T.apartG h.D.B e
  · exact h.T.apart h.D.M (e.trans h.B.symm)
theorem Spc.own {w : World} {S MA A GB MB : Nat} {s : Sp} {m : Mem} {b : Bud} {Y : Nat × Nat → Prop} (h : Spc w S MA A GB MB s m b Y) : ¬ (S = GB ∨ S = MB) := by rw [← h.B]; exact h.S.apart h.D
theorem Spc.lts {w : World} {S MA A GB MB : Nat} {s : Sp} {m : Mem} {b : Bud} {Y : Nat × Nat → Prop} (h : Spc w S MA A GB MB s m b Y) : S < w.heap.size ∧ A < w.heap.size ∧ MA < w.heap.size ∧ GB < w.heap.size ∧ MB < w.heap.size :=
  ⟨lt_of_heap h.S, h.D.B.lts.1, lt_of_heap h.D.M.head, h.D.B.lts.2, by rw [← h.B]; exact lt_of_heap h.D.M.body⟩
theorem frame_wf {f : Int} {n : Nat} (hn : n ≤ 256) (h : 0 ≤ f ∧ f < n) : (Lit.int .i64 f).wf = true := by
  obtain ⟨j, rfl⟩ := Int.eq_ofNat_of_zero_le h.1
  exact wf_frame (by omega)

/-- what Map answers -/
def Sp.mapX (s : Sp) (m : Mem) (b : Bud) (q f : Int) : Int :=
  if ¬ (0 ≤ q ∧ q ≤ 4095) ∨ m.ex f 1 = false then 1 else if (s.E 3 q.toNat).v = true then 4 else if b.left < 3 - s.dep q.toNat then 6 else 0
theorem SpInv.mapX {s : Sp} {m : Mem} {b : Bud} {Y : Nat × Nat → Prop} (h : SpInv s m b Y) {q f : Int} {wb : Bool} {x : Int} {m' : Mem} {b' : Bud} (hM : MapTo m b s.root q f wb x m' b') : x = s.mapX m b q f := by
  have hw := h.wX q
  have hN : 0 ≤ q ∧ q ≤ 4095 → m.wN s.root q = s.dep q.toNat := fun hq => by
    obtain ⟨j, rfl⟩ := Int.eq_ofNat_of_zero_le hq.1
    rw [Int.toNat_natCast]
    exact (Sp.walk h.i h.ok h.hn (by omega)).1
  unfold Sp.mapX
  have h2 := h.map hM
  cases hM with
  | arg h1 => rw [if_pos (.inr h1)]
  | twice h1 hx =>
    rw [hx] at hw
    split at hw
    · rename_i hq
      split at hw
      · rename_i hv
        rw [if_neg (by rw [h1]; simp; omega), if_pos hv]
      · cases hw
    · cases hw
  | walk h1 h0 hx =>
    split at hw
    · split at hw
      · exact absurd hw h0
      · exact absurd hw hx
    · rename_i hq
      rw [if_pos (.inl hq), hw]
  | mem h1 hx hl =>
    rw [hx] at hw
    split at hw
    · rename_i hq
      split at hw
      · cases hw
      · rename_i hv
        rw [hN hq] at hl
        rw [if_neg (by rw [h1]; simp; omega), if_neg hv, if_pos hl]
    · cases hw
  | yes h1 hx k hk hl n0 hn L hL =>
    rcases h2 with ⟨hne, _, _, h3⟩ | ⟨h0, qn, rfl, hq, _, hv, hl', _⟩
    · exfalso
      rcases h3 with h3 | h3 | h3
      · rw [h1] at h3; cases h3
      · exact h3 hx
      · omega
    · rw [h0, if_neg (by rw [h1]; simp; omega), Int.toNat_natCast, if_neg (by rw [hv]; decide), if_neg (by omega)]

/-- what becomes of a space by Map -/
structure MapR (s : Sp) (m : Mem) (b : Bud) (Y : Nat × Nat → Prop) (q f : Int) (wb : Bool) (x : Int) (s' : Sp) (m' : Mem) (b' : Bud) : Prop where
  xe : x = s.mapX m b q f
  n : m'.n = m.n
  res : b'.res = b.res
  w : SameW Y m m'
  r : (x ≠ 0 ∧ s' = s ∧ m' = m ∧ b' = b) ∨ (x = 0 ∧ ∃ qn : Nat, q = qn ∧ qn < 4096 ∧ (0 ≤ f ∧ f < m.n) ∧ (s.E 3 qn).v = false ∧ 3 - s.dep qn ≤ b.left ∧ b' = (b.al (3 - s.dep qn)).2 ∧ s'.root = s.root ∧ ∀ q', s'.E 3 q' = if q' = qn then ⟨true, wb, false, f⟩ else s.E 3 q')
theorem spc_map {w : World} {S MA A GB MB : Nat} {s : Sp} {m : Mem} {b : Bud} {Y : Nat × Nat → Prop} (h : Spc w S MA A GB MB s m b Y) (q f : Int) (wb : Bool) (hf : (Lit.int .i64 f).wf = true) :
    Calls Tryd.prog 11 #[.pointer (some ⟨S, 0, none⟩), .int .i64 q, .int .i64 f, .bool wb] w fun e w' =>
      ∃ x s' m' b', e = .returned (.int .i64 x) ∧ Spc w' S MA A GB MB s' m' b' Y ∧ Upd (fun k => k = GB ∨ k = MB) w w' ∧ MapR s m b Y q f wb x s' m' b' := by
  refine (smap_any S MA A GB s.root m b q f wb w h.S h.D h.T h.I.hg hf).mono ?_
  rintro e w' ⟨x, m', b', rfl, hM, d, u⟩
  rw [h.B] at u
  have hx := h.I.mapX hM
  rcases h.I.map hM with ⟨h0, rfl, rfl, _⟩ | ⟨h0, qn, hq, hq', hf', hv, hl, hb, hn, hB, hw, s', hI, hr, hE⟩
  · exact ⟨x, s, m', b', rfl, ⟨h.S.kept u h.own, d, h.T.keptS u h.tab, h.I, h.B⟩, u, hx, rfl, rfl, SameW.refl _ _, .inl ⟨h0, rfl, rfl, rfl⟩⟩
  · exact ⟨x, s', m', b', rfl, ⟨by rw [hr]; exact h.S.kept u h.own, d, h.T.keptS u h.tab, hI, by rw [hB]; exact h.B⟩, u, hx, hn, by rw [hb]; exact (al_ok h.I.bk _ hl).res, hw, .inr ⟨h0, qn, hq, hq', hf', hv, hl, hb, hr, hE⟩⟩
/-- .. by Unmap -/
structure UnR (s : Sp) (m : Mem) (b : Bud) (Y : Nat × Nat → Prop) (q : Int) (f x : Int) (s' : Sp) (m' : Mem) (b' : Bud) : Prop where
  xe : x = if 0 ≤ q ∧ q ≤ 4095 then (if (s.E 3 q.toNat).v = true then 0 else 10) else 1
  n : m'.n = m.n
  res : b'.res = b.res
  w : SameW Y m m'
  r : (x ≠ 0 ∧ f = 0 ∧ s' = s ∧ m' = m ∧ b' = b) ∨ (x = 0 ∧ ∃ qn : Nat, q = qn ∧ qn < 4096 ∧ (s.E 3 qn).v = true ∧ f = (s.E 3 qn).f ∧ s'.root = s.root ∧ ∀ q', s'.E 3 q' = if q' = qn then En.zero else s.E 3 q')
theorem spc_unmap {w : World} {S MA A GB MB : Nat} {s : Sp} {m : Mem} {b : Bud} {Y : Nat × Nat → Prop} (h : Spc w S MA A GB MB s m b Y) (q : Int) :
    Calls Tryd.prog 9 #[.pointer (some ⟨S, 0, none⟩), .int .i64 q] w fun e w' =>
      ∃ f x s' m' b', e = .returned (.tuple #[.int .i64 f, .int .i64 x]) ∧ Spc w' S MA A GB MB s' m' b' Y ∧ Upd (fun k => k = GB ∨ k = MB) w w' ∧ UnR s m b Y q f x s' m' b' := by
  refine (sunmap_any S MA A GB s.root m b q w h.S h.D h.T h.I.hg (frame_wf h.I.hn ⟨h.I.ok.rlo, h.I.ok.rhi⟩)).mono ?_
  have hx := h.I.wX q
  rintro e w' (⟨h0, rfl, u⟩ | ⟨h0, pre, hp, hend, hgo, rfl, d, u⟩)
  · exact ⟨0, _, s, m, b, rfl, h.still u, u.none, hx, rfl, rfl, SameW.refl _ _, .inl ⟨h0, rfl, rfl, rfl, rfl⟩⟩
  · rw [h.B] at u
    obtain ⟨qn, hq, hq', hv, hE, hn, hB, hbn, hres, hw, s', hI, hr, hE'⟩ := h.I.unmap h0 hp hend hgo rfl
    refine ⟨_, 0, s', _, _, rfl, ⟨by rw [hr]; exact h.S.kept u h.own, d, h.T.keptS u h.tab, hI, by rw [hB]; exact h.B⟩, u, h0.symm.trans hx, hn, hres, hw, .inr ⟨rfl, qn, hq, hq', hv, by rw [hE], hr, hE'⟩⟩
/-- .. by Protect -/
structure PrR (s : Sp) (m : Mem) (Y : Nat × Nat → Prop) (q : Int) (wb : Bool) (x : Int) (s' : Sp) (m' : Mem) : Prop where
  xe : x = if 0 ≤ q ∧ q ≤ 4095 then (if (s.E 3 q.toNat).v = true then 0 else 10) else 1
  n : m'.n = m.n
  w : SameW Y m m'
  r : (x ≠ 0 ∧ s' = s ∧ m' = m) ∨ (x = 0 ∧ ∃ qn : Nat, q = qn ∧ qn < 4096 ∧ (s.E 3 qn).v = true ∧ s'.root = s.root ∧ ∀ q', s'.E 3 q' = if q' = qn then { s.E 3 qn with r := wb } else s.E 3 q')
theorem spc_protect {w : World} {S MA A GB MB : Nat} {s : Sp} {m : Mem} {b : Bud} {Y : Nat × Nat → Prop} (h : Spc w S MA A GB MB s m b Y) (q : Int) (wb : Bool) :
    Calls Tryd.prog 10 #[.pointer (some ⟨S, 0, none⟩), .int .i64 q, .bool wb] w fun e w' =>
      ∃ x s' m', e = .returned (.int .i64 x) ∧ Spc w' S MA A GB MB s' m' b Y ∧ Upd (fun k => k = GB ∨ k = MB) w w' ∧ PrR s m Y q wb x s' m' := by
  refine (sprotect_any S MA A s.root m q wb w h.S h.D.M h.T h.I.hg).mono ?_
  have hx := h.I.wX q
  rintro e w' (⟨h0, rfl, u⟩ | ⟨h0, rfl, hm, u⟩)
  · exact ⟨_, s, m, rfl, h.still u, u.none, hx, rfl, SameW.refl _ _, .inl ⟨h0, rfl, rfl⟩⟩
  · obtain ⟨qn, hq, hq', hv, hpB, hw, s', hI, hr, hE⟩ := h.I.protect h0 wb
    have d := h.D.cleared hm u (Mem.put_n _ _ _ _)
    have u' : Upd (fun k => k = GB ∨ k = MB) w w' := u.mono (fun _ _ e => .inr (e.trans h.B))
    refine ⟨0, s', _, by rw [hpB]; rfl, ⟨by rw [hr]; exact h.S.kept u' h.own, d, h.T.keptS u' h.tab, hI, by rw [Mem.put_B]; exact h.B⟩, u', h0.symm.trans hx, Mem.put_n _ _ _ _, hw, .inr ⟨rfl, qn, hq, hq', hv, hr, hE⟩⟩
/-- what Find tells -/
def Sp.findE (s : Sp) (q : Int) : En := if 0 ≤ q ∧ q ≤ 4095 then s.E 3 q.toNat else En.zero
def Sp.findX (s : Sp) (q : Int) : Int := if 0 ≤ q ∧ q ≤ 4095 then (if (s.E 3 q.toNat).v = true then 0 else 10) else 1
theorem spc_find {w : World} {S MA A GB MB : Nat} {s : Sp} {m : Mem} {b : Bud} {Y : Nat × Nat → Prop} (h : Spc w S MA A GB MB s m b Y) (q : Int) :
    Calls Tryd.prog 12 #[.pointer (some ⟨S, 0, none⟩), .int .i64 q] w fun e w' => e = .returned (.tuple #[(s.findE q).val, .int .i64 (s.findX q)]) ∧ Upd (fun _ => False) w w' := by
  have := sfind_any S MA A s.root m q w h.S h.D.M h.T h.I.hg
  rw [h.I.wE, h.I.wX] at this
  exact this
theorem spc_walk {w : World} {S MA A GB MB : Nat} {s : Sp} {m : Mem} {b : Bud} {Y : Nat × Nat → Prop} (h : Spc w S MA A GB MB s m b Y) (q : Int) :
    Calls Tryd.prog 13 #[.pointer (some ⟨MA, 0, none⟩), .int .i64 s.root, .int .i64 q] w fun e w' => ∃ o n cap, e = .returned (.tuple #[(s.findE q).val, .slice o n cap, .int .i64 (s.findX q)]) ∧ Upd (fun _ => False) w w' := by
  refine (walk_row (root := s.root) (q := q) w.heap.size (Nat.le_refl _) h.D.M h.T h.I.hg).mono ?_
  rintro e w' ⟨o, cap, rfl, _, u⟩
  rw [h.I.wE, h.I.wX]
  exact ⟨o, _, cap, rfl, u⟩
theorem spc_root {w : World} {S MA A GB MB : Nat} {s : Sp} {m : Mem} {b : Bud} {Y : Nat × Nat → Prop} (h : Spc w S MA A GB MB s m b Y) :
    Calls Tryd.prog 14 #[.pointer (some ⟨S, 0, none⟩)] w fun e w' => e = .returned (.int .i64 s.root) ∧ w = w' := sroot_any S MA A s.root w h.S
def Sp.pgi (s : Sp) : List Int := s.pgs.map fun q => ((q : Nat) : Int)
def Sp.tbs (s : Sp) : List Int := s.tabs.mergeSort leI
theorem Sp.pgi_len (s : Sp) : s.pgi.length = s.pgs.length := by simp [Sp.pgi]
theorem Sp.tbs_len (s : Sp) : s.tbs.length = s.tabs.length := (List.mergeSort_perm s.tabs leI).length_eq
theorem spc_pages {w : World} {S MA A GB MB : Nat} {s : Sp} {m : Mem} {b : Bud} {Y : Nat × Nat → Prop} (h : Spc w S MA A GB MB s m b Y) :
    Calls Tryd.prog 15 #[.pointer (some ⟨S, 0, none⟩)] w fun e w' => ∃ v, e = .returned v ∧ w'.ownsRow w.heap.size 3 1 v s.pgi.length (i64s s.pgi) ∧ Upd (fun _ => False) w w' := by
  have := spages_any S MA A m s w h.S h.D.M h.T h.I.i h.I.ok h.I.hg h.I.hn
  rw [h.I.ok.vis_selP] at this
  exact this
theorem spc_tables {w : World} {S MA A GB MB : Nat} {s : Sp} {m : Mem} {b : Bud} {Y : Nat × Nat → Prop} (h : Spc w S MA A GB MB s m b Y) :
    Calls Tryd.prog 16 #[.pointer (some ⟨S, 0, none⟩)] w fun e w' => ∃ v, e = .returned v ∧ w'.ownsRow w.heap.size 3 1 v s.tbs.length (i64s s.tbs) ∧ Upd (fun _ => False) w w' := by
  have := stables_any S MA A m s w h.S h.D.M h.T h.I.i h.I.ok h.I.hg h.I.hn
  rw [s.tbs_len]
  exact this
theorem Sp.lev_len (s : Sp) (l : Nat) : (s.lev l).length ≤ 16 ^ l := by
  unfold Sp.lev
  have := List.length_filter_le (fun d => (s.E l d).v) (List.range (16 ^ l))
  rwa [List.length_range] at this
theorem SpInv.tabs_bd {s : Sp} {m : Mem} {b : Bud} {Y : Nat × Nat → Prop} (h : SpInv s m b Y) : s.tabs.length ≤ 273 := by
  have h1 := s.lev_len 1
  have h2 := s.lev_len 2
  rw [h.ok.tabs_len]
  omega
theorem spc_close {w : World} {S MA A GB MB : Nat} {s : Sp} {m : Mem} {b : Bud} {Y : Nat × Nat → Prop} (h : Spc w S MA A GB MB s m b Y) :
    Calls Tryd.prog 20 #[.pointer (some ⟨S, 0, none⟩)] w fun e w' => ∃ v m' b', e = .returned v ∧ w'.ownsRow w.heap.size 3 1 v s.pgs.length (i64s (s.pgs.map fun q => (s.E 3 q).f)) ∧ Duo w' A MA GB m' b' ∧ Upd (fun k => k = GB ∨ k = MB) w w' ∧ Tab w' ∧ Freed m b Y m' b' ∧ ∀ x, x ∈ b'.gave ↔ Y x := by
  refine (sclose_any S MA A GB m b s w h.S h.D h.T h.I.i h.I.ok h.I.hg (by have := h.I.tabs_bd; omega)).mono ?_
  rintro e w' ⟨v, rfl, hrow, d, u⟩
  rw [h.B] at u
  exact ⟨v, _, _, rfl, hrow, d, u, h.T.keptS u h.tab, h.I.close.1, h.I.close.2⟩
theorem spc_new {w : World} {MA A GB MB : Nat} {m : Mem} {b : Bud} (hd : Duo w A MA GB m b) (T : Tab w) (hB : m.B = MB) (hg : m.good) {Y : Nat × Nat → Prop} (hY : ∀ x, x ∈ b.gave ↔ Y x) (y0 : ∀ x, Y x → x.2 = 0) :
    Calls Tryd.prog 25 #[.pointer (some ⟨MA, 0, none⟩), .pointer (some ⟨A, 0, none⟩)] w fun e w' =>
      (b.left < 1 ∧ e = .returned (.tuple #[.pointer none, .int .i64 6]) ∧ Upd (fun _ => False) w w') ∨
      (1 ≤ b.left ∧ ∃ S s m', w.heap.size ≤ S ∧ e = .returned (.tuple #[.pointer (some ⟨S, 0, none⟩), .int .i64 0]) ∧ Spc w' S MA A GB MB s m' (b.al 1).2 Y ∧ Upd (fun k => k = GB ∨ k = MB) w w' ∧ m'.n = m.n ∧ s.root = ((b.al 1).1.getD 0 0 : Nat) ∧ (∀ l d, s.E l d = En.zero) ∧ SameW Y m m') := by
  refine (snew_any MA A GB m b w hd).mono ?_
  rintro e w' (⟨h0, rfl, u⟩ | ⟨h0, S, hS, rfl, s0, d, u⟩)
  · exact .inl ⟨h0, rfl, u⟩
  · rw [hB] at u
    obtain ⟨hI, hw⟩ := SpInv.new hd.M.okm hg hd.B.ok hd.n h0 hY y0
    refine .inr ⟨h0, S, _, _, hS, rfl, ⟨s0, d, T.keptS u ?_, hI, by rw [Mem.clears_B]; exact hB⟩, u, Mem.clears_n _ _, rfl, fun _ _ => rfl, hw⟩
    rintro (e | e)
    · exact T.apartG hd.B e
    · exact T.apart hd.M (e.trans hB.symm)
end Go.Proofs.YtpfpcmadhbejiaaDoor

/-
  The laws' begun and awake.
-/
namespace Go.Proofs.YtpfpcmadhbejiaaDoor
open Go.ChangeShapes Go.WideShapes Go.ChangeAt Go.RowKit Go.Shelf Go.Sort

/-- nothing of it was there before block B -/
structure SpcNew (B S MA A GB MB : Nat) : Prop where
  s : B ≤ S
  ma : B ≤ MA
  a : B ≤ A
  gb : B ≤ GB
  mb : B ≤ MB
theorem bud0_left (n : Nat) (h1 : 1 ≤ n) (h2 : n ≤ 256) : (bud0 n 0).left = n := by
  have := left_len _ (b := bud0 n 0) rfl (bud0_ok h1 h2 (by omega)) (fun x hx => by simp [bud0] at hx)
  simpa [bud0] using this
set_option maxRecDepth 100000 in
set_option maxHeartbeats 1000000 in
theorem tbegun_any (fs : Int) (w : World) (T : Tab w) :
    Calls Tryd.prog 8 #[.int .i64 fs] w fun e w' =>
      (¬ (1 ≤ fs ∧ fs ≤ 256) ∧ e = .returned (.tuple #[.pointer none, .pointer none, .pointer none]) ∧ Upd (fun _ => False) w w') ∨
      (∃ (n S MA A GB MB : Nat) (s : Sp) (m : Mem) (b : Bud), fs = n ∧ 1 ≤ n ∧ n ≤ 256 ∧ e = .returned (.tuple #[.pointer (some ⟨MA, 0, none⟩), .pointer (some ⟨A, 0, none⟩), .pointer (some ⟨S, 0, none⟩)]) ∧
        Spc w' S MA A GB MB s m b (fun _ => False) ∧ SpcNew w.heap.size S MA A GB MB ∧ m.n = n ∧ b.res = 0 ∧ b.left + 1 = n ∧ (∀ l d, s.E l d = En.zero) ∧ s.root = (((bud0 n 0).al 1).1.getD 0 0 : Nat) ∧ Upd (fun _ => False) w w') := by
  by_cases h1 : 1 ≤ fs ∧ fs ≤ 256
  · obtain ⟨n, rfl⟩ := Int.eq_ofNat_of_zero_le (show 0 ≤ fs by omega)
    have hn1 : 1 ≤ n := by omega
    have hn2 : n ≤ 256 := by omega
    clear h1
    have hl := Lib.hid (bud0_left n hn1 hn2)
    have ha := Lib.hid (al_ok (bud0_ok hn1 hn2 (show 0 ≤ n by omega)) 1 (by rw [hl.out]; exact hn1))
    go_enter Tryd.func8, Tryd.ntmps8
    go_wp2_with fail
    refine (new_yes n _ hn1 hn2).mono ?_
    rintro e w1 ⟨rfl, M1, U1, S1⟩
    have hs1 := Lib.hid S1
    clear S1
    go_wp2_with fail
    refine (bNew_yes _ _ 0 _ M1 (by omega)).mono ?_
    rintro e w2 ⟨rfl, B2, U2, S2⟩
    have T2 := T.kept (U1.trans U2)
    have D2 : Duo w2 (w1.heap.size + 1) (w.heap.size + 1) w1.heap.size (memNew w.heap.size n) (bud0 n 0) := ⟨B2, M1.kept U2 id id, rfl⟩
    have U02 := U1.trans U2
    clear B2 M1 U1 U2 S2
    have hz := Lib.hid (show w.heap.size ≤ w.heap.size + 1 ∧ w.heap.size ≤ w1.heap.size ∧ w.heap.size ≤ w1.heap.size + 1 from by have := hs1.out; omega)
    have hB : (memNew w.heap.size n).B = w.heap.size := rfl
    have HB := Lib.hid hB
    clear hB
    have hg := Lib.hid (Mem.new_good w.heap.size n)
    have hmn : Hid ((memNew w.heap.size n).n = n) := Lib.hid rfl
    generalize memNew w.heap.size n = m0 at D2 HB hg hmn
    obtain ⟨MB, hMB⟩ : ∃ MB, w.heap.size = MB := ⟨_, rfl⟩
    rw [hMB] at HB
    generalize w.heap.size + 1 = MA at D2 hz ⊢
    generalize w1.heap.size + 1 = A at D2 hz ⊢
    generalize w1.heap.size = GB at D2 hz ⊢
    clear hs1
    go_wp2_with fail
    refine (spc_new D2 T2 HB.out hg.out (Y := fun _ => False) (fun x => by simp [bud0]) (fun x hx => hx.elim)).mono ?_
    rintro e w3 (⟨h0, _⟩ | ⟨h0, S, s, m', hS, rfl, P3, U3, hn3, hr, hE, _⟩)
    · rw [hl.out] at h0; omega
    have hl1 := ha.out.left
    have hr1 := ha.out.res
    rw [hl.out] at hl1
    have Hl1 := Lib.hid hl1
    have Hr1 : Hid (((bud0 n 0).al 1).2.res = 0) := Lib.hid (hr1.trans rfl)
    clear hl1 hr1
    have hn3' := Lib.hid (hn3.trans hmn.out)
    have U4 := Upd.since U02 U3 (by rintro j (rfl | rfl); exact hz.out.2.1; exact Nat.le_of_eq hMB)
    have N4 : SpcNew w.heap.size S MA A GB MB := ⟨Nat.le_trans U02.size hS, hz.out.1, hz.out.2.2, hz.out.2.1, Nat.le_of_eq hMB⟩
    go_wp2
    go_ret3
    exact .inr ⟨n, S, MA, A, GB, MB, s, m', _, rfl, hn1, hn2, rfl, P3, N4, hn3'.out, Hr1.out, Hl1.out, hE, hr, U4⟩
  · have h3 := Lib.hid h1
    go_enter Tryd.func8, Tryd.ntmps8
    go_wp2_with fail
    refine (new_no fs _ (by omega)).mono ?_
    rintro e w1 ⟨rfl, rfl⟩
    go_wp2_with fail
    refine (bNew_nil 0 _).mono ?_
    rintro e w2 ⟨rfl, rfl⟩
    go_wp2_with fail
    refine (snew_nil none none _ (.inl rfl)).mono ?_
    rintro e w2 ⟨rfl, rfl⟩
    go_wp2
    go_ret3
    exact .inl ⟨h3.out, rfl, Upd.refl _ _⟩

theorem SpInv.bare {s : Sp} {m : Mem} {b : Bud} {Y : Nat × Nat → Prop} (h : SpInv s m b Y) (h0 : ∀ q, (s.E 3 q).v = false) : s.tabs.length = 1 := by
  have l2 : ∀ d, (s.E 2 d).v = false := fun d => by
    cases hv : (s.E 2 d).v
    · rfl
    · obtain ⟨p, _, hp⟩ := h.nee 2 d (by omega) (by omega) (by rw [s.onS]; exact hv)
      rw [h0] at hp; cases hp
  have l1 : ∀ d, (s.E 1 d).v = false := fun d => by
    cases hv : (s.E 1 d).v
    · rfl
    · obtain ⟨p, _, hp⟩ := h.nee 1 d (by omega) (by omega) (by rw [s.onS]; exact hv)
      rw [l2] at hp; cases hp
  rw [h.ok.tabs_len]
  unfold Sp.lev
  rw [List.filter_eq_nil_iff.2 (fun d _ => by rw [l1]; decide), List.filter_eq_nil_iff.2 (fun d _ => by rw [l2]; decide)]
  rfl
theorem leI_sorted (l : List Int) : (l.mergeSort leI).Pairwise (fun a c => leI a c = true) :=
  List.pairwise_mergeSort (fun a b c h1 h2 => by unfold leI at *; simp at *; omega) (fun a b => by unfold leI; simp; omega) l
/-- the least is first -/
theorem tbs_zero {s : Sp} {n : Nat} (h : s.Ok n) (h0 : s.root = 0) : s.tbs.getD 0 0 = 0 := by
  have hs := leI_sorted s.tabs
  have hm : (0 : Int) ∈ s.tbs := (List.mergeSort_perm s.tabs leI).mem_iff.2 (by rw [← h0]; exact List.mem_cons_self)
  have hall : ∀ f, f ∈ s.tbs → 0 ≤ f := fun f hf => by
    obtain ⟨l, d, _, ho, rfl⟩ := h.mem_tabs.1 ((List.mergeSort_perm s.tabs leI).mem_iff.1 hf)
    exact (h.frb ho).1
  change s.tbs.Pairwise _ at hs
  generalize s.tbs = L at hs hm hall
  cases L with
  | nil => cases hm
  | cons a L =>
    show a = 0
    rw [List.pairwise_cons] at hs
    have ha := hall a (by simp)
    rcases List.mem_cons.1 hm with e | e
    · exact e.symm
    · have := hs.1 0 e
      unfold leI at this
      simp at this
      omega
theorem al8 : ((bud0 8 0).al 1).1.getD 0 0 = 0 := by decide
set_option maxRecDepth 100000 in
set_option maxHeartbeats 1000000 in
theorem tawake_any (w : World) (T : Tab w) : Calls Tryd.prog 7 #[] w fun e w' => e = .returned (.bool true) ∧ Upd (fun _ => False) w w' := by
  go_enter Tryd.func7, Tryd.ntmps7
  go_wp2_with fail
  refine (tbegun_any 8 _ T).mono ?_
  rintro e w1 (⟨hno, _⟩ | ⟨n, S, MA, A, GB, MB, s, m, b, hn, _, _, rfl, P1, N1, hmn, hres, hl, hE, hr, U1⟩)
  · exact absurd (by omega) hno
  obtain rfl : n = 8 := by omega
  rw [al8] at hr
  have hS1 := Lib.hid (show ∀ j, j = GB ∨ j = MB → w.heap.size ≤ j from by rintro j (rfl | rfl); exact N1.gb; exact N1.mb)
  have HE := Lib.hid hE
  have Hb := Lib.hid (And.intro hres hl)
  have Hr := Lib.hid hr
  have Hm := Lib.hid hmn
  clear hn hE hres hl hr hmn
  go_wp2_with fail
  refine (spc_map P1 291 7 true (by decide)).mono ?_
  rintro e w2 ⟨x, s2, m2, b2, rfl, P2, U2, hM⟩
  have hx : x = 0 := by
    rw [hM.xe]
    unfold Sp.mapX
    have h1 : m.ex 7 1 = true := decide_eq_true (by rw [Hm.out]; omega)
    have h2 : (s.E 3 (291 : Int).toNat).v = false := by rw [HE.out]; rfl
    have h3 : s.dep (291 : Int).toNat = 1 := by unfold Sp.dep; rw [HE.out]; rfl
    rw [if_neg (by rw [h1]; simp), h2, h3, if_neg (by decide), if_neg (by have := Hb.out.2; omega)]
  subst hx
  have hM2 : b2 = (b.al 2).2 ∧ s2.root = s.root ∧ ∀ q', s2.E 3 q' = if q' = 291 then ⟨true, true, false, 7⟩ else s.E 3 q' := by
    rcases hM.r with ⟨h0, _⟩ | ⟨_, qn, hq, _, _, _, _, hb, hr, hE⟩
    · exact absurd rfl h0
    · obtain rfl : qn = 291 := by omega
      have h3 : s.dep 291 = 1 := by unfold Sp.dep; rw [HE.out]; rfl
      rw [h3] at hb
      exact ⟨hb, hr, hE⟩
  have HM := Lib.hid hM2
  have hlen2 : Hid (s2.tbs.length = 3) := Lib.hid (by
    have h1 := P2.I.left_len
    have h2 := (al_ok P1.I.bk 2 (by have := Hb.out.2; omega)).left
    rw [← hM2.1] at h2
    rw [s2.tbs_len]
    have h3 := hM.n
    have h4 := hM.res
    have := Hm.out
    have := Hb.out
    omega)
  have V2 := Upd.since U1 U2 hS1.out
  clear hM hM2 U1 U2 P1
  go_wp2_with fail
  refine (spc_find P2 291).mono ?_
  rintro e w3 ⟨rfl, U3⟩
  have hF : s2.findE 291 = ⟨true, true, false, 7⟩ ∧ s2.findX 291 = 0 := by
    have h1 : s2.E 3 (291 : Int).toNat = ⟨true, true, false, 7⟩ := by rw [HM.out.2.2]; rfl
    unfold Sp.findE Sp.findX
    rw [h1]
    exact ⟨rfl, rfl⟩
  rw [hF.1, hF.2]
  clear hF
  have P3 := P2.still U3
  have V3 := V2.trans U3
  clear P2 V2 U3
  have a4 := heap_alloc_last w3 (.cells #[.bool true, .bool true, .bool false, .int .i64 7] 37)
  have u4 := (Upd.refl (fun _ => False) w3).alloc (.cells #[.bool true, .bool true, .bool false, .int .i64 7] 37)
  go_upto_region 6 with fail
  have P4 := P3.still u4
  have V4 := V3.trans u4
  generalize w3.alloc (.cells #[.bool true, .bool true, .bool false, .int .i64 7] 37) = w4 at a4 u4 P4 V4 ⊢
  have hX4 := Lib.hid (show w.heap.size ≤ w3.heap.size from V3.size)
  generalize w3.heap.size = X4 at a4 hX4 ⊢
  clear P3 V3 u4
  go_wp2_with fail
  refine (spc_tables P4).mono ?_
  rintro e w5 ⟨v, rfl, hrow, U5⟩
  have P5 := P4.still U5
  have V5 := V4.trans U5
  have a5 := U5.at a4 id
  have hN5 := V4.size
  obtain ⟨o, cap, rfl, hcells⟩ := slice1 hrow
  obtain ⟨g, rfl, hc⟩ := hcells 0 _ (i64s_at _ _ (by rw [hlen2.out]; omega))
  have hg := (hrow.lt g rfl).1
  rw [tbs_zero P5.I.ok (by rw [HM.out.2.1]; exact Hr.out)] at hc
  rw [hlen2.out]
  have hlt := P4.lts
  have hgn : ¬ (g = GB ∨ g = MB) := by omega
  have hxn : ¬ (X4 = GB ∨ X4 = MB) := by
    rintro (e | e)
    · obtain ⟨D, ⟨es, clock, hb, _⟩, _⟩ := P4.D.B.mp
      rw [← e, a4] at hb; cases hb
    · have := P4.D.M.body
      rw [P4.B, ← e, a4] at this; simp at this
  clear hrow hcells P4 V4 a4 U5 hlt
  go_wp2_with fail
  refine (spc_unmap P5 291).mono ?_
  rintro e w6 ⟨f6, x6, s6, m6, b6, rfl, P6, U6, hU⟩
  have hx6 : x6 = 0 := by
    rw [hU.xe]
    have h1 : (s2.E 3 (291 : Int).toNat).v = true := by rw [HM.out.2.2]; rfl
    rw [h1]; rfl
  subst hx6
  have hU2 : f6 = 7 ∧ s6.root = 0 ∧ ∀ q, (s6.E 3 q).v = false := by
    rcases hU.r with ⟨h0, _⟩ | ⟨_, qn, hq, _, _, hf, hr, hE⟩
    · exact absurd rfl h0
    · obtain rfl : qn = 291 := by omega
      refine ⟨by rw [hf, HM.out.2.2]; rfl, by rw [hr, HM.out.2.1]; exact Hr.out, fun q => ?_⟩
      rw [hE, HM.out.2.2]
      split
      · rfl
      · rw [HE.out]; rfl
  obtain ⟨rfl, hr6, h60⟩ := hU2
  have hlen6 : Hid (s6.tbs.length = 1) := Lib.hid (by rw [s6.tbs_len]; exact P6.I.bare h60)
  have V6 := Upd.since V5 U6 hS1.out
  have c6 := U6.cell hc hgn
  have a6 := U6.at a5 hxn
  have hb3 := (show EntAt w6 X4 true true false 7 from a6).range 3 _ rfl
  rw [Nat.zero_add] at hb3
  clear hU U6 V5 P5 hc a5 hgn hxn h60 HE HM Hb Hr Hm hg hN5
  go_upto_region 8 with fail
  have hS8 := Lib.hid (show ∀ W', Upd (fun _ => False) w6 W' → W'.cell? ⟨g, 0, none⟩ = some (.int .i64 0) ∧ W'.cell? ⟨X4, 3, none⟩ = some (.int .i64 7) ∧ Upd (fun _ => False) w6 W' from fun W' u => ⟨u.cell c6 id, u.cell hb3 id, u⟩)
  go_region_held3 (fun w' => w'.cell? ⟨g, 0, none⟩ = some (.int .i64 0) ∧ w'.cell? ⟨X4, 3, none⟩ = some (.int .i64 7) ∧ Upd (fun _ => False) w6 w')
    (first
      | assumption
      | exact hS8.out _ (Upd.refl _ _).drew
      | exact hS8.out _ u9)
    (first
      | (go_at_call 16; go_split_ands; rename_i s1 s2 s3; refine (spc_tables (P6.still s3)).mono ?_; rintro e w9 ⟨v9, rfl, hrow9, u9'⟩; have u9 := s3.trans u9'; obtain ⟨o9, cap9, rfl⟩ := wk_slice hrow9; rw [hlen6.out])
      | (go_at_call 14; go_split_ands; rename_i s1 s2 s3; refine (spc_root (P6.still s3)).mono ?_; rintro e w9 ⟨rfl, rfl⟩; rw [hr6]))
  all_goals go_wp2
  all_goals go_ret
  all_goals first | exact ⟨rfl, V6.trans u9⟩ | exact ⟨rfl, V6.trans s3⟩
end Go.Proofs.YtpfpcmadhbejiaaDoor

/-
  Layer 8's laws over a row of calls: what lies in a row's place; worlds behind a call.
-/
namespace Go.Proofs.YtpfpcmadhbejiaaDoor
open Go.ChangeShapes Go.WideShapes Go.ChangeAt Go.RowKit Go.Shelf Go.Sort

/-- one call of the row -/
structure TopIn (w : World) (b o : Nat) (d q f : Int) (wb : Bool) : Prop where
  c0 : w.cell? ⟨b, o, none⟩ = some (.int .i64 d)
  c1 : w.cell? ⟨b, o + 1, none⟩ = some (.int .i64 q)
  c2 : w.cell? ⟨b, o + 2, none⟩ = some (.int .i64 f)
  c3 : w.cell? ⟨b, o + 3, none⟩ = some (.bool wb)
theorem TopIn.kept {T : Nat → Prop} {w w' : World} {b o : Nat} {d q f : Int} {wb : Bool} (h : TopIn w b o d q f wb) (u : Upd T w w') (hb : ¬ T b) : TopIn w' b o d q f wb :=
  ⟨u.cell h.c0 hb, u.cell h.c1 hb, u.cell h.c2 hb, u.cell h.c3 hb⟩
abbrev topKs : List (Option IntKind) := [some .i64, some .i64, some .i64, none]
theorem top4 {w : World} {ao : Option Addr} {n b off : Nat} {E : Nat → Nat → Value} (R : Fr.RowArg w ao n b off topKs E) (i : Nat) (hi : i < n) :
    ∃ (d q f : Int) (wb : Bool), TopIn w b (off + i * 4) d q f wb ∧ (Lit.int .i64 q).wf = true ∧ (Lit.int .i64 f).wf = true := by
  obtain ⟨d, e0, w0⟩ := R.ok i hi 0 _ rfl
  obtain ⟨q, e1, w1⟩ := R.ok i hi 1 _ rfl
  obtain ⟨f, e2, w2⟩ := R.ok i hi 2 _ rfl
  obtain ⟨wb, e3⟩ := R.ok i hi 3 _ rfl
  refine ⟨d, q, f, wb, ⟨?_, ?_, ?_, ?_⟩, w1, w2⟩
  · have := R.cell i hi 0 (by decide); rw [e0] at this; simpa [Nat.add_assoc] using this
  · have := R.cell i hi 1 (by decide); rw [e1] at this; simpa [Nat.add_assoc] using this
  · have := R.cell i hi 2 (by decide); rw [e2] at this; simpa [Nat.add_assoc] using this
  · have := R.cell i hi 3 (by decide); rw [e3] at this; simpa [Nat.add_assoc] using this
theorem rows_below {w w' : World} {ao : Option Addr} {n b off : Nat} {ks : List (Option IntKind)} {E : Nat → Nat → Value} (R : Fr.RowArg w ao n b off ks E) (u : Upd (fun _ => False) w w') : Fr.RowArg w' ao n b off ks E := R.kept (u.below (Nat.le_refl _) fun _ _ => id)
theorem Sp.pgi_getD (s : Sp) (i : Nat) : s.pgi.getD i 0 = ((s.pgs.getD i 0 : Nat) : Int) := by
  unfold Sp.pgi
  rw [List.getD_eq_getElem?_getD, List.getD_eq_getElem?_getD, List.getElem?_map]
  cases s.pgs[i]? <;> rfl
theorem Sp.pgs_at (s : Sp) {i : Nat} (h : i < s.pgs.length) : s.pgs.getD i 0 < 4096 ∧ (s.E 3 (s.pgs.getD i 0)).v = true := Sp.mem_pgs.1 (getD_mem h)
theorem Sp.pgs_up (s : Sp) {i j : Nat} (hij : i < j) (h : j < s.pgs.length) : s.pgs.getD i 0 < s.pgs.getD j 0 := by
  have := List.pairwise_iff_getElem.1 s.pgs_rises i j (by omega) h hij
  rw [List.getD_eq_getElem?_getD, List.getD_eq_getElem?_getD, List.getElem?_eq_getElem h, List.getElem?_eq_getElem (by omega)]
  exact this
theorem Sp.find_page (s : Sp) {i : Nat} (h : i < s.pgs.length) : s.findX (s.pgs.getD i 0 : Nat) = 0 := by
  have := s.pgs_at h
  unfold Sp.findX
  rw [if_pos (by omega), Int.toNat_natCast, if_pos this.2]
theorem Sp.pgs_len (s : Sp) : s.pgs.length ≤ 4096 := by
  have := List.length_filter_le (fun q => (s.E 3 q).v) (List.range 4096)
  rwa [List.length_range] at this
end Go.Proofs.YtpfpcmadhbejiaaDoor
