/-
  The memory and the document's own one side by side, with the same words.
-/
import Derived.Test.YtbakhipabeaojaaDoorWkT
namespace Go.Proofs.YtbakhipabeaojaaDoor
open Go.ChangeShapes Go.WideShapes Go.ChangeAt Go.RowKit

/-- the same memory elsewhere -/
def Mem.re (m : Mem) (B : Nat) : Mem := { m with B := B }
theorem Mem.re_wr (m : Mem) (B : Nat) (a v : Int) : (m.re B).wr a v = (m.wr a v).re B := by
  unfold Mem.wr
  show (if m.has a then _ else _) = _
  split <;> rfl
theorem Mem.re_put (m : Mem) (B : Nat) (f p : Int) (e : En) : (m.re B).put f p e = (m.put f p e).re B := by
  unfold Mem.put
  show (if m.putB f p e = true then _ else _) = _
  split
  · exact m.re_wr B _ _
  · rfl
theorem Mem.re_wF (m : Mem) (B : Nat) (root q : Int) : ∀ k, (m.re B).wF root q k = m.wF root q k
  | 0 => rfl
  | k + 1 => by
    show ((m.re B).getE ((m.re B).wF root q k) (idxI q k)).f = (m.getE (m.wF root q k) (idxI q k)).f
    rw [m.re_wF B root q k]
    rfl
theorem Mem.re_wC (m : Mem) (B : Nat) (root q : Int) (k : Nat) : (m.re B).wC root q k = m.wC root q k := by
  unfold Mem.wC
  rw [m.re_wF B root q k]
  rfl
theorem Mem.re_wN (m : Mem) (B : Nat) (root q : Int) : (m.re B).wN root q = m.wN root q := by
  unfold Mem.wN
  rw [Mem.re_wC, Mem.re_wC]
  rfl
theorem Mem.re_wX (m : Mem) (B : Nat) (root q : Int) : (m.re B).wX root q = m.wX root q := by
  unfold Mem.wX
  rw [Mem.re_wC, Mem.re_wC, Mem.re_wC]
  rfl
theorem Mem.re_wE (m : Mem) (B : Nat) (root q : Int) : (m.re B).wE root q = m.wE root q := by
  unfold Mem.wE
  rw [Mem.re_wC, Mem.re_wC, Mem.re_wC, Mem.re_wF]
  rfl
theorem Mem.re_wS (m : Mem) (B : Nat) (root q : Int) : ∀ k, (m.re B).wS root q k = m.wS root q k
  | 0 => rfl
  | k + 1 => by rw [Mem.wS, Mem.wS, m.re_wS B root q k, m.re_wF]
theorem wk_and15 (n : Int) : bits .and .i64 n 15 = n % 16 := by
  have h : (BitVec.ofInt 64 15).toNat = 2 ^ 4 - 1 := by decide
  have key : (BitVec.ofInt 64 n &&& BitVec.ofInt 64 15).toNat = (n % ((2 ^ 64 : Nat) : Int)).toNat % 2 ^ 4 := by
    rw [BitVec.toNat_and, BitVec.toNat_ofInt, h, Nat.and_two_pow_sub_one_eq_mod]
  show IntKind.i64.wrap ((BitVec.ofInt 64 n &&& BitVec.ofInt 64 15).toNat : Nat) = n % 16
  rw [key, IntKind.wrap_i64]
  omega
theorem wk_and255 (n : Int) : bits .and .i64 n 255 = n % 256 := by
  have h : (BitVec.ofInt 64 255).toNat = 2 ^ 8 - 1 := by decide
  have key : (BitVec.ofInt 64 n &&& BitVec.ofInt 64 255).toNat = (n % ((2 ^ 64 : Nat) : Int)).toNat % 2 ^ 8 := by
    rw [BitVec.toNat_and, BitVec.toNat_ofInt, h, Nat.and_two_pow_sub_one_eq_mod]
  show IntKind.i64.wrap ((BitVec.ofInt 64 n &&& BitVec.ofInt 64 255).toNat : Nat) = n % 256
  rw [key, IntKind.wrap_i64]
  omega
/-- both memories, the same words in both -/
structure Both (w wr : World) (A C B1 B2 : Nat) (m : Mem) : Prop where
  M : MemAt wr A m
  R : RefAt wr C (m.re B2)
  T : Tab wr
  U : Upd (fun _ => False) w wr
  b : m.B = B1
  ok : m.ok
  good : m.good
  l0 : w.heap.size ≤ B1
  l1 : B1 < A
  l2 : A < B2
  l3 : B2 < C
theorem Both.kept {w wr w' : World} {A C B1 B2 : Nat} {m : Mem} (h : Both w wr A C B1 B2 m) (u : Upd (fun _ => False) wr w') : Both w w' A C B1 B2 m :=
  ⟨h.M.kept u id id, h.R.kept u id id, h.T.kept u, h.U.trans u, h.b, h.ok, h.good, h.l0, h.l1, h.l2, h.l3⟩
/-- a call on the one -/
theorem Both.one {w wr w' : World} {A C B1 B2 : Nat} {m m' : Mem} (h : Both w wr A C B1 B2 m) (hM : MemAt w' A m') (u : Upd (· = m.B) wr w') : RefAt w' C (m.re B2) ∧ Tab w' ∧ Upd (fun _ => False) w w' := by
  have hb := h.b
  have h1 := h.l1
  have h2 := h.l2
  have h3 := h.l3
  exact ⟨h.R.kept u (by rw [hb]; omega) (by show ¬ B2 = m.B; rw [hb]; omega), h.T.keptS u (h.T.apart h.M), h.U.fresh u (by rw [hb]; exact h.l0)⟩
/-- and on the other -/
theorem Both.two {w wr w1 w2 : World} {A C B1 B2 : Nat} {m m' : Mem} (h : Both w wr A C B1 B2 m) (hM : MemAt w1 A m') (u : Upd (· = m.B) wr w1) (hR : RefAt w2 C (m'.re B2)) (u' : Upd (· = B2) w1 w2) (hb : m'.B = m.B) (hk : m'.ok) (hg : m'.good) : Both w w2 A C B1 B2 m' := by
  obtain ⟨r1, t1, U1⟩ := h.one hM u
  have hb0 := h.b
  have h0 := h.l0
  have h1 := h.l1
  have h2 := h.l2
  have h3 := h.l3
  exact ⟨hM.kept u' (by omega) (by rw [hb, hb0]; omega), hR, t1.keptS u' (t1.apartR r1), U1.fresh u' (by omega), hb.trans hb0, hk, hg, h0, h1, h2, h3⟩
/-- the contracts over both -/
theorem Both.get {w wr : World} {A C B1 B2 : Nat} {m : Mem} (h : Both w wr A C B1 B2 m) (x y : Int) :
    Calls Tryd.prog 15 #[.pointer (some ⟨A, 0, none⟩), .int .i64 x, .int .i64 y] wr fun e w' => e = .returned (.tuple #[(m.getE x y).val, .int .i64 (m.getX x y)]) ∧ Upd (fun _ => False) wr w' := wget_any A m x y wr h.M h.T h.good
theorem Both.kget {w wr : World} {A C B1 B2 : Nat} {m : Mem} (h : Both w wr A C B1 B2 m) (x y : Int) :
    Calls Tryd.prog 16 #[.pointer (some ⟨C, 0, none⟩), .int .i64 x, .int .i64 y] wr fun e w' => e = .returned (.tuple #[(m.getE x y).val, .int .i64 (m.getX x y)]) ∧ Upd (fun _ => False) wr w' := kget_any C (m.re B2) x y wr h.R h.good
theorem Both.blank {w wr : World} {A C B1 B2 : Nat} {m : Mem} (h : Both w wr A C B1 B2 m) (x : Int) :
    Calls Tryd.prog 17 #[.pointer (some ⟨A, 0, none⟩), .int .i64 x] wr fun e w' => e = .returned (.bool (m.zero x)) ∧ Upd (fun _ => False) wr w' := wblank_any A m x wr h.M h.T h.good
theorem Both.kblank {w wr : World} {A C B1 B2 : Nat} {m : Mem} (h : Both w wr A C B1 B2 m) (x : Int) :
    Calls Tryd.prog 18 #[.pointer (some ⟨C, 0, none⟩), .int .i64 x] wr fun e w' => e = .returned (.bool (m.zero x)) ∧ Upd (fun _ => False) wr w' := kblank_any C (m.re B2) x wr h.R
theorem Both.walk {w wr : World} {A C B1 B2 : Nat} {m : Mem} (h : Both w wr A C B1 B2 m) (root q : Int) :
    Calls Tryd.prog 19 #[.pointer (some ⟨A, 0, none⟩), .int .i64 root, .int .i64 q] wr fun e w' => ∃ v, e = .returned (.tuple #[(m.wE root q).val, v, .int .i64 (m.wX root q)]) ∧
      w'.ownsRow wr.heap.size 55 2 v (m.wN root q) (m.wS root q (m.wN root q)) ∧ Upd (fun _ => False) wr w' := wwalk_any A m root q wr h.M h.T h.good
theorem Both.kwalk {w wr : World} {A C B1 B2 : Nat} {m : Mem} (h : Both w wr A C B1 B2 m) (root q : Int) :
    Calls Tryd.prog 20 #[.pointer (some ⟨C, 0, none⟩), .int .i64 root, .int .i64 q] wr fun e w' => ∃ v, e = .returned (.tuple #[(m.wE root q).val, v, .int .i64 (m.wX root q)]) ∧
      w'.ownsRow wr.heap.size 77 2 v (m.wN root q) (m.wS root q (m.wN root q)) ∧ Upd (fun _ => False) wr w' := by
  have := kwalk_any C (m.re B2) root q wr h.R h.good
  rwa [Mem.re_wE, Mem.re_wX, Mem.re_wN, Mem.re_wS] at this
/-- the steps of the document's walk -/
theorem ksteps_cells0 {w : World} {base : Nat} {v : Value} {m : Mem} {root q : Int} {n : Nat} (h : w.ownsRow base 77 2 v n (m.wS root q n)) : ∃ so g cap, v = .slice so n cap ∧ (0 < n → so = some ⟨g, 0, none⟩) ∧
    ∀ j, j < n → w.cell? ⟨g, j * 2, none⟩ = some (.int .i64 (m.wF root q j)) ∧ w.cell? ⟨g, j * 2 + 1, none⟩ = some (.int .i64 (idxI q j)) := by
  rcases h.2 with ⟨rfl, rfl⟩ | ⟨g, cap, cur, rfl, hb, _⟩
  · exact ⟨none, 0, 0, rfl, fun h => absurd h (by omega), fun j hj => absurd hj (by omega)⟩
  · refine ⟨_, g, cap, rfl, fun _ => rfl, fun j hj => ?_⟩
    obtain ⟨a, b⟩ := m.wS_at root q j n hj
    have c0 := h.cells (g := g) rfl (j * 2) _ a
    have c1 := h.cells (g := g) rfl (j * 2 + 1) _ b
    rw [add_mid0, Nat.zero_add] at c0 c1
    exact ⟨c0, c1⟩
/-- the first k of the three tables -/
def Mem.tabsN (m : Mem) : Nat → Mem
  | 0 => m
  | 1 => m.put 0 1 ⟨true, false, true, 1⟩
  | 2 => (m.put 0 1 ⟨true, false, true, 1⟩).put 1 2 ⟨true, false, true, 2⟩
  | _ => m.tabs
theorem Mem.wN_le (m : Mem) (root q : Int) : m.wN root q ≤ 3 := by
  cases hb : m.wB root q
  · rw [(m.walk_no root q hb).1]; omega
  · exact (m.wN_bd root q hb).2
end Go.Proofs.YtbakhipabeaojaaDoor
