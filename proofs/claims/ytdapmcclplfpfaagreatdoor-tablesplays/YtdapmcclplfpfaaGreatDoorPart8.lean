/-
  Texts that the laws stand on, joined: WkS, WkT, WkU, TrD, TrE, TrF, Row, TrG, TrH, TrI, TrJ, TrK, TrL, TrM, TrN.
-/
import Derived.Deep.RegionHeld3
import Derived.Test.YtdapmcclplfpfaaGreatDoorPart7

/-
  Steps compared; two memories in which a walk goes alike.
-/
namespace Go.Proofs.YtdapmcclplfpfaaGreatDoor
open Go.ChangeShapes Go.WideShapes Go.ChangeAt Go.RowKit

/-- the walk of a page goes alike in two memories: at its own places they are the same -/
def Alike (m m' : Mem) (q : Int) : Prop := m'.n = m.n ∧ ∀ k, k < m.wN 0 q → m'.getE (m.wF 0 q k) (idxI q k) = m.getE (m.wF 0 q k) (idxI q k) ∧ m'.getX (m.wF 0 q k) (idxI q k) = m.getX (m.wF 0 q k) (idxI q k)
theorem Alike.refl (m : Mem) (q : Int) : Alike m m q := ⟨rfl, fun _ _ => ⟨rfl, rfl⟩⟩
theorem Alike.put {m m' : Mem} {q : Int} (h : Alike m m' q) (hk : m'.ok) (x y : Int) (e : En) (hn : ∀ k, k < m.wN 0 q → ¬ (m.wF 0 q k = x ∧ idxI q k = y)) : Alike m (m'.put x y e) q :=
  ⟨by rw [Mem.put_n]; exact h.1, fun k hk' => by
    rw [m'.put_getE hk, m'.put_getX hk, if_neg (fun c => hn k hk' c.2), if_neg (fun c => hn k hk' c.2)]
    exact h.2 k hk'⟩
theorem Alike.step {m m' : Mem} {q : Int} (h : Alike m m' q) : ∀ k, k < m.wN 0 q → m'.wF 0 q k = m.wF 0 q k ∧ m'.wC 0 q k = m.wC 0 q k
  | 0, hk => by
    have e : m'.wF 0 q 0 = m.wF 0 q 0 := rfl
    refine ⟨e, ?_⟩
    unfold Mem.wC
    rw [e, (h.2 0 hk).1, (h.2 0 hk).2]
  | k + 1, hk => by
    have ih := (h.step k (by omega)).1
    have e : m'.wF 0 q (k + 1) = m.wF 0 q (k + 1) := by
      show (m'.getE (m'.wF 0 q k) (idxI q k)).f = (m.getE (m.wF 0 q k) (idxI q k)).f
      rw [ih, (h.2 k (by omega)).1]
    refine ⟨e, ?_⟩
    unfold Mem.wC
    rw [e, (h.2 (k + 1) hk).1, (h.2 (k + 1) hk).2]
theorem Mem.wS_same {m m' : Mem} {q : Int} : ∀ n, (∀ k, k < n → m'.wF 0 q k = m.wF 0 q k) → m'.wS 0 q n = m.wS 0 q n
  | 0, _ => rfl
  | n + 1, h => by rw [Mem.wS, Mem.wS, Mem.wS_same n (fun k hk => h k (by omega)), h n (by omega)]
theorem Alike.walk {m m' : Mem} {q : Int} (h : Alike m m' q) : m'.wN 0 q = m.wN 0 q ∧ m'.wX 0 q = m.wX 0 q ∧ m'.wE 0 q = m.wE 0 q ∧ m'.wS 0 q (m.wN 0 q) = m.wS 0 q (m.wN 0 q) := by
  have hB : m'.wB 0 q = m.wB 0 q := by unfold Mem.wB Mem.ex; rw [h.1]
  cases hb : m.wB 0 q
  · rw [hb] at hB
    obtain ⟨a1, a2, a3⟩ := m.walk_no 0 q hb
    obtain ⟨b1, b2, b3⟩ := m'.walk_no 0 q hB
    rw [a1, a2, a3, b1, b2, b3]
    exact ⟨rfl, rfl, rfl, rfl⟩
  · rw [hb] at hB
    have hs := h.step
    have hbd := m.wN_bd 0 q hb
    obtain ⟨k, hk⟩ : ∃ k, m.wN 0 q = k + 1 := ⟨m.wN 0 q - 1, by omega⟩
    have hon : ∀ j, j < k → m.wC 0 q j = 0 := fun j hj => m.wN_on 0 q j (by omega)
    have hon' : ∀ j, j < k → m'.wC 0 q j = 0 := fun j hj => by rw [(hs j (by omega)).2]; exact hon j hj
    have hS : m'.wS 0 q (m.wN 0 q) = m.wS 0 q (m.wN 0 q) := Mem.wS_same _ fun j hj => (hs j hj).1
    by_cases hc : m.wC 0 q k = 0
    · have hk2 : k = 2 := by
        rcases Nat.lt_or_ge k 2 with h2 | h2
        · exfalso
          unfold Mem.wN at hk
          rw [if_pos hb] at hk
          match k, h2, hc, hon, hk with
          | 0, _, hc, _, hk => rw [hc] at hk; simp at hk; split at hk <;> omega
          | 1, _, hc, hon, hk => rw [hon 0 (by omega), hc] at hk; simp at hk
        · omega
      subst hk2
      have all : ∀ j, j < 3 → m.wC 0 q j = 0 := fun j hj => by
        by_cases e : j = 2
        · rw [e]; exact hc
        · exact hon j (by omega)
      have all' : ∀ j, j < 3 → m'.wC 0 q j = 0 := fun j hj => by rw [(hs j (by omega)).2]; exact all j hj
      obtain ⟨a1, a2, a3⟩ := m.walk_end 0 q hb all
      obtain ⟨b1, b2, b3⟩ := m'.walk_end 0 q hB all'
      refine ⟨by rw [a1, b1], by rw [a2, b2], ?_, hS⟩
      rw [a3, b3, (hs 2 (by omega)).1]
      exact (h.2 2 (by omega)).1
    · have hc' : m'.wC 0 q k ≠ 0 := by rw [(hs k (by omega)).2]; exact hc
      obtain ⟨a1, a2, a3⟩ := m.walk_stop 0 q hb k (by omega) hon hc
      obtain ⟨b1, b2, b3⟩ := m'.walk_stop 0 q hB k (by omega) hon' hc'
      refine ⟨by rw [a1, b1], by rw [a2, b2, (hs k (by omega)).2], by rw [a3, b3], hS⟩
/-- the cells of a walk's steps, also of none -/
theorem steps_cells0 {w : World} {base : Nat} {v : Value} {m : Mem} {root q : Int} {n : Nat} (h : w.ownsRow base 85 2 v n (m.wS root q n)) : ∃ so g cap, v = .slice so n cap ∧ (0 < n → so = some ⟨g, 0, none⟩) ∧
    ∀ j, j < n → w.cell? ⟨g, j * 2, none⟩ = some (.int .i64 (m.wF root q j)) ∧ w.cell? ⟨g, j * 2 + 1, none⟩ = some (.int .i64 (idxI q j)) := by
  by_cases hn : 0 < n
  · obtain ⟨g, cap, rfl, _, hc⟩ := steps_cells h hn
    exact ⟨_, g, cap, rfl, fun _ => rfl, hc⟩
  · obtain ⟨o, cap, rfl⟩ := wk_slice h
    exact ⟨o, 0, cap, rfl, fun h => absurd h hn, fun j hj => absurd hj (by omega)⟩
theorem steps_cells1 {w : World} {base : Nat} {so : Option Addr} {g cap : Nat} {m : Mem} {root q : Int} {n : Nat} (h : w.ownsRow base 85 2 (.slice so n cap) n (m.wS root q n)) (hs : 0 < n → so = some ⟨g, 0, none⟩) :
    ∀ j, j < n → w.cell? ⟨g, j * 2, none⟩ = some (.int .i64 (m.wF root q j)) ∧ w.cell? ⟨g, j * 2 + 1, none⟩ = some (.int .i64 (idxI q j)) := by
  intro j hj
  obtain rfl := hs (by omega)
  obtain ⟨g', cap', e, _, hc⟩ := steps_cells h (by omega)
  simp only [Value.slice.injEq, Option.some.injEq, Addr.mk.injEq] at e
  rw [e.1.1]
  exact hc j hj
/-- two steps compared -/
theorem run_eqSd (d : Nat) (a b a' b' : Int) (w : World) :
    (Op.equalIn (d + 2) 85 (.agg #[.int .i64 a, .int .i64 b]) (.agg #[.int .i64 a', .int .i64 b'])).run Tryz.prog w = .ok (decide (a = a' ∧ b = b')) w := by
  have hF : (Tryz.prog.fieldsOf 85).toList.map (fun f => (f.name == "_", f.type, f.offset)) = [(false, 3, 0), (false, 3, 1)] := by kernel_rfl
  rw [run_equalIn_struct w (d + 1) _ _ _ (by kernel_rfl) (by kernel_rfl)]
  have hag : ∀ (e : TypeId) (d : TypeDesc), Tryz.prog.underlying e = some d → d.isRow = false → (isAgg e).run Tryz.prog w = .ok false w := by
    intro e d he hd
    unfold isAgg
    rw [Sem.run_bind, run_underlying he w]
    cases d <;> first | rfl | cases hd
  have hpart : ∀ (e : TypeId) (d : TypeDesc), Tryz.prog.underlying e = some d → d.isRow = false → ∀ (cs : Array Value) (i : Nat) (x : Value), cs[i]? = some x → (part e cs i).run Tryz.prog w = .ok x w := by
    intro e d he hd cs i x hx
    unfold part
    rw [Sem.run_bind, hag e d he hd]
    simp only [Result.andThen_ok, Bool.false_eq_true, if_false, hx]
    rfl
  have hlen := congrArg List.length hF
  rw [List.length_map] at hlen
  generalize (Tryz.prog.fieldsOf 85).toList = L at hF hlen ⊢
  match L, hlen with
  | [g0, g1], _ =>
    simp only [List.map_cons, List.map_nil, List.cons.injEq, Prod.mk.injEq, and_true] at hF
    obtain ⟨⟨n0, t0, o0⟩, n1, t1, o1⟩ := hF
    have n0 : g0.name ≠ "_" := by simpa using n0
    have n1 : g1.name ≠ "_" := by simpa using n1
    have ui : Tryz.prog.underlying 3 = some (.int .i64) := Tryz.underlying3
    have step : ∀ (X Y : Array Value) (g : Field) (fs : List Field) (x y : Value) (q : Bool), g.name ≠ "_" → (part g.type X g.offset).run Tryz.prog w = .ok x w → (part g.type Y g.offset).run Tryz.prog w = .ok y w →
        (Op.equalIn (d + 1) g.type x y).run Tryz.prog w = .ok q w → (Op.eqFields (d + 1) X Y (g :: fs)).run Tryz.prog w = if q = true then (Op.eqFields (d + 1) X Y fs).run Tryz.prog w else .ok false w := by
      intro X Y g fs x y q hn hx hy hq
      rw [Op.eqFields, if_pos hn, Sem.run_bind, hx, Result.andThen_ok, Sem.run_bind, hy, Result.andThen_ok, Sem.run_bind, hq, Result.andThen_ok]
      cases q
      · rfl
      · rfl
    rw [step _ _ g0 _ (.int .i64 a) (.int .i64 a') (a == a') n0 (by rw [t0, o0]; exact hpart _ _ ui rfl _ _ _ rfl) (by rw [t0, o0]; exact hpart _ _ ui rfl _ _ _ rfl) (by rw [t0]; exact run_equalIn_int w d _ .i64 .i64 _ _ ui),
      step _ _ g1 _ (.int .i64 b) (.int .i64 b') (b == b') n1 (by rw [t1, o1]; exact hpart _ _ ui rfl _ _ _ rfl) (by rw [t1, o1]; exact hpart _ _ ui rfl _ _ _ rfl) (by rw [t1]; exact run_equalIn_int w d _ .i64 .i64 _ _ ui)]
    by_cases e1 : a = a'
    · by_cases e2 : b = b'
      · simp [e1, e2, Op.eqFields]
      · simp [e1, e2]
    · simp [e1]
theorem run_eqS (a b a' b' : Int) (c : Bool) (hc : decide (a = a' ∧ b = b') = c) (w : World) :
    (Op.equalIn 10000 85 (.agg #[.int .i64 a, .int .i64 b]) (.agg #[.int .i64 a', .int .i64 b'])).run Tryz.prog w = .ok c w := by
  subst hc
  exact run_eqSd 9998 a b a' b' w
theorem wk_base {w : World} {base base' sz k : Nat} {e : TypeId} {v : Value} {xs : List Value} (h : w.ownsRow base e sz v k xs) (hb : base' ≤ base) : w.ownsRow base' e sz v k xs := by
  refine ⟨h.1, ?_⟩
  rcases h.2 with hn | ⟨g, cap, cur, rfl, hg, rest⟩
  · exact .inl hn
  · exact .inr ⟨g, cap, cur, rfl, Nat.le_trans hb hg, rest⟩
theorem own_step {Q : Nat → Prop} {c c' : Bool} {j : Nat} (hc : c = true ↔ ∃ p, p < j ∧ Q p) (h : c' = true ↔ (c = true ∨ Q j)) : c' = true ↔ ∃ p, p < j + 1 ∧ Q p := by
  rw [h, hc]
  constructor
  · rintro (⟨p, hp, hq⟩ | hq)
    · exact ⟨p, by omega, hq⟩
    · exact ⟨j, by omega, hq⟩
  · rintro ⟨p, hp, hq⟩
    by_cases e : p = j
    · exact .inr (e ▸ hq)
    · exact .inl ⟨p, by omega, hq⟩
/-- is a place among the first j steps' -/
def OwnIs (m : Mem) (q x y : Int) (j : Nat) (c : Bool) : Prop := c = true ↔ ∃ p, p < j ∧ m.wF 0 q p = x ∧ idxI q p = y
theorem OwnIs.zero (m : Mem) (q x y : Int) : OwnIs m q x y 0 false := ⟨fun h => absurd h (by decide), fun ⟨p, hp, _⟩ => absurd hp (by omega)⟩
theorem OwnIs.on {m : Mem} {q x y : Int} {j : Nat} {c c' : Bool} (h : OwnIs m q x y j c) (h' : c' = true ↔ (c = true ∨ m.wF 0 q j = x ∧ idxI q j = y)) : OwnIs m q x y (j + 1) c' :=
  own_step (Q := fun p => m.wF 0 q p = x ∧ idxI q p = y) h h'
end Go.Proofs.YtdapmcclplfpfaaGreatDoor

/-
  Contracts of the document's own answers for walk: Walk; the laws' steps.
-/
namespace Go.Proofs.YtdapmcclplfpfaaGreatDoor
open Go.ChangeShapes Go.WideShapes Go.ChangeAt Go.RowKit

end Go.Proofs.YtdapmcclplfpfaaGreatDoor

/-
  The memory and the document's own one side by side, with the same words.
-/
namespace Go.Proofs.YtdapmcclplfpfaaGreatDoor
open Go.ChangeShapes Go.WideShapes Go.ChangeAt Go.RowKit

/-- the same memory elsewhere -/
def Mem.re (m : Mem) (B : Nat) : Mem := { m with B := B }
theorem Mem.re_wr (m : Mem) (B : Nat) (a v : Int) : (m.re B).wr a v = (m.wr a v).re B := by
  unfold Mem.wr
  show (if m.has a then _ else _) = _
  split <;> rfl
theorem Mem.re_put (m : Mem) (B : Nat) (f p : Int) (e : En) : (m.re B).put f p e = (m.put f p e).re B := by
  unfold Mem.put
  show (if m.putB f p e = true then _ else _) = _
  split
  · exact m.re_wr B _ _
  · rfl
theorem Mem.re_wF (m : Mem) (B : Nat) (root q : Int) : ∀ k, (m.re B).wF root q k = m.wF root q k
  | 0 => rfl
  | k + 1 => by
    show ((m.re B).getE ((m.re B).wF root q k) (idxI q k)).f = (m.getE (m.wF root q k) (idxI q k)).f
    rw [m.re_wF B root q k]
    rfl
theorem Mem.re_wC (m : Mem) (B : Nat) (root q : Int) (k : Nat) : (m.re B).wC root q k = m.wC root q k := by
  unfold Mem.wC
  rw [m.re_wF B root q k]
  rfl
theorem Mem.re_wN (m : Mem) (B : Nat) (root q : Int) : (m.re B).wN root q = m.wN root q := by
  unfold Mem.wN
  rw [Mem.re_wC, Mem.re_wC]
  rfl
theorem Mem.re_wX (m : Mem) (B : Nat) (root q : Int) : (m.re B).wX root q = m.wX root q := by
  unfold Mem.wX
  rw [Mem.re_wC, Mem.re_wC, Mem.re_wC]
  rfl
theorem Mem.re_wE (m : Mem) (B : Nat) (root q : Int) : (m.re B).wE root q = m.wE root q := by
  unfold Mem.wE
  rw [Mem.re_wC, Mem.re_wC, Mem.re_wC, Mem.re_wF]
  rfl
theorem Mem.re_wS (m : Mem) (B : Nat) (root q : Int) : ∀ k, (m.re B).wS root q k = m.wS root q k
  | 0 => rfl
  | k + 1 => by rw [Mem.wS, Mem.wS, m.re_wS B root q k, m.re_wF]
theorem wk_and15 (n : Int) : bits .and .i64 n 15 = n % 16 := by
  have h : (BitVec.ofInt 64 15).toNat = 2 ^ 4 - 1 := by decide
  have key : (BitVec.ofInt 64 n &&& BitVec.ofInt 64 15).toNat = (n % ((2 ^ 64 : Nat) : Int)).toNat % 2 ^ 4 := by
    rw [BitVec.toNat_and, BitVec.toNat_ofInt, h, Nat.and_two_pow_sub_one_eq_mod]
  show IntKind.i64.wrap ((BitVec.ofInt 64 n &&& BitVec.ofInt 64 15).toNat : Nat) = n % 16
  rw [key, IntKind.wrap_i64]
  omega
theorem wk_and255 (n : Int) : bits .and .i64 n 255 = n % 256 := by
  have h : (BitVec.ofInt 64 255).toNat = 2 ^ 8 - 1 := by decide
  have key : (BitVec.ofInt 64 n &&& BitVec.ofInt 64 255).toNat = (n % ((2 ^ 64 : Nat) : Int)).toNat % 2 ^ 8 := by
    rw [BitVec.toNat_and, BitVec.toNat_ofInt, h, Nat.and_two_pow_sub_one_eq_mod]
  show IntKind.i64.wrap ((BitVec.ofInt 64 n &&& BitVec.ofInt 64 255).toNat : Nat) = n % 256
  rw [key, IntKind.wrap_i64]
  omega
/-- both memories, the same words in both -/
structure Both (w wr : World) (A C B1 B2 : Nat) (m : Mem) : Prop where
  M : MemAt wr A m
  R : RefAt wr C (m.re B2)
  T : Tab wr
  U : Upd (fun _ => False) w wr
  b : m.B = B1
  ok : m.ok
  good : m.good
  l0 : w.heap.size ≤ B1
  l1 : B1 < A
  l2 : A < B2
  l3 : B2 < C
theorem Both.kept {w wr w' : World} {A C B1 B2 : Nat} {m : Mem} (h : Both w wr A C B1 B2 m) (u : Upd (fun _ => False) wr w') : Both w w' A C B1 B2 m :=
  ⟨h.M.kept u id id, h.R.kept u id id, h.T.kept u, h.U.trans u, h.b, h.ok, h.good, h.l0, h.l1, h.l2, h.l3⟩
/-- a call on the one -/
theorem Both.one {w wr w' : World} {A C B1 B2 : Nat} {m m' : Mem} (h : Both w wr A C B1 B2 m) (hM : MemAt w' A m') (u : Upd (· = m.B) wr w') : RefAt w' C (m.re B2) ∧ Tab w' ∧ Upd (fun _ => False) w w' := by
  have hb := h.b
  have h1 := h.l1
  have h2 := h.l2
  have h3 := h.l3
  exact ⟨h.R.kept u (by rw [hb]; omega) (by show ¬ B2 = m.B; rw [hb]; omega), h.T.keptS u (h.T.apart h.M), h.U.fresh u (by rw [hb]; exact h.l0)⟩
/-- and on the other -/
theorem Both.two {w wr w1 w2 : World} {A C B1 B2 : Nat} {m m' : Mem} (h : Both w wr A C B1 B2 m) (hM : MemAt w1 A m') (u : Upd (· = m.B) wr w1) (hR : RefAt w2 C (m'.re B2)) (u' : Upd (· = B2) w1 w2) (hb : m'.B = m.B) (hk : m'.ok) (hg : m'.good) : Both w w2 A C B1 B2 m' := by
  obtain ⟨r1, t1, U1⟩ := h.one hM u
  have hb0 := h.b
  have h0 := h.l0
  have h1 := h.l1
  have h2 := h.l2
  have h3 := h.l3
  exact ⟨hM.kept u' (by omega) (by rw [hb, hb0]; omega), hR, t1.keptS u' (t1.apartR r1), U1.fresh u' (by omega), hb.trans hb0, hk, hg, h0, h1, h2, h3⟩
/-- the contracts over both -/
theorem Both.get {w wr : World} {A C B1 B2 : Nat} {m : Mem} (h : Both w wr A C B1 B2 m) (x y : Int) :
    Calls Tryz.prog 59 #[.pointer (some ⟨A, 0, none⟩), .int .i64 x, .int .i64 y] wr fun e w' => e = .returned (.tuple #[(m.getE x y).val, .int .i64 (m.getX x y)]) ∧ Upd (fun _ => False) wr w' := wget_any A m x y wr h.M h.T h.good
theorem Both.blank {w wr : World} {A C B1 B2 : Nat} {m : Mem} (h : Both w wr A C B1 B2 m) (x : Int) :
    Calls Tryz.prog 44 #[.pointer (some ⟨A, 0, none⟩), .int .i64 x] wr fun e w' => e = .returned (.bool (m.zero x)) ∧ Upd (fun _ => False) wr w' := wblank_any A m x wr h.M h.T h.good
theorem Both.walk {w wr : World} {A C B1 B2 : Nat} {m : Mem} (h : Both w wr A C B1 B2 m) (root q : Int) :
    Calls Tryz.prog 32 #[.pointer (some ⟨A, 0, none⟩), .int .i64 root, .int .i64 q] wr fun e w' => ∃ v, e = .returned (.tuple #[(m.wE root q).val, v, .int .i64 (m.wX root q)]) ∧
      w'.ownsRow wr.heap.size 85 2 v (m.wN root q) (m.wS root q (m.wN root q)) ∧ Upd (fun _ => False) wr w' := wwalk_any A m root q wr h.M h.T h.good
/-- the first k of the three tables -/
def Mem.tabsN (m : Mem) : Nat → Mem
  | 0 => m
  | 1 => m.put 0 1 ⟨true, false, true, 1⟩
  | 2 => (m.put 0 1 ⟨true, false, true, 1⟩).put 1 2 ⟨true, false, true, 2⟩
  | _ => m.tabs
theorem Mem.wN_le (m : Mem) (root q : Int) : m.wN root q ≤ 3 := by
  cases hb : m.wB root q
  · rw [(m.walk_no root q hb).1]; omega
  · exact (m.wN_bd root q hb).2
end Go.Proofs.YtdapmcclplfpfaaGreatDoor

/-
  The document's own spaces: the space that they say; where its nodes lie; all tables laid anew.
-/
namespace Go.Proofs.YtdapmcclplfpfaaGreatDoor
open Go.ChangeShapes Go.WideShapes Go.ChangeAt Go.RowKit Go.Shelf Go.Sort

def pgOf (s : Sp) (q : Nat) : RPg := ⟨q, (s.E 3 q).f, (s.E 3 q).r⟩
def tbOf (s : Sp) (x : Nat × Nat) : RTb := ⟨x.1, (x.2 * 16 ^ (3 - x.1) : Nat), s.fr x.1 x.2⟩
def Sp.pgL (s : Sp) : List RPg := s.pgs.map (pgOf s)
theorem fstI_nd {q l : Nat} (hq : q < 4096) (hl : l ≤ 2) : fstI q l = nd q l * 16 ^ (3 - l) := by
  match l, hl with
  | 0, _ => rw [nd0 hq]; rfl
  | 1, _ => rw [nd1]; rfl
  | 2, _ => rw [nd2]; rfl
theorem tbIx_of {s : Sp} {Nd : List (Nat × Nat)} (hd : Nd.Nodup) {i l d : Nat} (hi : Nd[i]? = some (l, d)) : tbIx (Nd.map (tbOf s)) l ((d * 16 ^ (3 - l) : Nat) : Int) = i := by
  have hlt : i < Nd.length := (List.getElem?_eq_some_iff.1 hi).1
  refine first_of (by rw [List.length_map]; exact hlt) ?_ fun j hj => ?_
  · unfold tbHit
    rw [List.getElem?_map, hi]
    simp [tbOf]
  · cases hh : tbHit (Nd.map (tbOf s)) l ((d * 16 ^ (3 - l) : Nat) : Int) j
    · rfl
    · exfalso
      unfold tbHit at hh
      rw [List.getElem?_map, List.getElem?_eq_getElem (by omega)] at hh
      simp only [Option.map_some, Bool.and_eq_true, decide_eq_true_eq, tbOf] at hh
      obtain ⟨e1, e2⟩ := hh
      have e1 : (Nd[j]).1 = l := by omega
      rw [e1] at e2
      have e3 : (Nd[j]).2 * 16 ^ (3 - l) = d * 16 ^ (3 - l) := by exact_mod_cast e2
      have e4 : (Nd[j]).2 = d := Nat.eq_of_mul_eq_mul_right (Nat.pow_pos (by decide)) e3
      have h1 : Nd[j] = (l, d) := Prod.ext e1 e4
      have h2 : Nd[i] = (l, d) := (List.getElem?_eq_some_iff.1 hi).2
      have := (List.pairwise_iff_getElem.1 hd j i (by omega) hlt hj)
      exact this (h1.trans h2.symm)
theorem RSpAt.kept {S : Nat → Prop} {w w' : World} {C MC BC N : Nat} {L : List RPg} {T : List RTb} {vL vT : Value} (h : RSpAt w C MC BC N L T vL vT) (u : Upd S w w') (h1 : ¬ S C) (h2 : ∀ j, vL.ownBlock = some j → ¬ S j) (h3 : ∀ j, vT.ownBlock = some j → ¬ S j) :
    RSpAt w' C MC BC N L T vL vT := ⟨u.at h.head h1, row_kept h.pages u h2, row_kept h.tabs u h3⟩
theorem RSpAt.neB {w : World} {C MC BC N : Nat} {L : List RPg} {T : List RTb} {vL vT : Value} {m : Mem} (h : RSpAt w C MC BC N L T vL vT) (hm : RefAt w MC m) : C ≠ m.B ∧ (∀ j, vL.ownBlock = some j → ¬ j = m.B) ∧ (∀ j, vT.ownBlock = some j → ¬ j = m.B) := by
  refine ⟨fun e => ?_, ty_ne h.pages hm.body (by decide), ty_ne h.tabs hm.body (by decide)⟩
  have h1 := h.head
  rw [e, hm.body] at h1
  simp at h1
/-- behind writes to the memory alone -/
theorem RSpAt.mem {w w' : World} {C MC BC N : Nat} {L : List RPg} {T : List RTb} {vL vT : Value} {m : Mem} (h : RSpAt w C MC BC N L T vL vT) (hm : RefAt w MC m) (u : Upd (· = m.B) w w') : RSpAt w' C MC BC N L T vL vT := by
  obtain ⟨a, b, c⟩ := h.neB hm
  exact h.kept u a b c
theorem Nodes.len {s : Sp} {n : Nat} {Nd : List (Nat × Nat)} (hs : s.Ok n) (h : Nodes s Nd) : Nd.length ≤ n := by
  have hnd : (Nd.map fun x => (s.fr x.1 x.2).toNat).Nodup := by
    refine List.pairwise_map.2 (h.nd.imp_of_mem fun {a b} ha hb hne e => hne ?_)
    obtain ⟨a1, a2⟩ := (h.mem a).1 ha
    obtain ⟨b1, b2⟩ := (h.mem b).1 hb
    have fa := hs.frb a2
    have fb := hs.frb b2
    obtain ⟨e1, e2⟩ := hs.inj _ _ _ _ a1 b1 a2 b2 (by omega)
    exact Prod.ext e1 e2
  have := nodup_len n _ hnd fun x hx => by
    obtain ⟨y, hy, rfl⟩ := List.mem_map.1 hx
    have := hs.frb ((h.mem y).1 hy).2
    omega
  rwa [List.length_map] at this
theorem Nodes.ix {s : Sp} {Nd : List (Nat × Nat)} (h : Nodes s Nd) {l d : Nat} (hl : l ≤ 2) (ho : s.on l d = true) : ∃ i, Nd[i]? = some (l, d) ∧ i < Nd.length ∧ tbIx (Nd.map (tbOf s)) l ((d * 16 ^ (3 - l) : Nat) : Int) = i := by
  obtain ⟨i, hi⟩ := List.getElem?_of_mem ((h.mem (l, d)).2 ⟨hl, ho⟩)
  exact ⟨i, hi, (List.getElem?_eq_some_iff.1 hi).1, tbIx_of h.nd hi⟩
theorem Sp.pgs_le (s : Sp) : s.pgs.length ≤ 4096 := by
  have := List.length_filter_le (fun d => (s.E 3 d).v) (List.range 4096)
  rw [List.length_range] at this
  exact this
end Go.Proofs.YtdapmcclplfpfaaGreatDoor

/-
  The document's own spaces: all tables laid anew.
-/
namespace Go.Proofs.YtdapmcclplfpfaaGreatDoor
open Go.ChangeShapes Go.WideShapes Go.ChangeAt Go.RowKit Go.Shelf Go.Sort

theorem take_next {α : Type} {L : List α} {i : Nat} {x : α} (h : L[i]? = some x) : L.take (i + 1) = L.take i ++ [x] := by
  rw [List.take_add_one, h]; rfl
theorem box3 {w : World} {b t : Nat} {x y z : Value} (h : w.heap[b]? = some (.cells #[x, y, z] t (0, 0))) : w.cell? ⟨b, 0, none⟩ = some x ∧ w.cell? ⟨b, 1, none⟩ = some y ∧ w.cell? ⟨b, 2, none⟩ = some z := by
  refine ⟨?_, ?_, ?_⟩ <;> (rw [cell_of_row w b _ _ _ _ h]; rfl)
theorem tb_cells2 {w : World} {N cap : Nat} {o : Option Addr} {T : List RTb} {n : Nat} (hn : T.length = n) (h : w.ownsRow N 71 3 (.slice o n cap) T.length (tbC T)) (i : Nat) (x : RTb) (hi : T[i]? = some x) :
    ∃ g, o = some ⟨g, 0, none⟩ ∧ w.cell? ⟨g, i * 3, none⟩ = some (.int .i64 x.l) ∧ w.cell? ⟨g, i * 3 + 1, none⟩ = some (.int .i64 x.s) ∧ w.cell? ⟨g, i * 3 + 2, none⟩ = some (.int .i64 x.f) := by
  subst hn; exact tb_cells rfl h i x hi
theorem pg_cells2 {w : World} {N cap : Nat} {o : Option Addr} {L : List RPg} {n : Nat} (hn : L.length = n) (h : w.ownsRow N 92 3 (.slice o n cap) L.length (pgC L)) (i : Nat) (x : RPg) (hi : L[i]? = some x) :
    ∃ g, o = some ⟨g, 0, none⟩ ∧ w.cell? ⟨g, i * 3, none⟩ = some (.int .i64 x.n) ∧ w.cell? ⟨g, i * 3 + 1, none⟩ = some (.int .i64 x.f) ∧ w.cell? ⟨g, i * 3 + 2, none⟩ = some (.bool x.w) := by
  subst hn; exact pg_cells rfl h i x hi
/-- behind writes to the memory: a whole bundle -/
structure LayAt (w : World) (C MC BC N : Nat) (s : Sp) (Nd : List (Nat × Nat)) (vL vT : Value) (m : Mem) : Prop where
  a : RSpAt w C MC BC N s.pgL (Nd.map (tbOf s)) vL vT
  r : RefAt w MC m
theorem LayAt.step {w w' : World} {C MC BC N : Nat} {s : Sp} {Nd : List (Nat × Nat)} {vL vT : Value} {m m' : Mem} (h : LayAt w C MC BC N s Nd vL vT m) (hr : RefAt w' MC m') (u : Upd (· = m.B) w w') : LayAt w' C MC BC N s Nd vL vT m' := ⟨h.a.mem h.r u, hr⟩
theorem LayAt.still {w w' : World} {C MC BC N : Nat} {s : Sp} {Nd : List (Nat × Nat)} {vL vT : Value} {m : Mem} (h : LayAt w C MC BC N s Nd vL vT m) (u : Upd (fun _ => False) w w') : LayAt w' C MC BC N s Nd vL vT m := ⟨h.a.kept u id (fun _ _ => id) (fun _ _ => id), h.r.kept u id id⟩
theorem LayAt.lt {w : World} {C MC BC N : Nat} {s : Sp} {Nd : List (Nat × Nat)} {vL vT : Value} {m : Mem} (h : LayAt w C MC BC N s Nd vL vT m) : m.B < w.heap.size := lt_of_heap h.r.body
theorem Upd.none' {S : Nat → Prop} {a b : World} (h : Upd (fun _ => False) a b) : Upd S a b := h.mono fun _ _ h => h.elim
/-- a node and the table above it -/
theorem node_facts {s : Sp} {n : Nat} {Nd : List (Nat × Nat)} (hs : s.Ok n) (hN : Nodes s Nd) {i l d : Nat} (hi : Nd[i]? = some (l, d)) :
    l ≤ 2 ∧ d < 16 ^ l ∧ (1 ≤ l → (s.E l d = ⟨true, false, true, s.fr l d⟩) ∧ ∃ ip, ip < Nd.length ∧ Nd[ip]? = some (l - 1, d / 16) ∧ tbIx (Nd.map (tbOf s)) ((l - 1 : Nat) : Int) ((fstI (d * 16 ^ (3 - l)) (l - 1) : Nat) : Int) = ip) := by
  obtain ⟨h1, h2⟩ := (hN.mem _).1 (List.mem_of_getElem? hi)
  simp only at h1 h2
  have hd := hs.ond (by omega) h2
  refine ⟨h1, hd, fun hl => ?_⟩
  obtain ⟨l, rfl⟩ : ∃ k, l = k + 1 := ⟨l - 1, by omega⟩
  rw [s.onS] at h2
  have hp := (hs.lv _ _ h2).2.2.2
  have ht := hs.tb _ _ h2 h1
  obtain ⟨ip, i1, i2, i3⟩ := hN.ix (by omega) hp
  refine ⟨?_, ip, i2, i1, ?_⟩
  · have : s.E (l + 1) d = ⟨(s.E (l + 1) d).v, (s.E (l + 1) d).r, (s.E (l + 1) d).t, (s.E (l + 1) d).f⟩ := rfl
    rw [this, h2, ht.1, ht.2]; rfl
  · rw [← i3, Nat.add_sub_cancel]
    have : fstI (d * 16 ^ (3 - (l + 1))) l = d / 16 * 16 ^ (3 - l) := by
      match l, h1, hd with
      | 0, _, hd => unfold fstI; simp; omega
      | 1, _, hd => unfold fstI; simp; omega
    rw [this]
set_option maxRecDepth 100000 in
set_option maxHeartbeats 8000000 in
theorem rlay_any (C MC BC N : Nat) (s : Sp) (Nd : List (Nat × Nat)) (vL vT : Value) (m : Mem) (hs : s.Ok m.n) (hN : Nodes s Nd) (hk : m.ok) (hg : m.good) (w : World) (h : LayAt w C MC BC N s Nd vL vT m) :
    Calls Tryz.prog 42 #[.pointer (some ⟨C, 0, none⟩)] w fun e w' => e = .returned (.tuple #[]) ∧ LayAt w' C MC BC N s Nd vL vT (layM s Nd m) ∧ Upd (· = m.B) w w' := by
  have hn := h.r.hi
  have hlen := hN.len hs
  have hpl := s.pgs_le
  obtain ⟨oT, cT, rfl⟩ := rsp_slice h.a.tabs
  obtain ⟨oL, cL, rfl⟩ := rsp_slice h.a.pages
  rw [List.length_map] at h
  have hPl : s.pgL.length = s.pgs.length := by unfold Sp.pgL; rw [List.length_map]
  rw [hPl] at h
  generalize hnT : Nd.length = nT at h hlen
  generalize hnL : s.pgs.length = nL at h hpl
  have HT := Lib.hid hnT
  have HL := Lib.hid hnL
  have hTm : Hid ((Nd.map (tbOf s)).length = nT) := Lib.hid (by rw [List.length_map]; exact hnT)
  have hLm : Hid (s.pgL.length = nL) := Lib.hid (by rw [hPl]; exact hnL)
  clear hnT hnL hPl
  have h0 := Lib.hid h
  clear h
  go_enter Tryz.func42, Tryz.ntmps42
  go_wp2_with fail
  go_loopw [2] (fun t wr => ∃ (k : Nat) (mk : Mem), k ≤ nT ∧ t = .int .i64 k ∧ Hid (mk = (Nd.take k).foldl (scr s) m) ∧ Hid (mk.B = m.B) ∧ Hid (LayAt wr C MC BC N s Nd (.slice oL nL cL) (.slice oT nT cT) mk) ∧ Hid (Upd (· = m.B) w wr)) (fun t _ => nT - (intOf t).toNat)
  case atStart => exact ⟨0, m, by omega, rfl, Lib.hid rfl, Lib.hid rfl, h0, Lib.hid (Upd.refl _ _)⟩
  case round =>
    clear h0
    obtain ⟨k, mk, hkn, rfl, hm, hB, hA, u⟩ := hrel
    have cTc := hA.out.a.cT
    have cMc := hA.out.a.cM
    by_cases hlt : k < nT
    · obtain ⟨x, hx⟩ : ∃ x, Nd[k]? = some x := ⟨_, List.getElem?_eq_getElem (by have := HT.out; omega)⟩
      obtain ⟨g, rfl, -, -, c2⟩ := tb_cells2 hTm.out hA.out.a.tabs k (tbOf s x) (by rw [List.getElem?_map, hx]; rfl)
      have hm2 := Lib.hid (show (Nd.take (k + 1)).foldl (scr s) m = scr s mk x from by rw [take_next hx, List.foldl_append, hm.out]; rfl)
      unfold scr at hm2
      have k0 : (0 : Int) ≤ (k : Int) := by omega
      have k1 : (k : Int) < (nT : Int) := by omega
      clear hx
      rw [show (tbOf s x).f = s.fr x.1 x.2 from rfl] at c2
      generalize s.fr x.1 x.2 = f at c2 hm2
      go_upto_region 3 with fail
      refine wp_region_tail 12 (by kernel_rfl) (by kernel_rfl) ?_
      simp only [List.take_succ_cons, List.take_zero, List.drop_succ_cons, List.drop_zero]
      intro w9 hw9
      have hA9 := Lib.hid (show LayAt w9 C MC BC N s Nd (.slice oL nL cL) (.slice (some ⟨g, 0, none⟩) nT cT) mk from by rw [hw9]; exact hA.out.still (Upd.refl _ _).drew)
      have u9 : Hid (Upd (· = m.B) w w9) := Lib.hid (by rw [hw9]; exact u.out.drew)
      have d1 : w9.cell? ⟨C, 0, none⟩ = some (.pointer (some ⟨MC, 0, none⟩)) := hA9.out.a.cM
      have d2 : w9.cell? ⟨C, 3, none⟩ = some (.slice (some ⟨g, 0, none⟩) nT cT) := hA9.out.a.cT
      have d3 : w9.cell? ⟨g, k * 3 + 2, none⟩ = some (.int .i64 f) := by rw [hw9]; exact c2
      clear hw9 hA u cTc cMc c2
      repeat still_step
      refine wpStill_nil ?_
      go_wp2_with fail
      refine (rScrub_any MC mk f 1 w9 hA9.out.r).mono ?_
      rintro e w10 ⟨rfl, hr, u10⟩
      have hA10 := Lib.hid (hA9.out.step hr u10)
      have u11 : Hid (Upd (· = m.B) w w10) := Lib.hid (u9.out.trans (by rw [← hB.out]; exact u10))
      clear hr u10 hA9 u9 d1 d2 d3
      go_wp2
      go_roundw
      case rel => exact ⟨k + 1, mk.scrub f 1, by omega, by go_num, Lib.hid hm2.out.symm, Lib.hid (by rw [Mem.scrub_B]; exact hB.out), hA10, u11⟩
      case measure => simp [intOf]; omega
    · have hm1 := Lib.hid (show mk = Nd.foldl (scr s) m from by rw [hm.out, List.take_of_length_le (by have := HT.out; omega)])
      have hkx : ¬ ((k : Int) < (nT : Int)) := by omega
      have hn1 : Hid (mk.n = m.n ∧ mk.ok ∧ mk.good) := Lib.hid (by
        have := fold_keep (scr s) (fun x => scr_keep s x) Nd hk hg
        rw [hm1.out]; exact ⟨this.n, this.ok, this.good⟩)
      clear hm hlt
      go_wp2_with fail
      go_loopw [3] (fun t wr => ∃ (k : Nat) (m2 : Mem), k ≤ nT ∧ t = .int .i64 k ∧ Hid (m2 = (Nd.take k).foldl (ePut1 s) mk) ∧ Hid (m2.B = m.B) ∧ Hid (LayAt wr C MC BC N s Nd (.slice oL nL cL) (.slice oT nT cT) m2) ∧ Hid (Upd (· = m.B) w wr)) (fun t _ => nT - (intOf t).toNat)
      case atStart => exact ⟨0, mk, by omega, rfl, Lib.hid rfl, hB, hA, u⟩
      case round =>
        clear hA u hB cTc cMc
        obtain ⟨i, m2, hin, rfl, hm, hB, hA, u⟩ := hrel
        have cTc := hA.out.a.cT
        have cMc := hA.out.a.cM
        by_cases hlt : i < nT
        · obtain ⟨⟨l, d⟩, hx⟩ : ∃ x, Nd[i]? = some x := ⟨_, List.getElem?_eq_getElem (by have := HT.out; omega)⟩
          obtain ⟨g, rfl, c0, c1, c2⟩ := tb_cells2 hTm.out hA.out.a.tabs i (tbOf s (l, d)) (by rw [List.getElem?_map, hx]; rfl)
          obtain ⟨hl2, hd, hnode⟩ := node_facts hs hN hx
          have hm2 := Lib.hid (show (Nd.take (i + 1)).foldl (ePut1 s) mk = ePut1 s m2 (l, d) from by rw [take_next hx, List.foldl_append, hm.out]; rfl)
          have i0 : (0 : Int) ≤ (i : Int) := by omega
          have i1 : (i : Int) < (nT : Int) := by omega
          have hnode' := Lib.hid hnode
          clear hx hnode
          rw [show (tbOf s (l, d)).l = ((l : Nat) : Int) from rfl] at c0
          rw [show (tbOf s (l, d)).s = ((d * 16 ^ (3 - l) : Nat) : Int) from rfl] at c1
          rw [show (tbOf s (l, d)).f = s.fr l d from rfl] at c2
          have hlc : l = 0 ∨ l = 1 ∨ l = 2 := by omega
          obtain ⟨Q, hQe⟩ : ∃ Q : Int, Q = ((d * 16 ^ (3 - l) : Nat) : Int) := ⟨_, rfl⟩
          rw [← hQe] at c1
          have HQ := Lib.hid hQe
          clear hQe
          obtain ⟨lI, hle⟩ : ∃ lI : Int, lI = ((l : Nat) : Int) := ⟨_, rfl⟩
          rw [← hle] at c0
          have HLI := Lib.hid hle
          clear hle
          obtain ⟨cf, hcf⟩ : ∃ cf : Int, cf = s.fr l d := ⟨_, rfl⟩
          rw [← hcf] at c2
          have HCF := Lib.hid hcf
          clear hcf
          go_upto_region 8 with fail
          have hX := heap_alloc_last wr (.cells #[.int .i64 lI, .int .i64 Q, .int .i64 cf] 71)
          have uX := (Upd.refl (fun _ => False) wr).alloc (.cells #[.int .i64 lI, .int .i64 Q, .int .i64 cf] 71)
          have hXB : wr.heap.size ≠ m2.B := Nat.ne_of_gt hA.out.lt
          have hA2 := Lib.hid (hA.out.still uX)
          have u2 : Hid (Upd (· = m.B) w _) := Lib.hid (u.out.trans uX.none')
          generalize hWe : wr.alloc (.cells #[.int .i64 lI, .int .i64 Q, .int .i64 cf] 71) = W at hX uX hA2 u2 ⊢
          generalize hXe : wr.heap.size = X at hX hXB ⊢
          obtain ⟨x0, x1, x2⟩ := box3 hX
          have e0 := hA2.out.a.cM
          have e3 := hA2.out.a.cT
          obtain ⟨nb1, nb2, nb3⟩ := hA2.out.a.neB hA2.out.r
          have hne0 : ¬ C = m2.B := nb1
          have hneg : ¬ g = m2.B := nb3 g rfl
          have hneX : ¬ X = m2.B := hXB
          clear hWe hXe hX uX hXB nb1 nb2 nb3 hA u c0 c1 c2 cTc cMc
          have hA := hA2
          clear hA2
          rcases hlc with rfl | rfl | rfl
          · have y0 : W.cell? ⟨X, 0, none⟩ = some (.int .i64 0) := by rw [x0, HLI.out]; rfl
            clear x0
            have x0 := y0
            clear y0
            clear HLI HQ HCF
            have hm3 := Lib.hid (show (Nd.take (i + 1)).foldl (ePut1 s) mk = m2 from hm2.out)
            clear hm2 hnode'
            go_wp2
            go_roundw
            case rel => exact ⟨i + 1, m2, by omega, by go_num, Lib.hid hm3.out.symm, hB, hA, u2⟩
            case measure => simp [intOf]; omega
          · have y0 : W.cell? ⟨X, 0, none⟩ = some (.int .i64 1) := by rw [x0, HLI.out]; rfl
            clear x0
            have x0 := y0
            clear y0
            obtain ⟨hE, ip, hip, hpx, htb⟩ := hnode'.out (by omega)
            obtain ⟨g', eg, -, -, p2⟩ := tb_cells2 hTm.out hA.out.a.tabs ip (tbOf s (1 - 1, d / 16)) (by rw [List.getElem?_map, hpx]; rfl)
            obtain rfl : g = g' := by simpa using eg
            rw [show (tbOf s (1 - 1, d / 16)).f = s.fr (1 - 1) (d / 16) from rfl] at p2
            have hdd : d < 16 := by simpa using hd
            have hm3 := Lib.hid (show (Nd.take (i + 1)).foldl (ePut1 s) mk = m2.put (s.fr (1 - 1) (d / 16)) ((d % 16 : Nat) : Int) ⟨true, false, true, cf⟩ from by
              rw [hm2.out, HCF.out]
              show m2.put (s.fr (1 - 1) (d / 16)) ((d % 16 : Nat) : Int) (s.E 1 d) = _
              rw [hE])
            have ct := Lib.hid (fun W hA => rtable_any C MC BC N s.pgL (Nd.map (tbOf s)) (.slice oL nL cL) (.slice (some ⟨g, 0, none⟩) nT cT) (d * 16 ^ (3 - 1)) (1 - 1) (by simp; omega) W hA (by rw [hTm.out]; omega))
            rw [htb, hTm.out, show ixN ip nT = (ip : Int) from by unfold ixN; rw [if_pos (by have := HT.out; omega)]] at ct
            have ct : Hid (∀ W, RSpAt W C MC BC N s.pgL (Nd.map (tbOf s)) (.slice oL nL cL) (.slice (some ⟨g, 0, none⟩) nT cT) → Calls Tryz.prog 39 #[.pointer (some ⟨C, 0, none⟩), .int .i64 ((d * 16 ^ (3 - 1) : Nat) : Int), .int .i64 0] W fun e w' => e = .returned (.int .i64 ip) ∧ ∃ n, w' = W.drewN n) := ct
            clear hm2 hnode' htb hpx hE eg
            have hip0 : (0 : Int) ≤ (ip : Int) := by omega
            have hip1 : (ip : Int) < (nT : Int) := by have := HT.out; omega
            have hq1 : ((d * 16 ^ (3 - 1) : Nat) : Int).tdiv 256 = ((d % 16 : Nat) : Int) := by rw [show d * 16 ^ (3 - 1) = d * 256 from rfl, Int.tdiv_eq_ediv_of_nonneg (by omega)]; omega
            have hw1 : IntKind.i64.wrap ((d % 16 : Nat) : Int) = ((d % 16 : Nat) : Int) := IntWalk.i64_in _ (by omega)
            generalize s.fr (1 - 1) (d / 16) = pf at p2 hm3
            rw [← HQ.out] at ct hq1
            clear HQ HLI HCF
            generalize hPe : ((d % 16 : Nat) : Int) = P at hm3 hq1 hw1
            clear hPe
            go_upto_region 9 with fail
            have hS := Lib.hid (show ∀ (W' : World), Upd (· = m2.B) W W' → W'.cell? ⟨C, 0, none⟩ = some (.pointer (some ⟨MC, 0, none⟩)) ∧ W'.cell? ⟨C, 3, none⟩ = some (.slice (some ⟨g, 0, none⟩) nT cT) ∧ W'.cell? ⟨X, 0, none⟩ = some (.int .i64 1) ∧ W'.cell? ⟨X, 1, none⟩ = some (.int .i64 Q) ∧ W'.cell? ⟨X, 2, none⟩ = some (.int .i64 cf) ∧ W'.cell? ⟨g, ip * 3 + 2, none⟩ = some (.int .i64 pf) ∧ Upd (· = m2.B) W W' from fun W' u => ⟨u.cell e0 hne0, u.cell e3 hne0, u.cell x0 hneX, u.cell x1 hneX, u.cell x2 hneX, u.cell p2 hneg, u⟩)
            go_cut [4] from 48 to 69 (fun s4 wx => s4 = .pointer (some ⟨X, 0, none⟩) ∧ RefAt wx MC (m2.put pf P ⟨true, false, true, cf⟩) ∧ Upd (· = m2.B) W wx)
            case first =>
              go_region_held3 (fun w' => w'.cell? ⟨C, 0, none⟩ = some (.pointer (some ⟨MC, 0, none⟩)) ∧ w'.cell? ⟨C, 3, none⟩ = some (.slice (some ⟨g, 0, none⟩) nT cT) ∧ w'.cell? ⟨X, 0, none⟩ = some (.int .i64 1) ∧ w'.cell? ⟨X, 1, none⟩ = some (.int .i64 Q) ∧ w'.cell? ⟨X, 2, none⟩ = some (.int .i64 cf) ∧ w'.cell? ⟨g, ip * 3 + 2, none⟩ = some (.int .i64 pf) ∧ Upd (· = m2.B) W w')
                (first
                  | assumption
                  | exact hS.out _ (Upd.refl _ _).drew
                  | exact hS.out _ v7
                  | exact hS.out _ v9)
                (first
                  | (go_at_call 39; refine (ct.out W.drew (hA.out.still (Upd.refl _ _).drew).a).mono ?_; rintro e w6 ⟨rfl, nq, rfl⟩; have v7 : Upd (· = m2.B) W (W.drewN (1 + nq)) := (Upd.refl _ _).drewN (1 + nq))
                  | (go_at_call 69; refine (kput_any MC m2 pf P ⟨true, false, true, cf⟩ (W.drewN (1 + nq)) (hA.out.r.kept (S := fun _ => False) ((Upd.refl _ _).drewN (1 + nq)) id id)).mono ?_; rintro e w8 ⟨rfl, hr8, v8⟩; have v9 := v7.trans v8))
              all_goals (go_wp2_with fail)
              all_goals go_meet
              all_goals exact ⟨rfl, hr8, v9⟩
            case rest =>
              obtain ⟨rfl, hr, u3⟩ := hcut
              have hA3 := Lib.hid (hA.out.step hr u3)
              have u4 := Lib.hid (u2.out.trans (by rw [← hB.out]; exact u3))
              have x0' := u3.cell x0 hneX
              clear hS ct e0 e3 p2 x0 x1 x2 hr u3 hA u2
              go_wp2
              go_roundw
              case rel => exact ⟨i + 1, _, by omega, by go_num, Lib.hid hm3.out.symm, Lib.hid (by rw [Mem.put_B]; exact hB.out), hA3, u4⟩
              case measure => simp [intOf]; omega

          · have y0 : W.cell? ⟨X, 0, none⟩ = some (.int .i64 2) := by rw [x0, HLI.out]; rfl
            clear x0
            have x0 := y0
            clear y0
            obtain ⟨hE, ip, hip, hpx, htb⟩ := hnode'.out (by omega)
            obtain ⟨g', eg, -, -, p2⟩ := tb_cells2 hTm.out hA.out.a.tabs ip (tbOf s (2 - 1, d / 16)) (by rw [List.getElem?_map, hpx]; rfl)
            obtain rfl : g = g' := by simpa using eg
            rw [show (tbOf s (2 - 1, d / 16)).f = s.fr (2 - 1) (d / 16) from rfl] at p2
            have hdd : d < 256 := by simpa using hd
            have hm3 := Lib.hid (show (Nd.take (i + 1)).foldl (ePut1 s) mk = m2.put (s.fr (2 - 1) (d / 16)) ((d % 16 : Nat) : Int) ⟨true, false, true, cf⟩ from by
              rw [hm2.out, HCF.out]
              show m2.put (s.fr (2 - 1) (d / 16)) ((d % 16 : Nat) : Int) (s.E 2 d) = _
              rw [hE])
            have ct := Lib.hid (fun W hA => rtable_any C MC BC N s.pgL (Nd.map (tbOf s)) (.slice oL nL cL) (.slice (some ⟨g, 0, none⟩) nT cT) (d * 16 ^ (3 - 2)) (2 - 1) (by simp; omega) W hA (by rw [hTm.out]; omega))
            rw [htb, hTm.out, show ixN ip nT = (ip : Int) from by unfold ixN; rw [if_pos (by have := HT.out; omega)]] at ct
            have ct : Hid (∀ W, RSpAt W C MC BC N s.pgL (Nd.map (tbOf s)) (.slice oL nL cL) (.slice (some ⟨g, 0, none⟩) nT cT) → Calls Tryz.prog 39 #[.pointer (some ⟨C, 0, none⟩), .int .i64 ((d * 16 ^ (3 - 2) : Nat) : Int), .int .i64 1] W fun e w' => e = .returned (.int .i64 ip) ∧ ∃ n, w' = W.drewN n) := ct
            clear hm2 hnode' htb hpx hE eg
            have hip0 : (0 : Int) ≤ (ip : Int) := by omega
            have hip1 : (ip : Int) < (nT : Int) := by have := HT.out; omega
            have hq1 : ((d * 16 ^ (3 - 2) : Nat) : Int).tdiv 16 = ((d : Nat) : Int) := by rw [show d * 16 ^ (3 - 2) = d * 16 from rfl, Int.tdiv_eq_ediv_of_nonneg (by omega)]; omega
            have hw1 : IntKind.i64.wrap (d : Int) = (d : Int) := IntWalk.i64_in _ (by omega)
            have hq2 : ((d : Nat) : Int).tmod 16 = ((d % 16 : Nat) : Int) := by rw [Int.tmod_eq_emod_of_nonneg (by omega)]; omega
            generalize s.fr (2 - 1) (d / 16) = pf at p2 hm3
            rw [← HQ.out] at ct hq1
            clear HQ HLI HCF
            generalize hPe : ((d % 16 : Nat) : Int) = P at hm3 hq2
            clear hPe
            go_upto_region 11 with fail
            have hS := Lib.hid (show ∀ (W' : World), Upd (· = m2.B) W W' → W'.cell? ⟨C, 0, none⟩ = some (.pointer (some ⟨MC, 0, none⟩)) ∧ W'.cell? ⟨C, 3, none⟩ = some (.slice (some ⟨g, 0, none⟩) nT cT) ∧ W'.cell? ⟨X, 0, none⟩ = some (.int .i64 2) ∧ W'.cell? ⟨X, 1, none⟩ = some (.int .i64 Q) ∧ W'.cell? ⟨X, 2, none⟩ = some (.int .i64 cf) ∧ W'.cell? ⟨g, ip * 3 + 2, none⟩ = some (.int .i64 pf) ∧ Upd (· = m2.B) W W' from fun W' u => ⟨u.cell e0 hne0, u.cell e3 hne0, u.cell x0 hneX, u.cell x1 hneX, u.cell x2 hneX, u.cell p2 hneg, u⟩)
            go_region_held3 (fun w' => w'.cell? ⟨C, 0, none⟩ = some (.pointer (some ⟨MC, 0, none⟩)) ∧ w'.cell? ⟨C, 3, none⟩ = some (.slice (some ⟨g, 0, none⟩) nT cT) ∧ w'.cell? ⟨X, 0, none⟩ = some (.int .i64 2) ∧ w'.cell? ⟨X, 1, none⟩ = some (.int .i64 Q) ∧ w'.cell? ⟨X, 2, none⟩ = some (.int .i64 cf) ∧ w'.cell? ⟨g, ip * 3 + 2, none⟩ = some (.int .i64 pf) ∧ Upd (· = m2.B) W w')
              (first
                | assumption
                | exact hS.out _ (Upd.refl _ _).drew
                | exact hS.out _ v7
                | exact hS.out _ v9)
              (first
                | (go_at_call 39; refine (ct.out W.drew (hA.out.still (Upd.refl _ _).drew).a).mono ?_; rintro e w6 ⟨rfl, nq, rfl⟩; have v7 : Upd (· = m2.B) W (W.drewN (1 + nq)) := (Upd.refl _ _).drewN (1 + nq))
                | (go_at_call 69; refine (kput_any MC m2 pf P ⟨true, false, true, cf⟩ (W.drewN (1 + nq)) (hA.out.r.kept (S := fun _ => False) ((Upd.refl _ _).drewN (1 + nq)) id id)).mono ?_; rintro e w8 ⟨rfl, hr8, v8⟩; have v9 := v7.trans v8))
            have hA3 := Lib.hid (hA.out.step hr8 v9)
            have u4 := Lib.hid (u2.out.trans (by rw [← hB.out]; exact v9))
            clear hS ct e0 e3 p2 x0 x1 x2 hr8 v8 v9 v7 hA u2
            go_wp2_with fail
            go_roundw
            case rel => exact ⟨i + 1, _, by omega, by go_num, Lib.hid hm3.out.symm, Lib.hid (by rw [Mem.put_B]; exact hB.out), hA3, u4⟩
            case measure => simp [intOf]; omega
        · have hm2 := Lib.hid (show m2 = Nd.foldl (ePut1 s) mk from by rw [hm.out, List.take_of_length_le (by have := HT.out; omega)])
          have hix : ¬ ((i : Int) < (nT : Int)) := by omega
          clear hm hlt
          go_wp2_with fail
          go_loopw [5] (fun t wr => ∃ (k : Nat) (m3 : Mem), k ≤ nL ∧ t = .int .i64 k ∧ Hid (m3 = ((s.pgs.map fun q => ((3, q) : Nat × Nat)).take k).foldl (ePut s) m2) ∧ Hid (m3.B = m.B) ∧ Hid (LayAt wr C MC BC N s Nd (.slice oL nL cL) (.slice oT nT cT) m3) ∧ Hid (Upd (· = m.B) w wr)) (fun t _ => nL - (intOf t).toNat)
          case atStart => exact ⟨0, m2, by omega, rfl, Lib.hid rfl, hB, hA, u⟩
          case round =>
            clear hA u hB cTc cMc
            obtain ⟨j, m3, hjn, rfl, hm, hB, hA, u⟩ := hrel
            have cTc := hA.out.a.cT
            have cMc := hA.out.a.cM
            have cLc := hA.out.a.cL
            by_cases hlt : j < nL
            · obtain ⟨q, hx⟩ : ∃ q, s.pgs[j]? = some q := ⟨_, List.getElem?_eq_getElem (by have := HL.out; omega)⟩
              obtain ⟨gL, rfl, c0, c1, c2⟩ := pg_cells2 hLm.out hA.out.a.pages j (pgOf s q) (by unfold Sp.pgL; rw [List.getElem?_map, hx]; rfl)
              have hqv := (s.mem_pgs (q := q)).1 (List.mem_of_getElem? hx)
              have hq4 := hqv.1
              have hpar := (hs.lv _ _ hqv.2).2.2.2
              have hE : s.E 3 q = ⟨true, (s.E 3 q).r, false, (s.E 3 q).f⟩ := by
                have : s.E 3 q = ⟨(s.E 3 q).v, (s.E 3 q).r, (s.E 3 q).t, (s.E 3 q).f⟩ := rfl
                rw [this, hqv.2, hs.pg _ hqv.2]
              obtain ⟨ip, hpx, hip, htb⟩ := hN.ix (by omega) hpar
              have hm3 := Lib.hid (show ((s.pgs.map fun q => ((3, q) : Nat × Nat)).take (j + 1)).foldl (ePut s) m2 = m3.put (s.fr 2 (q / 16)) ((q % 16 : Nat) : Int) ⟨true, (s.E 3 q).r, false, (s.E 3 q).f⟩ from by
                rw [take_next (x := (3, q)) (by rw [List.getElem?_map, hx]; rfl), List.foldl_append, ← hm.out]
                show m3.put (s.fr 2 (q / 16)) ((q % 16 : Nat) : Int) (s.E 3 q) = _
                rw [hE])
              rw [show (pgOf s q).n = ((q : Nat) : Int) from rfl] at c0
              rw [show (pgOf s q).f = (s.E 3 q).f from rfl] at c1
              rw [show (pgOf s q).w = (s.E 3 q).r from rfl] at c2
              obtain ⟨g, eg, -, -, p2⟩ := tb_cells2 hTm.out hA.out.a.tabs ip (tbOf s (3 - 1, q / 16)) (by rw [List.getElem?_map, hpx]; rfl)
              subst eg
              rw [show (tbOf s (3 - 1, q / 16)).f = s.fr 2 (q / 16) from rfl] at p2
              have ct := Lib.hid (fun W hA => rtable_any C MC BC N s.pgL (Nd.map (tbOf s)) (.slice (some ⟨gL, 0, none⟩) nL cL) (.slice (some ⟨g, 0, none⟩) nT cT) q 2 hq4 W hA (by rw [hTm.out]; omega))
              rw [show tbIx (Nd.map (tbOf s)) ((2 : Nat) : Int) ((fstI q 2 : Nat) : Int) = ip from htb, hTm.out, show ixN ip nT = (ip : Int) from by unfold ixN; rw [if_pos (by have := HT.out; omega)]] at ct
              have ct : Hid (∀ W, RSpAt W C MC BC N s.pgL (Nd.map (tbOf s)) (.slice (some ⟨gL, 0, none⟩) nL cL) (.slice (some ⟨g, 0, none⟩) nT cT) → Calls Tryz.prog 39 #[.pointer (some ⟨C, 0, none⟩), .int .i64 ((q : Nat) : Int), .int .i64 2] W fun e w' => e = .returned (.int .i64 ip) ∧ ∃ n, w' = W.drewN n) := ct
              have hq1 : ((q : Nat) : Int).tmod 16 = ((q % 16 : Nat) : Int) := by rw [Int.tmod_eq_emod_of_nonneg (by omega)]; omega
              clear hx hqv hpar hE hpx htb
              have hip0 : (0 : Int) ≤ (ip : Int) := by omega
              have hip1 : (ip : Int) < (nT : Int) := by have := HT.out; omega
              have j0 : (0 : Int) ≤ (j : Int) := by omega
              have j1 : (j : Int) < (nL : Int) := by omega
              generalize s.fr 2 (q / 16) = pf at p2 hm3
              generalize (s.E 3 q).f = cf at c1 hm3
              generalize (s.E 3 q).r = wb at c2 hm3
              generalize ((q % 16 : Nat) : Int) = P at hm3 hq1
              generalize hQ : ((q : Nat) : Int) = Q at c0 ct hq1
              clear hQ hq4
              go_upto_region 16 with fail
              have hX := heap_alloc_last wr (.cells #[.int .i64 Q, .int .i64 cf, .bool wb] 92)
              have uX := (Upd.refl (fun _ => False) wr).alloc (.cells #[.int .i64 Q, .int .i64 cf, .bool wb] 92)
              have hXB : wr.heap.size ≠ m3.B := Nat.ne_of_gt hA.out.lt
              have hA2 := Lib.hid (hA.out.still uX)
              have u2 : Hid (Upd (· = m.B) w _) := Lib.hid (u.out.trans uX.none')
              have p2 := uX.cell p2 id
              generalize hWe : wr.alloc (.cells #[.int .i64 Q, .int .i64 cf, .bool wb] 92) = W at hX uX hA2 u2 p2 ⊢
              generalize hXe : wr.heap.size = X at hX hXB ⊢
              obtain ⟨x0, x1, x2⟩ := box3 hX
              have e0 := hA2.out.a.cM
              have e3 := hA2.out.a.cT
              obtain ⟨nb1, nb2, nb3⟩ := hA2.out.a.neB hA2.out.r
              have hne0 : ¬ C = m3.B := nb1
              have hneg : ¬ g = m3.B := nb3 g rfl
              have hneX : ¬ X = m3.B := hXB
              clear hWe hXe hX uX hXB nb1 nb2 nb3 hA u c0 c1 c2 cTc cMc cLc
              have hA := hA2
              clear hA2
              have hS := Lib.hid (show ∀ (W' : World), Upd (· = m3.B) W W' → W'.cell? ⟨C, 0, none⟩ = some (.pointer (some ⟨MC, 0, none⟩)) ∧ W'.cell? ⟨C, 3, none⟩ = some (.slice (some ⟨g, 0, none⟩) nT cT) ∧ W'.cell? ⟨X, 0, none⟩ = some (.int .i64 Q) ∧ W'.cell? ⟨X, 1, none⟩ = some (.int .i64 cf) ∧ W'.cell? ⟨X, 2, none⟩ = some (.bool wb) ∧ W'.cell? ⟨g, ip * 3 + 2, none⟩ = some (.int .i64 pf) ∧ Upd (· = m3.B) W W' from fun W' u => ⟨u.cell e0 hne0, u.cell e3 hne0, u.cell x0 hneX, u.cell x1 hneX, u.cell x2 hneX, u.cell p2 hneg, u⟩)
              go_region_held3 (fun w' => w'.cell? ⟨C, 0, none⟩ = some (.pointer (some ⟨MC, 0, none⟩)) ∧ w'.cell? ⟨C, 3, none⟩ = some (.slice (some ⟨g, 0, none⟩) nT cT) ∧ w'.cell? ⟨X, 0, none⟩ = some (.int .i64 Q) ∧ w'.cell? ⟨X, 1, none⟩ = some (.int .i64 cf) ∧ w'.cell? ⟨X, 2, none⟩ = some (.bool wb) ∧ w'.cell? ⟨g, ip * 3 + 2, none⟩ = some (.int .i64 pf) ∧ Upd (· = m3.B) W w')
                (first
                  | assumption
                  | exact hS.out _ (Upd.refl _ _).drew
                  | exact hS.out _ v7
                  | exact hS.out _ v9)
                (first
                  | (go_at_call 39; refine (ct.out W.drew (hA.out.still (Upd.refl _ _).drew).a).mono ?_; rintro e w6 ⟨rfl, nq, rfl⟩; have v7 : Upd (· = m3.B) W (W.drewN (1 + nq)) := (Upd.refl _ _).drewN (1 + nq))
                  | (go_at_call 69; refine (kput_any MC m3 pf P ⟨true, wb, false, cf⟩ (W.drewN (1 + nq)) (hA.out.r.kept (S := fun _ => False) ((Upd.refl _ _).drewN (1 + nq)) id id)).mono ?_; rintro e w8 ⟨rfl, hr8, v8⟩; have v9 := v7.trans v8))
              have hA3 := Lib.hid (hA.out.step hr8 v9)
              have u4 := Lib.hid (u2.out.trans (by rw [← hB.out]; exact v9))
              clear hS ct e0 e3 p2 x0 x1 x2 hr8 v8 v9 v7 hA u2
              go_wp2_with fail
              go_roundw
              case rel => exact ⟨j + 1, _, by omega, by go_num, Lib.hid hm3.out.symm, Lib.hid (by rw [Mem.put_B]; exact hB.out), hA3, u4⟩
              case measure => simp [intOf]; omega
            · have hm4 := Lib.hid (show m3 = layM s Nd m from by
                rw [hm.out, List.take_of_length_le (by rw [List.length_map]; have := HL.out; omega), hm2.out, hm1.out]; rfl)
              have hjx : ¬ ((j : Int) < (nL : Int)) := by omega
              go_wp2_with fail
              go_end0
              exact ⟨rfl, by rw [← hm4.out]; have := hA.out; rw [← HT.out, ← hLm.out] at this; exact this, u.out⟩
end Go.Proofs.YtdapmcclplfpfaaGreatDoor

/-
  The document's own spaces: Find.
-/
namespace Go.Proofs.YtdapmcclplfpfaaGreatDoor
open Go.ChangeShapes Go.WideShapes Go.ChangeAt Go.RowKit Go.Shelf Go.Sort

theorem pgIx_yes {s : Sp} {i q : Nat} (hi : s.pgs[i]? = some q) : pgIx s.pgL ((q : Nat) : Int) = i ∧ i < s.pgs.length := by
  have hlt : i < s.pgs.length := (List.getElem?_eq_some_iff.1 hi).1
  refine ⟨first_of (by unfold Sp.pgL; rw [List.length_map]; exact hlt) ?_ fun j hj => ?_, hlt⟩
  · unfold pgHit Sp.pgL
    rw [List.getElem?_map, hi]
    simp [pgOf]
  · cases hh : pgHit s.pgL ((q : Nat) : Int) j
    · rfl
    · exfalso
      unfold pgHit Sp.pgL at hh
      rw [List.getElem?_map, List.getElem?_eq_getElem (by omega)] at hh
      simp only [Option.map_some, decide_eq_true_eq, pgOf] at hh
      have h2 : s.pgs[i] = q := (List.getElem?_eq_some_iff.1 hi).2
      have := List.pairwise_iff_getElem.1 s.pgs_rises j i (by omega) hlt hj
      omega
theorem pgIx_no {s : Sp} {q : Int} (h : ∀ x, x ∈ s.pgs → ((x : Nat) : Int) ≠ q) : pgIx s.pgL q = s.pgL.length := by
  refine first_all fun j hj => ?_
  unfold pgHit Sp.pgL
  have hj : j < s.pgs.length := by unfold Sp.pgL at hj; rwa [List.length_map] at hj
  rw [List.getElem?_map, List.getElem?_eq_getElem hj]
  exact decide_eq_false (h _ (List.getElem_mem _))
theorem Sp.pgL_len (s : Sp) : s.pgL.length = s.pgs.length := by unfold Sp.pgL; rw [List.length_map]
/-- a page's place, or none -/
theorem page_at {s : Sp} {n : Nat} (hs : s.Ok n) (q : Int) :
    (∃ (i : Nat) (j : Nat), q = (j : Nat) ∧ j < 4096 ∧ (s.E 3 j).v = true ∧ s.pgs[i]? = some j ∧ i < s.pgs.length ∧ ixN (pgIx s.pgL q) s.pgL.length = i) ∨
    (ixN (pgIx s.pgL q) s.pgL.length = -1 ∧ ∀ j : Nat, q = (j : Nat) → (s.E 3 j).v = false) := by
  by_cases h : ∃ x, x ∈ s.pgs ∧ ((x : Nat) : Int) = q
  · obtain ⟨x, hx, rfl⟩ := h
    obtain ⟨i, hi⟩ := List.getElem?_of_mem hx
    obtain ⟨h1, h2⟩ := pgIx_yes hi
    have hv := (s.mem_pgs (q := x)).1 hx
    refine .inl ⟨i, x, rfl, hv.1, hv.2, hi, h2, ?_⟩
    rw [h1]; unfold ixN; rw [if_pos (by rw [s.pgL_len]; exact h2)]
  · have h' : ∀ x, x ∈ s.pgs → ((x : Nat) : Int) ≠ q := fun x hx e => h ⟨x, hx, e⟩
    refine .inr ⟨by rw [pgIx_no h']; unfold ixN; rw [if_neg (by omega)], fun j e => ?_⟩
    cases hv : (s.E 3 j).v
    · rfl
    · exact absurd ((s.mem_pgs (q := j)).2 ⟨(Sp.page_dep hs hv).2, hv⟩) (fun hm => h' j hm e.symm)
set_option maxRecDepth 100000 in
set_option maxHeartbeats 2000000 in
theorem rfindS_any (C MC BC N : Nat) (s : Sp) (T : List RTb) (vL vT : Value) (n : Nat) (hs : s.Ok n) (q : Int) (w : World) (h : RSpAt w C MC BC N s.pgL T vL vT) :
    Calls Tryz.prog 16 #[.pointer (some ⟨C, 0, none⟩), .int .i64 q] w fun e w' => e = .returned (.tuple #[(s.findE q).val, .int .i64 (s.findX q)]) ∧ Upd (fun _ => False) w w' := by
  have hfE : Hid (s.findE q = if 0 ≤ q ∧ q ≤ 4095 then s.E 3 q.toNat else En.zero) := Lib.hid rfl
  have hfX : Hid (s.findX q = if 0 ≤ q ∧ q ≤ 4095 then (if (s.E 3 q.toNat).v = true then 0 else 10) else 1) := Lib.hid rfl
  have k0 : Hid (EntAt (w.alloc (.cells #[.bool false, .bool false, .bool false, .int .i64 0] 46)) w.heap.size false false false 0) := Lib.hid (heap_alloc_last w _)
  have U0 := Lib.hid ((Upd.refl (fun _ => False) w).alloc (.cells #[.bool false, .bool false, .bool false, .int .i64 0] 46))
  have HA := Lib.hid (h.kept U0.out id (fun _ _ => id) (fun _ _ => id))
  have hpl := s.pgs_le
  have cA := Lib.hid (fun W hA => rpat_any C MC BC N s.pgL T vL vT q W hA (by rw [s.pgL_len]; omega))
  have hpg := page_at hs q
  generalize hR : ixN (pgIx s.pgL q) s.pgL.length = R at cA hpg
  clear hR
  generalize hE : s.findE q = FE at hfE ⊢
  generalize hX : s.findX q = FX at hfX ⊢
  clear hE hX h
  by_cases hq : 0 ≤ q ∧ q ≤ 4095
  · obtain ⟨q0, q1⟩ := hq
    go_enter Tryz.func16, Tryz.ntmps16
    go_upto_region 1 with fail
    generalize w.alloc (.cells #[.bool false, .bool false, .bool false, .int .i64 0] 46) = w0 at k0 U0 HA ⊢
    obtain ⟨D, hDe⟩ : ∃ D, D = w.heap.size := ⟨_, rfl⟩
    rw [← hDe] at k0 ⊢
    have hD : Hid (w.heap.size ≤ D) := Lib.hid (Nat.le_of_eq hDe.symm)
    clear hDe
    have K := k0.out.there
    go_wp2_with fail
    refine (cA.out _ HA.out).mono ?_
    rintro e w1 ⟨rfl, rfl⟩
    rcases hpg with ⟨i, j, rfl, hj, hv, hi, hil, rfl⟩ | ⟨rfl, hno⟩
    · have hF := Lib.hid (show FE = ⟨true, (s.E 3 j).r, false, (s.E 3 j).f⟩ from by
        rw [hfE.out, if_pos ⟨q0, q1⟩, Int.toNat_natCast]
        have : s.E 3 j = ⟨(s.E 3 j).v, (s.E 3 j).r, (s.E 3 j).t, (s.E 3 j).f⟩ := rfl
        rw [this, hv, hs.pg _ hv])
      have hX0 := Lib.hid (show FX = 0 from by rw [hfX.out, if_pos ⟨q0, q1⟩, Int.toNat_natCast, if_pos hv])
      obtain ⟨o, cap, rfl⟩ := rsp_slice HA.out.pages
      have cLc := HA.out.cL
      obtain ⟨g, rfl, -, c1, c2⟩ := pg_cells2 rfl HA.out.pages i (pgOf s j) (by unfold Sp.pgL; rw [List.getElem?_map, hi]; rfl)
      rw [show (pgOf s j).f = (s.E 3 j).f from rfl] at c1
      rw [show (pgOf s j).w = (s.E 3 j).r from rfl] at c2
      generalize (s.E 3 j).f = pf at c1 hF
      generalize (s.E 3 j).r = pw' at c2 hF
      have hll : i < s.pgL.length := by rw [s.pgL_len]; exact hil
      generalize s.pgL.length = nL at cLc c1 c2 hll HA
      have i0 : (0 : Int) ≤ (i : Int) := by omega
      have i1 : (i : Int) < (nL : Int) := by omega
      clear hfE hfX hv hi hil cA HA hpl
      go_upto_region 6 with fail
      refine wp_region_tail 17 (by kernel_rfl) (by kernel_rfl) ?_
      simp only [List.take_succ_cons, List.take_zero, List.drop_succ_cons, List.drop_zero]
      intro w9 hw9
      have K9 : w9.there D 0 4 := by rw [hw9]; exact K
      have k9 : Hid (EntAt w9 D false false false 0) := Lib.hid (by rw [hw9]; exact k0.out)
      have U9 : Hid (Upd (fun _ => False) w w9) := Lib.hid (by rw [hw9]; exact U0.out.drew)
      have d0 : w9.cell? ⟨C, 2, none⟩ = some (.slice (some ⟨g, 0, none⟩) nL cap) := by rw [hw9]; exact cLc
      have d1 : w9.cell? ⟨g, i * 3 + 1, none⟩ = some (.int .i64 pf) := by rw [hw9]; exact c1
      have d2 : w9.cell? ⟨g, i * 3 + 2, none⟩ = some (.bool pw') := by rw [hw9]; exact c2
      clear hw9 K k0 U0 cLc c1 c2
      repeat still_step
      refine wpStill_nil ?_
      go_wp2_with (with_reducible refine wpList_store_sz rfl 46 (.tmp 4) (.tmp 36) rfl D 0 #[.bool true, .bool pw', .bool false, .int .i64 pf] rfl rfl 4 (ent_sz _ _ _ _) K9 size_ent (ent_one _ _ _ _) [.bool true, .bool pw', .bool false, .int .i64 pf] (ent_ls _ _ _ _) ?_)
      (try simp only [Exit.inBlock, Exit.then])
      refine bodyPost_ret (ret_ent rfl _ _ D true pw' false pf rfl (k9.out.set true pw' false pf)) rfl ⟨?_, ?_⟩
      · rw [hF.out, hX0.out]; rfl
      · exact Upd.setCells (.inr hD.out) _ _ U9.out
    · obtain ⟨j, rfl⟩ := Int.eq_ofNat_of_zero_le q0
      have hv := hno j rfl
      have hF := Lib.hid (show FE = En.zero from by rw [hfE.out, if_pos ⟨q0, q1⟩, Int.toNat_natCast, hs.none _ _ hv])
      have hX0 := Lib.hid (show FX = 10 from by rw [hfX.out, if_pos ⟨q0, q1⟩, Int.toNat_natCast, if_neg (by rw [hv]; decide)])
      clear hfE hfX hv hno cA HA hpl
      go_wp2_with (with_reducible refine wpList_store_sz rfl 46 (.tmp 4) (.tmp 19) rfl D 0 #[.bool false, .bool false, .bool false, .int .i64 0] rfl rfl 4 (ent_sz _ _ _ _) K size_ent (ent_one _ _ _ _) [.bool false, .bool false, .bool false, .int .i64 0] (ent_ls _ _ _ _) ?_)
      (try simp only [Exit.inBlock, Exit.then])
      refine bodyPost_ret (ret_ent rfl _ _ D false false false 0 rfl (k0.out.set false false false 0)) rfl ⟨?_, ?_⟩
      · rw [hF.out, hX0.out]; rfl
      · exact Upd.setCells (.inr hD.out) _ _ U0.out
  · have hF := Lib.hid (show FE = En.zero from by rw [hfE.out, if_neg hq])
    have hX0 := Lib.hid (show FX = 1 from by rw [hfX.out, if_neg hq])
    have K := k0.out.there
    have hbad : q < 0 ∨ (0 ≤ q ∧ 4095 < q) := by omega
    clear hfE hfX hq cA HA hpl hpg
    rcases hbad with h1 | ⟨h1, h2⟩
    all_goals
      go_enter Tryz.func16, Tryz.ntmps16
      go_wp2_with (with_reducible refine wpList_store_sz rfl 46 (.tmp 4) (.tmp 13) rfl w.heap.size 0 #[.bool false, .bool false, .bool false, .int .i64 0] rfl rfl 4 (ent_sz _ _ _ _) K size_ent (ent_one _ _ _ _) [.bool false, .bool false, .bool false, .int .i64 0] (ent_ls _ _ _ _) ?_)
      (try simp only [Exit.inBlock, Exit.then])
      refine bodyPost_ret (ret_ent rfl _ _ w.heap.size false false false 0 rfl (k0.out.set false false false 0)) rfl ⟨?_, ?_⟩
      · rw [hF.out, hX0.out]; rfl
      · exact Upd.setCells (.inr (Nat.le_refl _)) _ _ U0.out
end Go.Proofs.YtdapmcclplfpfaaGreatDoor

/-
  Rows of the call's own: kept, as a slice, grown by append.
-/
namespace Go.Proofs.YtdapmcclplfpfaaGreatDoor
open Go.RowKit

theorem rows_kept {S : Nat → Prop} {w w' : World} {base sz k : Nat} {e : TypeId} {v : Value} {xs : List Value} (h : w.ownsRow base e sz v k xs) (u : Upd S w w') (hg : ∀ j, v.ownBlock = some j → ¬ S j) : w'.ownsRow base e sz v k xs := by
  refine ⟨h.1, ?_⟩
  rcases h.2 with hn | ⟨g, cap, cur, rfl, hb, hgg, rest⟩
  · exact .inl hn
  · exact .inr ⟨g, cap, cur, rfl, hb, u.at hgg (hg g rfl), rest⟩
theorem rows_still {w w' : World} {base sz k : Nat} {e : TypeId} {v : Value} {xs : List Value} (h : w.ownsRow base e sz v k xs) (u : Upd (fun _ => False) w w') : w'.ownsRow base e sz v k xs := rows_kept h u fun _ _ => id
/-- blocks of before are not the row's -/
theorem rows_under {S : Nat → Prop} {w w' : World} {base sz k : Nat} {e : TypeId} {v : Value} {xs : List Value} (h : w.ownsRow base e sz v k xs) (u : Upd S w w') (hS : ∀ j, S j → j < base) : w'.ownsRow base e sz v k xs :=
  rows_kept h u fun j hj s => by have := (h.lt j hj).1; have := hS j s; omega
theorem rows_slice {w : World} {base sz : Nat} {e : TypeId} {v : Value} {k : Nat} {xs : List Value} (h : w.ownsRow base e sz v k xs) : ∃ o cap, v = .slice o k cap := by
  rcases h.2 with ⟨rfl, rfl⟩ | ⟨g, cap, cur, rfl, _⟩
  · exact ⟨none, 0, rfl⟩
  · exact ⟨_, _, rfl⟩
theorem rows_new (w : World) (base sz : Nat) (e : TypeId) : w.ownsRow base e sz (.slice none 0 0) 0 [] := ⟨by simp, .inl ⟨rfl, rfl⟩⟩
theorem rows_src (w : World) (c : List Value) (t : TypeId) : ∀ (j : Nat) (u : Value), c[j]? = some u → (w.alloc (.cells c.toArray t)).cell? ((⟨w.heap.size, 0, none⟩ : Addr).add j) = some u := by
  intro j u hj
  rw [add_mid0, cell_of_row _ _ _ _ _ _ (heap_alloc_last w (.cells c.toArray t))]
  simpa using hj
theorem rows_grown {w wr w4 : World} {N sz n : Nat} {e : TypeId} {v : Value} {xs : List Value} {o : Obj} {S : Nat → Prop} (hrow : wr.ownsRow N e sz v n xs) (hgr : (wr.alloc o).grownBy w4 v.ownBlock) (hU : Upd S w wr) (hN : w.heap.size ≤ N) : Upd S w w4 := by
  have hs := hU.size
  refine ⟨hgr.os.trans hU.os, hgr.tape.trans hU.tape, hgr.output.trans hU.output, by have := hgr.size; simp at this; omega, fun k hk hS => ?_⟩
  rw [hgr.block k (by simp; omega) (fun e => by have := (hrow.lt k e.symm).1; omega), Below.heap_alloc _ _ _ (by omega)]
  exact hU.block k hk hS
/-- the cells of a row of the call's own -/
theorem rows_at {w : World} {base sz k cap : Nat} {e : TypeId} {o : Option Addr} {xs : List Value} (h : w.ownsRow base e sz (.slice o k cap) k xs) (hk : 0 < k) : ∃ g, o = some ⟨g, 0, none⟩ ∧ ∀ (j : Nat) (u : Value), xs[j]? = some u → w.cell? ⟨g, j, none⟩ = some u := by
  rcases h.2 with ⟨e1, e2⟩ | ⟨g, cap', cur, e1, rest⟩
  · omega
  · simp only [Value.slice.injEq] at e1
    obtain ⟨rfl, _, rfl⟩ := e1
    refine ⟨g, rfl, fun j u hu => ?_⟩
    have := h.cells (g := g) rfl j u hu
    rwa [add_mid0, Nat.zero_add] at this
/-! guarded operations whose guard is decided, in a region that draws and only reads -/
theorem still_off {P : Program} {ops : Array Oper} {w : World} {Q : Act → Prop} {a : Act} {o : Oper} {rest : List Oper} (hw : Region.wanted o (yielded ops a.tmps) = false) (h : wpStill P ops w Q rest (a.put o.dst undef)) : wpStill P ops w Q (o :: rest) a :=
  wpStill_step fun K hK => by rw [hw]; exact hK _ h
theorem still_on {P : Program} {ops : Array Oper} {w : World} {Q : Act → Prop} {a : Act} {o : Oper} {rest : List Oper} (hw : Region.wanted o (yielded ops a.tmps) = true) (h : wpStill P ops w Q ({ o with guard := none } :: rest) a) : wpStill P ops w Q (o :: rest) a := by
  unfold wpStill at h ⊢
  rw [if_pos hw]
  exact h
end Go.Proofs.YtdapmcclplfpfaaGreatDoor

/-
  The document's own spaces: Pages. Two spaces that are the same.
-/
namespace Go.Proofs.YtdapmcclplfpfaaGreatDoor
open Go.ChangeShapes Go.WideShapes Go.ChangeAt Go.RowKit Go.Shelf Go.Sort

/-- spaces that are right and agree are one -/
theorem Sp.ext_of {s t : Sp} {n n' : Nat} (hs : s.Ok n) (ht : t.Ok n') (hr : s.root = t.root) (h : ∀ l d, 1 ≤ l → l ≤ 3 → s.E l d = t.E l d) : s = t := by
  obtain ⟨r, E⟩ := s
  obtain ⟨r', E'⟩ := t
  obtain rfl : r = r' := hr
  have : E = E' := by
    funext l d
    by_cases hl : 1 ≤ l ∧ l ≤ 3
    · exact h l d hl.1 hl.2
    · have a : (E l d).v = false := by
        cases hv : (E l d).v
        · rfl
        · have := hs.lv l d hv; omega
      have b : (E' l d).v = false := by
        cases hv : (E' l d).v
        · rfl
        · have := ht.lv l d hv; omega
      exact (hs.none l d a).trans (ht.none l d b).symm
  rw [this]
theorem info_rint : (Tryz.prog.info? 3).map (fun i => (i.zero, i.size, i.bytes)) = some (some (.int .i64 0), 1, 8) := by kernel_rfl
set_option maxRecDepth 100000 in
set_option maxHeartbeats 1000000 in
theorem rpagesS_any (C MC BC N : Nat) (s : Sp) (T : List RTb) (vL vT : Value) (w : World) (h : RSpAt w C MC BC N s.pgL T vL vT) :
    Calls Tryz.prog 19 #[.pointer (some ⟨C, 0, none⟩)] w fun e w' => ∃ v, e = .returned v ∧ w'.ownsRow w.heap.size 3 1 v s.pgi.length (i64s s.pgi) ∧ Upd (fun _ => False) w w' := by
  obtain ⟨i0, hi, hz0, hz1, hz2⟩ := info_parts info_rint
  have hpl := s.pgs_le
  obtain ⟨oL, cL, rfl⟩ := rsp_slice h.pages
  have h0 : w.ownsRow w.heap.size 3 1 (.slice none 0 0) 0 (i64s (s.pgi.take 0)) := rows_new w _ _ _
  have hpi : s.pgi.length = s.pgs.length := s.pgi_len
  have hPl := s.pgL_len
  generalize hn : s.pgL.length = n at h hPl
  have HN := Lib.hid hn
  have hn4 : n ≤ 4096 := by omega
  have HP : Hid (s.pgi.length = n) := Lib.hid (by omega)
  clear hn hpl hpi hPl
  go_enter Tryz.func19, Tryz.ntmps19
  have cL0 := h.cL
  go_wp2_with fail
  go_loopw [4, 3] (fun t u wr => ∃ k : Nat, k ≤ n ∧ t = .int .i64 k ∧ Hid (wr.ownsRow w.heap.size 3 1 u k (i64s (s.pgi.take k))) ∧ Upd (fun _ => False) w wr) (fun t _ _ => n - (intOf t).toNat)
  case atStart => exact ⟨0, by omega, rfl, Lib.hid h0, Upd.refl _ _⟩
  case round =>
    obtain ⟨k, hk, rfl, hrow, hU⟩ := hrel
    clear h0 cL0
    have hA := Lib.hid (h.kept hU id (fun _ _ => id) (fun _ _ => id))
    have cL1 := hA.out.cL
    by_cases hlt : k < n
    · obtain ⟨q, hx⟩ : ∃ q, s.pgs[k]? = some q := ⟨_, List.getElem?_eq_getElem (by have := HN.out; rw [s.pgL_len] at this; omega)⟩
      obtain ⟨g, rfl, c0, -, -⟩ := pg_cells2 HN.out hA.out.pages k (pgOf s q) (by unfold Sp.pgL; rw [List.getElem?_map, hx]; rfl)
      rw [show (pgOf s q).n = ((q : Nat) : Int) from rfl] at c0
      have hs := Lib.hid (show s.pgi.take (k + 1) = s.pgi.take k ++ [((q : Nat) : Int)] from take_next (by unfold Sp.pgi; rw [List.getElem?_map, hx]; rfl))
      clear hx
      generalize ((q : Nat) : Int) = Q at c0 hs
      have hsz := hU.size
      obtain ⟨o, cap, rfl⟩ := rsp_slice hrow.out
      generalize hN : w.heap.size = NB at hrow hsz
      have HNB := Lib.hid hN
      generalize hLc : i64s (s.pgi.take k) = xs at hrow
      have HU := Lib.hid hU
      have k0 : (0 : Int) ≤ (k : Int) := by omega
      have k1 : (k : Int) < (n : Int) := by omega
      have HLc := Lib.hid hLc
      clear hU hN hLc
      go_wp2_with (at_builtin; refine wpList_append_own _ rfl _ _ 50 rfl NB 3 i0 (.int .i64 0) 1 8 Tryz.underlying50 hi hz0 hz1 hz2 rfl (by decide) _ _ _ rfl (rows_still hrow.out ((Upd.refl _ _).alloc _)) ⟨wr.heap.size, 0, none⟩ 1 1 [.int .i64 Q] rfl rfl (rows_src _ _ _) (by simp [Value.oneCell']) (by simp [maxLen]; omega) (by omega) (by simp; omega) ?_; intro v' w4 hown' hgrow _)
      have U4 := rows_grown hrow.out hgrow HU.out (Nat.le_of_eq HNB.out)
      refine ⟨⟨k + 1, by omega, by go_num, Lib.hid ?_, U4⟩, by simp [intOf]; omega⟩
      rw [hs.out, show i64s (s.pgi.take k ++ [Q]) = i64s (s.pgi.take k) ++ [.int .i64 Q] from by unfold i64s; rw [List.map_append]; rfl, HLc.out]
      exact hown'
    · obtain rfl : k = n := by omega
      go_wp2
      go_ret
      refine ⟨_, rfl, ?_, hU⟩
      have := hrow.out
      rw [List.take_of_length_le (by rw [HP.out]; omega)] at this
      rw [HP.out]
      exact this
end Go.Proofs.YtdapmcclplfpfaaGreatDoor

/-
  What Map does to words of frames that are no tables.
-/
namespace Go.Proofs.YtdapmcclplfpfaaGreatDoor

/-- behind a Map that was done, words of frames that are no tables are as they were -/
theorem SpInv.map_words {s : Sp} {m : Mem} {b : Bud} {Y : Nat × Nat → Prop} (h : SpInv s m b Y) {q f : Int} {wb : Bool} {x : Int} {m' : Mem} {b' : Bud} (hM : MapTo m b s.root q f wb x m' b') (s' : Sp) (hsr : s'.root = s.root)
    (hE : ∀ qn : Nat, q = qn → x = 0 → ∀ l d, l ≤ 2 → s'.E l d = if s.dep qn ≤ l ∧ d = nd qn l then tbE ((b.al (3 - s.dep qn)).1.getD (l - s.dep qn) 0 : Nat) else s.E l d) :
    ∀ g p : Nat, g < m.n → p < 16 → (x = 0 → ∀ l d, l ≤ 2 → s'.on l d = true → s'.fr l d ≠ (g : Nat)) → m'.word (g : Nat) (p : Nat) = m.word (g : Nat) (p : Nat) := by
  cases hM with
  | arg h1 => exact fun _ _ _ _ _ => rfl
  | twice h1 h2 => exact fun _ _ _ _ _ => rfl
  | walk h1 h2 h3 => exact fun _ _ _ _ _ => rfl
  | mem h1 h2 h3 => exact fun _ _ _ _ _ => rfl
  | yes hx h10 k hk hl n0 hN L hL =>
    have hB : m.wB s.root q = true := by
      cases hb : m.wB s.root q
      · have := (m.walk_no s.root q hb).2.1; omega
      · rfl
    have hpg : 0 ≤ q ∧ q ≤ 4095 := by
      unfold Mem.wB pageB at hB
      simp at hB
      omega
    obtain ⟨qn, rfl⟩ := Int.eq_ofNat_of_zero_le hpg.1
    have hq : qn < 4096 := by omega
    obtain ⟨w1, w2, w3, w4⟩ := Sp.walk h.i h.ok h.hn hq
    have hf : 0 ≤ f ∧ f < m.n := by unfold Mem.ex at hx; simp at hx; omega
    have hv : (s.E 3 qn).v = false := by
      cases hv : (s.E 3 qn).v
      · rfl
      · rw [w2, hv] at h10; simp at h10
    have hdb := s.dep_bd qn
    rw [w1] at hN hk
    have ha := al_ok h.bk k hl
    obtain ⟨c, hc⟩ : ∃ c, c = (b.al k).1 := ⟨_, rfl⟩
    rw [← hc] at ha hL
    have hcn : ∀ f, f ∈ c → f < m.n := fun f hf => by have := (ha.fr f hf).1; have := h.bn; omega
    have hfr : ∀ f, f ∈ c → ∀ l d, l ≤ 2 → s.on l d = true → s.fr l d ≠ (f : Nat) := fun f hf l d hl ho => h.free_fr (ha.fr f hf).2 hl ho
    have hcl : ∀ f p : Nat, f < m.n → p < 16 → (m.clears c).word (f : Nat) (p : Nat) = if f ∈ c then 0 else m.word (f : Nat) (p : Nat) := fun f p hf hp => m.clears_word h.mo c hcn f p hf hp
    have hIn : s.In (m.clears c) := by
      intro l d p hl ho hp
      have hb := h.ok.frb ho
      obtain ⟨g, hg⟩ := Int.eq_ofNat_of_zero_le hb.1
      rw [← h.i l d p hl ho hp, hg, hcl g p (by omega) hp, if_neg]
      intro hgc
      exact hfr g hgc l d hl ho hg
    have h0 : LK s (m.clears c) c qn n0 0 (m.clears c) (m.wF s.root qn n0) s := by
      refine ⟨by rw [Mem.clears_n]; exact h.ok, hIn, m.clears_ok h.mo c, m.clears_good h.mo h.hg c, rfl, rfl, rfl, s.dep_on hq _ (by omega), w4 n0 (by omega), ?_, fun _ => rfl, fun l d _ => by rw [if_neg (by omega)], ?_, ?_, fun _ _ _ _ => rfl, fun l h1 h2 => by omega, fun _ _ _ _ _ => rfl⟩
      · intro l h1 h2
        by_cases e : l = 3
        · subst e; rw [nd3]; exact hv
        · have := Sp.dep_off h.ok (q := qn) l (by omega) (by omega)
          obtain ⟨l', rfl⟩ : ∃ l', l = l' + 1 := ⟨l - 1, by omega⟩
          rwa [s.onS] at this
      · intro i _ hi p hp
        rw [hcl _ p (hcn _ (getD_mem hi)) hp, if_pos (getD_mem hi)]
      · intro l d hl
        exact ⟨.inl, fun x => x.elim id (fun y => by omega)⟩
    obtain ⟨t, ht⟩ := LK.all hq (by rw [Mem.clears_n]; exact h.hn) (by rw [Mem.clears_n]; exact hcn) ha.nd hfr h0 k (by omega) (by rw [ha.len]; exact Nat.le_refl _)
    have hLt : LK s (m.clears c) c qn n0 k L.1 L.2 t := by rw [hL]; exact ht
    clear ht h0
    have hk2 : n0 + k = 2 := by omega
    have ho2 : t.on 2 (nd qn 2) = true := by have := hLt.on; rwa [hk2] at this
    have hy2 : L.2 = t.fr 2 (nd qn 2) := by have := hLt.y; rwa [hk2] at this
    have hn' := hLt.n
    rw [Mem.clears_n] at hn'
    have hp : nd qn 3 % 16 < 16 := Nat.mod_lt _ (by decide)
    have hst := nd_step qn 2 (by omega)
    have hidx := idx_nat qn 2 hq (by omega)
    have h33 : nd qn (2 + 1) = qn := nd3 qn
    rw [h33] at hst hidx
    rw [nd3] at hp
    have heok : En.ok ⟨true, wb, false, f⟩ = true := by
      unfold En.ok rightB
      have := h.hn
      simp; omega
    have hs : L.1.slot L.2 (idxI qn 2) = true := by
      have := hLt.ok.frb ho2
      rw [show idxI (qn : Nat) 2 = ((qn % 16 : Nat) : Int) from hidx, hy2, Mem.slot_iff]
      omega
    have hpB : L.1.putB L.2 (idxI qn 2) ⟨true, wb, false, f⟩ = true := by unfold Mem.putB; rw [hs, heok]; rfl
    have hok3 := hLt.ok.page ho2 hp ⟨true, wb, false, f⟩ rfl rfl hf.1 (by rw [hn']; exact hf.2)
    have hin3 := hLt.i.set hLt.ok hLt.mo (l := 2) (by omega) ho2 hp ⟨true, wb, false, f⟩ heok (fun h2 => by omega)
    rw [hst] at hok3 hin3
    rw [← hy2, ← hidx] at hin3
    have hdk : 3 - s.dep qn = k := by omega
    intro g p hg hp' hno
    have hx0 : errB (L.1.putB L.2 (idxI (qn : Nat) 2) ⟨true, wb, false, f⟩) = 0 := by unfold errB; rw [hpB]; rfl
    have hE' := hE qn rfl hx0
    have hno' := hno hx0
    have htE : ∀ l d, l ≤ 2 → t.E l d = s'.E l d := by
      intro l d hl'
      rw [hLt.e12 l d hl', hE' l d hl', hdk, ← hc]
      by_cases hx' : s.dep qn ≤ l ∧ d = nd qn l
      · rw [if_pos hx', if_pos ⟨by omega, by omega, hx'.2⟩, show l - n0 - 1 = l - s.dep qn from by omega]
      · rw [if_neg hx', if_neg (fun y => hx' ⟨by omega, y.2.2⟩)]
    have htf : ∀ l d, l ≤ 2 → t.on l d = s'.on l d ∧ t.fr l d = s'.fr l d := by
      intro l d hl'
      cases l with
      | zero => exact ⟨rfl, by show t.root = s'.root; rw [hLt.rt, hsr]⟩
      | succ l => rw [Sp.onS, Sp.onS, Sp.frS, Sp.frS, htE _ _ hl']; exact ⟨rfl, rfl⟩
    have hne : ∀ l d, l ≤ 2 → t.on l d = true → t.fr l d ≠ (g : Nat) := by
      intro l d hl' ho
      obtain ⟨e1, e2⟩ := htf l d hl'
      rw [e2]
      exact hno' l d hl' (by rw [← e1]; exact ho)
    have hnc : g ∉ c := by
      intro hgc
      obtain ⟨i, hi, hgi⟩ := List.getElem_of_mem hgc
      have hik : i < k := by rw [← ha.len]; exact hi
      have h1 := hLt.new (n0 + 1 + i) (by omega) (by omega)
      have h2 : t.on (n0 + 1 + i) (nd qn (n0 + 1 + i)) = true := (hLt.tab _ _ (by omega)).2 (.inr ⟨by omega, by omega, rfl⟩)
      refine hne _ _ (by omega) h2 ?_
      rw [h1, show n0 + 1 + i - n0 - 1 = i from by omega, List.getD_eq_getElem?_getD, List.getElem?_eq_getElem hi, hgi]
      rfl
    rw [L.1.word_put hLt.mo _ _ _ _ _ hs (by rw [Mem.slot_iff, hn']; omega) heok, if_neg (fun e => hne 2 _ (by omega) ho2 (hy2 ▸ e.1.symm)), hLt.words g p (by rw [Mem.clears_n]; exact hg) hp' hne, hcl _ p hg hp', if_neg hnc]
end Go.Proofs.YtdapmcclplfpfaaGreatDoor

/-
  Frames that are no tables hold noughts: kept by Map, Unmap and Protect.
-/
namespace Go.Proofs.YtdapmcclplfpfaaGreatDoor
open Go.ChangeShapes Go.WideShapes Go.ChangeAt Go.RowKit Go.Shelf Go.Sort

/-- words of frames that are no tables are noughts -/
def Zs (s : Sp) (m : Mem) : Prop := ∀ g p : Nat, g < m.n → p < 16 → (∀ l d, l ≤ 2 → s.on l d = true → s.fr l d ≠ (g : Nat)) → m.word (g : Nat) (p : Nat) = 0
/-- what Unmap's steps do to words and to the given blocks -/
structure UnZ (m : Mem) (b : Bud) (t : Mem × Bud) : Prop where
  n : t.1.n = m.n
  ok : t.1.ok
  w : ∀ g p : Nat, g < m.n → p < 16 → t.1.word (g : Nat) (p : Nat) = m.word (g : Nat) (p : Nat) ∨ t.1.word (g : Nat) (p : Nat) = 0
  sub : ∀ x, x ∈ t.2.gave → x ∈ b.gave
  z : ∀ g : Nat, g < m.n → ((g, 0) : Nat × Nat) ∈ b.gave → ((g, 0) : Nat × Nat) ∉ t.2.gave → ∀ p : Nat, p < 16 → t.1.word (g : Nat) (p : Nat) = 0
theorem word_put0 (m : Mem) (hk : m.ok) (f p : Int) (g q : Nat) (hg : g < m.n) (hq : q < 16) : (m.put f p En.zero).word (g : Nat) (q : Nat) = m.word (g : Nat) (q : Nat) ∨ (m.put f p En.zero).word (g : Nat) (q : Nat) = 0 := by
  cases hs : m.slot f p
  · left
    unfold Mem.put Mem.putB
    rw [hs]
    simp
  · rw [m.word_put hk f p En.zero _ _ hs (by rw [Mem.slot_iff]; omega) rfl]
    split
    · exact .inr rfl
    · exact .inl rfl
theorem UnZ.put {m : Mem} {b : Bud} {t : Mem × Bud} (h : UnZ m b t) (f p : Int) : UnZ m b (t.1.put f p En.zero, t.2) := by
  have hw : ∀ g q : Nat, g < m.n → q < 16 → (t.1.put f p En.zero).word (g : Nat) (q : Nat) = t.1.word (g : Nat) (q : Nat) ∨ (t.1.put f p En.zero).word (g : Nat) (q : Nat) = 0 := fun g q hg hq => word_put0 t.1 h.ok f p g q (by rw [h.n]; exact hg) hq
  refine ⟨by show (t.1.put f p En.zero).n = _; rw [Mem.put_n, h.n], Mem.put_ok _ h.ok _ _ _, fun g q hg hq => ?_, h.sub, fun g hg h1 h2 q hq => ?_⟩
  · rcases hw g q hg hq with e | e
    · rcases h.w g q hg hq with e2 | e2
      · exact .inl (e.trans e2)
      · exact .inr (e.trans e2)
    · exact .inr e
  · rcases hw g q hg hq with e | e
    · exact e.trans (h.z g hg h1 h2 q hq)
    · exact e
theorem UnZ.free {m : Mem} {b : Bud} {t : Mem × Bud} (h : UnZ m b t) (f : Int) : UnZ m b (unFree f t) := by
  unfold unFree
  split
  · rename_i hc
    have hw : ∀ g q : Nat, g < m.n → q < 16 → (t.1.scrub f 1).word (g : Nat) (q : Nat) = t.1.word (g : Nat) (q : Nat) ∨ (t.1.scrub f 1).word (g : Nat) (q : Nat) = 0 := by
      intro g q hg hq
      cases he : t.1.ex f 1
      · left; unfold Mem.scrub; rw [he]; rfl
      · rw [Mem.word_scrub _ h.ok _ _ _ he (by rw [Mem.slot_iff, h.n]; omega)]
        split
        · exact .inr rfl
        · exact .inl rfl
    refine ⟨by show (t.1.scrub f 1).n = _; rw [Mem.scrub_n, h.n], Mem.ok_scrub _ h.ok _ _, fun g q hg hq => ?_, fun x hx => h.sub x (List.mem_of_mem_erase hx), fun g hg h1 h2 q hq => ?_⟩
    · rcases hw g q hg hq with e | e
      · rcases h.w g q hg hq with e2 | e2
        · exact .inl (e.trans e2)
        · exact .inr (e.trans e2)
      · exact .inr e
    · by_cases e : g = f.toNat
      · have he : t.1.ex f 1 = true := decide_eq_true (by have := h.n; omega)
        rw [Mem.word_scrub _ h.ok _ _ _ he (by rw [Mem.slot_iff, h.n]; omega), if_pos (by omega)]
      · have h3 : ((g, 0) : Nat × Nat) ∉ t.2.gave := fun hm => h2 ((List.mem_erase_of_ne (fun c => e (Prod.mk.inj c).1)).2 hm)
        rcases hw g q hg hq with e2 | e2
        · exact e2.trans (h.z g hg h1 h3 q hq)
        · exact e2
  · exact h
theorem unFold_z (root : Int) (F P : Nat → Int) {m : Mem} (b : Bud) (hk : m.ok) : ∀ l : List Nat, UnZ m b (unFold root F P (m, b) l).1 := by
  intro l
  induction l using snoc_induction with
  | h0 => exact ⟨rfl, hk, fun _ _ _ _ => .inl rfl, fun _ h => h, fun _ _ h1 h2 => absurd h1 h2⟩
  | h1 l k ih =>
    rw [unFold_snoc]
    show UnZ m b (unStep root F P (unFold root F P (m, b) l).1 k)
    unfold unStep
    split
    · exact ih.put _ _
    · exact (ih.put _ _).free _
theorem Zs.unmap {s s' : Sp} {m m' : Mem} {b b' : Bud} (h : SpInv s m b (fun _ => False)) (h' : SpInv s' m' b' (fun _ => False)) (z : Zs s m) (u : UnZ m b (m', b')) : Zs s' m' := by
  intro g p hg hp hno
  have hg' : g < m.n := by rw [← u.n]; exact hg
  by_cases ht : ∃ l d, l ≤ 2 ∧ s.on l d = true ∧ s.fr l d = (g : Nat)
  · obtain ⟨l, d, hl, ho, hf⟩ := ht
    have h1 := h.has hl ho
    rw [hf, Int.toNat_natCast] at h1
    refine u.z g hg' h1 (fun hm => ?_) p hp
    rcases (h'.gv _).1 hm with ⟨l2, d2, hl2, ho2, e⟩ | hy
    · have := h'.ok.frb ho2
      exact hno l2 d2 hl2 ho2 (by have := (Prod.mk.inj e).1; omega)
    · exact hy
  · have hz := z g p hg' hp (fun l d hl ho e => ht ⟨l, d, hl, ho, e⟩)
    rcases u.w g p hg' hp with e | e
    · exact e.trans hz
    · exact e
end Go.Proofs.YtdapmcclplfpfaaGreatDoor

/-
  Map and Unmap over whole spaces, with noughts in all frames that are no tables.
-/
namespace Go.Proofs.YtdapmcclplfpfaaGreatDoor
open Go.ChangeShapes Go.WideShapes Go.ChangeAt Go.RowKit Go.Shelf Go.Sort

/-- nobody else -/
abbrev Yn : Nat × Nat → Prop := fun _ => False
theorem spc_map_z {w : World} {S MA A GB MB : Nat} {s : Sp} {m : Mem} {b : Bud} (h : Spc w S MA A GB MB s m b Yn) (z : Zs s m) (q f : Int) (wb : Bool) (hf : (Lit.int .i64 f).wf = true) :
    Calls Tryz.prog 9 #[.pointer (some ⟨S, 0, none⟩), .int .i64 q, .int .i64 f, .bool wb] w fun e w' =>
      ∃ x s' m' b', e = .returned (.int .i64 x) ∧ Spc w' S MA A GB MB s' m' b' Yn ∧ Upd (fun k => k = GB ∨ k = MB) w w' ∧ MapR s m b Yn q f wb x s' m' b' ∧ Zs s' m' := by
  refine (smap_any S MA A GB s.root m b q f wb w h.S h.D h.T h.I.hg hf).mono ?_
  rintro e w' ⟨x, m', b', rfl, hM, d, u⟩
  rw [h.B] at u
  have hx := h.I.mapX hM
  rcases h.I.map hM with ⟨h0, rfl, rfl, _⟩ | ⟨h0, qn, hq, hq', hf', hv, hl, hb, hn, hB, hw, s', hI, hr, hE, hE12⟩
  · exact ⟨x, s, m', b', rfl, ⟨h.S.kept u h.own, d, h.T.keptS u h.tab, h.I, h.B⟩, u, ⟨hx, rfl, rfl, SameW.refl _ _, .inl ⟨h0, rfl, rfl, rfl⟩, fun e => absurd e h0⟩, z⟩
  · have hE2 : ∀ q2 : Nat, q = q2 → ∀ l d, l ≤ 2 → s'.E l d = if s.dep q2 ≤ l ∧ d = nd q2 l then tbE ((b.al (3 - s.dep q2)).1.getD (l - s.dep q2) 0 : Nat) else s.E l d := fun q2 e2 => by
      have e3 : qn = q2 := by omega
      rw [← e3]
      exact hE12
    refine ⟨x, s', m', b', rfl, ⟨by rw [hr]; exact h.S.kept u h.own, d, h.T.keptS u h.tab, hI, by rw [hB]; exact h.B⟩, u, ⟨hx, hn, by rw [hb]; exact (al_ok h.I.bk _ hl).res, hw, .inr ⟨h0, qn, hq, hq', hf', hv, hl, hb, hr, hE⟩, fun _ => hE2⟩, ?_⟩
    intro g p hg hp hno
    rw [hn] at hg
    rw [h.I.map_words hM s' hr (fun q2 e2 _ => hE2 q2 e2) g p hg hp (fun _ => hno)]
    refine z g p hg hp fun l dd hl2 ho => ?_
    cases l with
    | zero =>
      have := hno 0 dd (by omega) (by rw [← ho]; rfl)
      rw [s.fr0]
      rwa [s'.fr0, hr] at this
    | succ l =>
      have hoS := ho
      rw [s.onS] at hoS
      have hEq : s'.E (l + 1) dd = s.E (l + 1) dd := by
        rw [hE12 _ _ hl2, if_neg]
        rintro ⟨c1, rfl⟩
        have := Sp.dep_off h.I.ok (q := qn) (l + 1) c1 hl2
        rw [this] at ho
        cases ho
      have := hno (l + 1) dd hl2 (by rw [s'.onS, hEq]; exact hoS)
      rw [s.frS]
      rwa [s'.frS, hEq] at this
theorem spc_unmap_z {w : World} {S MA A GB MB : Nat} {s : Sp} {m : Mem} {b : Bud} (h : Spc w S MA A GB MB s m b Yn) (z : Zs s m) (q : Int) :
    Calls Tryz.prog 11 #[.pointer (some ⟨S, 0, none⟩), .int .i64 q] w fun e w' =>
      ∃ f x s' m' b', e = .returned (.tuple #[.int .i64 f, .int .i64 x]) ∧ Spc w' S MA A GB MB s' m' b' Yn ∧ Upd (fun k => k = GB ∨ k = MB) w w' ∧ UnR s m b Yn q f x s' m' b' ∧ Zs s' m' := by
  refine (sunmap_any S MA A GB s.root m b q w h.S h.D h.T h.I.hg (frame_wf h.I.hn ⟨h.I.ok.rlo, h.I.ok.rhi⟩)).mono ?_
  have hx := h.I.wX q
  rintro e w' (⟨h0, rfl, u⟩ | ⟨h0, pre, hp, hend, hgo, rfl, d, u⟩)
  · exact ⟨0, _, s, m, b, rfl, h.still u, u.none, ⟨hx, rfl, rfl, SameW.refl _ _, .inl ⟨h0, rfl, rfl, rfl, rfl⟩, fun _ _ _ => .inl rfl⟩, z⟩
  · rw [h.B] at u
    have hz := unFold_z s.root (m.wF s.root q) (fun k => idxI q k) b h.I.mo pre
    obtain ⟨qn, hq, hq', hv, hE, hn, hB, hbn, hres, hw, s', hI, hr, hE', hE12⟩ := h.I.unmap h0 hp hend hgo rfl
    exact ⟨_, 0, s', _, _, rfl, ⟨by rw [hr]; exact h.S.kept u h.own, d, h.T.keptS u h.tab, hI, by rw [hB]; exact h.B⟩, u, ⟨h0.symm.trans hx, hn, hres, hw, .inr ⟨rfl, qn, hq, hq', hv, by rw [hE], hr, hE'⟩, hE12⟩, Zs.unmap h.I hI z hz⟩
end Go.Proofs.YtdapmcclplfpfaaGreatDoor

/-
  Protect over whole spaces, with noughts in all frames that are no tables.
-/
namespace Go.Proofs.YtdapmcclplfpfaaGreatDoor
open Go.ChangeShapes Go.WideShapes Go.ChangeAt Go.RowKit Go.Shelf Go.Sort

theorem SpInv.protect_z {s : Sp} {m : Mem} {b : Bud} {Y : Nat × Nat → Prop} (h : SpInv s m b Y) {q : Int} (hx : m.wX s.root q = 0) (wb : Bool) :
    ∃ qn : Nat, q = qn ∧ qn < 4096 ∧ (s.E 3 qn).v = true ∧ m.putB (m.wF s.root q 2) (idxI q 2) { m.wE s.root q with r := wb } = true ∧ SameW Y m (m.put (m.wF s.root q 2) (idxI q 2) { m.wE s.root q with r := wb }) ∧
      ∃ s', SpInv s' (m.put (m.wF s.root q 2) (idxI q 2) { m.wE s.root q with r := wb }) b Y ∧ s'.root = s.root ∧ (∀ q', s'.E 3 q' = if q' = qn then { s.E 3 qn with r := wb } else s.E 3 q') ∧ (∀ l d, l ≤ 2 → s'.E l d = s.E l d) ∧
        (∀ g p : Nat, g < m.n → p < 16 → (∀ l d, l ≤ 2 → s.on l d = true → s.fr l d ≠ (g : Nat)) → (m.put (m.wF s.root q 2) (idxI q 2) { m.wE s.root q with r := wb }).word (g : Nat) (p : Nat) = m.word (g : Nat) (p : Nat)) := by
  obtain ⟨qn, rfl, hq, hv, hE, hF, hon⟩ := h.found hx
  rw [hE, hF 2 (by omega)]
  have ho2 := hon 2 (by omega)
  have hidx := idx_nat qn 2 hq (by omega)
  rw [show nd qn (2 + 1) = qn from nd3 qn] at hidx
  rw [show idxI (qn : Nat) 2 = ((qn % 16 : Nat) : Int) from hidx]
  have hst := nd_step qn 2 (by omega)
  rw [show nd qn (2 + 1) = qn from nd3 qn] at hst
  have hp : qn % 16 < 16 := Nat.mod_lt _ (by decide)
  have hf := h.ok.f _ _ hv
  have heok : En.ok { s.E 3 qn with r := wb } = true := by
    unfold En.ok rightB
    have h1 := h.hn
    have h2 := h.ok.pg _ hv
    simp [hv, h2]; omega
  have hs : m.slot (s.fr 2 (nd qn 2)) ((qn % 16 : Nat) : Int) = true := by rw [Mem.slot_iff]; have := h.ok.frb ho2; omega
  have hok := h.ok.page ho2 hp { s.E 3 qn with r := wb } hv (h.ok.pg _ hv) hf.1 hf.2
  have hin := h.i.set h.ok h.mo (l := 2) (by omega) ho2 hp { s.E 3 qn with r := wb } heok (fun h2 => by omega)
  rw [hst] at hok hin
  have hE3 : ∀ q', (s.set 3 qn { s.E 3 qn with r := wb }).E 3 q' = if q' = qn then { s.E 3 qn with r := wb } else s.E 3 q' := by
    intro q'
    by_cases e : q' = qn
    · rw [if_pos e, e, Sp.set_same]
    · rw [if_neg e, s.set_ne _ (by omega)]
  have honn : ∀ l d, l ≤ 2 → (s.set 3 qn { s.E 3 qn with r := wb }).on l d = s.on l d := fun l d hl => s.set_on _ (by omega)
  have hfrn : ∀ l d, l ≤ 2 → (s.set 3 qn { s.E 3 qn with r := wb }).fr l d = s.fr l d := fun l d hl => s.set_fr _ (by omega)
  refine ⟨qn, rfl, hq, hv, by unfold Mem.putB; rw [hs, heok]; rfl, SameW.put h.ok h.mo (fun x hx => h.ylt hx) (fun x hx l d => h.y_fr hx) (by omega) ho2 hp _ heok, s.set 3 qn { s.E 3 qn with r := wb }, ⟨by rw [Mem.put_n]; exact hok, hin, ?_, Mem.put_ok _ h.mo _ _ _, Mem.put_good _ h.mo h.hg _ _ _, h.bk, by rw [Mem.put_n]; exact h.bn, h.y0, ?_, ?_⟩, rfl, hE3, fun l d hl => s.set_ne _ (by omega), fun g p hg hp' hno => by rw [m.word_put h.mo _ _ _ _ _ hs (by rw [Mem.slot_iff]; omega) heok, if_neg (fun c => hno 2 _ (by omega) ho2 c.1.symm)]⟩
  · intro l d h1 h2 ho
    rw [honn l d h2] at ho
    obtain ⟨p, hp', hc⟩ := h.nee l d h1 h2 ho
    refine ⟨p, hp', ?_⟩
    by_cases e : l = 2
    · subst e
      rw [hE3]
      split
      · exact hv
      · exact hc
    · rw [s.set_ne _ (by omega)]; exact hc
  · intro x
    rw [h.gv]
    constructor
    · rintro (⟨l, d, hl, ho, rfl⟩ | hy)
      · exact .inl ⟨l, d, hl, by rw [honn l d hl]; exact ho, by rw [hfrn l d hl]⟩
      · exact .inr hy
    · rintro (⟨l, d, hl, ho, rfl⟩ | hy)
      · exact .inl ⟨l, d, hl, by rw [← honn l d hl]; exact ho, by rw [hfrn l d hl]⟩
      · exact .inr hy
  · intro l d hl ho
    rw [honn l d hl] at ho
    rw [hfrn l d hl]
    exact h.ap l d hl ho
theorem spc_protect_z {w : World} {S MA A GB MB : Nat} {s : Sp} {m : Mem} {b : Bud} (h : Spc w S MA A GB MB s m b Yn) (z : Zs s m) (q : Int) (wb : Bool) :
    Calls Tryz.prog 13 #[.pointer (some ⟨S, 0, none⟩), .int .i64 q, .bool wb] w fun e w' =>
      ∃ x s' m', e = .returned (.int .i64 x) ∧ Spc w' S MA A GB MB s' m' b Yn ∧ Upd (fun k => k = GB ∨ k = MB) w w' ∧ PrR s m Yn q wb x s' m' ∧ (∀ l d, l ≤ 2 → s'.E l d = s.E l d) ∧ Zs s' m' := by
  refine (sprotect_any S MA A s.root m q wb w h.S h.D.M h.T h.I.hg).mono ?_
  have hx := h.I.wX q
  rintro e w' (⟨h0, rfl, u⟩ | ⟨h0, rfl, hm, u⟩)
  · exact ⟨_, s, m, rfl, h.still u, u.none, ⟨hx, rfl, SameW.refl _ _, .inl ⟨h0, rfl, rfl⟩⟩, fun _ _ _ => rfl, z⟩
  · obtain ⟨qn, hq, hq', hv, hpB, hw, s', hI, hr, hE, hE12, hww⟩ := h.I.protect_z h0 wb
    have d := h.D.cleared hm u (Mem.put_n _ _ _ _)
    have u' : Upd (fun k => k = GB ∨ k = MB) w w' := u.mono (fun _ _ e => .inr (e.trans h.B))
    have hof : ∀ l d, l ≤ 2 → s'.on l d = s.on l d ∧ s'.fr l d = s.fr l d := by
      intro l d hl
      cases l with
      | zero => exact ⟨rfl, hr⟩
      | succ l => rw [Sp.onS, Sp.onS, Sp.frS, Sp.frS, hE12 _ _ hl]; exact ⟨rfl, rfl⟩
    refine ⟨0, s', _, by rw [hpB]; rfl, ⟨by rw [hr]; exact h.S.kept u' h.own, d, h.T.keptS u' h.tab, hI, by rw [Mem.put_B]; exact h.B⟩, u', ⟨h0.symm.trans hx, Mem.put_n _ _ _ _, hw, .inr ⟨rfl, qn, hq, hq', hv, hr, hE⟩⟩, hE12, ?_⟩
    intro g p hg hp hno
    rw [Mem.put_n] at hg
    have hno' : ∀ l d, l ≤ 2 → s.on l d = true → s.fr l d ≠ (g : Nat) := fun l d hl ho => by
      obtain ⟨e1, e2⟩ := hof l d hl
      rw [← e2]
      exact hno l d hl (by rw [e1]; exact ho)
    rw [hww g p hg hp hno']
    exact z g p hg hp hno'
/-- two memories of one space, with noughts elsewhere, have the same words -/
theorem same_words {s : Sp} {m m' : Mem} (hi : s.In m) (hi' : s.In m') (z : Zs s m) (z' : Zs s m') (hn : m'.n = m.n) (hk : m.ok) (hk' : m'.ok) : m'.ws = m.ws := by
  have hl : m'.ws.length = m.ws.length := by have h1 : m.ws.length = 16 * m.n := hk; have h2 : m'.ws.length = 16 * m'.n := hk'; omega
  apply List.ext_getElem hl
  intro i h1 h2
  have hm : m.ws.length = 16 * m.n := hk
  have hg : i / 16 < m.n := by omega
  have hp : i % 16 < 16 := Nat.mod_lt _ (by decide)
  have key : m'.word ((i / 16 : Nat) : Int) ((i % 16 : Nat) : Int) = m.word ((i / 16 : Nat) : Int) ((i % 16 : Nat) : Int) := by
    by_cases ht : ∃ l d, l ≤ 2 ∧ s.on l d = true ∧ s.fr l d = ((i / 16 : Nat) : Int)
    · obtain ⟨l, d, hl, ho, hf⟩ := ht
      rw [← hf, hi' l d _ hl ho hp, hi l d _ hl ho hp]
    · have hno : ∀ l d, l ≤ 2 → s.on l d = true → s.fr l d ≠ ((i / 16 : Nat) : Int) := fun l d hl ho e => ht ⟨l, d, hl, ho, e⟩
      rw [z' _ _ (by omega) hp hno, z _ _ hg hp hno]
  rw [Mem.word_nat, Mem.word_nat, show 16 * (i / 16) + i % 16 = i from by omega] at key
  unfold Mem.at at key
  rw [List.getD_eq_getElem?_getD, List.getD_eq_getElem?_getD, List.getElem?_eq_getElem h1, List.getElem?_eq_getElem h2] at key
  exact key
end Go.Proofs.YtdapmcclplfpfaaGreatDoor

/-
  The document's own spaces: New.
-/
namespace Go.Proofs.YtdapmcclplfpfaaGreatDoor
open Go.ChangeShapes Go.WideShapes Go.ChangeAt Go.RowKit Go.Shelf Go.Sort

set_option maxRecDepth 100000 in
set_option maxHeartbeats 2000000 in
theorem rnewS_any (MC BC FB : Nat) (g : Value) (b : Bud) (w : World) (h : RBud w BC MC FB g b) :
    Calls Tryz.prog 8 #[.pointer (some ⟨MC, 0, none⟩), .pointer (some ⟨BC, 0, none⟩)] w fun e w' =>
      (b.sel 0 = none ∧ e = .returned (.tuple #[.pointer none, .int .i64 6]) ∧ Below w.heap.size w w') ∨
      (∃ x g' C vT, b.sel 0 = some x ∧ e = .returned (.tuple #[.pointer (some ⟨C, 0, none⟩), .int .i64 0]) ∧ RBud w' BC MC FB g' (b.give (x.1, 0)) ∧ RSpAt w' C MC BC 0 [] [⟨0, 0, (x.1 : Int)⟩] (.slice none 0 0) vT ∧ w.heap.size ≤ C ∧
        (∀ k, g'.ownBlock = some k → w.heap.size ≤ k) ∧ (∀ k, vT.ownBlock = some k → w.heap.size ≤ k) ∧ Upd (fun k => k = BC ∨ k = FB) w w') := by
  go_enter Tryz.func8, Tryz.ntmps8
  go_wp2_with fail
  refine (rAlloc_any BC MC FB g b 0 _ h (by omega)).mono ?_
  rintro e w1 (⟨hs, rfl, bl⟩ | ⟨x, g', hs, rfl, hr, u, hg'⟩)
  · go_wp2
    go_ret2
    exact .inl ⟨hs, rfl, bl⟩
  · have u2 := ((Upd.refl (fun _ => False) w1).alloc (.cells #[.int .i64 0, .int .i64 0, .int .i64 (x.1 : Int)] 71)).alloc (.cells #[.pointer (some ⟨MC, 0, none⟩), .pointer (some ⟨BC, 0, none⟩), .slice none 0 0, .slice (some ⟨w1.heap.size, 0, none⟩) 1 1] 75)
    have u1 := (Upd.refl (fun _ => False) w1).alloc (.cells #[.int .i64 0, .int .i64 0, .int .i64 (x.1 : Int)] 71)
    have hsz := u.size
    go_wp2
    go_ret2
    refine .inr ⟨x, g', w1.heap.size + 1, .slice (some ⟨w1.heap.size, 0, none⟩) 1 1, hs, rfl, ?_, ⟨?_, ?_, ?_⟩, by omega, hg', ?_, ?_⟩
    · exact ⟨u2.at hr.head id, u2.at hr.fr id, row_kept hr.gv u2 (fun _ _ => id), hr.ok⟩
    · have := heap_alloc_last (w1.alloc (.cells #[.int .i64 0, .int .i64 0, .int .i64 (x.1 : Int)] 71)) (.cells #[.pointer (some ⟨MC, 0, none⟩), .pointer (some ⟨BC, 0, none⟩), .slice none 0 0, .slice (some ⟨w1.heap.size, 0, none⟩) 1 1] 75)
      rwa [World.size_alloc] at this
    · exact ⟨by simp [pgC], .inl ⟨rfl, rfl⟩⟩
    · refine row_kept (S := fun _ => False) (w := w1.alloc (.cells #[.int .i64 0, .int .i64 0, .int .i64 (x.1 : Int)] 71)) ⟨by simp [tbC, RTb.c], .inr ⟨w1.heap.size, 1, #[.int .i64 0, .int .i64 0, .int .i64 (x.1 : Int)], rfl, Nat.zero_le _, heap_alloc_last _ _, by simp, by simp [maxLen], rfl, by simp [tbC, RTb.c]⟩⟩ ((Upd.refl _ _).alloc _) (fun _ _ => id)
    · intro k hk
      simp [Value.ownBlock] at hk
      omega
    · exact u.trans u2.none'
end Go.Proofs.YtdapmcclplfpfaaGreatDoor

/-
  The document's own spaces: Protect.
-/
namespace Go.Proofs.YtdapmcclplfpfaaGreatDoor
open Go.ChangeShapes Go.WideShapes Go.ChangeAt Go.RowKit Go.Shelf Go.Sort

/-- one cell of a row of the call's own is stored -/
theorem rows_store {w : World} {base sz k cap g : Nat} {e : TypeId} {xs : List Value} (h : w.ownsRow base e sz (.slice (some ⟨g, 0, none⟩) k cap) k xs) (i : Nat) (v : Value) (_hi : i < xs.length) :
    (w.setCell ⟨g, i, none⟩ v).ownsRow base e sz (.slice (some ⟨g, 0, none⟩) k cap) k (xs.set i v) := by
  rcases h with ⟨hl, ⟨h1, _⟩ | ⟨g', cap', cur, h1, hb, hg, hc, hm, hs, ht⟩⟩
  · cases h1
  · simp only [Value.slice.injEq] at h1
    obtain ⟨e1, _, rfl⟩ := h1
    obtain rfl : g = g' := by simpa using e1
    refine ⟨by rw [List.length_set]; exact hl, .inr ⟨g, cap, (cur.toList.set i v).toArray, rfl, hb, ?_, hc, hm, by simp [hs], ?_⟩⟩
    · exact heap_setCell_same (C := cur.toList) (by simpa using hg) i v
    · show (cur.toList.set i v).take (k * sz) = xs.set i v
      rw [List.take_set, ht]
/-- a page's right to write, set -/
def Sp.prot (s : Sp) (j : Nat) (wb : Bool) : Sp := s.set 3 j { s.E 3 j with r := wb }
theorem Sp.prot_E3 (s : Sp) (j : Nat) (wb : Bool) (q : Nat) : (s.prot j wb).E 3 q = if q = j then { s.E 3 j with r := wb } else s.E 3 q := by
  unfold Sp.prot
  by_cases e : q = j
  · rw [if_pos e, e, Sp.set_same]
  · rw [if_neg e, s.set_ne _ (by omega)]
theorem Sp.prot_E (s : Sp) (j : Nat) (wb : Bool) (l d : Nat) (h : l ≤ 2) : (s.prot j wb).E l d = s.E l d := s.set_ne _ (by omega)
theorem Sp.prot_pgs (s : Sp) (j : Nat) (wb : Bool) : (s.prot j wb).pgs = s.pgs := by
  unfold Sp.pgs
  first
    | (refine List.filter_congr fun d _ => ?_
       rw [s.prot_E3]
       split
       · rename_i e; rw [e]
       · rfl)
    | (unfold Sp.lev
       refine List.filter_congr fun d _ => ?_
       rw [s.prot_E3]
       split
       · rename_i e; rw [e]
       · rfl)
theorem Sp.prot_on (s : Sp) (j : Nat) (wb : Bool) {l d : Nat} (h : l ≤ 2) : (s.prot j wb).on l d = s.on l d ∧ (s.prot j wb).fr l d = s.fr l d := by
  cases l with
  | zero => exact ⟨rfl, rfl⟩
  | succ l => rw [Sp.onS, Sp.onS, Sp.frS, Sp.frS, s.prot_E _ _ _ _ h]; exact ⟨rfl, rfl⟩
theorem Nodes.prot {s : Sp} {Nd : List (Nat × Nat)} (h : Nodes s Nd) (j : Nat) (wb : Bool) : Nodes (s.prot j wb) Nd :=
  ⟨h.nd, fun x => by
    rw [h.mem]
    constructor
    · rintro ⟨a, b⟩; exact ⟨a, by rw [(s.prot_on j wb a).1]; exact b⟩
    · rintro ⟨a, b⟩; exact ⟨a, by rw [← (s.prot_on j wb a).1]; exact b⟩⟩
theorem Nodes.prot_tb {s : Sp} {Nd : List (Nat × Nat)} (h : Nodes s Nd) (j : Nat) (wb : Bool) : Nd.map (tbOf (s.prot j wb)) = Nd.map (tbOf s) :=
  List.map_congr_left fun x hx => by
    unfold tbOf
    rw [(s.prot_on j wb ((h.mem x).1 hx).1).2]
theorem Sp.prot_pgL (s : Sp) {j i : Nat} (wb : Bool) (hi : s.pgs[i]? = some j) : (s.prot j wb).pgL = s.pgL.set i ⟨j, (s.E 3 j).f, wb⟩ := by
  unfold Sp.pgL
  rw [s.prot_pgs]
  apply List.ext_getElem?
  intro k
  rw [List.getElem?_set, List.getElem?_map, List.getElem?_map, List.length_map]
  by_cases e : i = k
  · subst e
    have hlt : i < s.pgs.length := (List.getElem?_eq_some_iff.1 hi).1
    rw [if_pos rfl, if_pos hlt, hi]
    simp [pgOf, s.prot_E3]
  · rw [if_neg e]
    cases hk : s.pgs[k]? with
    | none => rfl
    | some q =>
      have hne : q ≠ j := by
        rintro rfl
        have h1 := (List.getElem?_eq_some_iff.1 hi)
        have h2 := (List.getElem?_eq_some_iff.1 hk)
        obtain ⟨l1, e1⟩ := h1
        obtain ⟨l2, e2⟩ := h2
        rcases Nat.lt_or_gt_of_ne e with c | c
        · have := List.pairwise_iff_getElem.1 s.pgs_rises i k l1 l2 c; omega
        · have := List.pairwise_iff_getElem.1 s.pgs_rises k i l2 l1 c; omega
      simp [pgOf, s.prot_E3, hne]
theorem pgC_set (L : List RPg) (i : Nat) (x : RPg) (hi : L[i]? = some x) (wb : Bool) : (pgC L).set (i * 3 + 2) (.bool wb) = pgC (L.set i ⟨x.n, x.f, wb⟩) := by
  induction L generalizing i with
  | nil => simp at hi
  | cons y L ih =>
    cases i with
    | zero =>
      obtain rfl : y = x := by simpa using hi
      rfl
    | succ i =>
      have hi' : L[i]? = some x := by simpa using hi
      have := ih i hi'
      show (y.c ++ pgC L).set _ _ = y.c ++ pgC (L.set i _)
      rw [← this, List.set_append_right _ _ (by rw [RPg.c_len]; omega), RPg.c_len, show (i + 1) * 3 + 2 - 3 = i * 3 + 2 from by omega]
end Go.Proofs.YtdapmcclplfpfaaGreatDoor

/-
  The document's own spaces: Protect.
-/
namespace Go.Proofs.YtdapmcclplfpfaaGreatDoor
open Go.ChangeShapes Go.WideShapes Go.ChangeAt Go.RowKit Go.Shelf Go.Sort

theorem info_rpage : (Tryz.prog.info? 92).map (fun i => (i.zero, i.size, i.bytes)) = some (some (.agg #[.int .i64 0, .int .i64 0, .bool false]), 3, 24) := by kernel_rfl
theorem pgC_one (L : List RPg) : ∀ u ∈ pgC L, u.oneCell' = true := by
  intro u hu
  obtain ⟨x, _, hx⟩ := List.mem_flatMap.1 hu
  simp only [RPg.c, List.mem_cons, List.not_mem_nil, or_false] at hx
  rcases hx with rfl | rfl | rfl <;> rfl
theorem rows_frozen {w : World} {base sz k cap g : Nat} {e : TypeId} {xs : List Value} (h : w.ownsRow base e sz (.slice (some ⟨g, 0, none⟩) k cap) k xs) (i : Nat) : w.frozen? ⟨g, i, none⟩ = false := by
  rcases h.2 with ⟨h1, _⟩ | ⟨g', cap', cur, h1, hb, hg, _⟩
  · cases h1
  · simp only [Value.slice.injEq] at h1
    obtain ⟨e1, _, rfl⟩ := h1
    obtain rfl : g = g' := by simpa using e1
    exact frozen_block hg i
theorem pgC_len (L : List RPg) : (pgC L).length = L.length * 3 := flat3_len RPg.c RPg.c_len L
set_option maxRecDepth 100000 in
set_option maxHeartbeats 4000000 in
theorem rprotS_yes (C MC BC : Nat) (s : Sp) (Nd : List (Nat × Nat)) (vL vT : Value) (m : Mem) (_hs : s.Ok m.n) (hs' : ∀ j wb, (s.E 3 j).v = true → (s.prot j wb).Ok m.n) (hN : Nodes s Nd) (hk : m.ok) (hg : m.good) (w : World) (h : LayAt w C MC BC 0 s Nd vL vT m)
    (j i : Nat) (hj : j < 4096) (hv : (s.E 3 j).v = true) (hi : s.pgs[i]? = some j) (hix : ixN (pgIx s.pgL j) s.pgL.length = i) (wb : Bool) :
    Calls Tryz.prog 14 #[.pointer (some ⟨C, 0, none⟩), .int .i64 j, .bool wb] w fun e w' => e = .returned (.int .i64 0) ∧ ∃ vL', LayAt w' C MC BC 0 (s.prot j wb) Nd vL' vT (layM (s.prot j wb) Nd m) ∧ Upd (fun k => k = C ∨ k = m.B) w w' ∧ ∀ k, vL'.ownBlock = some k → w.heap.size ≤ k := by
  obtain ⟨i0, hi0, hz0, hz1, hz2⟩ := info_parts info_rpage
  have hpl := s.pgs_le
  obtain ⟨oL, cL, rfl⟩ := rsp_slice h.a.pages
  have cA := Lib.hid (rpat_any C MC BC 0 s.pgL (Nd.map (tbOf s)) (.slice oL s.pgL.length cL) vT j w h.a (by rw [s.pgL_len]; omega))
  rw [hix] at cA
  have hill : i < s.pgL.length := by rw [s.pgL_len]; exact (List.getElem?_eq_some_iff.1 hi).1
  have hLi : s.pgL[i]? = some (pgOf s j) := by unfold Sp.pgL; rw [List.getElem?_map, hi]; rfl
  have hset := Lib.hid (s.prot_pgL wb hi)
  have hnL : s.pgL.length ≤ 4096 := by rw [s.pgL_len]; exact hpl
  have hCB := (h.a.neB h.r).1
  have cLc := h.a.cL
  have H := Lib.hid h
  go_enter Tryz.func14, Tryz.ntmps14
  go_wp2_with fail
  refine cA.out.mono ?_
  rintro e w1 ⟨rfl, rfl⟩
  have cLc2 := ((Upd.refl (fun _ => False) w).alloc (.cells #[] 92)).cell cLc id
  go_upto_region 7 with (at_builtin; refine wpList_append_src _ rfl (.tmp 20) (.tmp 24) 73 rfl w.heap.size 92 i0 (.agg #[.int .i64 0, .int .i64 0, .bool false]) 3 24 Tryz.underlying73 hi0 hz0 hz1 hz2 rfl (by decide) (.slice (some ⟨w.heap.size, 0, none⟩) 0 0) 0 [] rfl (World.ownsRow_made w #[] 0 (Nat.le_refl _) (by decide) rfl) (.slice oL s.pgL.length cL) s.pgL.length (pgC s.pgL) rfl (Src.of_row (rows_still (row_base H.out.a.pages (Nat.zero_le _)) ((Upd.refl _ _).alloc _))) (pgC_one _) (by simp [maxLen]; omega) (by omega) (by simp) ?_; intro v4 w4 own4 grow4; rw [Nat.zero_add, List.nil_append] at own4; obtain ⟨o4, cap4, rfl⟩ := rsp_slice own4)
  have U4 : Upd (fun _ => False) w w4 := ⟨grow4.os, grow4.tape, grow4.output, by have := grow4.size; simp at this; omega, fun k hk _ => by rw [grow4.block k (by simp; omega) (by simp [Value.ownBlock]; omega), Below.heap_alloc _ _ _ hk]⟩
  obtain ⟨g4, rfl, -, -, d2⟩ := pg_cells2 rfl own4 i (pgOf s j) hLi
  have hg4 := (own4.lt g4 rfl).1
  have z2 := rows_frozen own4 (i * 3 + 2)
  have st4 := Lib.hid (rows_store own4 (i * 3 + 2) (.bool wb) (by rw [pgC_len]; omega))
  rw [pgC_set _ _ _ hLi] at st4
  have hCl := lt_of_heap h.a.head
  have e2 : (w4.setCell ⟨g4, i * 3 + 2, none⟩ (.bool wb)).cell? ⟨C, 2, none⟩ = some (.slice oL s.pgL.length cL) := (U4.none'.setCell (S := (· = g4)) (.inl rfl) _).cell cLc (by show ¬ C = g4; omega)
  have zC : (w4.setCell ⟨g4, i * 3 + 2, none⟩ (.bool wb)).frozen? ⟨C, 2, none⟩ = false := frozen_block ((U4.none'.setCell (S := (· = g4)) (p := ⟨g4, i * 3 + 2, none⟩) (.inl rfl) (.bool wb)).at h.a.head (by show ¬ C = g4; omega)) 2
  have hw : (pgOf s j).w = (s.E 3 j).r := rfl
  have i0' : (0 : Int) ≤ (i : Int) := by omega
  have i1' : (i : Int) < (s.pgL.length : Int) := by omega
  go_upto_region 9 with fail
  have u5 : Upd (fun k => k = C ∨ k = g4) w ((w4.setCell ⟨g4, i * 3 + 2, none⟩ (.bool wb)).setCell ⟨C, 2, none⟩ (.slice (some ⟨g4, 0, none⟩) s.pgL.length cap4)) := (U4.none'.setCell (.inl (.inr rfl)) _).setCell (.inl (.inl rfl)) _
  have hC5 : (w4.setCell ⟨g4, i * 3 + 2, none⟩ (.bool wb)).heap[C]? = some (.cells [.pointer (some ⟨MC, 0, none⟩), .pointer (some ⟨BC, 0, none⟩), .slice oL s.pgL.length cL, vT].toArray 75 (0, 0)) := (U4.none'.setCell (S := (· = g4)) (p := ⟨g4, i * 3 + 2, none⟩) (.inl rfl) (.bool wb)).at h.a.head (by show ¬ C = g4; omega)
  have hC6 := heap_setCell_same hC5 2 (.slice (some ⟨g4, 0, none⟩) s.pgL.length cap4)
  have hg6 := row_kept (S := (· = C)) (w' := (w4.setCell ⟨g4, i * 3 + 2, none⟩ (.bool wb)).setCell ⟨C, 2, none⟩ (.slice (some ⟨g4, 0, none⟩) s.pgL.length cap4)) st4.out ((Upd.refl (· = C) _).setCell (p := ⟨C, 2, none⟩) (.inl rfl) _) (fun k hk => by simp [Value.ownBlock] at hk; omega)
  have hMC : ¬ MC = C := fun e => by
    have h1 := h.r.head
    rw [e, h.a.head] at h1
    simp at h1
  have hMl := lt_of_heap h.r.head
  have hBl := lt_of_heap h.r.body
  have hTn := ty_ne h.a.tabs h.a.head (by decide)
  have hL6 : LayAt ((w4.setCell ⟨g4, i * 3 + 2, none⟩ (.bool wb)).setCell ⟨C, 2, none⟩ (.slice (some ⟨g4, 0, none⟩) s.pgL.length cap4)) C MC BC 0 (s.prot j wb) Nd (.slice (some ⟨g4, 0, none⟩) s.pgL.length cap4) vT m := by
    refine ⟨⟨hC6, ?_, ?_⟩, h.r.kept u5 (by rintro (e | e) <;> omega) (by rintro (e | e) <;> omega)⟩
    · rw [hset.out, List.length_set]
      exact row_base hg6 (Nat.zero_le _)
    · rw [hN.prot_tb]
      refine row_kept h.a.tabs u5 fun k hk => ?_
      have := (h.a.tabs.lt k hk).2
      rintro (e | e)
      · exact hTn k hk e
      · omega
  have HL6 := Lib.hid hL6
  have U5 := Lib.hid u5
  generalize (w4.setCell ⟨g4, i * 3 + 2, none⟩ (.bool wb)).setCell ⟨C, 2, none⟩ (.slice (some ⟨g4, 0, none⟩) s.pgL.length cap4) = w6 at HL6 U5 ⊢
  clear u5 hC5 hC6 hg6 hL6 st4 e2 zC z2 d2 own4 grow4 cLc cLc2
  go_wp2_with fail
  refine (rlay_any C MC BC 0 (s.prot j wb) Nd _ vT m (hs' j wb hv) (hN.prot j wb) hk hg w6 HL6.out).mono ?_
  rintro e w7 ⟨rfl, hL7, u7⟩
  go_wp2
  go_ret
  refine ⟨rfl, _, hL7, ?_, fun k hk => by simp [Value.ownBlock] at hk; omega⟩
  have t1 : Upd (fun k => (k = C ∨ k = g4) ∨ k = m.B) w w7 := (U5.out.mono fun _ _ e => .inl e).trans (u7.mono fun _ _ e => .inr e)
  refine t1.mono fun k hk e => ?_
  rcases e with (e | e) | e
  · exact .inl e
  · omega
  · exact .inr e
end Go.Proofs.YtdapmcclplfpfaaGreatDoor
