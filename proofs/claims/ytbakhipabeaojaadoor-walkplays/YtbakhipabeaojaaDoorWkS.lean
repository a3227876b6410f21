/-
  Steps compared; two memories in which a walk goes alike.
-/
import Derived.Test.YtbakhipabeaojaaDoorWkO
namespace Go.Proofs.YtbakhipabeaojaaDoor
open Go.ChangeShapes Go.WideShapes Go.ChangeAt Go.RowKit

/-- the walk of a page goes alike in two memories: at its own places they are the same -/
def Alike (m m' : Mem) (q : Int) : Prop := m'.n = m.n ∧ ∀ k, k < m.wN 0 q → m'.getE (m.wF 0 q k) (idxI q k) = m.getE (m.wF 0 q k) (idxI q k) ∧ m'.getX (m.wF 0 q k) (idxI q k) = m.getX (m.wF 0 q k) (idxI q k)
theorem Alike.refl (m : Mem) (q : Int) : Alike m m q := ⟨rfl, fun _ _ => ⟨rfl, rfl⟩⟩
theorem Alike.put {m m' : Mem} {q : Int} (h : Alike m m' q) (hk : m'.ok) (x y : Int) (e : En) (hn : ∀ k, k < m.wN 0 q → ¬ (m.wF 0 q k = x ∧ idxI q k = y)) : Alike m (m'.put x y e) q :=
  ⟨by rw [Mem.put_n]; exact h.1, fun k hk' => by
    rw [m'.put_getE hk, m'.put_getX hk, if_neg (fun c => hn k hk' c.2), if_neg (fun c => hn k hk' c.2)]
    exact h.2 k hk'⟩
theorem Alike.step {m m' : Mem} {q : Int} (h : Alike m m' q) : ∀ k, k < m.wN 0 q → m'.wF 0 q k = m.wF 0 q k ∧ m'.wC 0 q k = m.wC 0 q k
  | 0, hk => by
    have e : m'.wF 0 q 0 = m.wF 0 q 0 := rfl
    refine ⟨e, ?_⟩
    unfold Mem.wC
    rw [e, (h.2 0 hk).1, (h.2 0 hk).2]
  | k + 1, hk => by
    have ih := (h.step k (by omega)).1
    have e : m'.wF 0 q (k + 1) = m.wF 0 q (k + 1) := by
      show (m'.getE (m'.wF 0 q k) (idxI q k)).f = (m.getE (m.wF 0 q k) (idxI q k)).f
      rw [ih, (h.2 k (by omega)).1]
    refine ⟨e, ?_⟩
    unfold Mem.wC
    rw [e, (h.2 (k + 1) hk).1, (h.2 (k + 1) hk).2]
theorem Mem.wS_same {m m' : Mem} {q : Int} : ∀ n, (∀ k, k < n → m'.wF 0 q k = m.wF 0 q k) → m'.wS 0 q n = m.wS 0 q n
  | 0, _ => rfl
  | n + 1, h => by rw [Mem.wS, Mem.wS, Mem.wS_same n (fun k hk => h k (by omega)), h n (by omega)]
theorem Alike.walk {m m' : Mem} {q : Int} (h : Alike m m' q) : m'.wN 0 q = m.wN 0 q ∧ m'.wX 0 q = m.wX 0 q ∧ m'.wE 0 q = m.wE 0 q ∧ m'.wS 0 q (m.wN 0 q) = m.wS 0 q (m.wN 0 q) := by
  have hB : m'.wB 0 q = m.wB 0 q := by unfold Mem.wB Mem.ex; rw [h.1]
  cases hb : m.wB 0 q
  · rw [hb] at hB
    obtain ⟨a1, a2, a3⟩ := m.walk_no 0 q hb
    obtain ⟨b1, b2, b3⟩ := m'.walk_no 0 q hB
    rw [a1, a2, a3, b1, b2, b3]
    exact ⟨rfl, rfl, rfl, rfl⟩
  · rw [hb] at hB
    have hs := h.step
    have hbd := m.wN_bd 0 q hb
    obtain ⟨k, hk⟩ : ∃ k, m.wN 0 q = k + 1 := ⟨m.wN 0 q - 1, by omega⟩
    have hon : ∀ j, j < k → m.wC 0 q j = 0 := fun j hj => m.wN_on 0 q j (by omega)
    have hon' : ∀ j, j < k → m'.wC 0 q j = 0 := fun j hj => by rw [(hs j (by omega)).2]; exact hon j hj
    have hS : m'.wS 0 q (m.wN 0 q) = m.wS 0 q (m.wN 0 q) := Mem.wS_same _ fun j hj => (hs j hj).1
    by_cases hc : m.wC 0 q k = 0
    · have hk2 : k = 2 := by
        rcases Nat.lt_or_ge k 2 with h2 | h2
        · exfalso
          unfold Mem.wN at hk
          rw [if_pos hb] at hk
          match k, h2, hc, hon, hk with
          | 0, _, hc, _, hk => rw [hc] at hk; simp at hk; split at hk <;> omega
          | 1, _, hc, hon, hk => rw [hon 0 (by omega), hc] at hk; simp at hk
        · omega
      subst hk2
      have all : ∀ j, j < 3 → m.wC 0 q j = 0 := fun j hj => by
        by_cases e : j = 2
        · rw [e]; exact hc
        · exact hon j (by omega)
      have all' : ∀ j, j < 3 → m'.wC 0 q j = 0 := fun j hj => by rw [(hs j (by omega)).2]; exact all j hj
      obtain ⟨a1, a2, a3⟩ := m.walk_end 0 q hb all
      obtain ⟨b1, b2, b3⟩ := m'.walk_end 0 q hB all'
      refine ⟨by rw [a1, b1], by rw [a2, b2], ?_, hS⟩
      rw [a3, b3, (hs 2 (by omega)).1]
      exact (h.2 2 (by omega)).1
    · have hc' : m'.wC 0 q k ≠ 0 := by rw [(hs k (by omega)).2]; exact hc
      obtain ⟨a1, a2, a3⟩ := m.walk_stop 0 q hb k (by omega) hon hc
      obtain ⟨b1, b2, b3⟩ := m'.walk_stop 0 q hB k (by omega) hon' hc'
      refine ⟨by rw [a1, b1], by rw [a2, b2, (hs k (by omega)).2], by rw [a3, b3], hS⟩
/-- the cells of a walk's steps, also of none -/
theorem steps_cells0 {w : World} {base : Nat} {v : Value} {m : Mem} {root q : Int} {n : Nat} (h : w.ownsRow base 55 2 v n (m.wS root q n)) : ∃ so g cap, v = .slice so n cap ∧ (0 < n → so = some ⟨g, 0, none⟩) ∧
    ∀ j, j < n → w.cell? ⟨g, j * 2, none⟩ = some (.int .i64 (m.wF root q j)) ∧ w.cell? ⟨g, j * 2 + 1, none⟩ = some (.int .i64 (idxI q j)) := by
  by_cases hn : 0 < n
  · obtain ⟨g, cap, rfl, _, hc⟩ := steps_cells h hn
    exact ⟨_, g, cap, rfl, fun _ => rfl, hc⟩
  · obtain ⟨o, cap, rfl⟩ := wk_slice h
    exact ⟨o, 0, cap, rfl, fun h => absurd h hn, fun j hj => absurd hj (by omega)⟩
theorem steps_cells1 {w : World} {base : Nat} {so : Option Addr} {g cap : Nat} {m : Mem} {root q : Int} {n : Nat} (h : w.ownsRow base 55 2 (.slice so n cap) n (m.wS root q n)) (hs : 0 < n → so = some ⟨g, 0, none⟩) :
    ∀ j, j < n → w.cell? ⟨g, j * 2, none⟩ = some (.int .i64 (m.wF root q j)) ∧ w.cell? ⟨g, j * 2 + 1, none⟩ = some (.int .i64 (idxI q j)) := by
  intro j hj
  obtain rfl := hs (by omega)
  obtain ⟨g', cap', e, _, hc⟩ := steps_cells h (by omega)
  simp only [Value.slice.injEq, Option.some.injEq, Addr.mk.injEq] at e
  rw [e.1.1]
  exact hc j hj
/-- two steps compared -/
theorem run_eqSd (d : Nat) (a b a' b' : Int) (w : World) :
    (Op.equalIn (d + 2) 55 (.agg #[.int .i64 a, .int .i64 b]) (.agg #[.int .i64 a', .int .i64 b'])).run Tryd.prog w = .ok (decide (a = a' ∧ b = b')) w := by
  have hF : (Tryd.prog.fieldsOf 55).toList.map (fun f => (f.name == "_", f.type, f.offset)) = [(false, 3, 0), (false, 3, 1)] := by kernel_rfl
  rw [run_equalIn_struct w (d + 1) _ _ _ (by kernel_rfl) (by kernel_rfl)]
  have hag : ∀ (e : TypeId) (d : TypeDesc), Tryd.prog.underlying e = some d → d.isRow = false → (isAgg e).run Tryd.prog w = .ok false w := by
    intro e d he hd
    unfold isAgg
    rw [Sem.run_bind, run_underlying he w]
    cases d <;> first | rfl | cases hd
  have hpart : ∀ (e : TypeId) (d : TypeDesc), Tryd.prog.underlying e = some d → d.isRow = false → ∀ (cs : Array Value) (i : Nat) (x : Value), cs[i]? = some x → (part e cs i).run Tryd.prog w = .ok x w := by
    intro e d he hd cs i x hx
    unfold part
    rw [Sem.run_bind, hag e d he hd]
    simp only [Result.andThen_ok, Bool.false_eq_true, if_false, hx]
    rfl
  have hlen := congrArg List.length hF
  rw [List.length_map] at hlen
  generalize (Tryd.prog.fieldsOf 55).toList = L at hF hlen ⊢
  match L, hlen with
  | [g0, g1], _ =>
    simp only [List.map_cons, List.map_nil, List.cons.injEq, Prod.mk.injEq, and_true] at hF
    obtain ⟨⟨n0, t0, o0⟩, n1, t1, o1⟩ := hF
    have n0 : g0.name ≠ "_" := by simpa using n0
    have n1 : g1.name ≠ "_" := by simpa using n1
    have ui : Tryd.prog.underlying 3 = some (.int .i64) := Tryd.underlying3
    have step : ∀ (X Y : Array Value) (g : Field) (fs : List Field) (x y : Value) (q : Bool), g.name ≠ "_" → (part g.type X g.offset).run Tryd.prog w = .ok x w → (part g.type Y g.offset).run Tryd.prog w = .ok y w →
        (Op.equalIn (d + 1) g.type x y).run Tryd.prog w = .ok q w → (Op.eqFields (d + 1) X Y (g :: fs)).run Tryd.prog w = if q = true then (Op.eqFields (d + 1) X Y fs).run Tryd.prog w else .ok false w := by
      intro X Y g fs x y q hn hx hy hq
      rw [Op.eqFields, if_pos hn, Sem.run_bind, hx, Result.andThen_ok, Sem.run_bind, hy, Result.andThen_ok, Sem.run_bind, hq, Result.andThen_ok]
      cases q
      · rfl
      · rfl
    rw [step _ _ g0 _ (.int .i64 a) (.int .i64 a') (a == a') n0 (by rw [t0, o0]; exact hpart _ _ ui rfl _ _ _ rfl) (by rw [t0, o0]; exact hpart _ _ ui rfl _ _ _ rfl) (by rw [t0]; exact run_equalIn_int w d _ .i64 .i64 _ _ ui),
      step _ _ g1 _ (.int .i64 b) (.int .i64 b') (b == b') n1 (by rw [t1, o1]; exact hpart _ _ ui rfl _ _ _ rfl) (by rw [t1, o1]; exact hpart _ _ ui rfl _ _ _ rfl) (by rw [t1]; exact run_equalIn_int w d _ .i64 .i64 _ _ ui)]
    by_cases e1 : a = a'
    · by_cases e2 : b = b'
      · simp [e1, e2, Op.eqFields]
      · simp [e1, e2]
    · simp [e1]
theorem run_eqS (a b a' b' : Int) (c : Bool) (hc : decide (a = a' ∧ b = b') = c) (w : World) :
    (Op.equalIn 10000 55 (.agg #[.int .i64 a, .int .i64 b]) (.agg #[.int .i64 a', .int .i64 b'])).run Tryd.prog w = .ok c w := by
  subst hc
  exact run_eqSd 9998 a b a' b' w
theorem wk_base {w : World} {base base' sz k : Nat} {e : TypeId} {v : Value} {xs : List Value} (h : w.ownsRow base e sz v k xs) (hb : base' ≤ base) : w.ownsRow base' e sz v k xs := by
  refine ⟨h.1, ?_⟩
  rcases h.2 with hn | ⟨g, cap, cur, rfl, hg, rest⟩
  · exact .inl hn
  · exact .inr ⟨g, cap, cur, rfl, Nat.le_trans hb hg, rest⟩
theorem own_step {Q : Nat → Prop} {c c' : Bool} {j : Nat} (hc : c = true ↔ ∃ p, p < j ∧ Q p) (h : c' = true ↔ (c = true ∨ Q j)) : c' = true ↔ ∃ p, p < j + 1 ∧ Q p := by
  rw [h, hc]
  constructor
  · rintro (⟨p, hp, hq⟩ | hq)
    · exact ⟨p, by omega, hq⟩
    · exact ⟨j, by omega, hq⟩
  · rintro ⟨p, hp, hq⟩
    by_cases e : p = j
    · exact .inr (e ▸ hq)
    · exact .inl ⟨p, by omega, hq⟩
/-- is a place among the first j steps' -/
def OwnIs (m : Mem) (q x y : Int) (j : Nat) (c : Bool) : Prop := c = true ↔ ∃ p, p < j ∧ m.wF 0 q p = x ∧ idxI q p = y
theorem OwnIs.zero (m : Mem) (q x y : Int) : OwnIs m q x y 0 false := ⟨fun h => absurd h (by decide), fun ⟨p, hp, _⟩ => absurd hp (by omega)⟩
theorem OwnIs.on {m : Mem} {q x y : Int} {j : Nat} {c c' : Bool} (h : OwnIs m q x y j c) (h' : c' = true ↔ (c = true ∨ m.wF 0 q j = x ∧ idxI q j = y)) : OwnIs m q x y (j + 1) c' :=
  own_step (Q := fun p => m.wF 0 q p = x ∧ idxI q p = y) h h'
end Go.Proofs.YtbakhipabeaojaaDoor
