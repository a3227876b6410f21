/-
  Package buddy: where an allocator lies; its map of given blocks as a plain list.
-/
import Derived.Test.YtmobhojblclmjaaBuU
import Derived.Maps.OwnSet
import Derived.Maps.OwnOps
import Derived.Maps.RangeWalk
namespace Go.Proofs.Ytmobhojblclmjaa
open Go.ChangeShapes Go.WideShapes Go.ChangeAt Go.RowKit Go.Maps

/-- a frame as a key of the map -/
def kf (f : Nat) : Lit := .int .i64 f
theorem kf_inj {f g : Nat} (h : kf f = kf g) : f = g := by unfold kf at h; injection h with _ h; omega
theorem isKey (f : Nat) : WideAt.IsKeyLit (kf f) := trivial
theorem kf_same (f g : Nat) : (kf f).sameKey (kf g) = decide (f = g) := by
  by_cases h : f = g
  · subst h; rw [decide_eq_true rfl]; exact WideAt.sameKey_self trivial
  · rw [decide_eq_false h]; exact sameKey_ne fun e => h (kf_inj e)
/-- the map holds just the given blocks: by the frame the order -/
structure MapOf (D : DataW Unit) (g : List (Nat × Nat)) : Prop where
  get : ∀ x, x ∈ g → ∀ z, D.atKey (kf x.1) z = .lit (.int .i64 (x.2 : Int))
  has : ∀ kl, Maps.has D kl = true → ∃ x, x ∈ g ∧ kl = kf x.1
  sz : Maps.size D = g.length
theorem MapOf.mem {D : DataW Unit} {g : List (Nat × Nat)} (h : MapOf D g) {x : Nat × Nat} (hx : x ∈ g) : Maps.has D (kf x.1) = true := has_true_of_atKey (h.get x hx)
theorem MapOf.no {D : DataW Unit} {g : List (Nat × Nat)} (h : MapOf D g) {kl : Lit} (hx : ∀ x, x ∈ g → kl ≠ kf x.1) : Maps.has D kl = false := by
  cases hb : Maps.has D kl
  · rfl
  · obtain ⟨x, hx', e⟩ := h.has kl hb
    exact absurd e (hx x hx')
theorem mapOf_nil : MapOf (.map []) [] := ⟨fun x hx => absurd hx (List.not_mem_nil), fun kl h => by exact absurd h (by simp [has_eq]), rfl⟩
theorem MapOf.put {D : DataW Unit} {g : List (Nat × Nat)} (h : MapOf D g) (hD : Tidy D) (f o : Nat) (hf : ∀ x, x ∈ g → x.1 ≠ f) : MapOf (D.put (kf f) (.lit (.int .i64 (o : Int)))) (g ++ [(f, o)]) := by
  have hno : Maps.has D (kf f) = false := h.no fun x hx e => hf x hx (kf_inj e).symm
  refine ⟨fun x hx z => ?_, fun kl hk => ?_, ?_⟩
  · rcases List.mem_append.1 hx with hx | hx
    · rw [atKey_put_other fun e => hf x hx (kf_inj e)]; exact h.get x hx z
    · simp at hx; subst hx; exact atKey_put_same hD.isMap (isKey f) _ _
  · by_cases e : kl = kf f
    · exact ⟨(f, o), by simp, e⟩
    · rw [has_put_other e] at hk
      obtain ⟨x, hx, e2⟩ := h.has kl hk
      exact ⟨x, by simp [hx], e2⟩
  · rw [size_put hD, hno, h.sz]; simp
theorem MapOf.del {D : DataW Unit} {g : List (Nat × Nat)} (h : MapOf D g) (hD : Tidy D) {x : Nat × Nat} (hx : x ∈ g) (hn : g.Nodup) (hk : ∀ y, y ∈ g → y.1 = x.1 → y = x) : MapOf (D.del (kf x.1)) (g.erase x) := by
  refine ⟨fun y hy z => ?_, fun kl hkl => ?_, ?_⟩
  · obtain ⟨h1, h2⟩ := hn.mem_erase_iff.1 hy
    rw [atKey_del_other fun e => h1 (hk y h2 (kf_inj e))]; exact h.get y h2 z
  · by_cases e : kl = kf x.1
    · subst e; rw [has_del_same] at hkl; cases hkl
    · rw [has_del_other e] at hkl
      obtain ⟨y, hy, e2⟩ := h.has kl hkl
      exact ⟨y, hn.mem_erase_iff.2 ⟨fun e3 => e (by rw [e2, e3]), hy⟩, e2⟩
  · have := size_del (k := kf x.1) hD
    rw [h.mem hx, h.sz] at this
    rw [List.length_erase_of_mem hx]
    simp at this
    omega
theorem Bud.Ok.key {b : Bud} (h : b.Ok) {x y : Nat × Nat} (hx : x ∈ b.gave) (hy : y ∈ b.gave) (e : x.1 = y.1) : x = y := by
  refine Decidable.byContradiction fun hne => ?_
  have p1 := Nat.two_pow_pos x.2
  have p2 := Nat.two_pow_pos y.2
  have := h.two hx hy hne x.1 (inBlk_iff.2 ⟨Nat.le_refl _, by omega⟩)
  rw [inBlk_iff.2 ⟨by omega, by omega⟩] at this
  cases this

theorem keyLaw : Keyed Try.prog 3 := int_keyed Try.underlying3
/-- an allocator lies at A: over the memory at MA, its map at GB -/
structure BudAt (w : World) (A MA GB : Nat) (b : Bud) : Prop where
  head : w.heap[A]? = some (.cells #[.pointer (some ⟨MA, 0, none⟩), .int .i64 b.res, .map (some GB)] 75 (0, 0))
  mp : ∃ D : DataW Unit, w.ownsMap Try.prog 3 (plainElem Try.prog 3) GB 256 D ∧ MapOf D b.gave
  ok : b.Ok
theorem BudAt.c0 {w : World} {A MA GB : Nat} {b : Bud} (h : BudAt w A MA GB b) : w.cell? ⟨A, 0, none⟩ = some (.pointer (some ⟨MA, 0, none⟩)) := by rw [cell_of_row w A 0 _ _ _ h.head]; rfl
theorem BudAt.c1 {w : World} {A MA GB : Nat} {b : Bud} (h : BudAt w A MA GB b) : w.cell? ⟨A, 1, none⟩ = some (.int .i64 b.res) := by rw [cell_of_row w A 1 _ _ _ h.head]; rfl
theorem BudAt.c2 {w : World} {A MA GB : Nat} {b : Bud} (h : BudAt w A MA GB b) : w.cell? ⟨A, 2, none⟩ = some (.map (some GB)) := by rw [cell_of_row w A 2 _ _ _ h.head]; rfl
theorem BudAt.lts {w : World} {A MA GB : Nat} {b : Bud} (h : BudAt w A MA GB b) : A < w.heap.size ∧ GB < w.heap.size := by
  obtain ⟨D, h1, _⟩ := h.mp
  exact ⟨lt_of_heap h.head, h1.lt⟩
theorem BudAt.ne {w : World} {A MA GB : Nat} {b : Bud} (h : BudAt w A MA GB b) : A ≠ GB := by
  obtain ⟨D, ⟨es, c, hb, _⟩, _⟩ := h.mp
  intro e
  have := h.head
  rw [e, hb] at this
  cases this
theorem map_kept {S : Nat → Prop} {w w' : World} {k : TypeId} {R : Value → Option (DataW Unit × List MemPlace)} {b n : Nat} {D : DataW Unit} (h : w.ownsMap Try.prog k R b n D) (u : Upd S w w') (hb : ¬ S b) : w'.ownsMap Try.prog k R b n D := by
  obtain ⟨es, clock, hx, F, hs, hD⟩ := h
  exact ⟨es, clock, u.at hx hb, F, hs, hD⟩
theorem map_tight {w : World} {k : TypeId} {R : Value → Option (DataW Unit × List MemPlace)} {b n : Nat} {D : DataW Unit} (h : w.ownsMap Try.prog k R b n D) (m : Nat) (hm : Maps.size D ≤ m) : w.ownsMap Try.prog k R b m D := by
  obtain ⟨es, clock, hx, F, hs, rfl⟩ := h
  refine ⟨es, clock, hx, F, ?_, rfl⟩
  rw [size_eq, length_sorted, List.length_map, Array.length_toList] at hm
  exact hm
theorem BudAt.kept {S : Nat → Prop} {w w' : World} {A MA GB : Nat} {b : Bud} (h : BudAt w A MA GB b) (u : Upd S w w') (h1 : ¬ S A) (h2 : ¬ S GB) : BudAt w' A MA GB b := by
  obtain ⟨D, h3, h4⟩ := h.mp
  exact ⟨u.at h.head h1, ⟨D, map_kept h3 u h2, h4⟩, h.ok⟩
theorem BudAt.below {w w' : World} {A MA GB : Nat} {b : Bud} (h : BudAt w A MA GB b) (u : Below w.heap.size w w') : BudAt w' A MA GB b := h.kept (Upd.of_below (S := fun _ => False) u) (fun h => h) (fun h => h)
theorem upd_grown {a c : World} {j : Nat} (h : a.grownBy c (some j)) : Upd (· = j) a c := ⟨h.os, h.tape, h.output, h.size, fun k hk hs => h.block k hk fun e => hs (by injection e)⟩
theorem upd_grown0 {S : Nat → Prop} {a c : World} (h : a.grownBy c none) : Upd S a c := ⟨h.os, h.tape, h.output, h.size, fun k hk _ => h.block k hk (by simp)⟩

theorem shl_pw (k : Nat) (hk : k ≤ 8) : IntKind.i64.wrap (1 * 2 ^ min ((k : Int)).toNat IntKind.i64.bits) = pw k := by
  unfold pw
  match k, hk with
  | 0, _ | 1, _ | 2, _ | 3, _ | 4, _ | 5, _ | 6, _ | 7, _ | 8, _ => rfl
/-- 1 << k -/
theorem wpList_shl1 {P : Program} {ops : Array Oper} {rest : List Oper} {op : Oper} {a : Act} {w : World} {Q : Exit → Act → World → Prop} (hgd : op.guard = none) (t u : TypeId) (x y : Operand) (ho : op.op = .binOp .shl t x y u)
    (hx : a.eval x = .int .i64 1) (k : Nat) (hk : k ≤ 8) (hy : a.eval y = .int .i64 k) (h : wpList P ops Q rest (a.put op.dst (.int .i64 (pw k))) w) : wpList P ops Q (op :: rest) a w := by
  refine wpList_plain hgd fun K hK => ?_
  unfold Oper.wp execOp
  simp only [ho, hx, hy, eqGuard_shl, binOp_shl, shift_shl_any _ _ _ _ (Int.natCast_nonneg k), Sem.run_bind, Sem.run_pure, Result.andThen_ok, shl_pw k hk]
  exact hK _ _ h
end Go.Proofs.Ytmobhojblclmjaa
