/-
  Package-level variables of integers and bools that a row lists: their cells, out of the row's condition. Over any program.
-/
import Derived.Test.YtbakhipabeaojaaDoorFrame
import Derived.LaidLaws
import Derived.LaidHandle
import Derived.FnData
namespace Go.Proofs.YtbakhipabeaojaaDoor.Fr
open Go.ChangeShapes Go.WideShapes Go.ChangeAt Go.RowKit
mutual
/-- the cells of a datum made of integers and bools -/
def datCells : DataW Unit → List Value
  | .lit (.int k z) => [.int k z]
  | .lit (.bool b) => [.bool b]
  | .agg ps => datAll ps
  | _ => []
def datAll : List (DataW Unit) → List Value
  | [] => []
  | d :: r => datCells d ++ datAll r
end
/-- the variable's cells -/
def VarIs (w : World) (g : Nat) (cs : List Value) : Prop := ∀ j v, cs[j]? = some v → w.cell? ⟨g, j, none⟩ = some v
theorem datAll_rows (k : Nat) : ∀ (xs : List (DataW Unit × List MemPlace)) (cs : List Value), cs.length = xs.length * k → (∀ i (h : i < xs.length), (cs.drop (i * k)).take k = datCells (xs[i]).1) → cs = datAll (xs.map (·.1))
  | [], cs, hl, _ => by
    have : cs = [] := List.eq_nil_of_length_eq_zero (by simpa using hl)
    subst this
    rfl
  | x :: xs, cs, hl, h => by
    have hl' : cs.length = xs.length * k + k := by rw [hl, List.length_cons, Nat.succ_mul]
    have h0 := h 0 (by simp)
    rw [Nat.zero_mul, List.drop_zero] at h0
    rw [← List.take_append_drop k cs, h0]
    simp only [List.map_cons, datAll, List.getElem_cons_zero]
    congr 1
    refine datAll_rows k xs _ (by rw [List.length_drop]; omega) fun i hi => ?_
    have := h (i + 1) (by simpa using hi)
    rw [Nat.succ_mul] at this
    simpa [List.drop_drop, Nat.add_comm] using this
theorem datAll_fs {P : Program} {g : TypeId → Option (List (Option IntKind))} : ∀ (fs : List Field) (o : Nat) (ks : List (Option IntKind)) (cs : List Value) (xs : List (DataW Unit × List MemPlace)), flatFs P g fs o = some ks → cs.length = ks.length → xs.length = fs.length →
      (∀ (i : Nat) (f : Field) (x : DataW Unit × List MemPlace), fs[i]? = some f → xs[i]? = some x → (cs.drop (f.offset - o)).take (P.cellsOf f.type) = datCells x.1) → cs = datAll (xs.map (·.1))
  | [], o, ks, cs, xs, hk, hl, hx, _ => by
    simp only [flatFs, Option.some.injEq] at hk
    subst hk
    have e1 : cs = [] := List.eq_nil_of_length_eq_zero (by simpa using hl)
    have e2 : xs = [] := List.eq_nil_of_length_eq_zero (by simpa using hx)
    subst e1 e2
    rfl
  | f :: fs, o, ks, cs, [], hk, hl, hx, h => by simp at hx
  | f :: fs, o, ks, cs, x :: xs, hk, hl, hx, h => by
    simp only [flatFs] at hk
    split at hk
    · rename_i l r hgl hr
      split at hk
      · rename_i hc
        obtain ⟨ho, hll⟩ := hc
        simp only [Option.some.injEq] at hk
        subst hk
        rw [List.length_append] at hl
        have h0 := h 0 f x rfl rfl
        rw [ho, Nat.sub_self, List.drop_zero] at h0
        rw [← List.take_append_drop (P.cellsOf f.type) cs, h0]
        simp only [List.map_cons, datAll]
        congr 1
        refine datAll_fs fs _ r _ xs hr (by rw [List.length_drop]; omega) (by simpa using hx) fun i f' x' hi hi' => ?_
        have hy := h (i + 1) f' x' hi hi'
        have hge : o + P.cellsOf f.type ≤ f'.offset := flatFs_ge hr i f' hi
        rw [List.drop_drop, show P.cellsOf f.type + (f'.offset - (o + P.cellsOf f.type)) = f'.offset - o from by omega]
        exact hy
      · cases hk
    · cases hk
theorem cells_flat {P : Program} {w : World} {base : Nat} {spare : Nat → Bool} {held : Bool} : ∀ (d : Nat) (t : TypeId) (ks : List (Option IntKind)) (fuel : Nat) (cs : List Value) (x : DataW Unit × List MemPlace),
    flat P d t = some ks → DataW.trod (fun _ => ()) P w base spare held fuel t cs = some x → cs = datCells x.1
  | 0, _, _, _, _, _, h, _ => by simp [flat] at h
  | d + 1, t, ks, fuel, cs, x, h, ht => by
    have hlen0 := (okLeaves_of (d + 1) t ks fuel cs x h ht).1
    unfold flat at h
    split at h
    · rename_i k hu
      obtain ⟨z, rfl, rfl, hw⟩ := DataW.trod_int hu ht
      rfl
    · rename_i hu
      obtain ⟨b, rfl, rfl⟩ := DataW.trod_bool hu ht
      rfl
    · rename_i n e hu
      split at h
      · rename_i l hl
        split at h
        · rename_i hc
          obtain ⟨c1, c2⟩ := hc
          obtain ⟨xs, m, _, rfl, hlen, hxl, hrd⟩ := DataW.trod_array hu ht
          show cs = datAll (xs.map (·.1))
          refine datAll_rows (P.cellsOf e) xs cs (by rw [hlen, c2, hxl]) fun i hi => ?_
          have := hrd i (by omega)
          rw [List.getElem?_eq_getElem hi] at this
          exact cells_flat d e l m _ _ hl this
        · cases h
      · cases h
    · rename_i fs hu
      split at h
      · rename_i l hl
        split at h
        · rename_i hc
          simp only [Option.some.injEq] at h
          subst h
          obtain ⟨xs, m, _, rfl, hlen, hxl, hrd⟩ := DataW.trod_struct hu ht
          show cs = datAll (xs.map (·.1))
          refine datAll_fs fs.toList 0 l cs xs hl hlen0 (by rw [hxl]; simp) fun i f x hi hx => ?_
          have hi' : fs[i]? = some f := by simpa using hi
          have := hrd i f hi'
          rw [hx] at this
          rw [Nat.sub_zero]
          have hfl : ∃ l', flat P d f.type = some l' := by
            clear this hi' hx hrd hlen hxl hlen0 ht
            revert i hi
            generalize (0 : Nat) = o at hl
            generalize fs.toList = F at hl
            clear hc
            induction F generalizing o l with
            | nil => intro i hi; simp at hi
            | cons a r ih =>
              intro i hi
              simp only [flatFs] at hl
              split at hl
              · rename_i l1 r1 h1 h2
                cases i with
                | zero => simp only [List.getElem?_cons_zero, Option.some.injEq] at hi; subst hi; exact ⟨_, h1⟩
                | succ i => exact ih _ _ h2 i hi
              · cases hl
          obtain ⟨l', hl'⟩ := hfl
          exact cells_flat d f.type l' m _ _ hl' this
        · cases h
      · cases h
    · cases h
/-- a listed variable's cells -/
theorem varIs_of_vars {P : Program} {w : World} (D : Nat) : ∀ (l : List (String × DataW Unit)) (ps : List MemPlace), DataW.LaidVars P w l ps → ∀ (n : String) (d : DataW Unit), (n, d) ∈ l → ∀ (g : Nat) (t : TypeId) (ks : List (Option IntKind)),
    P.globalNamed n = some g → (P.globals[g]?).map (·.type) = some t → flat P D t = some ks → VarIs w g (datCells d)
  | [], _, _, n, d, hm, _, _, _, _, _, _ => by cases hm
  | (n0, d0) :: r, ps, h, n, d, hm, g, t, ks, hg, ht, hf => by
    obtain ⟨g0, t0, cs, fuel, p, q, hg0, ht0, hv, hd, hr, _⟩ := h
    rcases List.mem_cons.1 hm with e | hm'
    · cases e
      obtain rfl := Option.some.inj (hg.symm.trans hg0)
      obtain rfl := Option.some.inj (ht.symm.trans ht0)
      have e := cells_flat D t ks fuel cs.toList _ hf hd
      intro j v hj
      rw [World.var?_cell hg0 hv j, ← hj, ← e]
      simp
    · exact varIs_of_vars D r q hr n d hm' g t ks hg ht hf
theorem varIs_of_laid {P : Program} {w : World} {l : List (String × DataW Unit)} (D : Nat) (h : laidMet P l w) (n : String) (d : DataW Unit) (hm : (n, d) ∈ l) {g : Nat} {t : TypeId} {ks : List (Option IntKind)}
    (hg : P.globalNamed n = some g) (ht : (P.globals[g]?).map (·.type) = some t) (hf : flat P D t = some ks) : VarIs w g (datCells d) := by
  obtain ⟨ps, hl, _⟩ := h
  exact varIs_of_vars D l ps hl n d hm g t ks hg ht hf
end Go.Proofs.YtbakhipabeaojaaDoor.Fr
