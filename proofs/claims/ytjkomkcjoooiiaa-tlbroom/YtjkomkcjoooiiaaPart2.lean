/-
  Texts that the laws stand on, joined: TlE, Frame, TlF, TlG, Laid, TlV.
-/
import Derived.Below
import Derived.Carry
import Derived.ChangeOld
import Derived.ChangeSame
import Derived.Deep.DeepCutAuto
import Derived.Deep.Fields
import Derived.Deep.MidRow
import Derived.Deep.Slices
import Derived.FnData
import Derived.LaidHandle
import Derived.LaidLaws
import Derived.OpenShut
import Derived.ProofKit
import Derived.WalkKit
import Derived.Test.YtjkomkcjoooiiaaPart1

/-
  Package tlb: Lines.
-/
namespace Go.Proofs.Ytjkomkcjoooiiaa
open Go.ChangeShapes Go.WideShapes Go.ChangeAt Go.RowKit Go.Shelf

theorem info_ln : (Try.prog.info? 28).map (fun i => (i.zero, i.size, i.bytes)) = some (some (.agg #[.int .i64 0, .int .i64 0, .int .i64 0, .bool false]), 4, 32) := by kernel_rfl
def lnsC (l : List Ln) : List Value := l.flatMap Ln.c
theorem lnsC_app (a b : List Ln) : lnsC (a ++ b) = lnsC a ++ lnsC b := List.flatMap_append
theorem lnsC_len : ∀ l : List Ln, (lnsC l).length = l.length * 4
  | [] => rfl
  | x :: r => by rw [lnsC, List.flatMap_cons, List.length_append, ← lnsC, lnsC_len r, Ln.c_len, List.length_cons]; omega
theorem lnsC_at : ∀ (l : List Ln) (i : Nat) (x : Ln) (j : Nat), l[i]? = some x → j < 4 → (lnsC l)[i * 4 + j]? = x.c[j]?
  | [], i, x, j, h, _ => by simp at h
  | y :: l, 0, x, j, h, hj => by
    have e : y = x := by simpa using h
    subst e
    rw [lnsC, List.flatMap_cons, Nat.zero_mul, Nat.zero_add, List.getElem?_append_left (by rw [Ln.c_len]; exact hj)]
  | y :: l, i + 1, x, j, h, hj => by
    rw [lnsC, List.flatMap_cons, List.getElem?_append_right (by rw [Ln.c_len]; omega), Ln.c_len, show (i + 1) * 4 + j - 4 = i * 4 + j from by omega]
    exact lnsC_at l i x j (by simpa using h) hj
set_option maxHeartbeats 1000000 in
theorem tlines_any (A : Nat) (B : Buf) (hB : B.Ok) (w : World) (hA : BufAt w A B) :
    Calls Try.prog 19 #[.pointer (some ⟨A, 0, none⟩)] w fun e w' => ∃ v, e = .returned v ∧ w'.ownsRow w.heap.size 28 4 v B.lines.length (lnsC B.lines) ∧ Upd (fun _ => False) w w' := by
  obtain ⟨i0, hi, hz0, hz1, hz2⟩ := info_parts info_ln
  obtain ⟨X, hX⟩ : ∃ X, X = rowC Ln.c B.ln 8 := ⟨_, rfl⟩
  have hr := hA.rangeAll
  rw [← hX] at hr
  have hl : X.length = 32 := by rw [hX, rowC_len Ln.c_len]
  have hix := Lib.hid (fun (i : Nat) (hi : i < 8) (W : World) => run_index_lns B.ln 8 .i64 i hi rfl W)
  rw [← hX] at hix
  clear hX hA
  have h0 : w.ownsRow w.heap.size 28 4 (.slice none 0 0) (B.linesTo 0).length (lnsC (B.linesTo 0)) := row_new w _ _ _
  go_enter Try.func19, Try.ntmps19
  go_wp2_with (with_reducible refine wpList_load_sz rfl 29 (.tmp 8) rfl A 0 rfl X _ hr Try.underlying29 rfl 32 hl size_lns ?_)
  clear hr hl
  go_loopw [10, 3] (fun t u wr => ∃ k : Nat, k ≤ 8 ∧ t = .int .i64 k ∧ Hid (wr.ownsRow w.heap.size 28 4 u (B.linesTo k).length (lnsC (B.linesTo k))) ∧ Upd (fun _ => False) w wr) (fun t _ _ => 8 - (intOf t).toNat)
  case atStart => exact ⟨0, by omega, rfl, Lib.hid h0, Upd.refl _ _⟩
  case round =>
    obtain ⟨k, hk, rfl, hrow, hU⟩ := hrel
    by_cases hlt : k < 8
    · have hi8 := hix.out k hlt
      have hem := Lib.hid (hB.empty k)
      have hln := Lib.hid (B.linesTo_len k)
      have hsz := hU.size
      obtain ⟨o, cap, rfl⟩ := row_slice hrow.out
      have hn0 : Hid (B k = none → B.linesTo (k + 1) = B.linesTo k) := Lib.hid (fun h => by rw [Buf.linesTo_succ, h]; simp)
      have hn1 : Hid (B k ≠ none → B.linesTo (k + 1) = B.linesTo k ++ [B.ln k]) := Lib.hid (fun h => by
        rw [Buf.linesTo_succ]
        unfold Buf.ln
        cases e : B k with
        | none => exact absurd e h
        | some l => rfl)
      generalize B.ln k = L at hi8 hem hn1
      obtain ⟨la, lp, lf, lw⟩ := L
      simp only at hi8 hem
      obtain ⟨b1, b2, b3⟩ := ln_box wr la lp lf lw
      have e1 := Lib.hid (fun W => tempty_any la lp lf lw W)
      obtain ⟨V, hV⟩ : ∃ V, V = decide (la = 0) := ⟨_, rfl⟩
      rw [← hV] at hem e1
      clear hV
      have R1 := Lib.hid (row_still hrow.out b2)
      have U1 := Lib.hid (hU.trans b2)
      have B1 := Lib.hid b1
      have B3 := Lib.hid b3
      clear b1 b2 b3 hix h0
      go_upto_region 5 with (first
        | (with_reducible refine wpList_store_sz rfl 28 (.tmp 5) (.tmp 12) rfl wr.heap.size 0 #[.int .i64 la, .int .i64 lp, .int .i64 lf, .bool lw] rfl rfl 4 (ln_sz _ _ _ _) B3.out size_ln (ln_one _ _ _ _) [.int .i64 la, .int .i64 lp, .int .i64 lf, .bool lw] (ln_ls _ _ _ _) ?_))
      clear B3 hi8 hU hrow hsz
      generalize (wr.alloc (.cells #[.int .i64 0, .int .i64 0, .int .i64 0, .bool false] 28)).setCells wr.heap.size 0 [.int .i64 la, .int .i64 lp, .int .i64 lf, .bool lw] = w1 at R1 U1 B1 ⊢
      generalize wr.heap.size = C at B1 ⊢
      have r1 := B1.out.range
      go_wp2_with (with_reducible refine wpList_load_sz rfl 28 (.tmp 5) rfl C 0 rfl [.int .i64 la, .int .i64 lp, .int .i64 lf, .bool lw] _ r1 Try.underlying28 rfl 4 (ln_len _ _ _ _) size_ln ?_)
      refine (e1.out _).mono ?_
      rintro e w2 ⟨rfl, u2⟩
      have R2 := Lib.hid (row_still R1.out u2)
      have U2 := Lib.hid (U1.out.trans u2)
      have r2 := (B1.out.kept u2 id).range
      clear R1 U1 r1 B1 e1 u2
      cases V
      · have hne : B k ≠ none := fun h => by have := hem.out; rw [h] at this; cases this
        have hs := Lib.hid (hn1.out hne)
        clear hn0 hn1 hne hem
        have hle := hln.out
        have hus := U2.out.size
        generalize hN : w.heap.size = N at R2 hus
        generalize B.linesTo k = LK at hs hle R2
        generalize hLn : LK.length = n at hle R2
        generalize hLc : lnsC LK = xs at R2
        go_wp2_with (first
          | (with_reducible refine wpList_load_sz rfl 28 (.tmp 5) rfl C 0 rfl [.int .i64 la, .int .i64 lp, .int .i64 lf, .bool lw] _ r2 Try.underlying28 rfl 4 (ln_len _ _ _ _) size_ln ?_)
          | (at_builtin; refine wpList_append_own _ rfl _ _ 42 rfl N 28 i0 (.agg #[.int .i64 0, .int .i64 0, .int .i64 0, .bool false]) 4 32 Try.underlying42 hi hz0 hz1 hz2 rfl (by decide) _ _ _ rfl (row_still R2.out ((Upd.refl _ _).alloc _)) ⟨w2.heap.size, 0, none⟩ 1 1 [.int .i64 la, .int .i64 lp, .int .i64 lf, .bool lw] rfl rfl (row_src _ _ _) (by simp [Value.oneCell']) (by simp [maxLen]; omega) (by omega) (by simp; omega) ?_; intro v' w4 hown' hgrow _))
        have U4 := row_grown R2.out hgrow U2.out (Nat.le_of_eq hN)
        refine ⟨⟨k + 1, by omega, by go_num, Lib.hid ?_, U4⟩, by simp [intOf]; omega⟩
        rw [hs.out, List.length_append, lnsC_app, hLn, hLc, hN]
        exact hown'
      · have hs := Lib.hid (hn0.out (by have := hem.out; cases h : B k with | none => rfl | some l => rw [h] at this; cases this))
        clear hn0 hn1 hem
        go_wp2
        go_roundw
        case rel => exact ⟨k + 1, by omega, by go_num, by rw [hs.out]; exact R2, U2.out⟩
        case measure => simp [intOf]; omega
    · obtain rfl : k = 8 := by omega
      go_wp2
      go_ret
      exact ⟨_, rfl, hrow.out, hU⟩
end Go.Proofs.Ytjkomkcjoooiiaa

/-
  What the rows' frames want of a reading: integers, arrays of integers. Over any program.
-/
namespace Go.Proofs.Ytjkomkcjoooiiaa.Fr
open Go.ChangeShapes Go.WideShapes Go.ChangeAt Go.RowKit
variable {H : Type} {enc : TypeId × Value → H} {P : Program} {w : World} {base : Nat} {spare : Nat → Bool} {held : Bool}

/-- an array's value -/
theorem okWide_arr {r : Reach} {b0 n : Nat} {t e : TypeId} {v : Value} (ht : P.underlying t = some (.array n e)) (h : Value.okWide P w r b0 t v) : ∃ cs, v = .agg cs ∧ cs.size = P.cellsOf t := by
  simp only [Value.okWide, ht] at h
  obtain ⟨cs, h1, h2, _⟩ := h
  exact ⟨cs, h1, h2⟩

/-- an array of integers, opened: the numbers -/
theorem open_intArr {r : Reach} {b0 n : Nat} {t e : TypeId} {k : IntKind} {v : Value} {d : DataW H} {p : List MemPlace} (ht : P.underlying t = some (.array n e)) (he : P.underlying e = some (.int k))
    (hce : P.cellsOf e = 1) (hct : P.cellsOf t = n) (hv : Value.okWide P w r b0 t v) (h : DataW.Trod enc P w base spare held t v d p) :
    ∃ zs : List Int, zs.length = n ∧ v = .agg (zs.map (fun z => Value.int k z)).toArray ∧ ∀ z ∈ zs, (Lit.int k z).wf = true := by
  obtain ⟨cs, rfl, hsz⟩ := okWide_arr ht hv
  obtain ⟨fuel, hf⟩ := h
  obtain ⟨xs, m, _, _, _, hl, hrd⟩ := DataW.trod_array ht hf
  have hlen : cs.toList.length = n := by rw [Array.length_toList, hsz, hct]
  have hcell : ∀ i (hi : i < cs.toList.length), ∃ z, cs.toList[i] = .int k z ∧ (Lit.int k z).wf = true := by
    intro i hi
    have hx := hrd i (by omega)
    have hi2 : i < xs.length := by omega
    rw [List.getElem?_eq_getElem hi2] at hx
    obtain ⟨z, hz, _, hwf⟩ := DataW.trod_int he hx
    have hi3 : i < cs.size := by simpa using hi
    simp only [Value.cells, hce, Nat.mul_one] at hz
    rw [List.drop_eq_getElem_cons hi] at hz
    simp at hz
    exact ⟨z, by simpa using hz, hwf⟩
  refine ⟨cs.toList.map (fun c => match c with | .int _ q => q | _ => 0), by rw [List.length_map, hlen], ?_, ?_⟩
  · congr 1
    apply Array.ext'
    simp only [List.map_map]
    symm
    conv => rhs; rw [← List.map_id cs.toList]
    apply List.map_congr_left
    intro c hc
    obtain ⟨i, hi, rfl⟩ := List.getElem_of_mem hc
    obtain ⟨z, hz, _⟩ := hcell i hi
    simp only [Function.comp, hz, id]
  · intro z hz
    obtain ⟨c, hc, rfl⟩ := List.mem_map.1 hz
    obtain ⟨i, hi, rfl⟩ := List.getElem_of_mem hc
    obtain ⟨z', hz', hwf⟩ := hcell i hi
    simp only [hz']
    exact hwf
/-! ### whatever is made of integers and bools alone: its leaves, cell by cell -/
/-- a leaf's kind: 'some k' an integer, 'none' a bool -/
def flatFs (P : Program) (g : TypeId → Option (List (Option IntKind))) : List Field → Nat → Option (List (Option IntKind))
  | [], _ => some []
  | f :: fs, o => match g f.type, flatFs P g fs (o + P.cellsOf f.type) with
    | some l, some r => if f.offset = o ∧ l.length = P.cellsOf f.type then some (l ++ r) else none
    | _, _ => none
def flat (P : Program) : Nat → TypeId → Option (List (Option IntKind))
  | 0, _ => none
  | d + 1, t => match P.underlying t with
    | some (.int k) => some [some k]
    | some .bool => some [none]
    | some (.array n e) => match flat P d e with
      | some l => if l.length = P.cellsOf e ∧ P.cellsOf t = n * P.cellsOf e then some (List.replicate n l).flatten else none
      | none => none
    | some (.struct fs) => match flatFs P (flat P d) fs.toList 0 with
      | some l => if P.cellsOf t = l.length then some l else none
      | none => none
    | _ => none
def okLeaf : Option IntKind → Value → Prop
  | some k, v => ∃ z, v = .int k z ∧ (Lit.int k z).wf = true
  | none, v => ∃ b, v = .bool b
def okLeaves (ks : List (Option IntKind)) (cs : List Value) : Prop := cs.length = ks.length ∧ ∀ (j : Nat) (k : Option IntKind) (v : Value), ks[j]? = some k → cs[j]? = some v → okLeaf k v
theorem okLeaves_append {k1 k2 : List (Option IntKind)} {c1 c2 : List Value} (h1 : okLeaves k1 c1) (h2 : okLeaves k2 c2) : okLeaves (k1 ++ k2) (c1 ++ c2) := by
  refine ⟨by rw [List.length_append, List.length_append, h1.1, h2.1], fun j k v hk hv => ?_⟩
  have e := h1.1
  by_cases hj : j < k1.length
  · rw [List.getElem?_append_left hj] at hk
    rw [List.getElem?_append_left (by omega)] at hv
    exact h1.2 j k v hk hv
  · rw [List.getElem?_append_right (by omega)] at hk
    rw [List.getElem?_append_right (by omega), e] at hv
    exact h2.2 _ k v hk hv
theorem okLeaves_rep {l : List (Option IntKind)} : ∀ (n : Nat) (cs : List Value), cs.length = n * l.length → (∀ i, i < n → okLeaves l ((cs.drop (i * l.length)).take l.length)) → okLeaves (List.replicate n l).flatten cs
  | 0, cs, hl, _ => by
    have : cs = [] := List.eq_nil_of_length_eq_zero (by omega)
    subst this
    exact ⟨rfl, fun j k v hk => by simp at hk⟩
  | n + 1, cs, hl, h => by
    have hl' : cs.length = n * l.length + l.length := by rw [hl, Nat.succ_mul]
    rw [List.replicate_succ, List.flatten_cons, ← List.take_append_drop l.length cs]
    have h0 := h 0 (by omega)
    rw [Nat.zero_mul, List.drop_zero] at h0
    refine okLeaves_append h0 (okLeaves_rep n _ (by rw [List.length_drop]; omega) fun i hi => ?_)
    have := h (i + 1) (by omega)
    rw [Nat.succ_mul] at this
    rwa [List.drop_drop, Nat.add_comm]
theorem flatFs_ge {P : Program} {g : TypeId → Option (List (Option IntKind))} : ∀ {fs : List Field} {o : Nat} {ks : List (Option IntKind)}, flatFs P g fs o = some ks → ∀ (i : Nat) (f : Field), fs[i]? = some f → o ≤ f.offset
  | [], _, _, _, i, f, hi => by simp at hi
  | f0 :: fs, o, ks, hk, i, f, hi => by
    simp only [flatFs] at hk
    split at hk
    · rename_i l r hgl hr
      split at hk
      · rename_i hc
        cases i with
        | zero => simp only [List.getElem?_cons_zero, Option.some.injEq] at hi; subst hi; omega
        | succ i => have := flatFs_ge hr i f hi; omega
      · cases hk
    · cases hk
theorem okLeaves_fs {g : TypeId → Option (List (Option IntKind))} {n : Nat}
    (hg : ∀ t ks cs x, g t = some ks → DataW.trod enc P w base spare held n t cs = some x → okLeaves ks cs) :
    ∀ (fs : List Field) (o : Nat) (ks : List (Option IntKind)) (cs : List Value), flatFs P g fs o = some ks → cs.length = ks.length →
      (∀ (i : Nat) (f : Field), fs[i]? = some f → ∃ x, DataW.trod enc P w base spare held n f.type ((cs.drop (f.offset - o)).take (P.cellsOf f.type)) = some x) → okLeaves ks cs
  | [], o, ks, cs, hk, hl, _ => by
    simp only [flatFs, Option.some.injEq] at hk
    subst hk
    exact ⟨hl, fun j k v hk => by simp at hk⟩
  | f :: fs, o, ks, cs, hk, hl, h => by
    simp only [flatFs] at hk
    split at hk
    · rename_i l r hgl hr
      split at hk
      · rename_i hc
        obtain ⟨ho, hll⟩ := hc
        simp only [Option.some.injEq] at hk
        subst hk
        rw [List.length_append] at hl
        obtain ⟨x, hx⟩ := h 0 f rfl
        rw [ho, Nat.sub_self, List.drop_zero] at hx
        have h1 := hg _ _ _ _ hgl hx
        rw [← List.take_append_drop (P.cellsOf f.type) cs]
        refine okLeaves_append h1 (okLeaves_fs hg fs _ r _ hr (by rw [List.length_drop]; omega) fun i f' hi => ?_)
        obtain ⟨y, hy⟩ := h (i + 1) f' hi
        have hge : o + P.cellsOf f.type ≤ f'.offset := flatFs_ge hr i f' hi
        refine ⟨y, ?_⟩
        rw [List.drop_drop, show P.cellsOf f.type + (f'.offset - (o + P.cellsOf f.type)) = f'.offset - o from by omega]
        exact hy
      · cases hk
    · cases hk
theorem okLeaves_of : ∀ (d : Nat) (t : TypeId) (ks : List (Option IntKind)) (fuel : Nat) (cs : List Value) (x : DataW H × List MemPlace), flat P d t = some ks → DataW.trod enc P w base spare held fuel t cs = some x → okLeaves ks cs
  | 0, _, _, _, _, _, h, _ => by simp [flat] at h
  | d + 1, t, ks, fuel, cs, x, h, ht => by
    unfold flat at h
    split at h
    · rename_i k hu
      simp only [Option.some.injEq] at h
      subst h
      obtain ⟨z, rfl, _, hw⟩ := DataW.trod_int hu ht
      refine ⟨rfl, fun j k' v hk hv => ?_⟩
      match j, hk, hv with
      | 0, hk, hv => simp at hk hv; subst hk hv; exact ⟨z, rfl, hw⟩
      | j + 1, hk, _ => simp at hk
    · rename_i hu
      simp only [Option.some.injEq] at h
      subst h
      obtain ⟨b, rfl, _⟩ := DataW.trod_bool hu ht
      refine ⟨rfl, fun j k' v hk hv => ?_⟩
      match j, hk, hv with
      | 0, hk, hv => simp at hk hv; subst hk hv; exact ⟨b, rfl⟩
      | j + 1, hk, _ => simp at hk
    · rename_i n e hu
      split at h
      · rename_i l hl
        split at h
        · rename_i hc
          obtain ⟨c1, c2⟩ := hc
          simp only [Option.some.injEq] at h
          subst h
          obtain ⟨xs, m, _, _, hlen, hxl, hrd⟩ := DataW.trod_array hu ht
          refine okLeaves_rep n cs (by rw [hlen, c2, c1]) fun i hi => ?_
          have := hrd i hi
          have hi2 : i < xs.length := by omega
          rw [List.getElem?_eq_getElem hi2, ← c1] at this
          exact okLeaves_of d e l m _ _ hl this
        · cases h
      · cases h
    · rename_i fs hu
      split at h
      · rename_i l hl
        split at h
        · rename_i hc
          simp only [Option.some.injEq] at h
          subst h
          obtain ⟨xs, m, _, _, hlen, hxl, hrd⟩ := DataW.trod_struct hu ht
          refine okLeaves_fs (fun t' ks' cs' x' h1 h2 => okLeaves_of d t' ks' m cs' x' h1 h2) fs.toList 0 l cs hl (by rw [hlen, hc]) fun i f hi => ?_
          have hi' : fs[i]? = some f := by simpa using hi
          have hi2 : i < xs.length := by
            have := (Array.getElem?_eq_some_iff.1 hi').1
            omega
          have := hrd i f hi'
          rw [List.getElem?_eq_getElem hi2] at this
          exact ⟨_, by rw [Nat.sub_zero]; exact this⟩
        · cases h
      · cases h
    · cases h
/-- an argument that is a slice of such things -/
structure RowArg (w : World) (ao : Option Addr) (n b off : Nat) (ks : List (Option IntKind)) (E : Nat → Nat → Value) : Prop where
  place : 0 < n → ao = some ⟨b, off, none⟩
  lt : 0 < n → b < w.heap.size
  cell : ∀ i, i < n → ∀ j, j < ks.length → w.cell? ⟨b, off + (i * ks.length + j), none⟩ = some (E i j)
  ok : ∀ i, i < n → ∀ (j : Nat) (k : Option IntKind), ks[j]? = some k → okLeaf k (E i j)
  most : n ≤ 9223372036854775807
theorem RowArg.kept {w w' : World} {ao : Option Addr} {n b off : Nat} {ks : List (Option IntKind)} {E : Nat → Nat → Value} (h : RowArg w ao n b off ks E) (u : Below w.heap.size w w') : RowArg w' ao n b off ks E :=
  ⟨h.place, fun h0 => Nat.lt_of_lt_of_le (h.lt h0) u.size, fun i hi j hj => (u.cell (p := ⟨b, off + (i * ks.length + j), none⟩) (h.lt (by omega))).trans (h.cell i hi j hj), h.ok, h.most⟩
/-- a slice's value is no aggregate -/
theorem okWide_noAgg {r : Reach} {b0 : Nat} {t e : TypeId} {c : Array Value} (ht : P.underlying t = some (.slice e)) (h : Value.okWide P w r b0 t (.agg c)) : False := by
  simp [Value.okWide, Cell.okWide, Cell.ok, ht] at h
theorem open_rows {r : Reach} {b0 : Nat} {t e : TypeId} {v : Value} {dt : DataW H} {p : List MemPlace} (D : Nat) (ks : List (Option IntKind)) (ht : P.underlying t = some (.slice e)) (hf : flat P D e = some ks) (hc : P.cellsOf e = ks.length) (hpos : 0 < ks.length)
    (hw : Value.okWide P w r b0 t v) (h : DataW.Trod enc P w base spare held t v dt p) :
    ∃ (ao : Option Addr) (n cap b off : Nat) (E : Nat → Nat → Value), v = .slice ao n cap ∧ RowArg w ao n b off ks E := by
  obtain ⟨fuel, hfu⟩ := h
  rcases Deep.open_slice ht hfu with ⟨h1, _⟩ | ⟨a, len, cap, m, n, DD, Pl, h1, _, hl, hm, hmm, _, hi⟩
  · have hv : v = .slice none 0 0 := by
      cases v
      case agg c => exact (okWide_noAgg ht hw).elim
      all_goals (simp [Value.cells] at h1; try simp [h1])
    exact ⟨none, 0, 0, 0, 0, fun _ _ => .bool false, hv, ⟨fun h => absurd h (by omega), fun h => absurd h (by omega), fun i hi => absurd hi (by omega), fun i hi => absurd hi (by omega), by omega⟩⟩
  · have hv : v = .slice (some a) len cap := by
      cases v
      case agg c => exact (okWide_noAgg ht hw).elim
      all_goals (simp [Value.cells] at h1; try simp [h1])
    have hle : len ≤ m := by rw [hmm]; split <;> omega
    obtain ⟨E, hE⟩ := Deep.choose_lt (n := len) (p := fun i (f : Nat → Value) => ∀ j, j < ks.length → w.cell? (a.add (i * ks.length + j)) = some (f j) ∧ ∀ k, ks[j]? = some k → okLeaf k (f j)) (fun i hil => by
      obtain ⟨cs', hc', ht'⟩ := hi i (by omega)
      rw [hc] at hc'
      obtain ⟨_, hcl, hat⟩ := World.cells?_some hc'
      have ok := okLeaves_of D e ks n cs' _ hf ht'
      refine ⟨fun j => cs'.getD j (.bool false), fun j hj => ?_⟩
      have hjl : j < cs'.length := by rw [ok.1]; exact hj
      have hv : cs'[j]? = some (cs'.getD j (.bool false)) := by simp [List.getElem?_eq_getElem hjl]
      refine ⟨?_, fun k hk => ok.2 j k _ hk hv⟩
      rw [← Deep.add_add, hat j hj, hv])
    have hspot : 0 < len → a = ⟨a.block, a.off, none⟩ := fun h0 => by
      have := (hE 0 h0 0 hpos).1
      rw [Nat.zero_mul, Nat.add_zero] at this
      obtain ⟨ab, aoff, asp⟩ := a
      cases asp with
      | none => rfl
      | some s =>
        simp only [Addr.add, if_true, World.cell?] at this
        split at this <;> simp at this
    refine ⟨some a, len, cap, a.block, a.off, E, hv, ⟨fun h0 => by rw [← hspot h0], fun h0 => ?_, fun i hil j hj => ?_, fun i hil j k hk => ?_, by unfold maxLen at hm; omega⟩⟩
    · have := (hE 0 h0 0 hpos).1
      rw [Nat.zero_mul, Nat.add_zero] at this
      have hb := World.block_lt_of_cell? w _ this
      simpa [Addr.add] using hb
    · have := (hE i hil j hj).1
      rw [hspot (by omega), Addr.add_mid] at this
      exact this
    · have hj : j < ks.length := (List.getElem?_eq_some_iff.1 hk).1
      exact (hE i hil j hj).2 k hk
/-- a struct of such things by value: its cells -/
theorem open_flat {r : Reach} {b0 : Nat} {t : TypeId} {fs : Array Field} {v : Value} {dt : DataW H} {p : List MemPlace} (D : Nat) (ks : List (Option IntKind)) (ht : P.underlying t = some (.struct fs)) (hf : flat P D t = some ks)
    (hw : Value.okWide P w r b0 t v) (h : DataW.Trod enc P w base spare held t v dt p) : ∃ cs : List Value, v = .agg cs.toArray ∧ okLeaves ks cs := by
  obtain ⟨fuel, hfu⟩ := h
  simp only [Value.okWide, ht] at hw
  obtain ⟨cs, rfl, _⟩ := hw
  exact ⟨cs.toList, by simp, okLeaves_of D t ks fuel _ _ hf hfu⟩
theorem cells2 {cs : List Value} (h : cs.length = 2) : ∃ a b, cs = [a, b] := by
  match cs, h with
  | [a, b], _ => exact ⟨a, b, rfl⟩
theorem cells3 {cs : List Value} (h : cs.length = 3) : ∃ a b c, cs = [a, b, c] := by
  match cs, h with
  | [a, b, c], _ => exact ⟨a, b, c, rfl⟩
theorem cells4 {cs : List Value} (h : cs.length = 4) : ∃ a b c d, cs = [a, b, c, d] := by
  match cs, h with
  | [a, b, c, d], _ => exact ⟨a, b, c, d, rfl⟩
theorem cells5 {cs : List Value} (h : cs.length = 5) : ∃ a b c d e, cs = [a, b, c, d, e] := by
  match cs, h with
  | [a, b, c, d, e], _ => exact ⟨a, b, c, d, e, rfl⟩
theorem cells6 {cs : List Value} (h : cs.length = 6) : ∃ c0 c1 c2 c3 c4 c5, cs = [c0, c1, c2, c3, c4, c5] := by
  match cs, h with
  | [c0, c1, c2, c3, c4, c5], _ => exact ⟨c0, c1, c2, c3, c4, c5, rfl⟩
theorem cells7 {cs : List Value} (h : cs.length = 7) : ∃ c0 c1 c2 c3 c4 c5 c6, cs = [c0, c1, c2, c3, c4, c5, c6] := by
  match cs, h with
  | [c0, c1, c2, c3, c4, c5, c6], _ => exact ⟨c0, c1, c2, c3, c4, c5, c6, rfl⟩
theorem cells8 {cs : List Value} (h : cs.length = 8) : ∃ c0 c1 c2 c3 c4 c5 c6 c7, cs = [c0, c1, c2, c3, c4, c5, c6, c7] := by
  match cs, h with
  | [c0, c1, c2, c3, c4, c5, c6, c7], _ => exact ⟨c0, c1, c2, c3, c4, c5, c6, c7, rfl⟩
theorem cells9 {cs : List Value} (h : cs.length = 9) : ∃ c0 c1 c2 c3 c4 c5 c6 c7 c8, cs = [c0, c1, c2, c3, c4, c5, c6, c7, c8] := by
  match cs, h with
  | [c0, c1, c2, c3, c4, c5, c6, c7, c8], _ => exact ⟨c0, c1, c2, c3, c4, c5, c6, c7, c8, rfl⟩
theorem cells10 {cs : List Value} (h : cs.length = 10) : ∃ c0 c1 c2 c3 c4 c5 c6 c7 c8 c9, cs = [c0, c1, c2, c3, c4, c5, c6, c7, c8, c9] := by
  match cs, h with
  | [c0, c1, c2, c3, c4, c5, c6, c7, c8, c9], _ => exact ⟨c0, c1, c2, c3, c4, c5, c6, c7, c8, c9, rfl⟩
theorem cells11 {cs : List Value} (h : cs.length = 11) : ∃ c0 c1 c2 c3 c4 c5 c6 c7 c8 c9 c10, cs = [c0, c1, c2, c3, c4, c5, c6, c7, c8, c9, c10] := by
  match cs, h with
  | [c0, c1, c2, c3, c4, c5, c6, c7, c8, c9, c10], _ => exact ⟨c0, c1, c2, c3, c4, c5, c6, c7, c8, c9, c10, rfl⟩
theorem cells12 {cs : List Value} (h : cs.length = 12) : ∃ c0 c1 c2 c3 c4 c5 c6 c7 c8 c9 c10 c11, cs = [c0, c1, c2, c3, c4, c5, c6, c7, c8, c9, c10, c11] := by
  match cs, h with
  | [c0, c1, c2, c3, c4, c5, c6, c7, c8, c9, c10, c11], _ => exact ⟨c0, c1, c2, c3, c4, c5, c6, c7, c8, c9, c10, c11, rfl⟩
theorem len2 {zs : List Int} (h : zs.length = 2) : ∃ a b, zs = [a, b] := by
  match zs, h with
  | [a, b], _ => exact ⟨a, b, rfl⟩
theorem len3 {zs : List Int} (h : zs.length = 3) : ∃ a b c, zs = [a, b, c] := by
  match zs, h with
  | [a, b, c], _ => exact ⟨a, b, c, rfl⟩
theorem len4 {zs : List Int} (h : zs.length = 4) : ∃ a b c d, zs = [a, b, c, d] := by
  match zs, h with
  | [a, b, c, d], _ => exact ⟨a, b, c, d, rfl⟩
end Go.Proofs.Ytjkomkcjoooiiaa.Fr

/-
  The laws' awake over package tlb; the rows of Op.
-/
namespace Go.Proofs.Ytjkomkcjoooiiaa
open Go.ChangeShapes Go.WideShapes Go.ChangeAt Go.RowKit Go.Shelf

set_option maxHeartbeats 1000000 in
theorem awake_any (w : World) : Calls Try.prog 7 #[] w fun e w' => e = .returned (.bool true) ∧ Upd (fun _ => False) w w' := by
  have f1 : (buf0.put ⟨1, 2, 3, false⟩ 0).find 1 2 = some ⟨1, 2, 3, false⟩ := by decide
  have f2 : (buf0.put ⟨1, 2, 3, false⟩ 0).find 2 2 = none := by decide
  have f3 : (buf0.put ⟨1, 2, 3, false⟩ 0).many 1 8 = 1 := by decide
  have f4 : ((buf0.put ⟨1, 2, 3, false⟩ 0).flush 1).lines = [] := by decide
  have f5 : putOk ⟨1, 2, 3, false⟩ 0 = true := by decide
  have hOk := buf0_ok.put ⟨1, 2, 3, false⟩ 0
  have c1 := Lib.hid (fun A W hA => tput_any A buf0 buf0_ok 1 2 3 false 0 W hA)
  rw [f5] at c1
  have hbx := Lib.hid (fun W a p f r => ln_box W a p f r)
  generalize buf0.put ⟨1, 2, 3, false⟩ 0 = B1 at f1 f2 f3 f4 c1 hOk
  have c2 := Lib.hid (fun A W hA => tfind_any A B1 hOk 1 2 W hA)
  have c3 := Lib.hid (fun A W hA => tfind_any A B1 hOk 2 2 W hA)
  have c4 := Lib.hid (fun A W hA => tflush_any A B1 hOk 1 W hA)
  have c5 := Lib.hid (fun A W hA => tlines_any A (B1.flush 1) (hOk.flush 1) W hA)
  rw [f1] at c2
  rw [f2] at c3
  rw [f3] at c4
  rw [f4] at c5
  clear f1 f2 f3 f4 f5 hOk
  generalize B1.flush 1 = B2 at c4 c5
  go_enter Try.func7, Try.ntmps7
  go_wp2_with fail
  refine (tnew_any _).mono ?_
  rintro e w1 ⟨A, rfl, hAs, hA, u1⟩
  go_wp2_with fail
  refine (c1.out A _ hA).mono ?_
  rintro e w2 ⟨rfl, hA2, u2⟩
  have U2 : Hid (Upd (· = A) w w2) := Lib.hid (u1.sub.trans u2)
  clear u1 u2 hA c1
  go_wp2_with fail
  refine (c2.out A _ hA2).mono ?_
  rintro e w3 ⟨rfl, u3⟩
  have hA3 := hA2.kept u3 id
  have U3 : Hid (Upd (· = A) w w3) := Lib.hid (U2.out.trans u3.sub)
  obtain ⟨b1, b2, b3⟩ := hbx.out w3 1 2 3 false
  clear u3 hA2 U2 c2
  go_upto_region 6 with (first
    | (with_reducible refine wpList_store_sz rfl 28 (.tmp 3) (.tmp 16) rfl w3.heap.size 0 #[.int .i64 1, .int .i64 2, .int .i64 3, .bool false] rfl rfl 4 (ln_sz _ _ _ _) b3 size_ln (ln_one _ _ _ _) [.int .i64 1, .int .i64 2, .int .i64 3, .bool false] (ln_ls _ _ _ _) ?_))
  have hA4 := hA3.kept b2 id
  have U4 : Hid (Upd (· = A) w _) := Lib.hid (U3.out.trans b2.sub)
  clear b2 b3 U3 hA3
  generalize (w3.alloc (.cells #[.int .i64 0, .int .i64 0, .int .i64 0, .bool false] 28)).setCells w3.heap.size 0 [.int .i64 1, .int .i64 2, .int .i64 3, .bool false] = w4 at b1 hA4 U4 ⊢
  generalize w3.heap.size = C at b1 ⊢
  go_wp2_with fail
  refine (c3.out A _ hA4).mono ?_
  rintro e w5 ⟨rfl, u5⟩
  have hA5 := hA4.kept u5 id
  have U5 : Hid (Upd (· = A) w w5) := Lib.hid (U4.out.trans u5.sub)
  have b5 := b1.kept u5 id
  obtain ⟨d1, d2, d3⟩ := hbx.out w5 0 0 0 false
  clear u5 hA4 U4 b1 c3
  go_upto_region 7 with (first
    | (with_reducible refine wpList_store_sz rfl 28 (.tmp 5) (.tmp 21) rfl w5.heap.size 0 #[.int .i64 0, .int .i64 0, .int .i64 0, .bool false] rfl rfl 4 (ln_sz _ _ _ _) d3 size_ln (ln_one _ _ _ _) [.int .i64 0, .int .i64 0, .int .i64 0, .bool false] (ln_ls _ _ _ _) ?_))
  have hA6 := hA5.kept d2 id
  have U6 : Hid (Upd (· = A) w _) := Lib.hid (U5.out.trans d2.sub)
  have b6 := (b5.kept d2 id).range 2 _ rfl
  clear d1 d2 d3 U5 hA5 b5
  generalize (w5.alloc (.cells #[.int .i64 0, .int .i64 0, .int .i64 0, .bool false] 28)).setCells w5.heap.size 0 [.int .i64 0, .int .i64 0, .int .i64 0, .bool false] = w6 at b6 hA6 U6 ⊢
  go_wp2_with fail
  refine (c4.out A _ hA6).mono ?_
  rintro e w7 ⟨rfl, hA7, u7⟩
  have U7 : Hid (Upd (· = A) w w7) := Lib.hid (U6.out.trans u7)
  clear u7 U6 hA6 b6 c4
  go_wp2_with fail
  refine (c5.out A _ hA7).mono ?_
  rintro e w8 ⟨v, rfl, hrow, u8⟩
  obtain ⟨o, cap, rfl⟩ := row_slice hrow
  go_wp2
  go_ret
  exact ⟨rfl, (U7.out.trans u8.sub).mono fun k hk e => by omega⟩
/-- one step's numbers, where they lie -/
theorem op_cells {w : World} {ao : Option Addr} {n b off : Nat} {E : Nat → Nat → Value} (R : Fr.RowArg w ao n b off [some .i64, some .i64, some .i64, some .i64, some .i64, none] E) (i : Nat) (hi : i < n) :
    ∃ (d x la lp lf : Int) (lw : Bool), w.cell? ⟨b, off + i * 6, none⟩ = some (.int .i64 d) ∧ w.cell? ⟨b, off + i * 6 + 1, none⟩ = some (.int .i64 x) ∧ w.cell? ⟨b, off + i * 6 + 2, none⟩ = some (.int .i64 la) ∧ w.cell? ⟨b, off + i * 6 + 3, none⟩ = some (.int .i64 lp) ∧ w.cell? ⟨b, off + i * 6 + 4, none⟩ = some (.int .i64 lf) ∧ w.cell? ⟨b, off + i * 6 + 5, none⟩ = some (.bool lw) := by
  obtain ⟨d, hd, _⟩ := R.ok i hi 0 _ rfl
  obtain ⟨x, hx, _⟩ := R.ok i hi 1 _ rfl
  obtain ⟨la, ha, _⟩ := R.ok i hi 2 _ rfl
  obtain ⟨lp, hp, _⟩ := R.ok i hi 3 _ rfl
  obtain ⟨lf, hf, _⟩ := R.ok i hi 4 _ rfl
  obtain ⟨lw, hw⟩ := R.ok i hi 5 _ rfl
  exact ⟨d, x, la, lp, lf, lw, by rw [← hd]; exact R.cell i hi 0 (by decide), by rw [← hx]; exact R.cell i hi 1 (by decide), by rw [← ha]; exact R.cell i hi 2 (by decide), by rw [← hp]; exact R.cell i hi 3 (by decide), by rw [← hf]; exact R.cell i hi 4 (by decide), by rw [← hw]; exact R.cell i hi 5 (by decide)⟩
end Go.Proofs.Ytjkomkcjoooiiaa

/-
  Package tlb, in plain numbers: what is left behind a flush.
-/
namespace Go.Proofs.Ytjkomkcjoooiiaa
open Go.ChangeShapes Go.WideShapes Go.ChangeAt Go.RowKit Go.Shelf

theorem Buf.Ok.find_flush {B : Buf} (h : B.Ok) {i : Nat} {l : Ln} (hi : B i = some l) (a : Int) : (B.flush a).find l.a l.p = if l.a = a then none else some l := by
  by_cases c : l.a = a
  · rw [if_pos c]
    cases hf : (B.flush a).find l.a l.p with
    | none => rfl
    | some l' =>
      obtain ⟨j, _, e, e1, _⟩ := Buf.find_some hf
      exact absurd (e1.trans c) (Buf.flush_some.1 e).2
  · rw [if_neg c]
    exact (h.flush a).find_of (Buf.flush_some.2 ⟨hi, c⟩)
theorem filterMap_filter {α β : Type} (f g : α → Option β) (q : β → Bool) (h : ∀ x, g x = (f x).filter q) : ∀ l : List α, l.filterMap g = (l.filterMap f).filter q
  | [] => rfl
  | x :: r => by
    rw [List.filterMap_cons, List.filterMap_cons, filterMap_filter f g q h r, h x]
    cases f x with
    | none => rfl
    | some y => cases hq : q y <;> simp [hq, Option.filter]
theorem Buf.lines_flush (B : Buf) (a : Int) : (B.flush a).lines = B.lines.filter (fun l => !decide (l.a = a)) := by
  unfold Buf.lines Buf.linesTo
  refine filterMap_filter _ _ _ (fun i => ?_) _
  unfold Buf.flush
  cases B i with
  | none => rfl
  | some l => by_cases e : l.a = a <;> simp [e, Option.filter]
theorem filter_len {α β : Type} (f : α → Option β) (q : β → Bool) : ∀ l : List α, (l.filter (fun x => match f x with | some y => q y | none => false)).length = ((l.filterMap f).filter q).length
  | [] => rfl
  | x :: r => by
    have ih := filter_len f q r
    rw [List.filterMap_cons, List.filter_cons]
    cases f x with
    | none => simpa using ih
    | some y => cases hq : q y <;> simp [hq, ih]
theorem Buf.many_lines (B : Buf) (a : Int) : B.many a 8 = (B.lines.filter (fun l => decide (l.a = a))).length := by
  unfold Buf.many Buf.lines Buf.linesTo
  rw [← filter_len B (fun l => decide (l.a = a))]
  congr 2
  funext j
  cases B j <;> rfl
theorem filter_two {α : Type} (q : α → Bool) : ∀ l : List α, (l.filter q).length + (l.filter (fun x => !q x)).length = l.length
  | [] => rfl
  | x :: r => by
    have ih := filter_two q r
    cases hq : q x <;> simp [hq] <;> omega
theorem Buf.many_flush (B : Buf) (a : Int) : (B.flush a).many a 8 = 0 := by
  rw [Buf.many_lines, Buf.lines_flush]
  rw [List.length_eq_zero_iff, List.filter_eq_nil_iff]
  intro l hl
  have := (List.mem_filter.1 hl).2
  simpa using this
theorem Buf.lines_le (B : Buf) : B.lines.length ≤ 8 := B.linesTo_len 8
/-- how many of the first k lines are of others -/
def lefts (L : List Ln) (a : Int) (k : Nat) : Nat := ((L.take k).filter (fun l => !decide (l.a = a))).length
theorem lefts_no {L : List Ln} {a : Int} {k : Nat} {l : Ln} (h : L[k]? = some l) (ha : l.a = a) : lefts L a (k + 1) = lefts L a k := by
  unfold lefts
  rw [List.take_add_one, h, List.filter_append]
  simp [ha]
theorem lefts_yes {L : List Ln} {a : Int} {k : Nat} {l : Ln} (h : L[k]? = some l) (ha : ¬ l.a = a) : lefts L a (k + 1) = lefts L a k + 1 := by
  unfold lefts
  rw [List.take_add_one, h, List.filter_append]
  simp [ha]
theorem lefts_le (L : List Ln) (a : Int) (k : Nat) : lefts L a k ≤ k := by
  unfold lefts
  exact Nat.le_trans (List.length_filter_le _ _) (by simp; omega)
theorem Buf.lefts_all (B : Buf) (a : Int) : lefts B.lines a B.lines.length = (B.flush a).lines.length := by
  unfold lefts
  rw [List.take_length, B.lines_flush]
theorem Buf.many_left (B : Buf) (a : Int) : B.many a 8 + (B.flush a).lines.length = B.lines.length := by
  rw [B.many_lines, B.lines_flush]
  exact filter_two _ _
theorem LnAt.eight {w : World} {b : Nat} {x y z : Int} {r : Bool} (h : LnAt w b x y z r) : w.cell? ⟨b, 0, none⟩ = some (.int .i64 x) ∧ w.cell? ⟨b, 1, none⟩ = some (.int .i64 y) ∧ w.cell? ⟨b, 2, none⟩ = some (.int .i64 z) ∧ w.cell? ⟨b, 3, none⟩ = some (.bool r) ∧
    w.frozen? ⟨b, 0, none⟩ = false ∧ w.frozen? ⟨b, 1, none⟩ = false ∧ w.frozen? ⟨b, 2, none⟩ = false ∧ w.frozen? ⟨b, 3, none⟩ = false :=
  ⟨h.range 0 _ rfl, h.range 1 _ rfl, h.range 2 _ rfl, h.range 3 _ rfl, frozen_block h _, frozen_block h _, frozen_block h _, frozen_block h _⟩
/-- the cells of the lines that Lines told -/
theorem lns_row {w : World} {N cap : Nat} {o : Option Addr} {L : List Ln} (h : w.ownsRow N 28 4 (.slice o L.length cap) L.length (lnsC L)) (i : Nat) (l : Ln) (hi : L[i]? = some l) :
    ∃ g, o = some ⟨g, 0, none⟩ ∧ w.rangeAt g (i * 4) [.int .i64 l.a, .int .i64 l.p, .int .i64 l.f, .bool l.w] := by
  have hlt : i < L.length := (List.getElem?_eq_some_iff.1 hi).1
  obtain ⟨g, rfl, hc⟩ := row_at h (by omega)
  refine ⟨g, rfl, fun j v hv => hc _ _ ?_⟩
  have hj : j < 4 := (List.getElem?_eq_some_iff.1 hv).1
  rw [lnsC_at L i l j hi hj]
  exact hv
end Go.Proofs.Ytjkomkcjoooiiaa

/-
  Package-level variables of integers and bools that a row lists: their cells, out of the row's condition. Over any program.
-/
namespace Go.Proofs.Ytjkomkcjoooiiaa.Fr
open Go.ChangeShapes Go.WideShapes Go.ChangeAt Go.RowKit
mutual
/-- the cells of a datum made of integers and bools -/
def datCells : DataW Unit → List Value
  | .lit (.int k z) => [.int k z]
  | .lit (.bool b) => [.bool b]
  | .agg ps => datAll ps
  | _ => []
def datAll : List (DataW Unit) → List Value
  | [] => []
  | d :: r => datCells d ++ datAll r
end
/-- the variable's cells -/
def VarIs (w : World) (g : Nat) (cs : List Value) : Prop := ∀ j v, cs[j]? = some v → w.cell? ⟨g, j, none⟩ = some v
theorem datAll_rows (k : Nat) : ∀ (xs : List (DataW Unit × List MemPlace)) (cs : List Value), cs.length = xs.length * k → (∀ i (h : i < xs.length), (cs.drop (i * k)).take k = datCells (xs[i]).1) → cs = datAll (xs.map (·.1))
  | [], cs, hl, _ => by
    have : cs = [] := List.eq_nil_of_length_eq_zero (by simpa using hl)
    subst this
    rfl
  | x :: xs, cs, hl, h => by
    have hl' : cs.length = xs.length * k + k := by rw [hl, List.length_cons, Nat.succ_mul]
    have h0 := h 0 (by simp)
    rw [Nat.zero_mul, List.drop_zero] at h0
    rw [← List.take_append_drop k cs, h0]
    simp only [List.map_cons, datAll, List.getElem_cons_zero]
    congr 1
    refine datAll_rows k xs _ (by rw [List.length_drop]; omega) fun i hi => ?_
    have := h (i + 1) (by simpa using hi)
    rw [Nat.succ_mul] at this
    simpa [List.drop_drop, Nat.add_comm] using this
theorem datAll_fs {P : Program} {g : TypeId → Option (List (Option IntKind))} : ∀ (fs : List Field) (o : Nat) (ks : List (Option IntKind)) (cs : List Value) (xs : List (DataW Unit × List MemPlace)), flatFs P g fs o = some ks → cs.length = ks.length → xs.length = fs.length →
      (∀ (i : Nat) (f : Field) (x : DataW Unit × List MemPlace), fs[i]? = some f → xs[i]? = some x → (cs.drop (f.offset - o)).take (P.cellsOf f.type) = datCells x.1) → cs = datAll (xs.map (·.1))
  | [], o, ks, cs, xs, hk, hl, hx, _ => by
    simp only [flatFs, Option.some.injEq] at hk
    subst hk
    have e1 : cs = [] := List.eq_nil_of_length_eq_zero (by simpa using hl)
    have e2 : xs = [] := List.eq_nil_of_length_eq_zero (by simpa using hx)
    subst e1 e2
    rfl
  | f :: fs, o, ks, cs, [], hk, hl, hx, h => by simp at hx
  | f :: fs, o, ks, cs, x :: xs, hk, hl, hx, h => by
    simp only [flatFs] at hk
    split at hk
    · rename_i l r hgl hr
      split at hk
      · rename_i hc
        obtain ⟨ho, hll⟩ := hc
        simp only [Option.some.injEq] at hk
        subst hk
        rw [List.length_append] at hl
        have h0 := h 0 f x rfl rfl
        rw [ho, Nat.sub_self, List.drop_zero] at h0
        rw [← List.take_append_drop (P.cellsOf f.type) cs, h0]
        simp only [List.map_cons, datAll]
        congr 1
        refine datAll_fs fs _ r _ xs hr (by rw [List.length_drop]; omega) (by simpa using hx) fun i f' x' hi hi' => ?_
        have hy := h (i + 1) f' x' hi hi'
        have hge : o + P.cellsOf f.type ≤ f'.offset := flatFs_ge hr i f' hi
        rw [List.drop_drop, show P.cellsOf f.type + (f'.offset - (o + P.cellsOf f.type)) = f'.offset - o from by omega]
        exact hy
      · cases hk
    · cases hk
theorem cells_flat {P : Program} {w : World} {base : Nat} {spare : Nat → Bool} {held : Bool} : ∀ (d : Nat) (t : TypeId) (ks : List (Option IntKind)) (fuel : Nat) (cs : List Value) (x : DataW Unit × List MemPlace),
    flat P d t = some ks → DataW.trod (fun _ => ()) P w base spare held fuel t cs = some x → cs = datCells x.1
  | 0, _, _, _, _, _, h, _ => by simp [flat] at h
  | d + 1, t, ks, fuel, cs, x, h, ht => by
    have hlen0 := (okLeaves_of (d + 1) t ks fuel cs x h ht).1
    unfold flat at h
    split at h
    · rename_i k hu
      obtain ⟨z, rfl, rfl, hw⟩ := DataW.trod_int hu ht
      rfl
    · rename_i hu
      obtain ⟨b, rfl, rfl⟩ := DataW.trod_bool hu ht
      rfl
    · rename_i n e hu
      split at h
      · rename_i l hl
        split at h
        · rename_i hc
          obtain ⟨c1, c2⟩ := hc
          obtain ⟨xs, m, _, rfl, hlen, hxl, hrd⟩ := DataW.trod_array hu ht
          show cs = datAll (xs.map (·.1))
          refine datAll_rows (P.cellsOf e) xs cs (by rw [hlen, c2, hxl]) fun i hi => ?_
          have := hrd i (by omega)
          rw [List.getElem?_eq_getElem hi] at this
          exact cells_flat d e l m _ _ hl this
        · cases h
      · cases h
    · rename_i fs hu
      split at h
      · rename_i l hl
        split at h
        · rename_i hc
          simp only [Option.some.injEq] at h
          subst h
          obtain ⟨xs, m, _, rfl, hlen, hxl, hrd⟩ := DataW.trod_struct hu ht
          show cs = datAll (xs.map (·.1))
          refine datAll_fs fs.toList 0 l cs xs hl hlen0 (by rw [hxl]; simp) fun i f x hi hx => ?_
          have hi' : fs[i]? = some f := by simpa using hi
          have := hrd i f hi'
          rw [hx] at this
          rw [Nat.sub_zero]
          have hfl : ∃ l', flat P d f.type = some l' := by
            clear this hi' hx hrd hlen hxl hlen0 ht
            revert i hi
            generalize (0 : Nat) = o at hl
            generalize fs.toList = F at hl
            clear hc
            induction F generalizing o l with
            | nil => intro i hi; simp at hi
            | cons a r ih =>
              intro i hi
              simp only [flatFs] at hl
              split at hl
              · rename_i l1 r1 h1 h2
                cases i with
                | zero => simp only [List.getElem?_cons_zero, Option.some.injEq] at hi; subst hi; exact ⟨_, h1⟩
                | succ i => exact ih _ _ h2 i hi
              · cases hl
          obtain ⟨l', hl'⟩ := hfl
          exact cells_flat d f.type l' m _ _ hl' this
        · cases h
      · cases h
    · cases h
/-- a listed variable's cells -/
theorem varIs_of_vars {P : Program} {w : World} (D : Nat) : ∀ (l : List (String × DataW Unit)) (ps : List MemPlace), DataW.LaidVars P w l ps → ∀ (n : String) (d : DataW Unit), (n, d) ∈ l → ∀ (g : Nat) (t : TypeId) (ks : List (Option IntKind)),
    P.globalNamed n = some g → (P.globals[g]?).map (·.type) = some t → flat P D t = some ks → VarIs w g (datCells d)
  | [], _, _, n, d, hm, _, _, _, _, _, _ => by cases hm
  | (n0, d0) :: r, ps, h, n, d, hm, g, t, ks, hg, ht, hf => by
    obtain ⟨g0, t0, cs, fuel, p, q, hg0, ht0, hv, hd, hr, _⟩ := h
    rcases List.mem_cons.1 hm with e | hm'
    · cases e
      obtain rfl := Option.some.inj (hg.symm.trans hg0)
      obtain rfl := Option.some.inj (ht.symm.trans ht0)
      have e := cells_flat D t ks fuel cs.toList _ hf hd
      intro j v hj
      rw [World.var?_cell hg0 hv j, ← hj, ← e]
      simp
    · exact varIs_of_vars D r q hr n d hm' g t ks hg ht hf
theorem varIs_of_laid {P : Program} {w : World} {l : List (String × DataW Unit)} (D : Nat) (h : laidMet P l w) (n : String) (d : DataW Unit) (hm : (n, d) ∈ l) {g : Nat} {t : TypeId} {ks : List (Option IntKind)}
    (hg : P.globalNamed n = some g) (ht : (P.globals[g]?).map (·.type) = some t) (hf : flat P D t = some ks) : VarIs w g (datCells d) := by
  obtain ⟨ps, hl, _⟩ := h
  exact varIs_of_vars D l ps hl n d hm g t ks hg ht hf
end Go.Proofs.Ytjkomkcjoooiiaa.Fr

/-
  Package tlb, in plain numbers: nine lines of their own, put one by one.
-/
namespace Go.Proofs.Ytjkomkcjoooiiaa
open Go.ChangeShapes Go.WideShapes Go.ChangeAt Go.RowKit Go.Shelf

theorem Fr.len9 {zs : List Int} (h : zs.length = 9) : ∃ a0 a1 a2 a3 a4 a5 a6 a7 a8, zs = [a0, a1, a2, a3, a4, a5, a6, a7, a8] := by
  match zs, h with
  | [a0, a1, a2, a3, a4, a5, a6, a7, a8], _ => exact ⟨a0, a1, a2, a3, a4, a5, a6, a7, a8, rfl⟩
theorem tl_and7 (n : Int) : bits .and .i64 n 7 = n % 8 := by
  have h : (BitVec.ofInt 64 7).toNat = 2 ^ 3 - 1 := by decide
  have key : (BitVec.ofInt 64 n &&& BitVec.ofInt 64 7).toNat = (n % ((2 ^ 64 : Nat) : Int)).toNat % 2 ^ 3 := by
    rw [BitVec.toNat_and, BitVec.toNat_ofInt, h, Nat.and_two_pow_sub_one_eq_mod]
  show IntKind.i64.wrap ((BitVec.ofInt 64 n &&& BitVec.ofInt 64 7).toNat : Nat) = n % 8
  rw [key, IntKind.wrap_i64]
  omega
/-- the line of number k -/
def lnK (f : Int) (k : Nat) : Ln := ⟨1 + (k : Int) % 3, f + k, k, false⟩
def fillB (f : Int) (k : Nat) : Buf := fun j => if j < k then some (lnK f j) else none
theorem fill_some {f : Int} {k j : Nat} {l : Ln} (h : fillB f k j = some l) : j < k ∧ l = lnK f j := by
  unfold fillB at h
  split at h
  · exact ⟨by assumption, (Option.some.inj h).symm⟩
  · cases h
theorem fill_ok {f : Int} (h0 : 0 ≤ f) (h1 : f ≤ 4000) {k : Nat} (hk : k ≤ 8) : (fillB f k).Ok := by
  refine ⟨fun i j l l' hi hj ea ep => ?_, fun i l hi => ?_, fun i l hi => ?_⟩
  · obtain ⟨_, rfl⟩ := fill_some hi
    obtain ⟨_, rfl⟩ := fill_some hj
    have : f + (i : Int) = f + (j : Int) := ep
    omega
  · obtain ⟨h, rfl⟩ := fill_some hi; omega
  · obtain ⟨h, rfl⟩ := fill_some hi
    show 1 ≤ 1 + (i : Int) % 3 ∧ 1 + (i : Int) % 3 ≤ 8 ∧ 0 ≤ f + (i : Int) ∧ f + (i : Int) ≤ 4095 ∧ 0 ≤ (i : Int) ∧ (i : Int) ≤ 255
    omega
theorem fill_at {f : Int} {k : Nat} : (fillB f k).at (lnK f k).a (lnK f k).p = 8 := by
  refine first_all fun j hj => ?_
  cases h : (fillB f k).hit (lnK f k).a (lnK f k).p j
  · rfl
  · obtain ⟨l, e, _, e2⟩ := Buf.hit_iff.1 h
    obtain ⟨hl, rfl⟩ := fill_some e
    have : f + (j : Int) = f + (k : Int) := e2
    omega
theorem fill_gap {f : Int} {k : Nat} (hk : k < 8) : (fillB f k).gap = k := by
  refine first_of hk ?_ fun j hj => ?_
  · show (fillB f k k).isNone = true
    unfold fillB; rw [if_neg (by omega)]; rfl
  · show (fillB f k j).isNone = false
    unfold fillB; rw [if_pos hj]; rfl
theorem fill_gap8 {f : Int} : (fillB f 8).gap = 8 := by
  refine first_all fun j hj => ?_
  show (fillB f 8 j).isNone = false
  unfold fillB; rw [if_pos hj]; rfl
theorem put_okK {f : Int} (h0 : 0 ≤ f) (h1 : f ≤ 4000) {k : Nat} (hk : k ≤ 8) {x : Int} (x0 : 0 ≤ x) (x1 : x < 8) : putOk (lnK f k) x = true := by
  refine decide_eq_true ?_
  show 1 ≤ 1 + (k : Int) % 3 ∧ 1 + (k : Int) % 3 ≤ 8 ∧ 0 ≤ f + (k : Int) ∧ f + (k : Int) ≤ 4095 ∧ 0 ≤ (k : Int) ∧ (k : Int) ≤ 255 ∧ 0 ≤ x ∧ x ≤ 7
  omega
/-- what lies there behind k lines -/
def seqB (f : Int) (x : Nat) (k : Nat) : Buf := if k ≤ 8 then fillB f k else (fillB f 8).set x (some (lnK f 8))
theorem seqB_zero (f : Int) (x : Nat) : seqB f x 0 = buf0 := by
  unfold seqB; rw [if_pos (by omega)]
  funext j; unfold fillB; rw [if_neg (by omega)]; rfl
theorem seqB_put {f : Int} (h0 : 0 ≤ f) (h1 : f ≤ 4000) {x : Nat} {k : Nat} (hk : k < 9) {y : Int} (y0 : 0 ≤ y) (y1 : y < 8) (hy : k = 8 → y = x) : (seqB f x k).put (lnK f k) y = seqB f x (k + 1) := by
  unfold Buf.put
  rw [if_pos (put_okK h0 h1 (by omega) y0 y1)]
  unfold Buf.place seqB
  rw [if_pos (by omega : k ≤ 8), fill_at, if_neg (by omega)]
  by_cases e : k < 8
  · rw [fill_gap e, if_pos e, if_pos (by omega)]
    funext j
    unfold Buf.set fillB
    by_cases c : j = k
    · rw [if_pos c, if_pos (by omega), c]
    · rw [if_neg c]
      by_cases c2 : j < k
      · rw [if_pos c2, if_pos (by omega)]
      · rw [if_neg c2, if_neg (by omega)]
  · obtain rfl : k = 8 := by omega
    rw [fill_gap8, if_neg (by omega), if_neg (by omega), hy rfl]
    simp
theorem seqB_ok {f : Int} (h0 : 0 ≤ f) (h1 : f ≤ 4000) {x : Nat} (hx : x < 8) : ∀ {k : Nat}, k ≤ 9 → (seqB f x k).Ok
  | 0, _ => by rw [seqB_zero]; exact buf0_ok
  | k + 1, h => by
    have := seqB_put (f := f) h0 h1 (x := x) (k := k) (by omega) (y := (x : Int)) (by omega) (by omega) (fun _ => rfl)
    rw [← this]
    exact (seqB_ok h0 h1 hx (by omega)).put _ _
theorem linesTo_full {B : Buf} : ∀ {k : Nat}, (∀ j, j < k → (B j).isSome = true) → B.linesTo k = (List.range k).map B.ln
  | 0, _ => rfl
  | k + 1, h => by
    rw [Buf.linesTo_succ, linesTo_full fun j hj => h j (by omega), List.range_succ, List.map_append]
    congr 1
    have := h k (by omega)
    unfold Buf.ln
    cases hk : B k with
    | none => rw [hk] at this; cases this
    | some l => simp [lnOf, hk]
theorem linesTo_rest {B : Buf} {k : Nat} (h : ∀ j, k ≤ j → B j = none) : ∀ d, B.linesTo (k + d) = B.linesTo k
  | 0 => rfl
  | d + 1 => by rw [← Nat.add_assoc, Buf.linesTo_succ, linesTo_rest h d, h _ (by omega)]; simp
theorem seqB_len {f : Int} {x : Nat} {k : Nat} (hk : k ≤ 9) : (seqB f x k).lines.length = min k 8 := by
  unfold seqB
  by_cases e : k ≤ 8
  · rw [if_pos e]
    have := linesTo_rest (B := fillB f k) (k := k) (fun j hj => by unfold fillB; rw [if_neg (by omega)]) (8 - k)
    rw [show k + (8 - k) = 8 from by omega] at this
    unfold Buf.lines
    rw [this, linesTo_full (fun j hj => by unfold fillB; rw [if_pos hj]; rfl)]
    simp; omega
  · rw [if_neg e]
    unfold Buf.lines
    rw [linesTo_full (fun j hj => by unfold Buf.set; split; rfl; unfold fillB; rw [if_pos hj]; rfl)]
    simp; omega
theorem seqB_line {f : Int} {x : Nat} (hx : x < 8) : (seqB f x 9).lines[x]? = some (lnK f 8) := by
  unfold seqB
  rw [if_neg (by omega)]
  unfold Buf.lines
  rw [linesTo_full (fun j hj => by unfold Buf.set; split; rfl; unfold fillB; rw [if_pos hj]; rfl), List.getElem?_map, List.getElem?_range hx]
  simp [Buf.ln, Buf.set, lnOf]
theorem seqB_find {f : Int} (h0 : 0 ≤ f) (h1 : f ≤ 4000) {x : Nat} (hx : x < 8) {i : Nat} (hi : i < 8) : (seqB f x 9).find (lnK f i).a (lnK f i).p = if i = x then none else some (lnK f i) := by
  have hok := seqB_ok h0 h1 hx (k := 9) (by omega)
  by_cases e : i = x
  · rw [if_pos e]
    cases hf : (seqB f x 9).find (lnK f i).a (lnK f i).p with
    | none => rfl
    | some l =>
      obtain ⟨j, hj, hl, _, e2⟩ := Buf.find_some hf
      exfalso
      unfold seqB at hl
      rw [if_neg (by omega)] at hl
      unfold Buf.set at hl
      split at hl
      · obtain rfl := Option.some.inj hl
        have : f + ((8 : Nat) : Int) = f + (i : Int) := e2
        omega
      · obtain ⟨_, rfl⟩ := fill_some hl
        have : f + (j : Int) = f + (i : Int) := e2
        omega
  · rw [if_neg e]
    refine hok.find_of (i := i) ?_
    unfold seqB
    rw [if_neg (by omega)]
    unfold Buf.set fillB
    rw [if_neg e, if_pos hi]
theorem seqB_find8 {f : Int} (h0 : 0 ≤ f) (h1 : f ≤ 4000) {x : Nat} (hx : x < 8) : (seqB f x 9).find (lnK f 8).a (lnK f 8).p = some (lnK f 8) := by
  refine (seqB_ok h0 h1 hx (k := 9) (by omega)).find_of (i := x) ?_
  unfold seqB
  rw [if_neg (by omega)]
  unfold Buf.set
  rw [if_pos rfl]
end Go.Proofs.Ytjkomkcjoooiiaa
