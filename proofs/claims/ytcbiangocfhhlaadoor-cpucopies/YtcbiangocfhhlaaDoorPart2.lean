/-
  Texts that the laws stand on, joined: CpC, CpE, CpW, CpB, CpD, CpP, LaidS, IsL, BitsM, BitsA, BitsK, BitsB, BitsC, BitsD.
-/
import Derived.Deep.AppendLies
import Derived.Deep.AppendSrc
import Derived.FnData
import Derived.IntWalk
import Derived.LaidHandle
import Derived.LaidLaws
import Derived.Laws.BitsAllLaws
import Derived.Lib.AppendIntMem
import Derived.Lib.AtoiErrMem
import Derived.Lib.AtoiTie
import Derived.Shelf.Strconv.AtoiAll
import Derived.Shelf.Strconv.Itoa3
import Derived.Shelf.Strings.Prefix
import Derived.Shelf.Strings.Search1
import Derived.Shelf.Strings.Search2
import Derived.Test.YtcbiangocfhhlaaDoorPart1

/-
  The laws' flat words: Load, Store.
-/
namespace Go.Proofs.YtcbiangocfhhlaaDoor
open Go.ChangeShapes Go.WideShapes Go.ChangeAt Go.RowKit

def i64s' (l : List Int) : List Value := ints .i64 l
/-- the laws' words in memory: their row is v's, that of the addresses that were loaded is vl's -/
structure FlAt (w : World) (base B : Nat) (v vl : Value) (m : Fl) (lds : List Int) : Prop where
  at_ : w.heap[B]? = some (.cells #[v, .int .i64 m.first, vl] 41 (0, 0))
  row : w.ownsRow base 22 1 v m.W.length (ints .u64 m.W)
  lds : w.ownsRow base 3 1 vl lds.length (ints .i64 lds)
theorem FlAt.kept {S : Nat → Prop} {w w' : World} {base B : Nat} {v vl : Value} {m : Fl} {l : List Int} (h : FlAt w base B v vl m l) (u : Upd S w w') (hs : ¬ S B) (hv : ∀ j, v.ownBlock = some j → ¬ S j) (hvl : ∀ j, vl.ownBlock = some j → ¬ S j) : FlAt w' base B v vl m l := ⟨u.at h.at_ hs, rows_kept h.row u hv, rows_kept h.lds u hvl⟩
theorem FlAt.ne {w : World} {base B : Nat} {v vl : Value} {m : Fl} {l : List Int} (h : FlAt w base B v vl m l) (g : Nat) (hg : v.ownBlock = some g) : B ≠ g := by
  rintro rfl
  obtain ⟨cs, hh⟩ := row_ty h.row hg
  rw [h.at_] at hh
  injection hh with hh
  injection hh with _ h2 _
  exact absurd h2 (by decide)
theorem FlAt.nel {w : World} {base B : Nat} {v vl : Value} {m : Fl} {l : List Int} (h : FlAt w base B v vl m l) (g : Nat) (hg : vl.ownBlock = some g) : B ≠ g := by
  rintro rfl
  obtain ⟨cs, hh⟩ := row_ty h.lds hg
  rw [h.at_] at hh
  injection hh with hh
  injection hh with _ h2 _
  exact absurd h2 (by decide)
theorem FlAt.apart {w : World} {base B : Nat} {v vl : Value} {m : Fl} {l : List Int} (h : FlAt w base B v vl m l) (g : Nat) (hg : v.ownBlock = some g) : vl.ownBlock ≠ some g := by
  intro hl
  obtain ⟨cs, hh⟩ := row_ty h.row hg
  obtain ⟨cs', hh'⟩ := row_ty h.lds hl
  rw [hh] at hh'
  injection hh' with hh'
  injection hh' with _ h2 _
  exact absurd h2 (by decide)
/-- what a load or a store may touch -/
def FlS (B : Nat) (v vl : Value) (k : Nat) : Prop := k = B ∨ v.ownBlock = some k ∨ vl.ownBlock = some k
set_option maxHeartbeats 4000000 in
theorem fload_any (base B : Nat) (v vl : Value) (m : Fl) (l : List Int) (a : Int) (w : World) (hF : FlAt w base B v vl m l) (hl : l.length ≤ 100000) (hbs : base ≤ w.heap.size) :
    Calls Tryd.prog 53 #[.pointer (some ⟨B, 0, none⟩), .int .i64 a] w fun e w' => e = .returned (.tuple #[.int .u64 (m.ld a), .int .i64 (m.ldE a)]) ∧ ∃ vl', FlAt w' base B v vl' m (l ++ [a]) ∧ Upd (fun k => k = B ∨ vl.ownBlock = some k) w w' ∧ ∀ g, vl'.ownBlock = some g → vl.ownBlock = some g ∨ w.heap.size ≤ g := by
  obtain ⟨i0, hi⟩ : ∃ i, Tryd.prog.info? 3 = some i := Option.isSome_iff_exists.1 (by kernel_rfl)
  have hz0 : i0.zero = some (.int .i64 0) := by
    have : (Tryd.prog.info? 3).bind (·.zero) = some (.int .i64 0) := by kernel_rfl
    rw [hi] at this; exact this
  have hz1 : i0.size = 1 := by
    have : (Tryd.prog.info? 3).map (·.size) = some 1 := by kernel_rfl
    rw [hi] at this; exact Option.some.inj this
  have hz2 : i0.bytes = 8 := by
    have : (Tryd.prog.info? 3).map (·.bytes) = some 8 := by kernel_rfl
    rw [hi] at this; exact Option.some.inj this
  obtain ⟨o, cap, rfl⟩ := rows_slice hF.row
  obtain ⟨ol, capl, rfl⟩ := rows_slice hF.lds
  have c0 : w.cell? ⟨B, 0, none⟩ = some (.slice o m.W.length cap) := by rw [cell_of_row _ _ _ _ _ _ hF.at_]; rfl
  have c2 : w.cell? ⟨B, 2, none⟩ = some (.slice ol l.length capl) := by rw [cell_of_row _ _ _ _ _ _ hF.at_]; rfl
  have hBlt := lt_of_heap hF.at_
  have HF := Lib.hid hF
  have Hl := Lib.hid hl
  have HB := Lib.hid hbs
  have hrowl := Lib.hid hF.lds
  have hap := Lib.hid hF.nel
  have hap2 := Lib.hid hF.apart
  have hne1 := Lib.hid hF.ne
  generalize hL : ints .i64 l = xs at hrowl
  replace hL := Lib.hid hL
  generalize hn : l.length = n at hrowl c2 hl ⊢
  replace hn := Lib.hid hn
  have hB4 : Hid (∀ (w4 : World) (ob : Obj), (w.alloc ob).grownBy w4 (Value.slice ol n capl).ownBlock → w4.heap[B]? = some (.cells #[.slice o m.W.length cap, .int .i64 m.first, .slice ol n capl] 41 (0, 0))) := Lib.hid (fun w4 ob hg => by
    rw [hg.block B (by simp; omega) (fun e => hap.out B (by rw [hn.out]; exact e.symm) rfl), Below.heap_alloc _ _ _ hBlt]
    rw [← hn.out]
    exact HF.out.at_)
  clear hF
  go_enter Tryd.func53, Tryd.ntmps53
  go_upto_region 2 with (at_builtin; refine wpList_append_lies _ rfl _ _ 39 rfl base 3 i0 (.int .i64 0) 1 8 Tryd.underlying39 hi hz0 hz1 hz2 rfl (by decide) _ _ _ rfl (hrowl.out.alloc _) ⟨w.heap.size, 0, none⟩ 1 1 [.int .i64 a] rfl rfl (rows_src _ _ _) (by simp [Value.oneCell']) (by omega) (by simp [maxLen]; omega) (by omega) (by simp; omega) (w.heap.size + 1) (by simp) ?_; intro g cap' w4 hown' hgrow hlies hlt4; have bB := hB4.out _ _ hgrow; have d2 : w4.cell? ⟨B, 2, none⟩ = some (.slice ol n capl) := (by rw [cell_of_row _ _ _ _ _ _ bB]; rfl); have fz := frozen_block bB 2)
  have hg' : (w.alloc (.cells #[.int .i64 a] 3)).grownBy w4 (Value.slice ol n capl).ownBlock := hgrow
  have hlies' : (Value.slice ol n capl).ownBlock = some g ∨ g = w.heap.size + 1 := hlies
  have U4 : Upd (fun k => (Value.slice ol n capl).ownBlock = some k) w w4 := ⟨hg'.os, hg'.tape, hg'.output, by have := hg'.size; simp at this; omega, fun k hk hS => by
    rw [hg'.block k (by simp; omega) (fun e => hS e.symm), Below.heap_alloc _ _ _ hk]⟩
  have hBg : B ≠ g := by
    rintro rfl
    obtain ⟨cs, hh⟩ := row_ty hown' rfl
    rw [bB] at hh
    injection hh with hh
    injection hh with _ h2 _
    exact absurd h2 (by decide)
  have u5 := (Upd.refl (fun k => k = B) w4).setCell (p := ⟨B, 2, none⟩) (.inl rfl) (.slice (some ⟨g, 0, none⟩) (n + 1) cap')
  have U5 := Lib.hid (show Upd (fun k => k = B ∨ (Value.slice ol n capl).ownBlock = some k) w (w4.setCell ⟨B, 2, none⟩ (.slice (some ⟨g, 0, none⟩) (n + 1) cap')) from (U4.mono (fun _ _ h => .inr h)).trans (u5.mono (fun _ _ h => .inl h)))
  have F5 := Lib.hid (show FlAt (w4.setCell ⟨B, 2, none⟩ (.slice (some ⟨g, 0, none⟩) (n + 1) cap')) base B (.slice o m.W.length cap) (.slice (some ⟨g, 0, none⟩) (n + 1) cap') m (l ++ [a]) from ⟨
    heap_setCell_same (C := [.slice o m.W.length cap, .int .i64 m.first, .slice ol n capl]) bB 2 _,
    rows_kept HF.out.row U5.out (fun j hj h => by
      rcases h with h | h
      · exact hne1.out j hj h.symm
      · exact hap2.out j hj (by rw [hn.out]; exact h)),
    by
      have e : ints .i64 (l ++ [a]) = xs ++ [.int .i64 a] := by unfold ints at hL ⊢; rw [List.map_append, hL.out]; rfl
      rw [e, List.length_append, hn.out]
      exact rows_kept hown' u5 (fun j hj h => by
        have : g = j := by injection hj
        omega)⟩)
  have hnew := Lib.hid (show ∀ q, (Value.slice (some ⟨g, 0, none⟩) (n + 1) cap').ownBlock = some q → (Value.slice ol n capl).ownBlock = some q ∨ w.heap.size ≤ q from fun q hq => by
    have : g = q := by injection hq
    subst this
    rcases hlies' with h | h
    · exact .inl h
    · right; omega)
  clear hown' hgrow hlies hlt4 bB d2 fz hg' hlies' U4 hBg u5 hB4 HF hap hap2 hne1 hrowl
  generalize hvl : Value.slice (some ⟨g, 0, none⟩) (n + 1) cap' = vl' at F5 U5 hnew ⊢
  clear hvl
  generalize w4.setCell ⟨B, 2, none⟩ vl' = w5 at F5 U5 ⊢
  have c5 : w5.cell? ⟨B, 0, none⟩ = some (.slice o m.W.length cap) := by rw [cell_of_row _ _ _ _ _ _ F5.out.at_]; rfl
  cases h : m.isIn a
  · have e1 : m.ld a = 0 := by unfold Fl.ld; rw [h]; rfl
    have e2 : m.ldE a = 10 := by unfold Fl.ldE; rw [h]; rfl
    have E := Lib.hid (And.intro e1 e2)
    clear e1 e2
    rcases in_not h with h1 | h1
    · clear h
      go_wp2
      go_ret2
      rw [E.out.1, E.out.2]
      exact ⟨rfl, vl', F5.out, U5.out, hnew.out⟩
    · have h2 : 0 ≤ a := by
        rcases Int.lt_or_le a 0 with h3 | h3
        · omega
        · exact h3
      clear h
      go_wp2
      go_ret2
      rw [E.out.1, E.out.2]
      exact ⟨rfl, vl', F5.out, U5.out, hnew.out⟩
  · obtain ⟨h1, h2⟩ := in_iff h
    have e1 : m.ld a = m.W.getD a.toNat 0 := by unfold Fl.ld; rw [h]; rfl
    have e2 : m.ldE a = 0 := by unfold Fl.ldE; rw [h]; rfl
    have E := Lib.hid (And.intro e1 e2)
    clear e1 e2
    obtain ⟨k, rfl⟩ := Int.eq_ofNat_of_zero_le h1
    obtain ⟨g', rfl, hc⟩ := rows_at F5.out.row (by omega)
    have c6 := hc k _ (ints_at m.W k (by omega))
    rw [Int.toNat_natCast] at E
    generalize m.W.getD k 0 = x at c6 E
    clear h hc
    go_wp2
    go_ret2
    rw [E.out.1, E.out.2]
    exact ⟨rfl, vl', F5.out, U5.out, hnew.out⟩
set_option maxHeartbeats 2000000 in
theorem fstore_any (base B : Nat) (v vl : Value) (m : Fl) (l : List Int) (a x : Int) (w : World) (hF : FlAt w base B v vl m l) : Calls Tryd.prog 54 #[.pointer (some ⟨B, 0, none⟩), .int .i64 a, .int .u64 x] w fun e w' => e = .returned (.int .i64 (m.stE a)) ∧ FlAt w' base B v vl (m.st a x) l ∧ Upd (fun k => v.ownBlock = some k) w w' := by
  obtain ⟨o, cap, rfl⟩ := rows_slice hF.row
  have c0 : w.cell? ⟨B, 0, none⟩ = some (.slice o m.W.length cap) := by rw [cell_of_row _ _ _ _ _ _ hF.at_]; rfl
  have c1 : w.cell? ⟨B, 1, none⟩ = some (.int .i64 m.first) := by rw [cell_of_row _ _ _ _ _ _ hF.at_]; rfl
  have hno : m.stE a ≠ 0 → m.st a x = m := fun h => by unfold Fl.st; rw [if_neg h]
  cases h : m.isIn a
  · have e2 : m.stE a = 10 := by unfold Fl.stE; rw [h]; rfl
    rw [hno (by omega), e2]
    have HF := Lib.hid hF
    rcases in_not h with h1 | h1
    · clear h e2 hF hno
      go_enter Tryd.func54, Tryd.ntmps54
      go_wp2
      go_ret
      exact ⟨rfl, HF.out, Upd.refl _ _⟩
    · have h2 : 0 ≤ a := by omega
      clear h e2 hF hno
      go_enter Tryd.func54, Tryd.ntmps54
      go_wp2
      go_ret
      exact ⟨rfl, HF.out, Upd.refl _ _⟩
  · obtain ⟨h1, h2⟩ := in_iff h
    by_cases hp : a < m.first
    · have e2 : m.stE a = 9 := by unfold Fl.stE; rw [h, if_pos rfl, if_pos hp]
      rw [hno (by omega), e2]
      have HF := Lib.hid hF
      clear h e2 hF hno
      generalize m.first = fi at hp c1
      go_enter Tryd.func54, Tryd.ntmps54
      go_wp2
      go_ret
      exact ⟨rfl, HF.out, Upd.refl _ _⟩
    · have e2 : m.stE a = 0 := by unfold Fl.stE; rw [h, if_pos rfl, if_neg hp]
      have e3 : m.st a x = { m with W := m.W.set a.toNat x } := by unfold Fl.st; rw [if_pos e2]
      rw [e2, e3]
      obtain ⟨k, rfl⟩ := Int.eq_ofNat_of_zero_le h1
      obtain ⟨g, rfl, hc⟩ := rows_at hF.row (by omega)
      have d1 := hc k _ (ints_at m.W k (by omega))
      have f1 := hF.row.frozenAt k
      rw [Int.toNat_natCast]
      have hgb : B ≠ g := hF.ne g rfl
      have hgl := hF.apart g rfl
      have hst := hF.row.stored k (.int .u64 x)
      have HF := Lib.hid (show FlAt (w.setCell ⟨g, k, none⟩ (.int .u64 x)) base B (.slice (some ⟨g, 0, none⟩) m.W.length cap) vl { m with W := m.W.set k x } l from ⟨by
        rw [Below.heap_setCell _ _ _ _ hgb]; exact hF.at_, by
        have h := hst.1
        show (w.setCell _ _).ownsRow _ _ _ _ (m.W.set k x).length (ints .u64 (m.W.set k x))
        rw [List.length_set, show ints .u64 (m.W.set k x) = (ints .u64 m.W).set k (.int .u64 x) from by simp [ints, List.map_set]]
        exact h, rows_kept hF.lds ((Upd.refl (fun j => j = g) w).setCell (p := ⟨g, k, none⟩) (.inl rfl) (.int .u64 x)) (fun j hj e => hgl (by rw [hj, e]))⟩)
      have HU := Lib.hid ((Upd.refl (fun j => (Value.slice (some ⟨g, 0, none⟩) m.W.length cap).ownBlock = some j) w).setCell (p := ⟨g, k, none⟩) (.inl rfl) (.int .u64 x))
      have hp' : m.first ≤ (k : Int) := by omega
      generalize hfi : m.first = fi at hp' c1
      replace hfi := Lib.hid hfi
      generalize m.W.getD k 0 = y at d1
      clear h e2 e3 hF hno hc hst hp hgb hgl
      go_enter Tryd.func54, Tryd.ntmps54
      go_wp2
      go_ret
      exact ⟨rfl, hfi.out ▸ HF.out, HU.out⟩
end Go.Proofs.YtcbiangocfhhlaaDoor

/-
  The laws' helpers: of, same.
-/
namespace Go.Proofs.YtcbiangocfhhlaaDoor
open Go.ChangeShapes Go.WideShapes Go.ChangeAt Go.RowKit

theorem ints_all_one (l : List Int) : ∀ u ∈ ints .u64 l, u.oneCell' = true := by
  intro u hu
  unfold ints at hu
  obtain ⟨z, _, rfl⟩ := List.mem_map.1 hu
  rfl
/-- words in a slice, whosever; an empty one's form says nothing -/
def WordsIn (w : World) (x : Value) (W : List Int) : Prop := 0 < W.length → Src w x W.length 1 (ints .u64 W)
theorem run_append_zero {P : Program} (w : World) (t ty e : TypeId) (i : TypeInfo) (ht : P.underlying t = some (.slice e)) (hi : P.info? e = some i) (b sc cap : Nat) (q : Option Addr) :
    (Builtin.append_ #[t, t] ty #[.slice (some ⟨b, 0, none⟩) 0 sc, .slice q 0 cap]).run P w = .ok (.slice (some ⟨b, 0, none⟩) 0 sc) w := by
  have hs : _root_.Go.Src P i.size t (.slice q 0 cap) 0 [] w := by
    cases q with
    | none => exact _root_.Go.Src.ofNil w ht cap
    | some a => exact _root_.Go.Src.ofSlice w ht a 0 cap [] (by simp) (fun j u h => by simp at h) (fun u h => by cases h)
  have h := run_append_room_src w t t ty e i ht hi b 0 0 sc (.slice q 0 cap) 0 [] hs (by omega) (fun j h => by simp at h) (fun j h => by simp at h)
  simpa [World.setCells] using h
theorem wpList_append_zero {P : Program} (w : World) {ops : Array Oper} {rest : List Oper} {o : Oper} {a : Act} {Q : Exit → Act → World → Prop} (hgd : o.guard = none) (s x : Operand) (t : TypeId)
    (ho : o.op = .call { callee := .builtin .append, args := #[s, x], argTypes := #[t, t] }) (e : TypeId) (i : TypeInfo) (ht : P.underlying t = some (.slice e)) (hi : P.info? e = some i) (b sc cap : Nat) (q : Option Addr)
    (hs : a.eval s = .slice (some ⟨b, 0, none⟩) 0 sc) (hx : a.eval x = .slice q 0 cap) (h : wpList P ops Q rest (a.put o.dst (.slice (some ⟨b, 0, none⟩) 0 sc)) w) : wpList P ops Q (o :: rest) a w :=
  wpList_plain hgd fun _ hK => by
    unfold Oper.wp execOp
    simp only [ho, resolve, invoke, builtin, Sem.run_bind, Sem.run_pure, Result.andThen_ok, List.map_toArray, List.map_cons, List.map_nil, hs, hx, run_append_zero w t o.type e i ht hi b sc cap q]
    exact hK _ _ h
/-- onto a new row: a slice of words, empty or not -/
theorem wpList_append_words {P : Program} (w : World) {ops : Array Oper} {rest : List Oper} {o : Oper} {a : Act} {Q : Exit → Act → World → Prop} (hgd : o.guard = none) (s x : Operand) (t : TypeId)
    (ho : o.op = .call { callee := .builtin .append, args := #[s, x], argTypes := #[t, t] })
    (base : Nat) (e : TypeId) (i : TypeInfo) (z : Value) (bytes : Nat) (ht : P.underlying t = some (.slice e)) (hi : P.info? e = some i) (hz : i.zero = some z) (hsize : i.size = 1) (hby : i.bytes = bytes) (hzs : z.cells.size = 1)
    (b sc : Nat) (hs : a.eval s = .slice (some ⟨b, 0, none⟩) 0 sc) (hown : w.ownsRow base e 1 (.slice (some ⟨b, 0, none⟩) 0 sc) 0 []) (q : Option Addr) (n cap : Nat) (W : List Int) (hx : a.eval x = .slice q n cap) (hn : n = W.length) (hW : WordsIn w (.slice q n cap) W)
    (h63 : 0 + n ≤ maxLen) (hbytes : (0 + n) * bytes ≤ 140737488355328) (hbase : base ≤ w.heap.size)
    (h : ∀ v' w', w'.ownsRow base e 1 v' (0 + n) ([] ++ ints .u64 W) → w.grownBy w' (some b) → wpList P ops Q rest (a.put o.dst v') w') : wpList P ops Q (o :: rest) a w := by
  subst hn
  by_cases h0 : 0 < W.length
  · exact wpList_append_src w hgd s x t ho base e i z 1 bytes ht hi hz hsize hby hzs (by decide) _ 0 [] hs hown _ W.length (ints .u64 W) hx (hW h0) (ints_all_one W) h63 hbytes hbase h
  · have e0 : W = [] := List.length_eq_zero_iff.1 (by omega)
    subst e0
    exact wpList_append_zero w hgd s x t ho e i ht hi b sc cap q hs hx (h _ _ (by simpa [ints] using hown) ⟨rfl, rfl, rfl, Nat.le_refl _, fun _ _ _ => rfl⟩)
theorem of_zero (q : Option Addr) (cap : Nat) (first : Int) (w : World) :
    Calls Tryd.prog 11 #[.slice q 0 cap, .int .i64 first] w fun e w' => ∃ B v, e = .returned (.pointer (some ⟨B, 0, none⟩)) ∧ FlAt w' w.heap.size B v (.slice none 0 0) ⟨[], first⟩ [] ∧ Upd (fun _ => False) w w' ∧ w.heap.size ≤ B := by
  obtain ⟨i0, hi⟩ : ∃ i, Tryd.prog.info? 22 = some i := Option.isSome_iff_exists.1 (by kernel_rfl)
  go_enter Tryd.func11, Tryd.ntmps11
  go_wp2_with (at_builtin; refine wpList_append_zero _ rfl _ _ 26 rfl 22 i0 Tryd.underlying26 hi w.heap.size 0 cap q rfl rfl ?_)
  have hrow := World.ownsRow_made (e := 22) (size := 1) w #[] 0 (Nat.le_refl _) (by decide) rfl
  have hs : (w.alloc (.cells #[] 22)).heap.size = w.heap.size + 1 := by simp
  have U1 : Upd (fun _ => False) w (w.alloc (.cells #[] 22)) := (Upd.refl _ w).alloc _
  go_ret
  refine ⟨w.heap.size + 1, .slice (some ⟨w.heap.size, 0, none⟩) 0 0, rfl, ?_, U1.alloc _, by omega⟩
  refine ⟨?_, hrow.alloc _, rows_new _ _ _ _⟩
  rw [← hs]
  exact heap_alloc_last _ _
set_option maxHeartbeats 4000000 in
theorem of_some (o : Option Addr) (cap : Nat) (W : List Int) (first : Int) (w : World) (hW : Src w (.slice o W.length cap) W.length 1 (ints .u64 W)) (hn : W.length ≤ 100000) (hlt : ∀ b, (Value.slice o W.length cap).ownBlock = some b → b < w.heap.size) :
    Calls Tryd.prog 11 #[.slice o W.length cap, .int .i64 first] w fun e w' => ∃ B v, e = .returned (.pointer (some ⟨B, 0, none⟩)) ∧ FlAt w' w.heap.size B v (.slice none 0 0) ⟨W, first⟩ [] ∧ Upd (fun _ => False) w w' ∧ w.heap.size ≤ B := by
  obtain ⟨i0, hi⟩ : ∃ i, Tryd.prog.info? 22 = some i := Option.isSome_iff_exists.1 (by kernel_rfl)
  have hz0 : i0.zero = some (.int .u64 0) := by
    have : (Tryd.prog.info? 22).bind (·.zero) = some (.int .u64 0) := by kernel_rfl
    rw [hi] at this; exact this
  have hz1 : i0.size = 1 := by
    have : (Tryd.prog.info? 22).map (·.size) = some 1 := by kernel_rfl
    rw [hi] at this; exact Option.some.inj this
  have hz2 : i0.bytes = 8 := by
    have : (Tryd.prog.info? 22).map (·.bytes) = some 8 := by kernel_rfl
    rw [hi] at this; exact Option.some.inj this
  have hS := Lib.hid (show Src (w.alloc (.cells #[] 22)) (.slice o W.length cap) W.length 1 (ints .u64 W) from Src.kept hW fun b hb => Below.heap_alloc _ _ _ (hlt b hb))
  have h1 := Lib.hid (ints_all_one W)
  have hM : Hid (∀ (v : Value) (w5 : World) , w5.ownsRow w.heap.size 22 1 v (0 + W.length) ([] ++ ints .u64 W) → (w.alloc (.cells #[] 22)).grownBy w5 (some w.heap.size) → Upd (fun _ => False) w w5) := Lib.hid (fun v w5 hrow hg => ⟨hg.os, hg.tape, hg.output, by have := hg.size; simp at this; omega, fun k hk _ => by
    rw [hg.block k (by simp; omega) (by simp; omega), Below.heap_alloc _ _ _ hk]⟩)
  generalize hxs : ints .u64 W = xs at hS h1 hM
  replace hxs := Lib.hid hxs
  generalize hn' : W.length = n at hS hn hM ⊢
  replace hn' := Lib.hid hn'
  clear hW hlt
  go_enter Tryd.func11, Tryd.ntmps11
  go_wp2_with (at_builtin; refine wpList_append_src _ rfl _ _ 26 rfl w.heap.size 22 i0 (.int .u64 0) 1 8 Tryd.underlying26 hi hz0 hz1 hz2 rfl (by decide) (.slice (some ⟨w.heap.size, 0, none⟩) 0 0) 0 [] rfl (World.ownsRow_made w #[] 0 (Nat.le_refl _) (by decide) rfl) (.slice o n cap) n xs rfl hS.out h1.out (by simp [maxLen]; omega) (by omega) (by simp) ?_; intro v5 w5 hrow5 hg5; obtain ⟨o5, cap5, rfl⟩ := rows_slice hrow5)
  have U5 := hM.out _ w5 hrow5 hg5
  have hrow6 : w5.ownsRow w.heap.size 22 1 (.slice o5 n cap5) n xs := by simpa using hrow5
  go_ret
  refine ⟨w5.heap.size, .slice o5 n cap5, rfl, ⟨heap_alloc_last w5 _, ?_, ?_⟩, U5.alloc _, U5.size⟩
  · show (w5.alloc _).ownsRow _ _ _ _ W.length (ints .u64 W)
    rw [hn'.out, hxs.out]
    exact hrow6.alloc _
  · exact rows_new _ _ _ _
theorem of_any (o : Option Addr) (cap : Nat) (W : List Int) (first : Int) (w : World) (hW : WordsIn w (.slice o W.length cap) W) (hn : W.length ≤ 100000) (hlt : 0 < W.length → ∀ b, (Value.slice o W.length cap).ownBlock = some b → b < w.heap.size) :
    Calls Tryd.prog 11 #[.slice o W.length cap, .int .i64 first] w fun e w' => ∃ B v, e = .returned (.pointer (some ⟨B, 0, none⟩)) ∧ FlAt w' w.heap.size B v (.slice none 0 0) ⟨W, first⟩ [] ∧ Upd (fun _ => False) w w' ∧ w.heap.size ≤ B := by
  by_cases h : 0 < W.length
  · exact of_some o cap W first w (hW h) hn (hlt h)
  · have e : W = [] := List.length_eq_zero_iff.1 (by omega)
    subst e
    exact of_zero o cap first w
theorem Src.at {w : World} {x : Value} {m : Nat} {news : List Value} (h : Src w x m 1 news) (hm : 0 < m) : ∃ b off c, x = .slice (some ⟨b, off, none⟩) m c ∧ ∀ j u, news[j]? = some u → w.cell? ⟨b, off + j, none⟩ = some u := by
  rcases h with ⟨_, h, _⟩ | ⟨b, off, c, e, _, h⟩
  · omega
  · exact ⟨b, off, c, e, h⟩
theorem take_eq_next {a b : List Int} {k : Nat} (ha : k < a.length) (hb : k < b.length) (h : a.take k = b.take k) (e : a.getD k 0 = b.getD k 0) : a.take (k + 1) = b.take (k + 1) := by
  rw [List.take_succ_eq_append_getElem ha, List.take_succ_eq_append_getElem hb, h]
  simp only [List.getD_eq_getElem?_getD, List.getElem?_eq_getElem ha, List.getElem?_eq_getElem hb, Option.getD_some] at e
  rw [e]
set_option maxHeartbeats 4000000 in
theorem same_any (o o' : Option Addr) (cap cap' : Nat) (W V : List Int) (w : World) (hW : WordsIn w (.slice o W.length cap) W) (hV : WordsIn w (.slice o' V.length cap') V) (hn : W.length ≤ 100000) :
    Calls Tryd.prog 14 #[.slice o W.length cap, .slice o' V.length cap'] w fun e w' => e = .returned (.bool (decide (W = V))) ∧ ∃ n, w' = w.drewN n := by
  by_cases hl : W.length = V.length
  case neg =>
    have hb : decide (W = V) = false := decide_eq_false fun e => hl (by rw [e])
    rw [hb]
    have hl' : ((W.length : Int) != (V.length : Int)) = true := by rw [bne_iff_ne]; omega
    clear hW hV hb hl
    go_enter Tryd.func14, Tryd.ntmps14
    go_wp2
    go_ret
    exact ⟨rfl, 0, rfl⟩
  have hl' : ((W.length : Int) != (V.length : Int)) = false := by rw [bne_eq_false_iff_eq]; omega
  have HW := Lib.hid hW
  have HV := Lib.hid hV
  have hd := Lib.hid (show W.length = V.length → W ≠ V → decide (W = V) = false from fun _ h => decide_eq_false h)
  have hd' := Lib.hid (show W = V → decide (W = V) = true from fun h => decide_eq_true h)
  generalize decide (W = V) = ans at hd hd' ⊢
  generalize hWn : W.length = n at hW hn hl hl' ⊢
  generalize hVn : V.length = n' at hV hl hl' ⊢
  clear hW hV
  subst hl
  replace hWn := Lib.hid hWn
  replace hVn := Lib.hid hVn
  go_enter Tryd.func14, Tryd.ntmps14
  go_wp2_with fail
  go_loopw [5] (fun t wr => ∃ k : Nat, k ≤ n ∧ t = .int .i64 k ∧ Hid (W.take k = V.take k) ∧ Hid (∃ q, wr = w.drewN q)) (fun t _ => n - (intOf t).toNat)
  case atStart => exact ⟨0, by omega, rfl, Lib.hid (by simp), Lib.hid ⟨0, rfl⟩⟩
  case round =>
    obtain ⟨k, hk, rfl, ht, hw⟩ := hrel
    by_cases hlt : k < n
    · have k0 : (0 : Int) ≤ (k : Int) := by omega
      have k1 : (k : Int) < (n : Int) := by omega
      obtain ⟨b, off, c, e1, d1⟩ := Src.at (HW.out (by rw [hWn.out]; omega)) (by rw [hWn.out]; omega)
      obtain ⟨b', off', c', e2, d2⟩ := Src.at (HV.out (by rw [hVn.out]; omega)) (by rw [hVn.out]; omega)
      simp only [Value.slice.injEq] at e1 e2
      obtain ⟨rfl, -, -⟩ := e1
      obtain ⟨rfl, -, -⟩ := e2
      obtain ⟨q, hq⟩ := hw.out
      have b1 : wr.cell? ⟨b, off + k, none⟩ = some (.int .u64 (W.getD k 0)) := by rw [hq]; exact d1 k _ (ints_at W k (by rw [hWn.out]; exact hlt))
      have b2 : wr.cell? ⟨b', off' + k, none⟩ = some (.int .u64 (V.getD k 0)) := by rw [hq]; exact d2 k _ (ints_at V k (by rw [hVn.out]; exact hlt))
      replace hq := Lib.hid hq
      by_cases he : W.getD k 0 = V.getD k 0
      · have ht' := Lib.hid (take_eq_next (by rw [hWn.out]; exact hlt) (by rw [hVn.out]; exact hlt) ht.out he)
        have he' : (W.getD k 0 != V.getD k 0) = false := by rw [bne_eq_false_iff_eq]; exact he
        clear he d1 d2
        generalize W.getD k 0 = x at b1 he'
        generalize V.getD k 0 = y at b2 he'
        go_upto_region 6 with fail
        go_quiet (fail)
        go_wp2
        go_roundw
        case rel => exact ⟨k + 1, by omega, by go_num, ht', Lib.hid ⟨_, by rw [hq.out, World.drewN_drewN]⟩⟩
        case measure => simp [intOf]; omega
      · have hne : W ≠ V := fun e => he (by rw [e])
        have hans := hd.out (by rw [hWn.out, hVn.out]) hne
        have he' : (W.getD k 0 != V.getD k 0) = true := by rw [bne_iff_ne]; exact he
        subst hans
        clear he d1 d2 hd hd' hne
        generalize W.getD k 0 = x at b1 he'
        generalize V.getD k 0 = y at b2 he'
        go_upto_region 6 with fail
        go_quiet (fail)
        go_wp2
        go_ret
        exact ⟨rfl, _, by rw [hq.out, World.drewN_drewN]⟩
    · have e : k = n := by omega
      subst e
      have heq : W = V := by
        have h := ht.out
        rw [List.take_of_length_le (by rw [hWn.out]; exact Nat.le_refl _), List.take_of_length_le (by rw [hVn.out]; exact Nat.le_refl _)] at h
        exact h
      have hans := hd'.out heq
      obtain ⟨q, rfl⟩ := hw.out
      subst hans
      clear hd hd' heq
      go_wp2
      go_ret
      exact ⟨rfl, q, rfl⟩
end Go.Proofs.YtcbiangocfhhlaaDoor

/-
  The document's Words: a row of instructions' words.
-/
namespace Go.Proofs.YtcbiangocfhhlaaDoor
open Go.ChangeShapes Go.WideShapes Go.ChangeAt Go.RowKit

def Ins.cs (i : Ins) : List Value := [.int .i64 i.op, .int .i64 i.a, .int .i64 i.b, .int .i64 i.c, .int .i64 i.m]
def wvs (L : List Ins) (k : Nat) : List Int := (L.take k).map Ins.wv
theorem wvs_succ {L : List Ins} {k : Nat} {i : Ins} (h : L[k]? = some i) : wvs L (k + 1) = wvs L k ++ [i.wv] := by
  have hk : k < L.length := (List.getElem?_eq_some_iff.1 h).1
  unfold wvs
  rw [List.take_succ_eq_append_getElem hk, List.map_append]
  rw [List.getElem?_eq_getElem hk] at h
  injection h with h
  rw [h]; rfl
theorem wvs_len {L : List Ins} {k : Nat} (h : k ≤ L.length) : (wvs L k).length = k := by
  unfold wvs; simp; omega
set_option maxRecDepth 100000 in
set_option maxHeartbeats 4000000 in
theorem wwords_any (b off cap : Nat) (L : List Ins) (w : World) (hL : ∀ k i, L[k]? = some i → w.rangeAt b (off + k * 5) i.cs) (hn : L.length ≤ 100000) (hb : b < w.heap.size) :
    Calls Tryd.prog 17 #[.slice (some ⟨b, off, none⟩) L.length cap] w fun e w' => ∃ v, e = .returned v ∧ w'.ownsRow w.heap.size 22 1 v L.length (ints .u64 (wvs L L.length)) ∧ Upd (fun _ => False) w w' := by
  obtain ⟨i0, hi⟩ : ∃ i, Tryd.prog.info? 22 = some i := Option.isSome_iff_exists.1 (by kernel_rfl)
  have hz0 : i0.zero = some (.int .u64 0) := by
    have : (Tryd.prog.info? 22).bind (·.zero) = some (.int .u64 0) := by kernel_rfl
    rw [hi] at this; exact this
  have hz1 : i0.size = 1 := by
    have : (Tryd.prog.info? 22).map (·.size) = some 1 := by kernel_rfl
    rw [hi] at this; exact Option.some.inj this
  have hz2 : i0.bytes = 8 := by
    have : (Tryd.prog.info? 22).map (·.bytes) = some 8 := by kernel_rfl
    rw [hi] at this; exact Option.some.inj this
  have h0 := Lib.hid (show w.ownsRow w.heap.size 22 1 (.slice none 0 0) 0 (ints .u64 (wvs L 0)) from rows_new w _ _ _)
  have HL := Lib.hid hL
  have Hb := Lib.hid hb
  generalize hn' : L.length = n at hn ⊢
  replace hn' := Lib.hid hn'
  clear hL hb
  go_enter Tryd.func17, Tryd.ntmps17
  go_wp2_with fail
  go_loopw [4, 3] (fun t u wr => ∃ k : Nat, k ≤ n ∧ t = .int .i64 k ∧ Hid (wr.ownsRow w.heap.size 22 1 u k (ints .u64 (wvs L k))) ∧ Hid (Upd (fun _ => False) w wr)) (fun t _ _ => n - (intOf t).toNat)
  case atStart => exact ⟨0, by omega, rfl, h0, Lib.hid (Upd.refl _ _)⟩
  case round =>
    obtain ⟨k, hk, rfl, hrow, hU⟩ := hrel
    by_cases hlt : k < n
    · obtain ⟨i, hik⟩ : ∃ i, L[k]? = some i := ⟨_, List.getElem?_eq_getElem (by rw [hn'.out]; exact hlt)⟩
      have hrg : wr.rangeAt b (off + k * 5) [.int .i64 i.op, .int .i64 i.a, .int .i64 i.b, .int .i64 i.c, .int .i64 i.m] := hU.out.rangeAt (HL.out k i hik) id
      have hs := Lib.hid (wvs_succ hik)
      obtain ⟨o, c5, rfl⟩ := rows_slice hrow.out
      have cW := Lib.hid (fun W => iword_any i W)
      go_wp2_with (with_reducible refine wpList_load_sz rfl 50 (.tmp 16) rfl b (off + k * 5) rfl [.int .i64 i.op, .int .i64 i.a, .int .i64 i.b, .int .i64 i.c, .int .i64 i.m] _ hrg Tryd.underlying50 rfl 5 (ins_len _ _ _ _ _) size_ins ?_)
      refine (cW.out _).mono ?_
      rintro e w2 ⟨rfl, u2⟩
      have R2 := Lib.hid (rows_still hrow.out u2)
      have U2 := Lib.hid (hU.out.trans u2)
      have hus := U2.out.size
      clear hrow hU u2 cW hrg hik
      generalize i.wv = X at hs ⊢
      generalize i.we = Y
      generalize hN : w.heap.size = N at R2 hus
      replace hN := Lib.hid hN
      go_wp2_with (at_builtin; refine wpList_append_own _ rfl _ _ 26 rfl N 22 i0 (.int .u64 0) 1 8 Tryd.underlying26 hi hz0 hz1 hz2 rfl (by decide) _ _ _ rfl (rows_still R2.out ((Upd.refl _ _).alloc _)) ⟨w2.heap.size, 0, none⟩ 1 1 [.int .u64 X] rfl rfl (rows_src _ _ _) (by simp [Value.oneCell']) (by simp [maxLen]; omega) (by omega) (by simp; omega) ?_; intro v' w4 hown' hgrow _)
      have U4 := rows_grown R2.out hgrow U2.out (Nat.le_of_eq hN.out)
      trace_state
      refine ⟨⟨k + 1, by omega, by go_num, Lib.hid ?_, Lib.hid U4⟩, by simp [intOf]; omega⟩
      rw [hs.out, ints, List.map_append, hN.out]
      exact hown'
    · obtain rfl : k = n := by omega
      go_wp2
      go_ret
      exact ⟨_, rfl, hrow.out, hU.out⟩
end Go.Proofs.YtcbiangocfhhlaaDoor

/-
  The document's Step.
-/
namespace Go.Proofs.YtcbiangocfhhlaaDoor
open Go.ChangeShapes Go.WideShapes Go.ChangeAt Go.RowKit

theorem adr_bd (x : Int) : 0 ≤ adr x ∧ adr x < 65536 := by unfold adr; omega
theorem step_no {c : Cp} {m : Fl} (h : m.ldE (adr c.pc) ≠ 0) : c.step m = ⟨c, m, 0, m.ldE (adr c.pc)⟩ := by
  have e : m.ldE (adr c.pc) = 10 := by unfold Fl.ldE at h ⊢; split at h; exact absurd rfl h; rename_i hh; rw [if_neg hh]
  unfold Cp.step
  rw [if_neg h, e]
theorem step_bad {c : Cp} {m : Fl} (h : m.ldE (adr c.pc) = 0) (hh : Ins.hit (m.ld (adr c.pc)) = false) : c.step m = ⟨c, m, 0, 11⟩ := by
  unfold Cp.step
  rw [if_pos h, hh]
  rfl
theorem step_yes {c : Cp} {m : Fl} (h : m.ldE (adr c.pc) = 0) (hh : Ins.hit (m.ld (adr c.pc)) = true) : c.step m = c.exec m (Ins.of (m.ld (adr c.pc))) := by
  unfold Cp.step
  rw [if_pos h, hh]
  rfl
/-- a word's instruction, if there is one -/
theorem hit_ins {v : Int} (h : Ins.hit v = true) : (Ins.of v).Ok ∧ Ins.ov v = Ins.of v ∧ Ins.oe v = 0 := by
  have h2 := h
  unfold Ins.hit at h2
  simp only [Bool.and_eq_true, decide_eq_true_eq] at h2
  exact ⟨(Ins.right_iff _).1 h2.1, by unfold Ins.ov; rw [h]; rfl, by unfold Ins.oe; rw [h]; rfl⟩
theorem miss_ins {v : Int} (h : Ins.hit v = false) : Ins.oe v = 11 := by unfold Ins.oe; rw [h]; rfl
/-- a register and where it goes on, stored -/
theorem fin_set {base RB FB : Nat} {vw : Value} {c : Cp} {m : Fl} {w w4 : World} (hc : c.R.length = 8) (R4 : RegsAt w4 RB c) (F4 : FlatAt w4 base FB vw m) (U4 : Upd (fun k => k = RB ∨ vw.ownBlock = some k) w w4) (hne : ∀ g, vw.ownBlock = some g → g ≠ RB) (hRF : RB ≠ FB) (k : Int) (h0 : 0 ≤ k) (h7 : k ≤ 7) (v n : Int) :
    RegsAt ((w4.setCell ⟨RB, k.toNat, none⟩ (.int .u64 v)).setCell ⟨RB, 8, none⟩ (.int .u64 n)) RB (c.set k v n) ∧ FlatAt ((w4.setCell ⟨RB, k.toNat, none⟩ (.int .u64 v)).setCell ⟨RB, 8, none⟩ (.int .u64 n)).drew base FB vw m ∧ Upd (fun k => k = RB ∨ vw.ownBlock = some k) w ((w4.setCell ⟨RB, k.toNat, none⟩ (.int .u64 v)).setCell ⟨RB, 8, none⟩ (.int .u64 n)).drew := by
  have u1 := ((Upd.refl (fun k => k = RB) w4).setCell (p := ⟨RB, k.toNat, none⟩) (.inl rfl) (.int .u64 v)).setCell (p := ⟨RB, 8, none⟩) (.inl rfl) (.int .u64 n)
  refine ⟨(R4.setReg hc k h0 h7 v).setPc (Cp.set_n hc _ _ _) n, F4.kept u1.drew (fun e => hRF e.symm) (fun j hj e => hne j hj e), ?_⟩
  exact U4.trans (u1.drew.mono (fun _ _ h => .inl h))
theorem fin_pc {base RB FB : Nat} {vw : Value} {c : Cp} {m : Fl} {w w4 : World} (hc : c.R.length = 8) (R4 : RegsAt w4 RB c) (F4 : FlatAt w4 base FB vw m) (U4 : Upd (fun k => k = RB ∨ vw.ownBlock = some k) w w4) (hne : ∀ g, vw.ownBlock = some g → g ≠ RB) (hRF : RB ≠ FB) (n : Int) :
    RegsAt (w4.setCell ⟨RB, 8, none⟩ (.int .u64 n)) RB ⟨c.R, n⟩ ∧ FlatAt (w4.setCell ⟨RB, 8, none⟩ (.int .u64 n)) base FB vw m ∧ Upd (fun k => k = RB ∨ vw.ownBlock = some k) w (w4.setCell ⟨RB, 8, none⟩ (.int .u64 n)) := by
  have u1 := (Upd.refl (fun k => k = RB) w4).setCell (p := ⟨RB, 8, none⟩) (.inl rfl) (.int .u64 n)
  refine ⟨R4.setPc hc n, F4.kept u1 (fun e => hRF e.symm) (fun j hj e => hne j hj e), ?_⟩
  exact U4.trans (u1.mono (fun _ _ h => .inl h))
def ExIs (c : Cp) (m : Fl) (u : Ins) (T : St) : Prop := c.exec m u = T
set_option maxRecDepth 100000 in
set_option maxHeartbeats 8000000 in
theorem rstep_any (base RB FB : Nat) (vw : Value) (c : Cp) (m : Fl) (w : World) (hc : c.Ok) (hm : m.Ok) (hR : RegsAt w RB c) (hF : FlatAt w base FB vw m) (hne : ∀ g, vw.ownBlock = some g → g ≠ RB) (hRF : RB ≠ FB) :
    Calls Tryd.prog 13 #[.pointer (some ⟨RB, 0, none⟩), .pointer (some ⟨FB, 0, none⟩)] w fun e w' => e = .returned (.tuple #[.int .i64 (c.step m).call, .int .i64 (c.step m).e]) ∧ RegsAt w' RB (c.step m).c ∧ FlatAt w' base FB vw (c.step m).m ∧ Upd (fun k => k = RB ∨ vw.ownBlock = some k) w w' := by
  have HR := Lib.hid hR
  have HF := Lib.hid hF
  have HC := Lib.hid hc
  have HM := Lib.hid hm
  have HN := Lib.hid hne
  have p0 := hR.pc hc
  obtain ⟨pb0, pb1⟩ := hc.p
  have pm : c.pc % 65536 = adr c.pc := rfl
  obtain ⟨ad0, ad1⟩ := adr_bd c.pc
  have cL := Lib.hid (fun a W (h : FlatAt W base FB vw m) => rload_any base FB vw m a W h)
  clear hR hF hc hm hne
  by_cases hl : m.ldE (adr c.pc) = 0
  case neg =>
    rw [step_no hl]
    have hl' : (m.ldE (adr c.pc) != 0) = true := by simp [hl]
    clear hl
    have cl := Lib.hid (cL.out (adr c.pc) w HF.out)
    generalize m.ldE (adr c.pc) = er at cl hl'
    generalize m.ld (adr c.pc) = vv at cl
    generalize adr c.pc = ap at cl pm ad0 ad1
    go_enter Tryd.func13, Tryd.ntmps13
    go_wp2_with fail
    refine cl.out.mono ?_
    rintro e w1 ⟨rfl, n1, rfl⟩
    go_wp2
    go_ret2
    have V := (Upd.refl (fun _ => False) w).drewN n1
    exact ⟨rfl, HR.out.kept V id, HF.out.kept V id (fun _ _ => id), V.mono (fun _ _ h => h.elim)⟩
  case pos =>
    have cl := Lib.hid (cL.out (adr c.pc) w HF.out)
    rw [hl] at cl
    have vb := HM.out.ld (adr c.pc)
    cases hh : Ins.hit (m.ld (adr c.pc))
    · rw [step_bad hl hh]
      have cO := Lib.hid (fun W => iof_any (m.ld (adr c.pc)) vb.1 vb.2 W)
      rw [miss_ins hh] at cO
      clear hl hh vb
      generalize Ins.ov (m.ld (adr c.pc)) = ov at cO
      generalize m.ld (adr c.pc) = vv at cl cO
      generalize adr c.pc = ap at cl pm ad0 ad1
      go_enter Tryd.func13, Tryd.ntmps13
      go_wp2_with fail
      refine cl.out.mono ?_
      rintro e w1 ⟨rfl, n1, rfl⟩
      go_wp2_with fail
      refine (cO.out _).mono ?_
      rintro e w2 ⟨rfl, u2⟩
      have U2 := Lib.hid (((Upd.refl (fun _ => False) w).drewN n1).trans u2)
      clear u2
      go_wp2
      go_ret2
      have V := (U2.out.alloc (.cells #[.int .i64 ov.op, .int .i64 ov.a, .int .i64 ov.b, .int .i64 ov.c, .int .i64 ov.m] 50))
      exact ⟨rfl, HR.out.kept V id, HF.out.kept V id (fun _ _ => id), V.mono (fun _ _ h => h.elim)⟩
    · rw [step_yes hl hh]
      obtain ⟨hu, e1, e2⟩ := hit_ins hh
      have cO := Lib.hid (fun W => iof_any (m.ld (adr c.pc)) vb.1 vb.2 W)
      rw [e1, e2] at cO
      clear hl hh vb e1 e2
      generalize Ins.of (m.ld (adr c.pc)) = u at cO hu ⊢
      generalize m.ld (adr c.pc) = vv at cl cO
      have hnx : Hid (c.next = (adr c.pc + 1) % 65536) := Lib.hid rfl
      generalize hap : adr c.pc = ap at cl pm ad0 ad1 hnx
      clear hap
      go_enter Tryd.func13, Tryd.ntmps13
      go_wp2_with fail
      refine cl.out.mono ?_
      rintro e w1 ⟨rfl, n1, rfl⟩
      go_wp2_with fail
      refine (cO.out _).mono ?_
      rintro e w2 ⟨rfl, u2⟩
      go_upto_region 8 with fail
      have U3 := Lib.hid ((((Upd.refl (fun _ => False) w).drewN n1).trans u2).alloc (.cells #[.int .i64 u.op, .int .i64 u.a, .int .i64 u.b, .int .i64 u.c, .int .i64 u.m] 50))
      have X3 := Lib.hid (show InsAt (w2.alloc (.cells #[.int .i64 u.op, .int .i64 u.a, .int .i64 u.b, .int .i64 u.c, .int .i64 u.m] 50)) w2.heap.size u from heap_alloc_last w2 _)
      have hnew := Lib.hid (show w.heap.size ≤ w2.heap.size from u2.size)
      clear u2 cl cO
      generalize w2.alloc (.cells #[.int .i64 u.op, .int .i64 u.a, .int .i64 u.b, .int .i64 u.c, .int .i64 u.m] 50) = w3 at U3 X3 ⊢
      generalize w2.heap.size = XB at X3 hnew ⊢
      have R3 := Lib.hid (HR.out.kept U3.out id)
      have F3 := Lib.hid (HF.out.kept U3.out id (fun _ _ => id))
      obtain ⟨d0, d1, d2, d3, d4⟩ := X3.out.c
      obtain ⟨⟨ho0, ho1⟩, ⟨ha0, ha1⟩, ⟨hb0, hb1⟩, ⟨hc0, hc1⟩, ⟨hm0, hm1⟩, -, -, -, -⟩ := hu
      have rA := R3.out.reg HC.out u.a ha0 ha1
      have rB := R3.out.reg HC.out u.b hb0 hb1
      have rC := R3.out.reg HC.out u.c hc0 hc1
      obtain ⟨aa, ea⟩ := Int.eq_ofNat_of_zero_le ha0
      obtain ⟨bb, eb⟩ := Int.eq_ofNat_of_zero_le hb0
      obtain ⟨cc, ec⟩ := Int.eq_ofNat_of_zero_le hc0
      rw [show u.a.toNat = aa from by omega] at rA
      rw [show u.b.toNat = bb from by omega] at rB
      rw [show u.c.toNat = cc from by omega] at rC
      rw [ea] at d1 ha1
      rw [eb] at d2 hb1
      rw [ec] at d3 hc1
      have kA : (0 : Int) ≤ (aa : Int) ∧ (aa : Int) < 8 := by omega
      have kB : (0 : Int) ≤ (bb : Int) ∧ (bb : Int) < 8 := by omega
      have kC : (0 : Int) ≤ (cc : Int) ∧ (cc : Int) < 8 := by omega
      obtain ⟨kA0, kA8⟩ := kA
      obtain ⟨kB0, kB8⟩ := kB
      obtain ⟨kC0, kC8⟩ := kC
      replace ea := Lib.hid ea
      replace eb := Lib.hid eb
      replace ec := Lib.hid ec
      have bA := HC.out.reg u.a
      have bB := HC.out.reg u.b
      have bC := HC.out.reg u.c
      obtain ⟨av, eav⟩ : ∃ x, c.reg u.a = x := ⟨_, rfl⟩
      obtain ⟨bv, ebv⟩ : ∃ x, c.reg u.b = x := ⟨_, rfl⟩
      obtain ⟨cv, ecv⟩ : ∃ x, c.reg u.c = x := ⟨_, rfl⟩
      rw [eav] at rA bA
      rw [ebv] at rB bB
      rw [ecv] at rC bC
      replace eav := Lib.hid eav
      replace ebv := Lib.hid ebv
      replace ecv := Lib.hid ecv
      clear ha0 ha1 hb0 hb1 hc0 hc1
      obtain ⟨at', eat⟩ : ∃ x, adr (IntKind.u64.wrap (bv + u.m)) = x := ⟨_, rfl⟩
      have hat0 := adr_bd (IntKind.u64.wrap (bv + u.m))
      rw [eat] at hat0
      obtain ⟨hat0, hat1⟩ := hat0
      have eat' : IntKind.u64.wrap (bv + u.m) % 65536 = at' := eat
      replace eat := Lib.hid eat
      go_upto_region 10 with fail
      go_quiet (fail)
      go_upto_region 11 with fail
      go_quiet (fail)
      go_upto_region 12 with fail
      have e14 : wrap64 ((IntKind.u64.wrap (bv + u.m)).tmod 65536) = at' := by
        rw [Int.tmod_eq_emod_of_nonneg (wrap_bd _).1, eat', IntWalk.wrap64_in _ (by omega)]
      replace e14 := Lib.hid e14
      clear eat'
      go_upto_region 13 with fail
      rw [e14.out]
      clear e14
      obtain ⟨nx, enx⟩ : ∃ x, (ap + 1) % 65536 = x := ⟨_, rfl⟩
      have nb : 0 ≤ nx ∧ nx < 65536 := by omega
      rw [enx] at hnx ⊢
      obtain ⟨nb0, nb1⟩ := nb
      clear enx
      generalize hw4 : w3.drewN _ = w4
      have R4 := Lib.hid (show RegsAt w4 RB c from by rw [← hw4]; exact R3.out)
      have F4 := Lib.hid (show FlatAt w4 base FB vw m from by rw [← hw4]; exact ⟨F3.out.at_, F3.out.row⟩)
      have U4 := Lib.hid (show Upd (fun _ => False) w w4 from by rw [← hw4]; exact U3.out.drewN _)
      have X4 := Lib.hid (show InsAt w4 XB u from by rw [← hw4]; exact X3.out)
      clear hw4 R3 F3 U3 X3 d0 d1 d2 d3 d4 rA rB rC
      obtain ⟨d0, d1, d2, d3, d4⟩ := X4.out.c
      rw [ea.out] at d1
      have rA := R4.out.reg HC.out u.a (by have := ea.out; omega) (by have := ea.out; omega)
      rw [show u.a.toNat = aa from by have := ea.out; omega, eav.out] at rA
      have hd : u.op = 0 ∨ u.op = 1 ∨ u.op = 2 ∨ u.op = 3 ∨ u.op = 4 ∨ u.op = 5 ∨ u.op = 6 ∨ u.op = 7 ∨ u.op = 8 ∨ u.op = 9 ∨ u.op = 10 ∨ u.op = 11 := by omega
      clear ho0 ho1
      have fz := R4.out.free aa
      have fz8 := R4.out.free 8
      have p8 := R4.out.pc HC.out
      have hk := Lib.hid (show 0 ≤ u.a ∧ u.a ≤ 7 ∧ u.a.toNat = aa from by have := ea.out; omega)
      have p8b : ∀ v, (w4.setCell ⟨RB, aa, none⟩ (.int .u64 v)).cell? ⟨RB, 8, none⟩ = some (.int .u64 c.pc) := fun v => by
        have h := (R4.out.setReg HC.out.n u.a hk.out.1 hk.out.2.1 v).pc' (Cp.set_n HC.out.n _ _ _)
        rw [hk.out.2.2] at h
        exact h
      have fz8b : ∀ v, (w4.setCell ⟨RB, aa, none⟩ (.int .u64 v)).frozen? ⟨RB, 8, none⟩ = false := fun v => by
        have h := (R4.out.setReg HC.out.n u.a hk.out.1 hk.out.2.1 v).free 8
        rw [hk.out.2.2] at h
        exact h
      replace U4 := Lib.hid (U4.out.mono (T := fun k => k = RB ∨ vw.ownBlock = some k) (fun _ _ h => h.elim))
      have fin := Lib.hid (fun v n => fin_set HC.out.n R4.out F4.out U4.out HN.out hRF u.a hk.out.1 hk.out.2.1 v n)
      rw [hk.out.2.2] at fin
      have finP := Lib.hid (fun n => fin_pc HC.out.n R4.out F4.out U4.out HN.out hRF n)
      rcases hd with hop | hop | hop | hop | hop | hop | hop | hop | hop | hop | hop | hop
      all_goals
        rw [hop] at d0
        replace hop := Lib.hid hop
      · skip
        have hex : ExIs c m u ⟨c, m, 0, 13⟩ := by simp only [ExIs]; simp only [Cp.exec, show u.op.toNat = 0 from by have := hop.out; omega]
        replace hex := Lib.hid hex
        clear hop
        clear fin finP
        go_wp2
        go_ret2
        rw [show c.exec m u = _ from hex.out]
        exact ⟨rfl, R4.out, F4.out, U4.out⟩
      · skip
        have hex : ExIs c m u ⟨c.set u.a (u.m) nx, m, 0, 0⟩ := by simp only [ExIs]; simp only [Cp.exec, show u.op.toNat = 1 from by have := hop.out; omega, hnx.out]
        replace hex := Lib.hid hex
        clear hop
        have V := Lib.hid (fin.out (u.m) nx)
        clear fin finP
        go_upto_region 20 with fail
        go_still_tail 7, (by kernel_rfl)
        change wpList _ _ _ _ _ w4.drew
        go_wp2
        go_ret2
        rw [show c.exec m u = _ from hex.out]
        exact ⟨rfl, V.out.1, V.out.2.1, V.out.2.2⟩
      · skip
        have hex : ExIs c m u ⟨c.set u.a (IntKind.u64.wrap (bv + cv)) nx, m, 0, 0⟩ := by simp only [ExIs]; simp only [Cp.exec, show u.op.toNat = 2 from by have := hop.out; omega, ebv.out, ecv.out, hnx.out]
        replace hex := Lib.hid hex
        clear hop
        have V := Lib.hid (fin.out (IntKind.u64.wrap (bv + cv)) nx)
        clear fin finP
        go_upto_region 22 with fail
        go_still_tail 9, (by kernel_rfl)
        change wpList _ _ _ _ _ w4.drew
        go_wp2
        go_ret2
        rw [show c.exec m u = _ from hex.out]
        exact ⟨rfl, V.out.1, V.out.2.1, V.out.2.2⟩
      · skip
        have hex : ExIs c m u ⟨c.set u.a (IntKind.u64.wrap (bv - cv)) nx, m, 0, 0⟩ := by simp only [ExIs]; simp only [Cp.exec, show u.op.toNat = 3 from by have := hop.out; omega, ebv.out, ecv.out, hnx.out]
        replace hex := Lib.hid hex
        clear hop
        have V := Lib.hid (fin.out (IntKind.u64.wrap (bv - cv)) nx)
        clear fin finP
        go_upto_region 24 with fail
        go_still_tail 9, (by kernel_rfl)
        change wpList _ _ _ _ _ w4.drew
        go_wp2
        go_ret2
        rw [show c.exec m u = _ from hex.out]
        exact ⟨rfl, V.out.1, V.out.2.1, V.out.2.2⟩
      · skip
        have hex : ExIs c m u ⟨c.set u.a (landI bv cv) nx, m, 0, 0⟩ := by simp only [ExIs]; simp only [Cp.exec, show u.op.toNat = 4 from by have := hop.out; omega, ebv.out, ecv.out, hnx.out]
        replace hex := Lib.hid hex
        clear hop
        have V := Lib.hid (fin.out (landI bv cv) nx)
        clear fin finP
        go_upto_region 26 with fail
        go_still_tail 9, (by kernel_rfl)
        change wpList _ _ _ _ _ w4.drew
        go_wp2
        go_ret2
        rw [show c.exec m u = _ from hex.out]
        exact ⟨rfl, V.out.1, V.out.2.1, V.out.2.2⟩
      · skip
        have hex : ExIs c m u ⟨c.set u.a (lxorI bv cv) nx, m, 0, 0⟩ := by simp only [ExIs]; simp only [Cp.exec, show u.op.toNat = 5 from by have := hop.out; omega, ebv.out, ecv.out, hnx.out]
        replace hex := Lib.hid hex
        clear hop
        have V := Lib.hid (fin.out (lxorI bv cv) nx)
        clear fin finP
        go_upto_region 28 with fail
        go_still_tail 9, (by kernel_rfl)
        change wpList _ _ _ _ _ w4.drew
        go_wp2
        go_ret2
        rw [show c.exec m u = _ from hex.out]
        exact ⟨rfl, V.out.1, V.out.2.1, V.out.2.2⟩
      · skip
        have cl6 := Lib.hid (cL.out at' w4 F4.out)
        by_cases hl6 : m.ldE at' = 0
        · skip
          have hex : ExIs c m u ⟨c.set u.a (m.ld at') nx, m, 0, 0⟩ := by simp only [ExIs]; simp only [Cp.exec, show u.op.toNat = 6 from by have := hop.out; omega, ebv.out, eat.out, hnx.out]; rw [if_pos hl6]
          replace hex := Lib.hid hex
          clear hop
          rw [hl6] at cl6
          clear hl6 fin finP fz fz8 p8 p8b fz8b
          generalize m.ld at' = lv at cl6 hex
          go_wp2_with fail
          refine cl6.out.mono ?_
          rintro e w7' ⟨rfl, n7, rfl⟩
          have R7 := Lib.hid (show RegsAt (w4.drewN n7) RB c from R4.out)
          have F7 := Lib.hid (show FlatAt (w4.drewN n7) base FB vw m from ⟨F4.out.at_, F4.out.row⟩)
          have U7 := Lib.hid (U4.out.drewN n7)
          have X7 := Lib.hid (show InsAt (w4.drewN n7) XB u from X4.out)
          clear R4 F4 U4 X4 d0 d1 d2 d3 d4 rA
          generalize w4.drewN n7 = w7 at R7 F7 U7 X7 ⊢
          have d1 := X7.out.c.2.1
          rw [ea.out] at d1
          have fz := R7.out.free aa
          have fz8 := R7.out.free 8
          have rA := R7.out.reg HC.out u.a hk.out.1 hk.out.2.1
          rw [hk.out.2.2, eav.out] at rA
          have p8b : (w7.setCell ⟨RB, aa, none⟩ (.int .u64 lv)).cell? ⟨RB, 8, none⟩ = some (.int .u64 c.pc) := by
            have h := (R7.out.setReg HC.out.n u.a hk.out.1 hk.out.2.1 lv).pc' (Cp.set_n HC.out.n _ _ _)
            rw [hk.out.2.2] at h
            exact h
          have fz8b : (w7.setCell ⟨RB, aa, none⟩ (.int .u64 lv)).frozen? ⟨RB, 8, none⟩ = false := by
            have h := (R7.out.setReg HC.out.n u.a hk.out.1 hk.out.2.1 lv).free 8
            rw [hk.out.2.2] at h
            exact h
          have V := Lib.hid (fin_set HC.out.n R7.out F7.out U7.out HN.out hRF u.a hk.out.1 hk.out.2.1 lv nx)
          rw [hk.out.2.2] at V
          go_upto_region 37 with fail
          go_still_tail 7, (by kernel_rfl)
          change wpList _ _ _ _ _ w7.drew
          go_wp2
          go_ret2
          rw [show c.exec m u = _ from hex.out]
          exact ⟨rfl, V.out.1, V.out.2.1, V.out.2.2⟩
        · skip
          have hex : ExIs c m u ⟨c, m, 0, m.ldE at'⟩ := by simp only [ExIs]; simp only [Cp.exec, show u.op.toNat = 6 from by have := hop.out; omega, ebv.out, eat.out]; rw [if_neg hl6]
          replace hex := Lib.hid hex
          clear hop
          have hl' : (m.ldE at' != 0) = true := by simp [hl6]
          clear fin finP hl6
          generalize m.ldE at' = er at cl6 hl' hex
          generalize m.ld at' = lv at cl6
          go_wp2_with fail
          refine cl6.out.mono ?_
          rintro e w7 ⟨rfl, n7, rfl⟩
          go_wp2
          go_ret2
          rw [show c.exec m u = _ from hex.out]
          exact ⟨rfl, R4.out, ⟨F4.out.at_, F4.out.row⟩, U4.out.drewN _⟩
      · skip
        have cs7 := Lib.hid (fun W (h : FlatAt W base FB vw m) => rstore_any base FB vw m at' av W h)
        go_upto_region 39 with fail
        go_still_tail 9, (by kernel_rfl)
        change wpList _ _ _ _ _ w4.drew
        have F4d := Lib.hid (show FlatAt w4.drew base FB vw m from ⟨F4.out.at_, F4.out.row⟩)
        have R4d := Lib.hid (show RegsAt w4.drew RB c from R4.out)
        have U4d := Lib.hid U4.out.drew
        clear fin finP R4 F4 U4 fz fz8 p8 p8b fz8b
        generalize w4.drew = w5 at F4d R4d U4d ⊢
        go_wp2_with fail
        refine (cs7.out _ F4d.out).mono ?_
        rintro e w7 ⟨rfl, F7, u7⟩
        have R7 := Lib.hid (R4d.out.kept u7 (fun e => HN.out RB e rfl))
        have U7 := Lib.hid (U4d.out.trans (u7.mono (fun _ _ h => .inr h)))
        replace F7 := Lib.hid F7
        clear u7 F4d R4d U4d cs7
        have fz8 := R7.out.free 8
        have p8 := R7.out.pc HC.out
        by_cases hs7 : m.stE at' = 0
        · skip
          have hex : ExIs c m u ⟨⟨c.R, nx⟩, m.st at' av, 0, 0⟩ := by simp only [ExIs]; simp only [Cp.exec, show u.op.toNat = 7 from by have := hop.out; omega, ebv.out, eat.out, hnx.out, eav.out]; rw [if_pos hs7]
          replace hex := Lib.hid hex
          clear hop
          rw [hs7]
          have V := Lib.hid (fin_pc HC.out.n R7.out F7.out U7.out HN.out hRF nx)
          clear hs7
          go_wp2
          go_ret2
          rw [show c.exec m u = _ from hex.out]
          exact ⟨rfl, V.out.1, V.out.2.1, V.out.2.2⟩
        · skip
          have hex : ExIs c m u ⟨c, m, 0, m.stE at'⟩ := by simp only [ExIs]; simp only [Cp.exec, show u.op.toNat = 7 from by have := hop.out; omega, ebv.out, eat.out]; rw [if_neg hs7]
          replace hex := Lib.hid hex
          clear hop
          have hl' : (m.stE at' != 0) = true := by simp [hs7]
          have F7' := Lib.hid (show FlatAt w7 base FB vw m from by have h := F7.out; unfold Fl.st at h; rw [if_neg hs7] at h; exact h)
          clear hs7
          generalize m.stE at' = er at hl' hex ⊢
          go_wp2
          go_ret2
          rw [show c.exec m u = _ from hex.out]
          exact ⟨rfl, R7.out, F7'.out, U7.out⟩
      · skip
        have hex : ExIs c m u ⟨⟨c.R, u.m⟩, m, 0, 0⟩ := by simp only [ExIs]; simp only [Cp.exec, show u.op.toNat = 8 from by have := hop.out; omega]
        replace hex := Lib.hid hex
        clear hop
        have V := Lib.hid (finP.out (u.m))
        clear fin finP
        go_wp2
        go_ret2
        rw [show c.exec m u = _ from hex.out]
        exact ⟨rfl, V.out.1, V.out.2.1, V.out.2.2⟩
      · skip
        by_cases hz : av = 0
        · skip
          have hex : ExIs c m u ⟨⟨c.R, u.m⟩, m, 0, 0⟩ := by simp only [ExIs]; simp only [Cp.exec, show u.op.toNat = 9 from by have := hop.out; omega, eav.out]; rw [if_pos hz]
          replace hex := Lib.hid hex
          clear hop
          subst hz
          have V := Lib.hid (finP.out (u.m))
          clear fin finP
          go_upto_region 45 with fail
          go_quiet (fail)
          go_wp2
          go_ret2
          rw [show c.exec m u = _ from hex.out]
          exact ⟨rfl, V.out.1, ⟨V.out.2.1.at_, V.out.2.1.row⟩, ⟨V.out.2.2.os, V.out.2.2.tape, V.out.2.2.output, V.out.2.2.size, V.out.2.2.block⟩⟩
        · skip
          have hex : ExIs c m u ⟨⟨c.R, nx⟩, m, 0, 0⟩ := by simp only [ExIs]; simp only [Cp.exec, show u.op.toNat = 9 from by have := hop.out; omega, eav.out, hnx.out]; rw [if_neg hz]
          replace hex := Lib.hid hex
          clear hop
          have hz' : (av == 0) = false := by rw [beq_eq_false_iff_ne]; exact hz
          have V := Lib.hid (finP.out (nx))
          clear fin finP
          go_upto_region 45 with fail
          go_quiet (fail)
          go_wp2
          go_ret2
          rw [show c.exec m u = _ from hex.out]
          exact ⟨rfl, V.out.1, ⟨V.out.2.1.at_, V.out.2.1.row⟩, ⟨V.out.2.2.os, V.out.2.2.tape, V.out.2.2.output, V.out.2.2.size, V.out.2.2.block⟩⟩
      · skip
        by_cases hz : bv < cv
        · skip
          have hex : ExIs c m u ⟨c.set u.a 1 nx, m, 0, 0⟩ := by simp only [ExIs]; simp only [Cp.exec, show u.op.toNat = 10 from by have := hop.out; omega, ebv.out, ecv.out, hnx.out]; rw [if_pos hz]
          replace hex := Lib.hid hex
          clear hop
          have R5 := Lib.hid (show RegsAt (w4.setCell ⟨RB, aa, none⟩ (.int .u64 0)).drew RB (c.set u.a 0 c.pc) from by
            have h := R4.out.setReg HC.out.n u.a hk.out.1 hk.out.2.1 0
            rw [hk.out.2.2] at h
            exact h)
          have u5 := ((Upd.refl (fun k => k = RB) w4).setCell (p := ⟨RB, aa, none⟩) (.inl rfl) (.int .u64 0)).drew
          have F5 := Lib.hid (F4.out.kept u5 (fun e => hRF e.symm) (fun j hj e => HN.out j hj e))
          have U5 := Lib.hid (U4.out.trans (u5.mono (fun _ _ h => .inl h)))
          have X5 := Lib.hid (X4.out.kept u5 (fun e => by have h1 := hnew.out; have h2 := lt_of_heap HR.out; omega))
          clear fin finP u5
          go_upto_region 30 with fail
          go_still_tail 6, (by kernel_rfl)
          change wpList _ _ _ _ _ w4.drew
          go_upto_region 32 with fail
          clear R4 F4 U4 X4 d0 d1 d2 d3 d4 rA fz fz8 p8 p8b fz8b
          generalize (w4.setCell ⟨RB, aa, none⟩ (.int .u64 0)).drew = w5 at R5 F5 U5 X5 ⊢
          have hc5 := Lib.hid (Cp.set_n HC.out.n u.a 0 c.pc)
          have d1 := X5.out.c.2.1
          rw [ea.out] at d1
          have fz := R5.out.free aa
          have fz8 := R5.out.free 8
          have rA : ∃ y, w5.cell? ⟨RB, aa, none⟩ = some (.int .u64 y) := ⟨_, cell_block (l := (c.set u.a 0 c.pc).R ++ [(c.set u.a 0 c.pc).pc]) R5.out aa (by rw [List.length_append, hc5.out]; simp; omega)⟩
          obtain ⟨y5, rA⟩ := rA
          have p8b : (w5.setCell ⟨RB, aa, none⟩ (.int .u64 1)).cell? ⟨RB, 8, none⟩ = some (.int .u64 c.pc) := by
            have h := (R5.out.setReg hc5.out u.a hk.out.1 hk.out.2.1 1).pc' (Cp.set_n hc5.out _ _ _)
            rw [hk.out.2.2] at h
            exact h
          have fz8b : (w5.setCell ⟨RB, aa, none⟩ (.int .u64 1)).frozen? ⟨RB, 8, none⟩ = false := by
            have h := (R5.out.setReg hc5.out u.a hk.out.1 hk.out.2.1 1).free 8
            rw [hk.out.2.2] at h
            exact h
          have V := Lib.hid (fin_set hc5.out R5.out F5.out U5.out HN.out hRF u.a hk.out.1 hk.out.2.1 1 nx)
          rw [hk.out.2.2, show (c.set u.a 0 c.pc).set u.a 1 nx = c.set u.a 1 nx from by simp [Cp.set]] at V
          go_still_tail 6, (by kernel_rfl)
          change wpList _ _ _ _ _ w5.drew
          go_wp2
          go_ret2
          rw [show c.exec m u = _ from hex.out]
          exact ⟨rfl, V.out.1, V.out.2.1, V.out.2.2⟩
        · skip
          have hex : ExIs c m u ⟨c.set u.a (0) nx, m, 0, 0⟩ := by simp only [ExIs]; simp only [Cp.exec, show u.op.toNat = 10 from by have := hop.out; omega, ebv.out, ecv.out, hnx.out]; rw [if_neg hz]
          replace hex := Lib.hid hex
          clear hop
          have hz' : cv ≤ bv := by omega
          have V := Lib.hid (fin.out (0) nx)
          clear fin finP
          go_upto_region 30 with fail
          go_still_tail 6, (by kernel_rfl)
          change wpList _ _ _ _ _ w4.drew
          go_wp2
          go_ret2
          rw [show c.exec m u = _ from hex.out]
          exact ⟨rfl, V.out.1, V.out.2.1, V.out.2.2⟩
      · skip
        have hex : ExIs c m u ⟨⟨c.R, nx⟩, m, u.m, 14⟩ := by simp only [ExIs]; simp only [Cp.exec, show u.op.toNat = 11 from by have := hop.out; omega, hnx.out]
        replace hex := Lib.hid hex
        clear hop
        have V := Lib.hid (finP.out (nx))
        clear fin finP
        go_wp2
        go_ret2
        rw [show c.exec m u = _ from hex.out]
        exact ⟨rfl, V.out.1, V.out.2.1, V.out.2.2⟩
end Go.Proofs.YtcbiangocfhhlaaDoor

/-
  The document's Run.
-/
namespace Go.Proofs.YtcbiangocfhhlaaDoor
open Go.ChangeShapes Go.WideShapes Go.ChangeAt Go.RowKit

/-- k steps were OK, and this is where it stands -/
def Cp.At (c : Cp) (m : Fl) (N k : Nat) (d : Cp) (n : Fl) : Prop := c.run m N = ((d.run n (N - k)).1 + k, (d.run n (N - k)).2)
theorem Cp.at_zero (c : Cp) (m : Fl) (N : Nat) : c.At m N 0 c m := by unfold Cp.At; simp
theorem Cp.run_succ (c : Cp) (m : Fl) (k : Nat) : c.run m (k + 1) = if (c.step m).e = 0 then ((((c.step m).c).run (c.step m).m k).1 + 1, (((c.step m).c).run (c.step m).m k).2) else (0, c.step m) := by rw [Cp.run]
theorem Cp.At.on {c d : Cp} {m n : Fl} {N k : Nat} (h : c.At m N k d n) (hk : k < N) (he : (d.step n).e = 0) : c.At m N (k + 1) (d.step n).c (d.step n).m := by
  unfold Cp.At at h ⊢
  rw [h, show N - k = (N - (k + 1)) + 1 from by omega, Cp.run_succ, if_pos he]
  simp only [Prod.mk.injEq, and_true]
  omega
theorem Cp.At.out {c d : Cp} {m n : Fl} {N k : Nat} (h : c.At m N k d n) (hk : k < N) (he : (d.step n).e ≠ 0) : c.run m N = (k, d.step n) := by
  unfold Cp.At at h
  rw [h, show N - k = (N - (k + 1)) + 1 from by omega, Cp.run_succ, if_neg he]
  simp
theorem Cp.At.end {c d : Cp} {m n : Fl} {N : Nat} (h : c.At m N N d n) : c.run m N = (N, ⟨d, n, 0, 0⟩) := by
  unfold Cp.At at h
  rw [h, Nat.sub_self]
  simp [Cp.run]
theorem Cp.run_zero (c : Cp) (m : Fl) : c.run m 0 = (0, ⟨c, m, 0, 0⟩) := rfl
set_option maxHeartbeats 4000000 in
theorem rrun_any (base RB FB : Nat) (vw : Value) (c : Cp) (m : Fl) (N : Int) (hN : N ≤ 100000) (w : World) (hc : c.Ok) (hm : m.Ok) (hR : RegsAt w RB c) (hF : FlatAt w base FB vw m) (hne : ∀ g, vw.ownBlock = some g → g ≠ RB) (hRF : RB ≠ FB) :
    Calls Tryd.prog 16 #[.pointer (some ⟨RB, 0, none⟩), .pointer (some ⟨FB, 0, none⟩), .int .i64 N] w fun e w' => e = .returned (.tuple #[.int .i64 ((c.run m N.toNat).1 : Nat), .int .i64 (c.run m N.toNat).2.call, .int .i64 (c.run m N.toNat).2.e]) ∧ RegsAt w' RB (c.run m N.toNat).2.c ∧ FlatAt w' base FB vw (c.run m N.toNat).2.m ∧ Upd (fun k => k = RB ∨ vw.ownBlock = some k) w w' := by
  have HR := Lib.hid hR
  have HF := Lib.hid hF
  have HC := Lib.hid hc
  have HM := Lib.hid hm
  have HN := Lib.hid hne
  have HRF := Lib.hid hRF
  clear hR hF hc hm hne hRF
  have cS := Lib.hid (fun (d : Cp) (n : Fl) (W : World) hd hn h1 h2 => rstep_any base RB FB vw d n W hd hn h1 h2 HN.out HRF.out)
  by_cases h0 : N ≤ 0
  · have e0 : N.toNat = 0 := by omega
    rw [e0, Cp.run_zero]
    clear e0
    go_enter Tryd.func16, Tryd.ntmps16
    go_wp2
    go_loopw [9] (fun t wr => t = .int .i64 0 ∧ wr = w) (fun t _ => 0)
    case atStart => exact ⟨rfl, rfl⟩
    case round =>
      obtain ⟨rfl, rfl⟩ := hrel
      go_wp2
      go_ret3
      exact ⟨rfl, HR.out, HF.out, Upd.refl _ _⟩
  obtain ⟨M, rfl⟩ := Int.eq_ofNat_of_zero_le (show 0 ≤ N by omega)
  rw [Int.toNat_natCast]
  have hA0 := Lib.hid (c.at_zero m M)
  go_enter Tryd.func16, Tryd.ntmps16
  go_wp2_with fail
  go_loopw [9] (fun t wr => ∃ (k : Nat) (d : Cp) (n : Fl), k ≤ M ∧ t = .int .i64 k ∧ Hid (c.At m M k d n) ∧ Hid (d.Ok ∧ n.Ok) ∧ Hid (RegsAt wr RB d) ∧ Hid (FlatAt wr base FB vw n) ∧ Hid (Upd (fun k => k = RB ∨ vw.ownBlock = some k) w wr)) (fun t _ => M - (intOf t).toNat)
  case atStart => exact ⟨0, c, m, by omega, rfl, hA0, Lib.hid ⟨HC.out, HM.out⟩, HR, HF, Lib.hid (Upd.refl _ _)⟩
  case round =>
    obtain ⟨k, d, n, hk, rfl, hA, hOk, hR, hF, hU⟩ := hrel
    clear hA0 HR HF HC HM
    by_cases hlt : k < M
    · have cs := Lib.hid (cS.out d n wr hOk.out.1 hOk.out.2 hR.out hF.out)
      have hok' := Lib.hid (hOk.out.1.step hOk.out.2)
      have k0 : (0 : Int) ≤ (k : Int) := by omega
      have k1 : (k : Int) < (M : Int) := by omega
      clear cS
      by_cases he : (d.step n).e = 0
      · have hA' := Lib.hid (hA.out.on hlt he)
        rw [he] at cs
        clear he hA hR hF hOk
        generalize d.step n = T at cs hA' hok'
        go_wp2_with fail
        refine cs.out.mono ?_
        rintro e w2 ⟨rfl, R2, F2, u2⟩
        have U2 := Lib.hid (hU.out.trans u2)
        replace R2 := Lib.hid R2
        replace F2 := Lib.hid F2
        clear u2 cs hU
        go_wp2
        go_roundw
        case rel => exact ⟨k + 1, T.c, T.m, by omega, by go_num, hA', hok', R2, F2, U2⟩
        case measure => simp [intOf]; omega
      · have hA' := Lib.hid (hA.out.out hlt he)
        have he' : ((d.step n).e != 0) = true := by simp [he]
        clear he hA hR hF hOk
        generalize d.step n = T at cs hA' hok' he'
        go_wp2_with fail
        refine cs.out.mono ?_
        rintro e w2 ⟨rfl, R2, F2, u2⟩
        have U2 := Lib.hid (hU.out.trans u2)
        replace R2 := Lib.hid R2
        replace F2 := Lib.hid F2
        clear u2 cs hU
        go_wp2
        go_ret3
        rw [hA'.out]
        exact ⟨rfl, R2.out, F2.out, U2.out⟩
    · have e : k = M := by omega
      subst e
      have hA' := Lib.hid hA.out.end
      clear cS hA
      go_wp2
      go_ret3
      rw [hA'.out]
      exact ⟨rfl, hR.out, hF.out, hU.out⟩
end Go.Proofs.YtcbiangocfhhlaaDoor

/-
  Plain: what the laws say of runs: in parts, on what they hang, what an error leaves.
-/
namespace Go.Proofs.YtcbiangocfhhlaaDoor

theorem run_e (c : Cp) (m : Fl) : ∀ k, (c.run m k).1 ≤ k
  | 0 => by simp [Cp.run]
  | k + 1 => by
    rw [Cp.run_succ]
    split
    · have := run_e (c.step m).c (c.step m).m k
      simp only
      omega
    · simp
/-- run in two parts -/
theorem run_parts : ∀ (a : Nat) (c : Cp) (m : Fl) (b : Nat), c.run m (a + b) = if (c.run m a).2.e = 0 then ((c.run m a).1 + ((c.run m a).2.c.run (c.run m a).2.m b).1, ((c.run m a).2.c.run (c.run m a).2.m b).2) else c.run m a
  | 0, c, m, b => by simp [Cp.run]
  | a + 1, c, m, b => by
    rw [show a + 1 + b = (a + b) + 1 from by omega, Cp.run_succ, Cp.run_succ c m a]
    by_cases he : (c.step m).e = 0
    · rw [if_pos he, if_pos he, run_parts a]
      simp only
      split
      · simp only [Prod.mk.injEq, and_true]; omega
      · rfl
    · rw [if_neg he, if_neg he, if_neg he]
/-- the addresses that a step loads -/
def Cp.lds (c : Cp) (m : Fl) : List Int :=
  adr c.pc :: (if m.ldE (adr c.pc) = 0 ∧ Ins.hit (m.ld (adr c.pc)) = true ∧ (Ins.of (m.ld (adr c.pc))).op = 6 then [adr (IntKind.u64.wrap (c.reg (Ins.of (m.ld (adr c.pc))).b + (Ins.of (m.ld (adr c.pc))).m))] else [])
/-- those that a run loads -/
def Cp.runL (c : Cp) (m : Fl) : Nat → List Int
  | 0 => []
  | k + 1 => c.lds m ++ (if (c.step m).e = 0 then (c.step m).c.runL (c.step m).m k else [])
theorem Cp.runL_succ (c : Cp) (m : Fl) (k : Nat) : c.runL m (k + 1) = c.lds m ++ (if (c.step m).e = 0 then (c.step m).c.runL (c.step m).m k else []) := by rw [Cp.runL]
/-- two memories that are alike at the given addresses -/
structure Like (A : Int → Prop) (m n : Fl) : Prop where
  len : m.W.length = n.W.length
  first : m.first = n.first
  at_ : ∀ a, A a → 0 ≤ a → m.W.getD a.toNat 0 = n.W.getD a.toNat 0
theorem Like.isIn {A : Int → Prop} {m n : Fl} (h : Like A m n) (a : Int) : m.isIn a = n.isIn a := by unfold Fl.isIn; rw [h.len]
theorem Like.ldE {A : Int → Prop} {m n : Fl} (h : Like A m n) (a : Int) : m.ldE a = n.ldE a := by unfold Fl.ldE; rw [h.isIn]
theorem Like.stE {A : Int → Prop} {m n : Fl} (h : Like A m n) (a : Int) : m.stE a = n.stE a := by unfold Fl.stE; rw [h.isIn, h.first]
theorem Like.ld {A : Int → Prop} {m n : Fl} (h : Like A m n) (a : Int) (ha : A a) : m.ld a = n.ld a := by
  unfold Fl.ld
  rw [h.isIn]
  split
  · rename_i hi
    exact h.at_ a ha (in_iff hi).1
  · rfl
theorem Like.st {A : Int → Prop} {m n : Fl} (h : Like A m n) (a v : Int) : Like A (m.st a v) (n.st a v) := by
  unfold Fl.st
  rw [h.stE]
  split
  · refine ⟨by simp [h.len], h.first, fun x hx h0 => ?_⟩
    simp only [List.getD_eq_getElem?_getD, List.getElem?_set]
    have := h.at_ x hx h0
    simp only [List.getD_eq_getElem?_getD] at this
    by_cases e : a.toNat = x.toNat
    · simp only [e, if_true, h.len]
    · simp only [e, if_false, this]
  · exact h
theorem exec_like {A : Int → Prop} {m n : Fl} (h : Like A m n) (c : Cp) (u : Ins) (hu : u.Ok) (hA : u.op = 6 → A (adr (IntKind.u64.wrap (c.reg u.b + u.m)))) :
    (c.exec m u).c = (c.exec n u).c ∧ (c.exec m u).call = (c.exec n u).call ∧ (c.exec m u).e = (c.exec n u).e ∧ Like A (c.exec m u).m (c.exec n u).m := by
  have hd : u.op = 0 ∨ u.op = 1 ∨ u.op = 2 ∨ u.op = 3 ∨ u.op = 4 ∨ u.op = 5 ∨ u.op = 6 ∨ u.op = 7 ∨ u.op = 8 ∨ u.op = 9 ∨ u.op = 10 ∨ u.op = 11 := by have := hu.o; omega
  unfold Cp.exec
  rcases hd with e | e | e | e | e | e | e | e | e | e | e | e
  case inr.inr.inr.inr.inr.inr.inl =>
    rw [e]
    have h1 := h.ld _ (hA e)
    have h2 := h.ldE (adr (IntKind.u64.wrap (c.reg u.b + u.m)))
    simp only [show Int.toNat 6 = 6 from rfl, h1, h2]
    split <;> exact ⟨rfl, rfl, rfl, h⟩
  case inr.inr.inr.inr.inr.inr.inr.inl =>
    rw [e]
    have h2 := h.stE (adr (IntKind.u64.wrap (c.reg u.b + u.m)))
    simp only [show Int.toNat 7 = 7 from rfl, h2]
    split
    · exact ⟨rfl, rfl, rfl, h.st _ _⟩
    · exact ⟨rfl, rfl, rfl, h⟩
  all_goals
    rw [e]
    exact ⟨rfl, rfl, rfl, h⟩
theorem step_like {A : Int → Prop} {m n : Fl} (h : Like A m n) (c : Cp) (hA : ∀ a, a ∈ c.lds m → A a) :
    c.lds m = c.lds n ∧ (c.step m).c = (c.step n).c ∧ (c.step m).call = (c.step n).call ∧ (c.step m).e = (c.step n).e ∧ Like A (c.step m).m (c.step n).m := by
  have h0 : A (adr c.pc) := hA _ (by unfold Cp.lds; simp)
  have h1 := h.ld _ h0
  have h2 := h.ldE (adr c.pc)
  have hl : c.lds m = c.lds n := by unfold Cp.lds; rw [h1, h2]
  refine ⟨hl, ?_⟩
  by_cases he : m.ldE (adr c.pc) = 0
  · have he' : n.ldE (adr c.pc) = 0 := by rw [← h2]; exact he
    cases hh : Ins.hit (m.ld (adr c.pc))
    · rw [step_bad he hh, step_bad he' (by rw [← h1]; exact hh)]
      exact ⟨rfl, rfl, rfl, h⟩
    · rw [step_yes he hh, step_yes he' (by rw [← h1]; exact hh), ← h1]
      refine exec_like h c _ (hit_ins hh).1 fun e6 => hA _ ?_
      unfold Cp.lds
      rw [if_pos ⟨he, hh, e6⟩]
      simp
  · have he' : n.ldE (adr c.pc) ≠ 0 := by rw [← h2]; exact he
    rw [step_no he, step_no he', h2]
    exact ⟨rfl, rfl, rfl, h⟩
/-- a run hangs on its registers and on the words that it loads alone -/
theorem run_like {A : Int → Prop} : ∀ (k : Nat) (c : Cp) (m n : Fl), Like A m n → (∀ a, a ∈ c.runL m k → A a) →
    c.runL m k = c.runL n k ∧ (c.run m k).1 = (c.run n k).1 ∧ (c.run m k).2.c = (c.run n k).2.c ∧ (c.run m k).2.call = (c.run n k).2.call ∧ (c.run m k).2.e = (c.run n k).2.e
  | 0, c, m, n, h, _ => ⟨rfl, rfl, rfl, rfl, rfl⟩
  | k + 1, c, m, n, h, hA => by
    obtain ⟨s0, s1, s2, s3, s4⟩ := step_like h c (fun a ha => hA a (by rw [Cp.runL_succ]; simp [ha]))
    rw [Cp.runL_succ, Cp.runL_succ c n, Cp.run_succ, Cp.run_succ c n, s0, ← s3]
    by_cases he : (c.step m).e = 0
    · rw [if_pos he, if_pos he, if_pos he, if_pos he, ← s1]
      obtain ⟨r0, r1, r2, r3, r4⟩ := run_like k (c.step m).c (c.step m).m (c.step n).m s4 (fun a ha => hA a (by rw [Cp.runL_succ, if_pos he]; simp [ha]))
      exact ⟨by rw [r0], by simp only [r1], r2, r3, r4⟩
    · rw [if_neg he, if_neg he, if_neg he, if_neg he]
      exact ⟨rfl, rfl, s1, s2, s3⟩
/-- with an error nothing changes; with a call just where it goes on -/
theorem exec_err {c : Cp} {m : Fl} {u : Ins} (hu : u.Ok) (h : (c.exec m u).e ≠ 0) : ((c.exec m u).e ≠ 14 ∧ (c.exec m u).c = c ∨ (c.exec m u).e = 14 ∧ (c.exec m u).c = ⟨c.R, c.next⟩) ∧ (c.exec m u).m = m := by
  have hd : u.op = 0 ∨ u.op = 1 ∨ u.op = 2 ∨ u.op = 3 ∨ u.op = 4 ∨ u.op = 5 ∨ u.op = 6 ∨ u.op = 7 ∨ u.op = 8 ∨ u.op = 9 ∨ u.op = 10 ∨ u.op = 11 := by have := hu.o; omega
  unfold Cp.exec at h ⊢
  rcases hd with e | e | e | e | e | e | e | e | e | e | e | e
  all_goals rw [e] at h ⊢
  case inl => exact ⟨.inl ⟨(show (13 : Int) ≠ 14 by decide), rfl⟩, rfl⟩
  case inr.inr.inr.inr.inr.inr.inl =>
    simp only [show Int.toNat 6 = 6 from rfl] at h ⊢
    split at h
    · exact absurd rfl h
    · rename_i h6
      rw [if_neg h6]
      refine ⟨.inl ⟨?_, rfl⟩, rfl⟩
      show m.ldE _ ≠ 14
      unfold Fl.ldE
      split <;> decide
  case inr.inr.inr.inr.inr.inr.inr.inl =>
    simp only [show Int.toNat 7 = 7 from rfl] at h ⊢
    split at h
    · exact absurd rfl h
    · rename_i h7
      rw [if_neg h7]
      refine ⟨.inl ⟨?_, rfl⟩, rfl⟩
      show m.stE _ ≠ 14
      unfold Fl.stE
      split
      · split <;> decide
      · decide
  case inr.inr.inr.inr.inr.inr.inr.inr.inr.inr.inr => exact ⟨.inr ⟨rfl, rfl⟩, rfl⟩
  all_goals exact absurd rfl h
theorem step_err {c : Cp} {m : Fl} (h : (c.step m).e ≠ 0) : ((c.step m).e ≠ 14 ∧ (c.step m).c = c ∨ (c.step m).e = 14 ∧ (c.step m).c = ⟨c.R, c.next⟩) ∧ (c.step m).m = m := by
  by_cases he : m.ldE (adr c.pc) = 0
  · cases hh : Ins.hit (m.ld (adr c.pc))
    · rw [step_bad he hh]
      exact ⟨.inl ⟨(show (11 : Int) ≠ 14 by decide), rfl⟩, rfl⟩
    · rw [step_yes he hh] at h ⊢
      exact exec_err (hit_ins hh).1 h
  · rw [step_no he]
    refine ⟨.inl ⟨?_, rfl⟩, rfl⟩
    show m.ldE _ ≠ 14
    unfold Fl.ldE
    split <;> decide
end Go.Proofs.YtcbiangocfhhlaaDoor

/-
  Package-level variables of integers, bools and strings that a row lists: their blocks, out of the row's condition; a listed error value. Over any program.
-/
namespace Go.Proofs.YtcbiangocfhhlaaDoor.Fr
open Go.ChangeShapes Go.WideShapes Go.ChangeAt Go.RowKit
mutual
/-- the cells of a datum made of integers, bools and strings -/
def datS : DataW Unit → List Value
  | .lit (.int k z) => [.int k z]
  | .lit (.bool b) => [.bool b]
  | .lit (.string bs) => [.string ⟨bs.toArray⟩]
  | .agg ps => datSAll ps
  | _ => []
def datSAll : List (DataW Unit) → List Value
  | [] => []
  | d :: r => datS d ++ datSAll r
end
def shpFs (P : Program) (g : TypeId → Option Nat) : List Field → Nat → Option Nat
  | [], o => some o
  | f :: fs, o => match g f.type with
    | some l => if f.offset = o ∧ l = P.cellsOf f.type then shpFs P g fs (o + l) else none
    | none => none
/-- how many cells a type of integers, bools and strings has -/
def shp (P : Program) : Nat → TypeId → Option Nat
  | 0, _ => none
  | d + 1, t => match P.underlying t with
    | some (.int _) => some 1
    | some .bool => some 1
    | some .string => some 1
    | some (.array n e) => match shp P d e with
      | some l => if l = P.cellsOf e ∧ P.cellsOf t = n * P.cellsOf e then some (n * l) else none
      | none => none
    | some (.struct fs) => match shpFs P (shp P d) fs.toList 0 with
      | some l => if P.cellsOf t = l then some l else none
      | none => none
    | _ => none
/-- a variable's block -/
def VarAt (w : World) (g : Nat) (cs : List Value) : Prop := ∃ t fr, w.heap[g]? = some (.cells cs.toArray t fr)
/-- a variable that holds an error value, or nil -/
def Sent (w : World) (g : Nat) : Prop := ∃ ev, w.cell? ⟨g, 0, none⟩ = some ev ∧ (ev = .nilIface ∨ ∃ te pe, ev = .iface te pe)
theorem datSAll_rows (k : Nat) : ∀ (xs : List (DataW Unit × List MemPlace)) (cs : List Value), cs.length = xs.length * k → (∀ i (h : i < xs.length), (cs.drop (i * k)).take k = datS (xs[i]).1) → cs = datSAll (xs.map (·.1))
  | [], cs, hl, _ => by
    have : cs = [] := List.eq_nil_of_length_eq_zero (by simpa using hl)
    subst this
    rfl
  | x :: xs, cs, hl, h => by
    have hl' : cs.length = xs.length * k + k := by rw [hl, List.length_cons, Nat.succ_mul]
    have h0 := h 0 (by simp)
    rw [Nat.zero_mul, List.drop_zero] at h0
    rw [← List.take_append_drop k cs, h0]
    simp only [List.map_cons, datSAll, List.getElem_cons_zero]
    congr 1
    refine datSAll_rows k xs _ (by rw [List.length_drop]; omega) fun i hi => ?_
    have := h (i + 1) (by simpa using hi)
    rw [Nat.succ_mul] at this
    simpa [List.drop_drop, Nat.add_comm] using this
theorem shpFs_ge {P : Program} {g : TypeId → Option Nat} : ∀ (fs : List Field) (o k : Nat), shpFs P g fs o = some k → o ≤ k ∧ ∀ (i : Nat) (f : Field), fs[i]? = some f → o ≤ f.offset ∧ ∃ l, g f.type = some l
  | [], o, k, h => by
    simp only [shpFs, Option.some.injEq] at h
    exact ⟨by omega, fun i f hi => by simp at hi⟩
  | f :: fs, o, k, h => by
    simp only [shpFs] at h
    split at h
    · rename_i l hl
      split at h
      · rename_i hc
        obtain ⟨h1, h2⟩ := shpFs_ge fs _ _ h
        refine ⟨by omega, fun i f' hi => ?_⟩
        cases i with
        | zero => simp only [List.getElem?_cons_zero, Option.some.injEq] at hi; subst hi; exact ⟨by omega, _, hl⟩
        | succ i => obtain ⟨h3, h4⟩ := h2 i f' (by simpa using hi); exact ⟨by omega, h4⟩
      · cases h
    · cases h
theorem datSAll_fs {P : Program} {g : TypeId → Option Nat} : ∀ (fs : List Field) (o k : Nat) (cs : List Value) (xs : List (DataW Unit × List MemPlace)), shpFs P g fs o = some k → o + cs.length = k → xs.length = fs.length →
      (∀ (i : Nat) (f : Field) (x : DataW Unit × List MemPlace), fs[i]? = some f → xs[i]? = some x → (cs.drop (f.offset - o)).take (P.cellsOf f.type) = datS x.1) → cs = datSAll (xs.map (·.1))
  | [], o, k, cs, xs, hk, hl, hx, _ => by
    simp only [shpFs, Option.some.injEq] at hk
    have e1 : cs = [] := List.eq_nil_of_length_eq_zero (by omega)
    have e2 : xs = [] := List.eq_nil_of_length_eq_zero (by simpa using hx)
    subst e1 e2
    rfl
  | f :: fs, o, k, cs, [], hk, hl, hx, h => by simp at hx
  | f :: fs, o, k, cs, x :: xs, hk, hl, hx, h => by
    simp only [shpFs] at hk
    split at hk
    · rename_i l hgl
      split at hk
      · rename_i hc
        obtain ⟨ho, hll⟩ := hc
        have hge := shpFs_ge fs _ _ hk
        have h0 := h 0 f x rfl rfl
        rw [ho, Nat.sub_self, List.drop_zero] at h0
        rw [← List.take_append_drop (P.cellsOf f.type) cs, h0]
        simp only [List.map_cons, datSAll]
        congr 1
        refine datSAll_fs fs _ k _ xs hk (by rw [List.length_drop]; omega) (by simpa using hx) fun i f' x' hi hi' => ?_
        have hy := h (i + 1) f' x' hi hi'
        have hge' := (hge.2 i f' hi).1
        rw [List.drop_drop, show P.cellsOf f.type + (f'.offset - (o + l)) = f'.offset - o from by omega]
        exact hy
      · cases hk
    · cases hk
theorem cells_shp {P : Program} {w : World} {base : Nat} {spare : Nat → Bool} {held : Bool} : ∀ (d : Nat) (t : TypeId) (k : Nat) (fuel : Nat) (cs : List Value) (x : DataW Unit × List MemPlace),
    shp P d t = some k → DataW.trod (fun _ => ()) P w base spare held fuel t cs = some x → cs = datS x.1
  | 0, _, _, _, _, _, h, _ => by simp [shp] at h
  | d + 1, t, k, fuel, cs, x, h, ht => by
    unfold shp at h
    split at h
    · rename_i kk hu
      obtain ⟨z, rfl, rfl, hw⟩ := DataW.trod_int hu ht
      rfl
    · rename_i hu
      obtain ⟨b, rfl, rfl⟩ := DataW.trod_bool hu ht
      rfl
    · rename_i hu
      obtain ⟨s, rfl, rfl, _⟩ := DataW.trod_string hu ht
      rfl
    · rename_i n e hu
      split at h
      · rename_i l hl
        split at h
        · rename_i hc
          obtain ⟨c1, c2⟩ := hc
          obtain ⟨xs, m, _, rfl, hlen, hxl, hrd⟩ := DataW.trod_array hu ht
          show cs = datSAll (xs.map (·.1))
          refine datSAll_rows (P.cellsOf e) xs cs (by rw [hlen, c2, hxl]) fun i hi => ?_
          have := hrd i (by omega)
          rw [List.getElem?_eq_getElem hi] at this
          exact cells_shp d e l m _ _ hl this
        · cases h
      · cases h
    · rename_i fs hu
      split at h
      · rename_i l hl
        split at h
        · rename_i hc
          obtain ⟨xs, m, _, rfl, hlen, hxl, hrd⟩ := DataW.trod_struct hu ht
          show cs = datSAll (xs.map (·.1))
          have hge := shpFs_ge _ _ _ hl
          refine datSAll_fs fs.toList 0 l cs xs hl (by rw [hlen, hc, Nat.zero_add]) (by rw [hxl]; simp) fun i f x hi hx => ?_
          have hi' : fs[i]? = some f := by simpa using hi
          have := hrd i f hi'
          rw [hx] at this
          rw [Nat.sub_zero]
          obtain ⟨l', hl'⟩ := (hge.2 i f hi).2
          exact cells_shp d f.type l' m _ _ hl' this
        · cases h
      · cases h
    · cases h
theorem varAt_of_vars {P : Program} {w : World} (D : Nat) : ∀ (l : List (String × DataW Unit)) (ps : List MemPlace), DataW.LaidVars P w l ps → ∀ (n : String) (d : DataW Unit), (n, d) ∈ l → ∀ (g : Nat) (t : TypeId) (k : Nat),
    P.globalNamed n = some g → (P.globals[g]?).map (·.type) = some t → shp P D t = some k → VarAt w g (datS d)
  | [], _, _, n, d, hm, _, _, _, _, _, _ => by cases hm
  | (n0, d0) :: r, ps, h, n, d, hm, g, t, k, hg, ht, hf => by
    obtain ⟨g0, t0, cs, fuel, p, q, hg0, ht0, hv, hd, hr, _⟩ := h
    rcases List.mem_cons.1 hm with e | hm'
    · cases e
      obtain rfl := Option.some.inj (hg.symm.trans hg0)
      obtain rfl := Option.some.inj (ht.symm.trans ht0)
      have e := cells_shp D t k fuel cs.toList _ hf hd
      unfold World.var? at hv
      rw [hg0, Option.bind_some] at hv
      split at hv
      · rename_i c ty fr hc
        simp only [Option.some.injEq] at hv
        subst hv
        exact ⟨ty, fr, by rw [hc, ← e]⟩
      · cases hv
    · exact varAt_of_vars D r q hr n d hm' g t k hg ht hf
theorem varAt_of_laid {P : Program} {w : World} {l : List (String × DataW Unit)} (D : Nat) (h : laidMet P l w) (n : String) (d : DataW Unit) (hm : (n, d) ∈ l) {g : Nat} {t : TypeId} {k : Nat}
    (hg : P.globalNamed n = some g) (ht : (P.globals[g]?).map (·.type) = some t) (hf : shp P D t = some k) : VarAt w g (datS d) := by
  obtain ⟨ps, hl, _⟩ := h
  exact varAt_of_vars D l ps hl n d hm g t k hg ht hf
theorem sent_of_vars {P : Program} {w : World} : ∀ (l : List (String × DataW Unit)) (ps : List MemPlace), DataW.LaidVars P w l ps → ∀ (n nm : String) (d : DataW Unit), (n, .iface nm d) ∈ l → ∀ (g : Nat) (t : TypeId) (ms : Array (String × TypeId)),
    P.globalNamed n = some g → (P.globals[g]?).map (·.type) = some t → P.underlying t = some (.interface ms) → Sent w g
  | [], _, _, n, _, d, hm, _, _, _, _, _, _ => by cases hm
  | (n0, d0) :: r, ps, h, n, nm, d, hm, g, t, ms, hg, ht, hi => by
    obtain ⟨g0, t0, cs, fuel, p, q, hg0, ht0, hv, hd, hr, _⟩ := h
    rcases List.mem_cons.1 hm with e | hm'
    · cases e
      obtain rfl := Option.some.inj (hg.symm.trans hg0)
      obtain rfl := Option.some.inj (ht.symm.trans ht0)
      obtain ⟨f1, u, v, e, _, _⟩ := iface_of_trod hi hd
      have h0 := World.var?_cell hg0 hv 0
      obtain ⟨cl⟩ := cs
      simp only at e
      subst e
      exact ⟨.iface u v, by simpa using h0, .inr ⟨_, _, rfl⟩⟩
    · exact sent_of_vars r q hr n nm d hm' g t ms hg ht hi
theorem sent_of_laid {P : Program} {w : World} {l : List (String × DataW Unit)} (h : laidMet P l w) (n nm : String) (d : DataW Unit) (hm : (n, .iface nm d) ∈ l) {g : Nat} {t : TypeId} {ms : Array (String × TypeId)}
    (hg : P.globalNamed n = some g) (ht : (P.globals[g]?).map (·.type) = some t) (hi : P.underlying t = some (.interface ms)) : Sent w g := by
  obtain ⟨ps, hl, _⟩ := h
  exact sent_of_vars l ps hl n nm d hm g t ms hg ht hi
theorem VarAt.cell {w : World} {g : Nat} {cs : List Value} (h : VarAt w g cs) {j : Nat} {v : Value} (hj : cs[j]? = some v) : w.cell? ⟨g, j, none⟩ = some v := by
  obtain ⟨t, fr, h⟩ := h
  have hj' : j < cs.length := by
    rcases Nat.lt_or_ge j cs.length with h1 | h1
    · exact h1
    · rw [List.getElem?_eq_none h1] at hj; cases hj
  simp [World.cell?, h, hj]
theorem VarAt.var {P : Program} {w : World} {g : Nat} {cs : List Value} (h : VarAt w g cs) {n : String} (hg : P.globalNamed n = some g) : w.var? P n = some cs.toArray := by
  obtain ⟨t, fr, h⟩ := h
  unfold World.var?
  rw [hg, Option.bind_some, h]
end Go.Proofs.YtcbiangocfhhlaaDoor.Fr

/-
  The library's strings.TrimPrefix, strings.Index, strconv.Itoa, strconv.Atoi as they stand in this program (which of the shelf's numbers is which of the program's), and what they answer at the numbers of instructions.
-/
namespace Go.Proofs.YtcbiangocfhhlaaDoor
open Go.RowKit Go.Shelf

/-! bytes -/
/-- a row of bytes as a string -/
def strOf (l : List UInt8) : ByteArray := ⟨l.toArray⟩
def byts (l : List Nat) : List UInt8 := l.map UInt8.ofNat
theorem strOf_toList (l : List UInt8) : (strOf l).data.toList = l := by simp [strOf]
theorem strOf_of (s : ByteArray) : strOf s.data.toList = s := by cases s; simp [strOf]
theorem strOf_inj {a b : List UInt8} (h : strOf a = strOf b) : a = b := by rw [← strOf_toList a, h, strOf_toList]
theorem strOf_size (l : List UInt8) : (strOf l).size = l.length := by simp [strOf, ByteArray.size]
theorem byts_inj : ∀ {a b : List Nat}, (∀ x, x ∈ a → x < 256) → (∀ x, x ∈ b → x < 256) → byts a = byts b → a = b
  | [], [], _, _, _ => rfl
  | [], _ :: _, _, _, h => by simp [byts] at h
  | _ :: _, [], _, _, h => by simp [byts] at h
  | x :: a, y :: b, ha, hb, h => by
    simp only [byts, List.map_cons, List.cons.injEq] at h
    have e1 : x = y := by
      have h1 := congrArg UInt8.toNat h.1
      have := ha x (by simp)
      have := hb y (by simp)
      simp at h1
      omega
    rw [e1, byts_inj (fun z hz => ha z (by simp [hz])) (fun z hz => hb z (by simp [hz])) h.2]
theorem byts_append (a b : List Nat) : byts (a ++ b) = byts a ++ byts b := by simp [byts]
theorem decDigits_digs : ∀ u : Nat, Lib.decDigits u = byts (digs u) := by
  intro u
  induction u using Nat.strongRecOn with
  | ind n ih =>
    by_cases h : n < 10
    · rw [Lib.decDigits, dif_pos h, digs_lt h]; rfl
    · rw [Lib.decDigits, dif_neg h, digs_ge h, ih (n / 10) (by omega), byts_append]; rfl
theorem itoa_digs (u : Nat) : Lib.itoa (u : Int) = byts (digs u) := by
  unfold Lib.itoa
  rw [if_neg (by omega), Int.toNat_natCast, decDigits_digs]
theorem digit_ofNat (d : Nat) (h : d < 10) : Lib.digitVal (UInt8.ofNat (48 + d)) = some d := by
  have : d = 0 ∨ d = 1 ∨ d = 2 ∨ d = 3 ∨ d = 4 ∨ d = 5 ∨ d = 6 ∨ d = 7 ∨ d = 8 ∨ d = 9 := by omega
  rcases this with rfl | rfl | rfl | rfl | rfl | rfl | rfl | rfl | rfl | rfl <;> rfl
theorem decFrom_append : ∀ (l r : List UInt8) (a n : Nat), Lib.decFrom a l = some n → Lib.decFrom a (l ++ r) = Lib.decFrom n r
  | [], r, a, n, h => by simp only [Lib.decFrom, Option.some.injEq] at h; subst h; rfl
  | b :: l, r, a, n, h => by
    simp only [List.cons_append, Lib.decFrom] at h ⊢
    cases hd : Lib.digitVal b with
    | none => rw [hd] at h; cases h
    | some d =>
      rw [hd] at h
      exact decFrom_append l r _ n h
theorem decFrom_digs : ∀ u : Nat, Lib.decFrom 0 (byts (digs u)) = some u := by
  intro u
  induction u using Nat.strongRecOn with
  | ind n ih =>
    by_cases h : n < 10
    · rw [digs_lt h]
      show (match Lib.digitVal (UInt8.ofNat (48 + n)) with | some d => Lib.decFrom (0 * 10 + d) [] | none => none) = some n
      rw [digit_ofNat n h]
      simp [Lib.decFrom]
    · rw [digs_ge h, byts_append, decFrom_append _ _ _ _ (ih (n / 10) (by omega))]
      show (match Lib.digitVal (UInt8.ofNat (48 + n % 10)) with | some d => Lib.decFrom (n / 10 * 10 + d) [] | none => none) = some n
      rw [digit_ofNat (n % 10) (by omega)]
      simp only [Lib.decFrom, Option.some.injEq]
      omega
theorem digs_ne (u : Nat) : digs u ≠ [] := by
  by_cases h : u < 10
  · rw [digs_lt h]; simp
  · rw [digs_ge h]; simp
theorem digs_len : ∀ (k u : Nat), u < 10 ^ (k + 1) → (digs u).length ≤ k + 1
  | 0, u, h => by rw [digs_lt (by omega)]; simp
  | k + 1, u, h => by
    by_cases h10 : u < 10
    · rw [digs_lt h10]; simp
    · rw [digs_ge h10, List.length_append]
      have := digs_len k (u / 10) (by rw [Nat.pow_succ] at h; omega)
      simp; omega
theorem atoi_digs (u : Nat) (h : u ≤ 65535) : Lib.atoiAll (byts (digs u)) = .ok (u : Int) := by
  have hl : (byts (digs u)).length ≤ 18 := by
    have := digs_len 4 u (by omega)
    simp only [byts, List.length_map]
    omega
  rw [Lib.atoiAll_short _ hl]
  have hd := decFrom_digs u
  have hm := digs_mem u
  have hne := digs_ne u
  cases hg : digs u with
  | nil => exact absurd hg hne
  | cons b r =>
    rw [hg] at hd hm
    have hb := hm b (by simp)
    have e1 : (UInt8.ofNat b == 45) = false := by
      have : b = 48 ∨ b = 49 ∨ b = 50 ∨ b = 51 ∨ b = 52 ∨ b = 53 ∨ b = 54 ∨ b = 55 ∨ b = 56 ∨ b = 57 := by omega
      rcases this with rfl | rfl | rfl | rfl | rfl | rfl | rfl | rfl | rfl | rfl <;> rfl
    have e2 : (UInt8.ofNat b == 43) = false := by
      have : b = 48 ∨ b = 49 ∨ b = 50 ∨ b = 51 ∨ b = 52 ∨ b = 53 ∨ b = 54 ∨ b = 55 ∨ b = 56 ∨ b = 57 := by omega
      rcases this with rfl | rfl | rfl | rfl | rfl | rfl | rfl | rfl | rfl | rfl <;> rfl
    have hd' : Lib.decFrom 0 (UInt8.ofNat b :: byts r) = some u := hd
    show Lib.NumEnd.ofOption (Lib.atoi (UInt8.ofNat b :: byts r)) = .ok (u : Int)
    unfold Lib.atoi
    simp only [e1, e2, Bool.false_eq_true, if_false, Lib.decNat, List.isEmpty_cons]
    rw [hd']
    rfl
/-- what strconv.Atoi makes of a string -/
def atoiV (s : ByteArray) : Int := match Lib.atoiAll s.data.toList with
  | .ok v => v
  | .«syntax» => 0
  | .range => Lib.atoiSat s.data.toList
theorem atoiV_digs (u : Nat) (h : u ≤ 65535) : atoiV (strOf (byts (digs u))) = u := by
  unfold atoiV
  rw [strOf_toList, atoi_digs u h]
theorem atoiV_bd (s : ByteArray) : -9223372036854775808 ≤ atoiV s ∧ atoiV s ≤ 9223372036854775807 := by
  unfold atoiV
  split
  · rename_i v h; exact Lib.atoiAll_bounds h
  · omega
  · exact Lib.atoiSat_bounds _
end Go.Proofs.YtcbiangocfhhlaaDoor

/-
  Plain mathematics of bit fields: no program in it.
-/
namespace Go.Proofs.YtcbiangocfhhlaaDoor.M

/-- the field's number -/
def getN (x f m : Nat) : Nat := x / 2 ^ f % 2 ^ m
/-- the word with the field replaced -/
def putN (x y f m : Nat) : Nat := 2 ^ f * (2 ^ m * (x / 2 ^ (f + m)) + y) + x % 2 ^ f

theorem getN_bit (x f m i : Nat) : (getN x f m).testBit i = (decide (i < m) && x.testBit (i + f)) := by
  unfold getN
  rw [Nat.testBit_mod_two_pow, Nat.testBit_div_two_pow, Nat.add_comm]
theorem putN_bit (x y f m i : Nat) (hy : y < 2 ^ m) : (putN x y f m).testBit i = if i < f then x.testBit i else if i < f + m then y.testBit (i - f) else x.testBit i := by
  unfold putN
  rw [Nat.testBit_two_pow_mul_add _ (Nat.mod_lt _ (Nat.two_pow_pos _))]
  by_cases h : i < f
  · simp [h, Nat.testBit_mod_two_pow]
  · rw [if_neg h, if_neg h, Nat.testBit_two_pow_mul_add _ hy]
    by_cases h2 : i < f + m
    · rw [if_pos (by omega), if_pos h2]
    · rw [if_neg (by omega), if_neg h2, Nat.testBit_div_two_pow]; congr 1; omega

theorem getN_lt (x f m : Nat) : getN x f m < 2 ^ m := Nat.mod_lt _ (Nat.two_pow_pos _)
theorem pow64 : (2 : Nat) ^ 64 = 18446744073709551616 := by decide
theorem getN_lt64 (x f m : Nat) (hm : m ≤ 64) : getN x f m < 18446744073709551616 := by
  rw [← pow64]; exact Nat.lt_of_lt_of_le (getN_lt x f m) (Nat.pow_le_pow_right (by decide) hm)

theorem lt_of_bits (a k : Nat) (h : ∀ i, k ≤ i → a.testBit i = false) : a < 2 ^ k := Nat.lt_pow_two_of_testBit a h
theorem bit_of_lt (a k i : Nat) (h : a < 2 ^ k) (hi : k ≤ i) : a.testBit i = false :=
  Nat.testBit_lt_two_pow (Nat.lt_of_lt_of_le h (Nat.pow_le_pow_right (by decide) hi))

theorem putN_lt64 (x y f m : Nat) (hy : y < 2 ^ m) (hx : x < 18446744073709551616) (hfm : f + m ≤ 64) : putN x y f m < 18446744073709551616 := by
  rw [← pow64] at hx ⊢
  apply lt_of_bits
  intro i hi
  rw [putN_bit _ _ _ _ _ hy, if_neg (by omega), if_neg (by omega)]
  exact bit_of_lt x 64 i hx hi

/-- what was put is got -/
theorem get_put (x y f m : Nat) (hy : y < 2 ^ m) : getN (putN x y f m) f m = y := by
  apply Nat.eq_of_testBit_eq
  intro i
  rw [getN_bit, putN_bit _ _ _ _ _ hy]
  by_cases h : i < m
  · rw [if_neg (by omega), if_pos (by omega)]; simp [h]
  · simp [h]; exact (bit_of_lt y m i hy (by omega))
/-- put back, the word is as it was -/
theorem put_back (x y f m : Nat) (hy : y < 2 ^ m) : putN (putN x y f m) (getN x f m) f m = x := by
  apply Nat.eq_of_testBit_eq
  intro i
  rw [putN_bit _ _ _ _ _ (getN_lt x f m), putN_bit _ _ _ _ _ hy, getN_bit]
  by_cases h : i < f
  · simp [h]
  · by_cases h2 : i < f + m
    · rw [if_neg h, if_pos h2]
      have e : i - f + f = i := by omega
      have e2 : i - f < m := by omega
      simp [e, e2]
    · simp [h, h2]
/-- two fields that have no bit in common -/
theorem get_apart (x y f m g k : Nat) (hy : y < 2 ^ k) (h : g + k ≤ f ∨ f + m ≤ g) : getN (putN x y g k) f m = getN x f m := by
  apply Nat.eq_of_testBit_eq
  intro i
  rw [getN_bit, getN_bit, putN_bit _ _ _ _ _ hy]
  by_cases hi : i < m
  · congr 1
    rcases h with h | h
    · rw [if_neg (by omega), if_neg (by omega)]
    · rw [if_pos (by omega)]
  · simp [hi]
/-- a word is put together of its two parts -/
theorem whole (x c : Nat) (hx : x < 18446744073709551616) (hc : c ≤ 64) : putN (putN 0 (getN x 0 c) 0 c) (getN x c (64 - c)) c (64 - c) = x := by
  rw [← pow64] at hx
  apply Nat.eq_of_testBit_eq
  intro i
  rw [putN_bit _ _ _ _ _ (getN_lt _ _ _), putN_bit _ _ _ _ _ (getN_lt _ _ _), getN_bit, getN_bit]
  by_cases h : i < c
  · simp [h]
  · by_cases h2 : i < c + (64 - c)
    · have e : i - c + c = i := by omega
      have e2 : i - c < 64 - c := by omega
      simp [h, h2, e, e2]
    · simp [h, h2]; exact bit_of_lt x 64 i hx (by omega)

/-- the code's masks -/
theorem and_get (x f m : Nat) : x / 2 ^ f &&& (2 ^ m - 1) = getN x f m := Nat.and_two_pow_sub_one_eq_mod _ _

theorem mask_bit (f m i : Nat) (h : f + m ≤ 64) : (18446744073709551615 - (2 ^ m - 1) * 2 ^ f).testBit i = (decide (i < 64) && !(decide (f ≤ i) && decide (i < f + m))) := by
  have hlt : (2 ^ m - 1) * 2 ^ f < 2 ^ 64 := by
    apply lt_of_bits
    intro j hj
    rw [← Nat.shiftLeft_eq, Nat.testBit_shiftLeft, Nat.testBit_two_pow_sub_one]
    simp; omega
  have e : 18446744073709551615 - (2 ^ m - 1) * 2 ^ f = 2 ^ 64 - ((2 ^ m - 1) * 2 ^ f + 1) := by rw [pow64]; omega
  rw [e, Nat.testBit_two_pow_sub_succ hlt, ← Nat.shiftLeft_eq, Nat.testBit_shiftLeft, Nat.testBit_two_pow_sub_one]
  congr 2
  by_cases h1 : f ≤ i <;> simp [h1]
  omega

theorem andNot_or (x y f m : Nat) (hx : x < 18446744073709551616) (hy : y < 2 ^ m) (h : f + m ≤ 64) :
    (x &&& (18446744073709551615 - (2 ^ m - 1) * 2 ^ f)) ||| (y * 2 ^ f) = putN x y f m := by
  rw [← pow64] at hx
  apply Nat.eq_of_testBit_eq
  intro i
  rw [Nat.testBit_or, Nat.testBit_and, mask_bit f m i h, putN_bit _ _ _ _ _ hy, ← Nat.shiftLeft_eq, Nat.testBit_shiftLeft]
  by_cases h0 : i < 64
  · by_cases h1 : i < f
    · have : ¬ f ≤ i := by omega
      simp [h0, h1, this]
    · by_cases h2 : i < f + m
      · have : f ≤ i := by omega
        simp [h1, h2, this]
      · have : f ≤ i := by omega
        simp [h0, h1, h2, this]
        exact fun hh => by rw [bit_of_lt y m (i - f) hy (by omega)] at hh; cases hh
  · have h1 : ¬ i < f := by omega
    have h2 : ¬ i < f + m := by omega
    have : f ≤ i := by omega
    rw [bit_of_lt x 64 i hx (by omega), bit_of_lt y m (i - f) hy (by omega)]
    simp [h1, h2]
end Go.Proofs.YtcbiangocfhhlaaDoor.M
namespace Go.Proofs.YtcbiangocfhhlaaDoor.M
/-- the least k with n ≤ 2^k -/
def logN (n : Nat) : Nat := if n ≤ 1 then 0 else Nat.log2 (n - 1) + 1
theorem logN_one {n : Nat} (h : n ≤ 1) : logN n = 0 := by simp [logN, h]
theorem logN_of {n k : Nat} (h1 : n ≤ 2 ^ k) (h2 : k = 0 ∨ 2 ^ (k - 1) < n) : logN n = k := by
  unfold logN
  by_cases h : n ≤ 1
  · rw [if_pos h]
    rcases h2 with h2 | h2
    · exact h2.symm
    · have := Nat.two_pow_pos (k - 1); omega
  · rw [if_neg h]
    have hn : n - 1 ≠ 0 := by omega
    have hk : k ≠ 0 := by rintro rfl; simp at h1; omega
    rcases h2 with h2 | h2
    · exact absurd h2 hk
    · have a : (n - 1).log2 < k := (Nat.log2_lt hn).2 (by omega)
      have b : ¬ (n - 1).log2 < k - 1 := fun hlt => by have := (Nat.log2_lt hn).1 hlt; omega
      omega
theorem logN_ge (n : Nat) : n ≤ 2 ^ logN n := by
  unfold logN
  by_cases h : n ≤ 1
  · rw [if_pos h]; simpa using h
  · rw [if_neg h]
    have := (Nat.log2_lt (n := n - 1) (k := (n - 1).log2 + 1) (by omega)).1 (Nat.lt_succ_self _)
    omega
theorem logN_lt (n : Nat) : logN n = 0 ∨ 2 ^ (logN n - 1) < n := by
  unfold logN
  by_cases h : n ≤ 1
  · rw [if_pos h]; exact .inl rfl
  · rw [if_neg h]
    have := Nat.log2_self_le (n := n - 1) (by omega)
    right; simp only [Nat.add_sub_cancel]; omega
theorem logN_le {n k : Nat} (h : n ≤ 2 ^ k) : logN n ≤ k := by
  rcases logN_lt n with h2 | h2
  · omega
  · have : 2 ^ (logN n - 1) < 2 ^ k := by omega
    have := (Nat.pow_lt_pow_iff_right (a := 2) (by decide)).1 this
    omega

/-- how many of the first k bits are 1 -/
def cntTo (x : Nat) : Nat → Nat
  | 0 => 0
  | k + 1 => cntTo x k + (x.testBit k).toNat
theorem cntTo_le (x k : Nat) : cntTo x k ≤ k := by
  induction k with
  | zero => exact Nat.le_refl _
  | succ k ih => have := Bool.toNat_le (x.testBit k); simp only [cntTo]; omega
theorem bit_div (x k : Nat) : x / 2 ^ k % 2 = (x.testBit k).toNat := (Nat.toNat_testBit x k).symm
theorem cntTo_succ (x k : Nat) : cntTo x (k + 1) = cntTo x k + x / 2 ^ k % 2 := by rw [bit_div]; rfl
theorem cntTo_congr (x y k : Nat) (h : ∀ i, i < k → x.testBit i = y.testBit i) : cntTo x k = cntTo y k := by
  induction k with
  | zero => rfl
  | succ k ih => rw [cntTo, cntTo, ih (fun i hi => h i (by omega)), h k (by omega)]
theorem cntTo_zero (x k n : Nat) (h : ∀ i, k ≤ i → x.testBit i = false) : cntTo x (k + n) = cntTo x k := by
  induction n with
  | zero => rfl
  | succ n ih => rw [Nat.add_succ, cntTo, ih, h (k + n) (by omega)]; rfl
theorem cntTo_shift (x c n : Nat) : cntTo x (c + n) = cntTo x c + cntTo (x / 2 ^ c) n := by
  induction n with
  | zero => rfl
  | succ n ih => rw [Nat.add_succ, cntTo, ih, cntTo, Nat.testBit_div_two_pow, Nat.add_comm n c]; omega
/-- a word has as many bits as both its parts -/
theorem cnt_whole (x c : Nat) (hc : c ≤ 64) : cntTo (getN x 0 c) 64 + cntTo (getN x c (64 - c)) 64 = cntTo x 64 := by
  have e : 64 = c + (64 - c) := by omega
  have h1 : cntTo (getN x 0 c) 64 = cntTo x c := by
    have hb : cntTo (getN x 0 c) (c + (64 - c)) = cntTo (getN x 0 c) c := cntTo_zero _ _ _ (fun i hi => by rw [getN_bit]; simp; omega)
    rw [← e] at hb
    rw [hb]
    exact cntTo_congr _ _ _ (fun i hi => by rw [getN_bit]; simp [hi])
  have h2 : cntTo (getN x c (64 - c)) 64 = cntTo (x / 2 ^ c) (64 - c) := by
    have hb : cntTo (getN x c (64 - c)) ((64 - c) + c) = cntTo (getN x c (64 - c)) (64 - c) := cntTo_zero _ _ _ (fun i hi => by rw [getN_bit]; simp; omega)
    rw [show (64 - c) + c = 64 by omega] at hb
    rw [hb]
    exact cntTo_congr _ _ _ (fun i hi => by rw [getN_bit, Nat.testBit_div_two_pow, Nat.add_comm]; simp [hi])
  have h3 := cntTo_shift x c (64 - c)
  rw [← e] at h3
  omega
end Go.Proofs.YtcbiangocfhhlaaDoor.M

/-
  Contracts of package bits' small functions: within, isField, ones, Get, Put.
-/
namespace Go.Proofs.YtcbiangocfhhlaaDoor
open Go.ChangeShapes Go.WideShapes Go.ChangeAt Go.RowKit

theorem ones_val (m : Int) (h1 : 1 ≤ m) (h2 : m ≤ 64) : (18446744073709551615 : Int) / 2 ^ (64 - m).toNat = 2 ^ m.toNat - 1 := by
  obtain ⟨k, rfl⟩ := Int.eq_ofNat_of_zero_le (by omega : 0 ≤ m)
  have hk : k ≤ 64 := by omega
  clear h1 h2
  revert k
  decide +kernel

def onesI (m : Int) : Int := 2 ^ m.toNat - 1

set_option maxHeartbeats 400000 in
theorem ones_any (m : Int) (w : World) (h1 : 1 ≤ m) (h2 : m ≤ 64) :
    Calls Tryd.prog 33 #[.int .i64 m] w fun e w' => e = .returned (.int .u64 (onesI m)) ∧ w = w' := by
  have hv := Lib.hid (ones_val m h1 h2)
  go_enter Tryd.func33, Tryd.ntmps33
  go_wp2
  go_ret
  exact ⟨by rw [hv.out]; rfl, rfl⟩

def withinB (x a b : Int) : Bool := decide (a ≤ x ∧ x ≤ b)

set_option maxHeartbeats 400000 in
theorem within_int (x a b : Int) (w : World) :
    Calls Tryd.prog 36 #[.int .i64 x, .int .i64 a, .int .i64 b] w fun e w' => e = .returned (.bool (withinB x a b)) ∧ w = w' := by
  by_cases h : a ≤ x
  · have hv := Lib.hid (show decide (x ≤ b) = withinB x a b from by simp [withinB, h])
    go_enter Tryd.func36, Tryd.ntmps36
    go_wp2
    go_ret
    exact ⟨by rw [← hv.out]; rfl, rfl⟩
  · have hv := Lib.hid (show false = withinB x a b from by simp [withinB, h])
    go_enter Tryd.func36, Tryd.ntmps36
    go_wp2
    go_ret
    exact ⟨by rw [← hv.out]; rfl, rfl⟩
theorem within_u64 (x a b : Int) (w : World) :
    Calls Tryd.prog 37 #[.int .u64 x, .int .u64 a, .int .u64 b] w fun e w' => e = .returned (.bool (withinB x a b)) ∧ w = w' := by
  by_cases h : a ≤ x
  · have hv := Lib.hid (show decide (x ≤ b) = withinB x a b from by simp [withinB, h])
    go_enter Tryd.func37, Tryd.ntmps37
    go_wp2
    go_ret
    exact ⟨by rw [← hv.out]; rfl, rfl⟩
  · have hv := Lib.hid (show false = withinB x a b from by simp [withinB, h])
    go_enter Tryd.func37, Tryd.ntmps37
    go_wp2
    go_ret
    exact ⟨by rw [← hv.out]; rfl, rfl⟩

def fieldB (f m : Int) : Bool := decide (1 ≤ m ∧ m ≤ 64 ∧ 0 ≤ f ∧ f + m ≤ 64)

set_option maxHeartbeats 400000 in
theorem isField_any (f m : Int) (w : World) :
    Calls Tryd.prog 32 #[.int .i64 f, .int .i64 m] w fun e w' => e = .returned (.bool (fieldB f m)) ∧ w = w' := by
  by_cases h : 1 ≤ m ∧ m ≤ 64
  · have hb : withinB m 1 64 = true := by simp [withinB]; omega
    obtain ⟨h1, h2⟩ := h
    have hc := Lib.hid (show withinB f 0 (64 - m) = fieldB f m from by rw [Bool.eq_iff_iff]; simp [withinB, fieldB]; omega)
    go_enter Tryd.func32, Tryd.ntmps32
    go_wp2_with (go_at_call 36; refine (within_int _ _ _ _).mono ?_; rintro e w' ⟨rfl, rfl⟩)
    go_ret
    exact ⟨by rw [← hc.out]; rfl, rfl⟩
  · have hb : withinB m 1 64 = false := by simp [withinB]; omega
    have hc := Lib.hid (show false = fieldB f m from by simp [fieldB]; omega)
    go_enter Tryd.func32, Tryd.ntmps32
    go_wp2_with (go_at_call 36; refine (within_int _ _ _ _).mono ?_; rintro e w' ⟨rfl, rfl⟩)
    go_ret
    exact ⟨by rw [← hc.out]; rfl, rfl⟩

/-- Get's number, over the walk's integers -/
def getI (x f m : Int) : Int := (M.getN x.toNat f.toNat m.toNat : Int)
/-- Put's number -/
def putI (x y f m : Int) : Int := (M.putN x.toNat y.toNat f.toNat m.toNat : Int)

theorem onesI_nat (m : Int) : onesI m = ((2 ^ m.toNat - 1 : Nat) : Int) := by
  unfold onesI
  have := Nat.two_pow_pos m.toNat
  rw [Int.natCast_sub (by omega)]; simp
theorem ones_lt (m : Nat) (h : m ≤ 64) : 2 ^ m - 1 < 18446744073709551616 := by
  have := Nat.pow_le_pow_right (n := 2) (by decide) h
  rw [M.pow64] at this; omega
theorem div_nat (x f : Int) (hx0 : 0 ≤ x) : x / 2 ^ f.toNat = ((x.toNat / 2 ^ f.toNat : Nat) : Int) := by
  rw [Int.natCast_ediv, Int.toNat_of_nonneg hx0]; simp
theorem get_bits (x f m : Int) (h2 : m ≤ 64) (hx0 : 0 ≤ x) (hx : x < 18446744073709551616) :
    bits BinOp.and IntKind.u64 (x / 2 ^ f.toNat) (onesI m) = getI x f m := by
  rw [onesI_nat, div_nat x f hx0, u64_and_nat _ _ (Nat.lt_of_le_of_lt (Nat.div_le_self _ _) (by omega)) (ones_lt _ (by omega)), M.and_get]; rfl

set_option maxHeartbeats 400000 in
theorem get_yes (x f m : Int) (w : World) (h : fieldB f m = true) (hx0 : 0 ≤ x) (hx : x < 18446744073709551616) :
    Calls Tryd.prog 28 #[.int .u64 x, .int .i64 f, .int .i64 m] w fun e w' => e = .returned (.tuple #[.int .u64 (getI x f m), .bool true]) ∧ ∃ n, w' = w.drewN n := by
  obtain ⟨h1, h2, h3, h4⟩ := of_decide_eq_true h
  have hv := Lib.hid (get_bits x f m h2 hx0 hx)
  go_enter Tryd.func28, Tryd.ntmps28
  go_wp2_with (go_at_call 32; refine (isField_any _ _ _).mono ?_; rintro e w' ⟨rfl, rfl⟩)
  go_quiet ((go_at_call 33; exact still0 (ones_any _ _ h1 h2)))
  go_wp2
  go_ret2
  exact ⟨by rw [← hv.out]; rfl, _, rfl⟩
set_option maxHeartbeats 400000 in
theorem get_no (x f m : Int) (w : World) (h : fieldB f m = false) :
    Calls Tryd.prog 28 #[.int .u64 x, .int .i64 f, .int .i64 m] w fun e w' => e = .returned (.tuple #[.int .u64 0, .bool false]) ∧ w = w' := by
  go_enter Tryd.func28, Tryd.ntmps28
  go_wp2_with (go_at_call 32; refine (isField_any _ _ _).mono ?_; rintro e w' ⟨rfl, rfl⟩)
  go_ret2
  exact ⟨rfl, rfl⟩

/-- does it fit? -/
def fitsB (y m : Int) : Bool := withinB y 0 (onesI m)
set_option maxHeartbeats 400000 in
theorem put_no1 (x y f m : Int) (w : World) (h : fieldB f m = false) :
    Calls Tryd.prog 35 #[.int .u64 x, .int .u64 y, .int .i64 f, .int .i64 m] w fun e w' => e = .returned (.tuple #[.int .u64 0, .bool false]) ∧ w = w' := by
  go_enter Tryd.func35, Tryd.ntmps35
  go_wp2_with (go_at_call 32; refine (isField_any _ _ _).mono ?_; rintro e w' ⟨rfl, rfl⟩)
  go_ret2
  exact ⟨rfl, rfl⟩
set_option maxHeartbeats 400000 in
theorem put_no2 (x y f m : Int) (w : World) (h : fieldB f m = true) (hy : withinB y 0 (onesI m) = false) :
    Calls Tryd.prog 35 #[.int .u64 x, .int .u64 y, .int .i64 f, .int .i64 m] w fun e w' => e = .returned (.tuple #[.int .u64 0, .bool false]) ∧ w = w' := by
  obtain ⟨h1, h2, h3, h4⟩ := of_decide_eq_true h
  go_enter Tryd.func35, Tryd.ntmps35
  go_wp2_with (first
    | (go_at_call 32; refine (isField_any _ _ _).mono ?_; rintro e w' ⟨rfl, rfl⟩)
    | (go_at_call 33; refine (ones_any _ _ h1 h2).mono ?_; rintro e w' ⟨rfl, rfl⟩)
    | (go_at_call 37; refine (within_u64 _ _ _ _).mono ?_; rintro e w' ⟨rfl, rfl⟩))
  go_ret2
  exact ⟨rfl, rfl⟩
theorem shl_lt (a f m : Nat) (ha : a < 2 ^ m) (h : f + m ≤ 64) : a * 2 ^ f < 18446744073709551616 := by
  have h1 : a * 2 ^ f < 2 ^ m * 2 ^ f := Nat.mul_lt_mul_of_pos_right ha (Nat.two_pow_pos f)
  rw [← Nat.pow_add] at h1
  have h2 := Nat.pow_le_pow_right (n := 2) (by decide) (show m + f ≤ 64 by omega)
  rw [M.pow64] at h2; omega
theorem shl_nat (y f : Int) (m : Nat) (hy0 : 0 ≤ y) (hy : y.toNat < 2 ^ m) (h : f.toNat + m ≤ 64) : IntKind.u64.wrap (y * 2 ^ f.toNat) = ((y.toNat * 2 ^ f.toNat : Nat) : Int) := by
  have e : y * 2 ^ f.toNat = ((y.toNat * 2 ^ f.toNat : Nat) : Int) := by rw [Int.natCast_mul, Int.toNat_of_nonneg hy0]; simp
  have := shl_lt y.toNat f.toNat m hy h
  rw [e, IntKind.wrap_u64]; omega
theorem fits_lt (y m : Int) (hy : withinB y 0 (onesI m) = true) : 0 ≤ y ∧ y.toNat < 2 ^ m.toNat := by
  obtain ⟨h1, h2⟩ := of_decide_eq_true hy
  rw [onesI_nat] at h2
  have := Nat.two_pow_pos m.toNat
  omega
theorem put_bits (x y f m : Int) (h : fieldB f m = true) (hy : withinB y 0 (onesI m) = true) (hx0 : 0 ≤ x) (hx : x < 18446744073709551616) :
    bits BinOp.or IntKind.u64 (bits BinOp.andNot IntKind.u64 x (IntKind.u64.wrap (onesI m * 2 ^ f.toNat))) (IntKind.u64.wrap (y * 2 ^ f.toNat)) = putI x y f m := by
  obtain ⟨h1, h2, h3, h4⟩ := of_decide_eq_true h
  obtain ⟨y0, y1⟩ := fits_lt y m hy
  have p := Nat.two_pow_pos m.toNat
  have ho := onesI_nat m
  have e1 := shl_nat (onesI m) f m.toNat (by omega) (by rw [ho]; omega) (by omega)
  have e2 := shl_nat y f m.toNat y0 y1 (by omega)
  have l1 := shl_lt (onesI m).toNat f.toNat m.toNat (by rw [ho]; omega) (by omega)
  have l2 := shl_lt y.toNat f.toNat m.toNat y1 (by omega)
  have et : (onesI m).toNat = 2 ^ m.toNat - 1 := by rw [ho]; omega
  obtain ⟨n, rfl⟩ := Int.eq_ofNat_of_zero_le hx0
  rw [e1, e2, u64_andNot_nat n _ (by omega) l1, u64_or_nat _ _ (Nat.lt_of_le_of_lt Nat.and_le_left (by omega)) l2, et, M.andNot_or n y.toNat f.toNat m.toNat (by omega) y1 (by omega)]
  rfl
set_option maxHeartbeats 400000 in
theorem put_yes (x y f m : Int) (w : World) (h : fieldB f m = true) (hy : withinB y 0 (onesI m) = true) (hx0 : 0 ≤ x) (hx : x < 18446744073709551616) :
    Calls Tryd.prog 35 #[.int .u64 x, .int .u64 y, .int .i64 f, .int .i64 m] w fun e w' => e = .returned (.tuple #[.int .u64 (putI x y f m), .bool true]) ∧ ∃ n, w' = w.drewN n := by
  obtain ⟨h1, h2, h3, h4⟩ := of_decide_eq_true h
  have hv := Lib.hid (put_bits x y f m h hy hx0 hx)
  go_enter Tryd.func35, Tryd.ntmps35
  go_wp2_with (first
    | (go_at_call 32; refine (isField_any _ _ _).mono ?_; rintro e w' ⟨rfl, rfl⟩)
    | (go_at_call 33; refine (ones_any _ _ h1 h2).mono ?_; rintro e w' ⟨rfl, rfl⟩)
    | (go_at_call 37; refine (within_u64 _ _ _ _).mono ?_; rintro e w' ⟨rfl, rfl⟩))
  go_quiet ((go_at_call 33; exact still0 (ones_any _ _ h1 h2)))
  go_wp2
  go_ret2
  exact ⟨by rw [← hv.out]; rfl, _, rfl⟩

/-! bounds that callers want -/
theorem getI_bd (x f m : Int) (h : fieldB f m = true) : 0 ≤ getI x f m ∧ getI x f m < 18446744073709551616 := by
  obtain ⟨h1, h2, h3, h4⟩ := of_decide_eq_true h
  have := M.getN_lt64 x.toNat f.toNat m.toNat (by omega)
  unfold getI; omega
theorem putI_bd (x y f m : Int) (h : fieldB f m = true) (hy : withinB y 0 (onesI m) = true) (hx0 : 0 ≤ x) (hx : x < 18446744073709551616) : 0 ≤ putI x y f m ∧ putI x y f m < 18446744073709551616 := by
  obtain ⟨h1, h2, h3, h4⟩ := of_decide_eq_true h
  obtain ⟨y0, y1⟩ := fits_lt y m hy
  have := M.putN_lt64 x.toNat y.toNat f.toNat m.toNat y1 (by omega) (by omega)
  unfold putI; omega

end Go.Proofs.YtcbiangocfhhlaaDoor

/-
  Contract of package bits' Count.
-/
namespace Go.Proofs.YtcbiangocfhhlaaDoor
open Go.ChangeShapes Go.WideShapes Go.ChangeAt Go.RowKit

theorem bit_and (m k : Nat) (hm : m < 18446744073709551616) : bits BinOp.and IntKind.u64 ((m : Int) / 2 ^ k) 1 = ((m / 2 ^ k % 2 : Nat) : Int) := by
  have e := div_nat m k (by omega)
  rw [Int.toNat_natCast, Int.toNat_natCast] at e
  rw [e, show (1 : Int) = ((1 : Nat) : Int) from rfl, u64_and_nat _ _ (Nat.lt_of_le_of_lt (Nat.div_le_self _ _) hm) (by decide), nat_mask1]
def countI (x : Int) : Int := (M.cntTo x.toNat 64 : Int)
end Go.Proofs.YtcbiangocfhhlaaDoor

/-
  Contracts of package bits' Log, Align.
-/
namespace Go.Proofs.YtcbiangocfhhlaaDoor
open Go.ChangeShapes Go.WideShapes Go.ChangeAt Go.RowKit

def logI (n : Int) : Int := (M.logN n.toNat : Int)

theorem wrap_pow (k : Nat) (h : k ≤ 63) : IntKind.u64.wrap (2 ^ k) = 2 ^ k := by
  revert k; decide +kernel

def alignI (n o : Int) : Int := if 0 ≤ n ∧ 0 ≤ o ∧ o ≤ 30 then n - n % 2 ^ o.toNat else n
theorem wrapi_pow (k : Nat) (h : k ≤ 30) : IntKind.i64.wrap (2 ^ k) = 2 ^ k := by
  revert k; decide +kernel
theorem pow_bd (k : Nat) (h : k ≤ 30) : (1 : Int) ≤ 2 ^ k ∧ (2 : Int) ^ k ≤ 1073741824 := by
  revert k; decide +kernel
end Go.Proofs.YtcbiangocfhhlaaDoor

/-
  Contracts of the document's own answers for bits: power, field, Get, Put, Log, Align, Count.
-/
namespace Go.Proofs.YtcbiangocfhhlaaDoor
open Go.ChangeShapes Go.WideShapes Go.ChangeAt Go.RowKit

theorem wrap_dbl (k : Nat) (h : k < 63) : IntKind.u64.wrap (2 ^ k * 2) = 2 ^ (k + 1) := by
  revert k; decide +kernel

/-- 2 to the power of n -/
def powI (n : Int) : Int := 2 ^ n.toNat
theorem powI_pos (n : Int) : 1 ≤ powI n := by
  have := Nat.two_pow_pos n.toNat
  unfold powI
  exact_mod_cast this
theorem powI_nat (k : Nat) : powI (k : Int) = ((2 ^ k : Nat) : Int) := by unfold powI; rw [Int.toNat_natCast]; simp
theorem powI_nat2 (a b : Nat) : powI ((a : Int) + (b : Int)) = ((2 ^ (a + b) : Nat) : Int) := powI_nat (a + b)
theorem u64_id (n : Nat) (h : n < 18446744073709551616) : IntKind.u64.wrap (n : Int) = (n : Int) := by rw [IntKind.wrap_u64]; omega
theorem bit_term (X j : Nat) (hX : X < 18446744073709551616) : (IntKind.u64.wrap ((X : Int) / powI (j : Int))).tmod 2 = ((X / 2 ^ j % 2 : Nat) : Int) := by
  have : X / 2 ^ j ≤ X := Nat.div_le_self _ _
  rw [powI_nat, ← Int.natCast_ediv, u64_id _ (Nat.lt_of_le_of_lt this hX)]
  exact IntWalk.rem_in _ _ (Int.natCast_nonneg _)
theorem sum_term (c z k n : Nat) (hn : n < 18446744073709551616) (e : n = c + z * 2 ^ k) :
    IntKind.u64.wrap ((c : Int) + IntKind.u64.wrap ((z : Int) * powI (k : Int))) = (n : Int) := by
  rw [powI_nat, ← Int.natCast_mul]
  generalize z * 2 ^ k = t at *
  rw [u64_id _ (by omega), ← Int.natCast_add, ← e, u64_id _ hn]
theorem get_step (X F k : Nat) (hX : X < 18446744073709551616) (_h : F + k < 64) :
    IntKind.u64.wrap ((M.getN X F k : Int) + IntKind.u64.wrap ((IntKind.u64.wrap ((X : Int) / powI ((F : Int) + (k : Int)))).tmod 2 * powI (k : Int))) = (M.getN X F (k + 1) : Int) := by
  rw [show (F : Int) + (k : Int) = ((F + k : Nat) : Int) from rfl, bit_term X (F + k) hX]
  apply sum_term
  · have h1 : M.getN X F (k + 1) ≤ X / 2 ^ F := Nat.mod_le _ _
    have h2 : X / 2 ^ F ≤ X := Nat.div_le_self _ _
    omega
  · unfold M.getN
    rw [Nat.mod_pow_succ, Nat.div_div_eq_div_mul, ← Nat.pow_add, Nat.mul_comm]
theorem ones_pow (m : Int) : onesI m = powI m - 1 := rfl
/-- the bit that the document's Put adds in round k -/
theorem put_term (X Y F L k : Nat) (hY : Y < 2 ^ L) : M.putN X Y F L / 2 ^ k % 2 = if F ≤ k ∧ k < F + L then Y / 2 ^ (k - F) % 2 else X / 2 ^ k % 2 := by
  rw [M.bit_div, M.putN_bit _ _ _ _ _ hY, M.bit_div, M.bit_div]
  by_cases h1 : k < F
  · rw [if_pos h1, if_neg (by omega)]
  · by_cases h2 : k < F + L
    · rw [if_neg h1, if_pos h2, if_pos ⟨by omega, h2⟩]
    · rw [if_neg h1, if_neg h2, if_neg (by omega)]
theorem put_step (P k z : Nat) (hP : P < 18446744073709551616) (hz : P / 2 ^ k % 2 = z) :
    IntKind.u64.wrap (((P % 2 ^ k : Nat) : Int) + IntKind.u64.wrap ((z : Int) * powI (k : Int))) = ((P % 2 ^ (k + 1) : Nat) : Int) := by
  apply sum_term
  · have := Nat.mod_le P (2 ^ (k + 1)); omega
  · rw [Nat.mod_pow_succ, hz, Nat.mul_comm]
end Go.Proofs.YtcbiangocfhhlaaDoor

/-
  Contracts of the document's own Log, Align, Count; and the laws' awake.
-/
namespace Go.Proofs.YtcbiangocfhhlaaDoor
open Go.ChangeShapes Go.WideShapes Go.ChangeAt Go.RowKit

theorem align_eq (n p : Int) (hp : 1 ≤ p) (hn0 : 0 ≤ n) (hn : n ≤ 9223372036854775807) : wrap64 (n / p * p) = n - n % p := by
  have h2 := Int.mul_ediv_add_emod n p
  have h3 := Int.emod_nonneg n (show p ≠ 0 by omega)
  have h4 : 0 ≤ n / p := Int.ediv_nonneg hn0 (by omega)
  have h5 : 0 ≤ p * (n / p) := Int.mul_nonneg (by omega) h4
  rw [Int.mul_comm, IntWalk.wrap64_in _ (by omega)]
  omega
end Go.Proofs.YtcbiangocfhhlaaDoor
