/-
  The document's own allocator: Alloc.
-/
import Derived.Test.YtmobhojblclmjaaApp
import Derived.Test.YtmobhojblclmjaaBuT
import Derived.Deep.DeepCutAuto
import Derived.Deep.CutBlock
import Derived.Deep.RegionHeld3
namespace Go.Proofs.Ytmobhojblclmjaa
open Go.ChangeShapes Go.WideShapes Go.ChangeAt Go.RowKit

theorem bcells_get (l : List (Nat × Nat)) : ∀ i, i < l.length → (bcells l)[i * 2]? = some (.int .i64 ((l.getD i (0, 0)).1 : Int)) ∧ (bcells l)[i * 2 + 1]? = some (.int .i64 ((l.getD i (0, 0)).2 : Int)) := by
  induction l with
  | nil => intro i hi; simp at hi
  | cons x r ih =>
    intro i hi
    rw [show x :: r = [x] ++ r from rfl, bcells_app]
    have e : bcells [x] = [.int .i64 (x.1 : Int), .int .i64 (x.2 : Int)] := rfl
    rw [e]
    cases i with
    | zero => exact ⟨rfl, rfl⟩
    | succ i =>
      have := ih i (by simpa using hi)
      rw [show (i + 1) * 2 = i * 2 + 2 from by omega]
      exact ⟨by simpa using this.1, by simpa using this.2⟩
theorem bcells_one (l : List (Nat × Nat)) : ∀ u ∈ bcells l, u.oneCell' = true := by
  intro u hu
  simp only [bcells, List.mem_flatMap] at hu
  obtain ⟨x, _, hx⟩ := hu
  simp at hx
  rcases hx with rfl | rfl <;> rfl
/-- a slice of blocks that can be read -/
def BRow (w : World) (v : Value) (l : List (Nat × Nat)) : Prop := ∃ o cap, v = .slice o l.length cap ∧ ∀ i, i < l.length → ∃ g, o = some ⟨g, 0, none⟩ ∧ w.cell? ⟨g, i * 2, none⟩ = some (.int .i64 ((l.getD i (0, 0)).1 : Int)) ∧ w.cell? ⟨g, i * 2 + 1, none⟩ = some (.int .i64 ((l.getD i (0, 0)).2 : Int))
theorem brow_of {w : World} {base : Nat} {e : TypeId} {v : Value} {l : List (Nat × Nat)} (h : w.ownsRow base e 2 v l.length (bcells l)) : BRow w v l := by
  rcases h.2 with ⟨rfl, h0⟩ | ⟨g, cap, cur, rfl, hb, hg, _⟩
  · exact ⟨none, 0, by rw [h0], fun i hi => by omega⟩
  · refine ⟨_, cap, rfl, fun i hi => ⟨g, rfl, ?_, ?_⟩⟩
    · have := h.cells (g := g) rfl (i * 2) _ (bcells_get l i hi).1
      rwa [add_mid0, Nat.zero_add] at this
    · have := h.cells (g := g) rfl (i * 2 + 1) _ (bcells_get l i hi).2
      rwa [add_mid0, Nat.zero_add] at this
theorem BRow.drewN {w : World} {v : Value} {l : List (Nat × Nat)} (h : BRow w v l) (n : Nat) : BRow (w.drewN n) v l := h

set_option maxHeartbeats 400000 in
theorem rAlloc_bad (C : Nat) (o : Int) (w : World) (hb : o < 0 ∨ 8 < o) :
    Calls Try.prog 16 #[.pointer (some ⟨C, 0, none⟩), .int .i64 o] w fun e w' => e = .returned (.tuple #[.int .i64 0, .int .i64 1]) ∧ w = w' := by
  by_cases h0 : o < 0
  all_goals
    go_enter Try.func16, Try.ntmps16
    go_wp2
    go_ret2
    exact ⟨rfl, rfl⟩

/-- where the scan stands: bi the best one's place, or -1 -/
def Best (o : Nat) (L : List (Nat × Nat)) (i : Nat) (bi : Int) : Prop := (bi = -1 ∧ pick o (L.take i) = none) ∨ ∃ j : Nat, bi = j ∧ j < i ∧ pick o (L.take i) = some (L.getD j (0, 0))
theorem take_snoc (L : List (Nat × Nat)) (i : Nat) (h : i < L.length) : L.take (i + 1) = L.take i ++ [L.getD i (0, 0)] := by
  rw [List.take_add_one, List.getElem?_eq_getElem h]
  simp [List.getElem?_eq_getElem h]
theorem Best.low {o : Nat} {L : List (Nat × Nat)} {i : Nat} {bi : Int} (h : Best o L i bi) (hi : i < L.length) (hx : ¬ o ≤ (L.getD i (0, 0)).2) : Best o L (i + 1) bi := by
  unfold Best
  rw [take_snoc L i hi, pick_snoc]
  rcases h with ⟨h1, h2⟩ | ⟨j, h1, h2, h3⟩
  · left; rw [h2]; unfold better; exact ⟨h1, if_neg hx⟩
  · right; refine ⟨j, h1, by omega, ?_⟩; rw [h3]; unfold better; simp only [hx, false_and, if_false]
theorem Best.first {o : Nat} {L : List (Nat × Nat)} {i : Nat} (h : Best o L i (-1)) (hi : i < L.length) (hx : o ≤ (L.getD i (0, 0)).2) : Best o L (i + 1) i := by
  unfold Best
  rw [take_snoc L i hi, pick_snoc]
  rcases h with ⟨h1, h2⟩ | ⟨j, h1, h2, h3⟩
  · right; refine ⟨i, rfl, by omega, ?_⟩; rw [h2]; unfold better; simp only [hx, if_true]
  · omega
theorem Best.more {o : Nat} {L : List (Nat × Nat)} {i j : Nat} (h : Best o L i j) (hi : i < L.length) (hx : o ≤ (L.getD i (0, 0)).2) (hl : (L.getD i (0, 0)).2 < (L.getD j (0, 0)).2) : Best o L (i + 1) i := by
  unfold Best
  rw [take_snoc L i hi, pick_snoc]
  rcases h with ⟨h1, h2⟩ | ⟨j', h1, h2, h3⟩
  · omega
  · right; refine ⟨i, rfl, by omega, ?_⟩
    rw [h3, show j' = j from by omega]; unfold better; simp only [hx, hl, and_self, if_true]
theorem Best.stay {o : Nat} {L : List (Nat × Nat)} {i j : Nat} (h : Best o L i j) (hi : i < L.length) (hl : ¬ (L.getD i (0, 0)).2 < (L.getD j (0, 0)).2) : Best o L (i + 1) j := by
  unfold Best
  rw [take_snoc L i hi, pick_snoc]
  rcases h with ⟨h1, h2⟩ | ⟨j', h1, h2, h3⟩
  · omega
  · right; refine ⟨j, rfl, by omega, ?_⟩
    rw [h3, show j' = j from by omega]; unfold better; simp only [hl, and_false, if_false]
theorem src_new (w : World) (x y : Value) (t : TypeId) : Src (w.alloc (.cells #[x, y] t)) (.slice (some ⟨w.heap.size, 0, none⟩) 1 1) 1 2 [x, y] :=
  .inr ⟨w.heap.size, 0, 1, rfl, rfl, fun j u hu => by have := cell_two w x y t j u hu; rwa [add_mid0] at this⟩
/-- a new slice out of an empty one: nothing that was there has turned -/
theorem gave_upd {wr w4 w5 : World} {e t : TypeId} {c : Array Value} {og4 : Option Addr} {n4 cap4 : Nat} {sz n base : Nat} {v : Value} {xs : List Value} (_ : wr.ownsRow base e sz v n xs)
    (g4 : (wr.alloc (.cells #[] e)).grownBy w4 (Value.slice (some ⟨wr.heap.size, 0, none⟩) 0 0).ownBlock) (g5 : (w4.alloc (.cells c t)).grownBy w5 (Value.slice og4 n4 cap4).ownBlock) (h4 : ∀ k, (Value.slice og4 n4 cap4).ownBlock = some k → wr.heap.size ≤ k) :
    Upd (fun _ => False) wr w5 := by
  refine ⟨by rw [g5.os]; exact g4.os, by rw [g5.tape]; exact g4.tape, by rw [g5.output]; exact g4.output, ?_, fun k hk _ => ?_⟩
  · have a := g4.size
    have b := g5.size
    simp at a b
    omega
  · have a := g4.size
    simp at a
    rw [g5.block k (by simp; omega) (fun e' => by have := h4 k e'.symm; omega), Below.heap_alloc _ _ _ (by omega), g4.block k (by simp; omega) (fun e' => by simp [Value.ownBlock] at e'; omega), Below.heap_alloc _ _ _ hk]
theorem row_base {w : World} {base base' sz k : Nat} {e : TypeId} {v : Value} {xs : List Value} (h : w.ownsRow base e sz v k xs) (hb : base' ≤ base) : w.ownsRow base' e sz v k xs := by
  refine ⟨h.1, ?_⟩
  rcases h.2 with hn | ⟨g, cap, cur, rfl, h1, rest⟩
  · exact .inl hn
  · exact .inr ⟨g, cap, cur, rfl, by omega, rest⟩
/-- taken from f up to i -/
def cutTo (F : Nat → Bool) (f i : Nat) : Nat → Bool := fun j => F j && !(decide (f ≤ j) && decide (j < i))
theorem cutTo_start (F : Nat → Bool) (f : Nat) : cutTo F f f = F := by
  funext j
  unfold cutTo
  rw [show (decide (f ≤ j) && decide (j < f)) = false from by simp]
  simp
theorem cutTo_step (n : Nat) (F : Nat → Bool) (f i : Nat) (h : f ≤ i) : fcells n (updF (cutTo F f i) i false) = fcells n (cutTo F f (i + 1)) := fcells_congr fun j _ => by
  unfold updF cutTo
  by_cases e : j = i
  · rw [if_pos e, e]; simp [h]
  · rw [if_neg e]
    by_cases h2 : j < i
    · simp [h2, Nat.lt_succ_of_lt h2]
    · simp [h2, show ¬ j < i + 1 from by omega]
theorem RBud.neCF {w : World} {C MP FB : Nat} {g : Value} {b : Bud} (h : RBud w C MP FB g b) : C ≠ FB := by
  intro e
  have h1 := h.head
  rw [e, h.fr] at h1
  simp at h1
theorem ty_ne {w : World} {base sz k : Nat} {e t : TypeId} {v : Value} {xs : List Value} {X : Nat} {c : Array Value} (h : w.ownsRow base e sz v k xs) (hX : w.heap[X]? = some (.cells c t (0, 0))) (ht : t ≠ e) : ∀ j, v.ownBlock = some j → ¬ j = X := by
  intro j hj e'
  rcases h.2 with ⟨rfl, _⟩ | ⟨g, cap, cur, rfl, _, hgg, _⟩
  · simp [Value.ownBlock] at hj
  · simp [Value.ownBlock] at hj
    subst hj e'
    rw [hX] at hgg
    simp at hgg
    exact ht hgg.2
theorem RBud.neG {w : World} {C MP FB : Nat} {g : Value} {b : Bud} (h : RBud w C MP FB g b) : ∀ j, g.ownBlock = some j → ¬ j = FB := ty_ne h.gv h.fr (by decide)
theorem RBud.neGC {w : World} {C MP FB : Nat} {g : Value} {b : Bud} (h : RBud w C MP FB g b) : ∀ j, g.ownBlock = some j → ¬ j = C := ty_ne h.gv h.head (by decide)

set_option maxRecDepth 100000 in
set_option maxHeartbeats 4000000 in
theorem rAlloc_any (C MP FB : Nat) (g : Value) (b : Bud) (o : Nat) (w : World) (h : RBud w C MP FB g b) (ho : o ≤ 8) :
    Calls Try.prog 16 #[.pointer (some ⟨C, 0, none⟩), .int .i64 o] w fun e w' =>
      (b.sel o = none ∧ e = .returned (.tuple #[.int .i64 0, .int .i64 6]) ∧ Below w.heap.size w w') ∨
      (∃ x g', b.sel o = some x ∧ e = .returned (.tuple #[.int .i64 (x.1 : Int), .int .i64 0]) ∧ RBud w' C MP FB g' (b.give (x.1, o)) ∧ Upd (fun k => k = C ∨ k = FB) w w' ∧ ∀ k, g'.ownBlock = some k → w.heap.size ≤ k) := by
  obtain ⟨N, hN⟩ : ∃ N, w.heap.size = N := ⟨_, rfl⟩
  go_enter Try.func16, Try.ntmps16
  go_wp2_with fail
  refine (rblocks_any C MP FB g b _ h).mono ?_
  rintro z w1 ⟨v, rfl, hrow, b1⟩
  have hW := h.below b1 (Nat.le_refl _)
  rw [hN] at hrow b1
  have hsel : b.sel o = pick o (blocks b.F b.n) := rfl
  have hr := brow_of hrow
  have hll : (blocks b.F b.n).length ≤ 256 := Nat.le_trans (mxTo_len _ _ _) h.ok.hi
  clear hrow
  obtain ⟨L, hL⟩ : ∃ L, blocks b.F b.n = L := ⟨_, rfl⟩
  rw [hL] at hsel hr hll
  obtain ⟨oa, cap, rfl, hc⟩ := hr
  obtain ⟨ln, hln⟩ : ∃ ln, L.length = ln := ⟨_, rfl⟩
  rw [hln] at hc hll ⊢
  have HLn := Lib.hid hln
  have HL := Lib.hid hL
  have Hsel := Lib.hid hsel
  clear hln hL hsel
  go_upto_block 0 with fail
  go_cut [7] (fun s7 wx => ∃ (bi : Int) (q : Nat), s7 = .int .i64 bi ∧ wx = w1.drewN q ∧ Hid (Best o L ln bi))
  case first =>
    go_wp2_with fail
    go_loopw [7, 8] (fun s t wr => ∃ (i q : Nat) (bi : Int), i ≤ ln ∧ t = .int .i64 i ∧ s = .int .i64 bi ∧ wr = w1.drewN q ∧ Hid (Best o L i bi)) (fun _ t _ => ln - (intOf t).toNat)
    case atStart => exact ⟨0, 0, -1, by omega, rfl, rfl, rfl, Lib.hid (.inl ⟨rfl, rfl⟩)⟩
    case round =>
      obtain ⟨i, q, bi, hi, rfl, rfl, rfl, hb⟩ := hrel
      by_cases hlt : i < ln
      · obtain ⟨ga, rfl, c0, c1⟩ := hc i hlt
        have hil : i < L.length := by rw [HLn.out]; exact hlt
        have hin : (i : Int) < (ln : Int) := by omega
        have hlow := Lib.hid (fun hx => hb.out.low hil hx)
        rcases hb.out with ⟨rfl, hp⟩ | ⟨j, rfl, hj, hp⟩
        · have hfst := Lib.hid (fun hx => Best.first hb.out hil hx)
          clear hp hc hb c0
          generalize L.getD i (0, 0) = x at c1 hlow hfst
          by_cases hx : o ≤ x.2
          · have HB := Lib.hid (hfst.out hx)
            clear hlow hfst
            have hx' : (o : Int) ≤ (x.2 : Int) := by omega
            generalize x.2 = k at c1 hx hx'
            go_wp2
            go_quiet (fail)
            go_wp2
            go_roundw
            case rel => exact ⟨i + 1, _, _, by omega, by go_num, rfl, rfl, HB⟩
            case measure => simp [intOf]; omega
          · have HB := Lib.hid (hlow.out hx)
            clear hlow hfst
            have hx' : ¬ (o : Int) ≤ (x.2 : Int) := by omega
            generalize x.2 = k at c1 hx hx'
            go_wp2
            go_quiet (fail)
            go_wp2
            go_roundw
            case rel => exact ⟨i + 1, _, _, by omega, by go_num, rfl, rfl, HB⟩
            case measure => simp [intOf]; omega
        · have hmore := Lib.hid (fun hx hl => Best.more hb.out hil hx hl)
          have hstay := Lib.hid (fun hl => Best.stay hb.out hil hl)
          obtain ⟨ga', eg, c0', c1'⟩ := hc j (by omega)
          cases eg
          have hjn : (j : Int) < (ln : Int) := by omega
          clear hp hc hb c0 c0'
          generalize L.getD i (0, 0) = x at c1 hlow hmore hstay
          generalize L.getD j (0, 0) = y at c1' hmore hstay
          by_cases hx : o ≤ x.2
          · have hx' : (o : Int) ≤ (x.2 : Int) := by omega
            by_cases hl : x.2 < y.2
            · have HB := Lib.hid (hmore.out hx hl)
              have hl' : (x.2 : Int) < (y.2 : Int) := by omega
              clear hlow hmore hstay
              generalize x.2 = k at c1 hx hx' hl hl'
              generalize y.2 = k' at c1' hl hl'
              go_wp2
              go_quiet (fail)
              go_wp2
              go_roundw
              case rel => exact ⟨i + 1, _, _, by omega, by go_num, rfl, rfl, HB⟩
              case measure => simp [intOf]; omega
            · have HB := Lib.hid (hstay.out hl)
              have hl' : ¬ (x.2 : Int) < (y.2 : Int) := by omega
              clear hlow hmore hstay
              generalize x.2 = k at c1 hx hx' hl hl'
              generalize y.2 = k' at c1' hl hl'
              go_wp2
              go_quiet (fail)
              go_wp2
              go_roundw
              case rel => exact ⟨i + 1, _, _, by omega, by go_num, rfl, rfl, HB⟩
              case measure => simp [intOf]; omega
          · have HB := Lib.hid (hlow.out hx)
            clear hlow hmore hstay
            have hx' : ¬ (o : Int) ≤ (x.2 : Int) := by omega
            generalize x.2 = k at c1 hx hx'
            go_wp2
            go_quiet (fail)
            go_wp2
            go_roundw
            case rel => exact ⟨i + 1, _, _, by omega, by go_num, rfl, rfl, HB⟩
            case measure => simp [intOf]; omega
      · have e : i = ln := by omega
        subst e
        go_wp2
        go_meet
        exact ⟨bi, q, rfl, rfl, hb⟩
  case rest =>
    obtain ⟨bi, q, rfl, rfl, hb⟩ := hcut
    have hall : L.take ln = L := List.take_of_length_le (by rw [HLn.out]; exact Nat.le_refl _)
    rcases hb.out with ⟨rfl, hp⟩ | ⟨j, rfl, hj, hp⟩
    · rw [hall] at hp
      have Hn := Lib.hid (Hsel.out.trans hp)
      clear hall hp hc hb
      go_wp2
      go_ret2
      exact .inl ⟨Hn.out, rfl, by rw [hN]; exact below_drewN b1 q⟩
    · rw [hall] at hp
      have Hn := Lib.hid (Hsel.out.trans hp)
      obtain ⟨ga, rfl, c0, c1⟩ := hc j hj
      have hjn : (j : Int) < (ln : Int) := by omega
      clear hall hp hc hb c1
      obtain ⟨x, hx⟩ : ∃ x, L.getD j (0, 0) = x := ⟨_, rfl⟩
      rw [hx] at Hn c0
      obtain ⟨hgo, hblk⟩ := sel_give h.ok ho Hn.out
      have hxl := hblk.le
      have hn := h.ok.hi
      have hW := hW.below (below_drewN (Below.refl w1.heap.size w1) q) (Nat.le_refl _)
      have b2 := below_drewN b1 q
      have c0 : (w1.drewN q).cell? ⟨ga, j * 2, none⟩ = some (.int .i64 (x.1 : Int)) := c0
      generalize w1.drewN q = w2 at hW b2 c0 ⊢
      clear hx b1
      have hCF := hW.neCF
      have hgF := hW.neG
      have hbd := pw_bd o ho
      have hpw := Lib.hid (show pw o = ((2 ^ o : Nat) : Int) from rfl)
      have hxl' : (x.1 : Int) + pw o ≤ 256 := by have := hpw.out; omega
      have hpow := fun wx => rpower_any o wx ho
      obtain ⟨f, hf⟩ : ∃ f, x.1 = f := ⟨_, rfl⟩
      rw [hf] at c0 hgo hblk hxl hxl'
      generalize pw o = po at hbd hpw hxl' hpow
      go_wp2_with fail
      go_loopw [10] (fun t wr => ∃ i : Nat, f ≤ i ∧ (i : Int) ≤ f + po ∧ t = .int .i64 i ∧ Upd (· = FB) w2 wr ∧ Hid (wr.heap[FB]? = some (.cells (fcells b.n (cutTo b.F f i)).toArray 4 (0, 0)))) (fun t _ => 256 - (intOf t).toNat)
      case atStart => exact ⟨f, Nat.le_refl _, by omega, rfl, Upd.refl _ _, Lib.hid (by rw [cutTo_start]; exact hW.fr)⟩
      case round =>
        obtain ⟨i, i1, i2, rfl, U, hF⟩ := hrel
        have hin : (i : Int) < f + po → i < b.n := fun hlt => by have := hpw.out; omega
        have hc1 : wr.cell? ⟨C, 1, none⟩ = some (.slice (some ⟨FB, 0, none⟩) b.n b.n) := U.cell hW.c1 hCF
        by_cases hlt : (i : Int) < f + po
        · have hci := fcell hF.out i (hin hlt)
          have hfz := frozen_block hF.out i
          have hil : (i : Int) < (b.n : Int) := by have := hin hlt; omega
          have hset := Lib.hid (show (wr.setCell ⟨FB, i, none⟩ (.bool false)).heap[FB]? = some (.cells (fcells b.n (cutTo b.F f (i + 1))).toArray 4 (0, 0)) from by rw [heap_setCell_same hF.out i (.bool false), fcells_set, cutTo_step b.n b.F f i i1])
          generalize cutTo b.F f i i = bi at hci
          go_wp2_with (go_at_call 33; refine (hpow _).mono ?_; rintro z w3 ⟨rfl, rfl⟩)
          go_roundw
          case rel => exact ⟨i + 1, by omega, by omega, by go_num, U.setCell (.inl rfl) _, hset⟩
          case measure => simp [intOf]; omega
        · have e : i = f + 2 ^ o := by have := hpw.out; omega
          have hF2 := Lib.hid (show wr.heap[FB]? = some (.cells (fcells (b.give (f, o)).n (b.give (f, o)).F).toArray 4 (0, 0)) from by have := hF.out; rw [e] at this; exact this)
          clear e hF
          have hhd : wr.heap[C]? = _ := U.at hW.head hCF
          have hgv := row_kept hW.gv U hgF
          have hc2 : wr.cell? ⟨C, 2, none⟩ = some g := U.cell hW.c2 hCF
          have hbU := b2.size
          have hUs := U.size
          obtain ⟨i0, hi, hz0, hz1, hz2⟩ := info_parts info_rblock
          have hle : b.gave.length + 1 ≤ 256 := by have := hgo.gave_len; simpa [Bud.give] using this
          obtain ⟨og, capg, rfl⟩ := slice2 hgv
          have hcA : (wr.alloc (.cells #[] 47)).cell? ⟨C, 2, none⟩ = some (.slice og b.gave.length capg) := ((Upd.refl (fun _ => False) wr).alloc _).cell hc2 (fun h => h)
          go_wp2_with fail
          refine (hpow _).mono ?_
          rintro z w3 ⟨rfl, rfl⟩
          go_wp2_with (first
            | (at_builtin; refine wpList_append_src _ rfl (.tmp 73) (.tmp 77) 43 rfl wr.heap.size 47 i0 (.agg #[.int .i64 0, .int .i64 0]) 2 16 Try.underlying43 hi hz0 hz1 hz2 rfl (by decide) (.slice (some ⟨wr.heap.size, 0, none⟩) 0 0) 0 [] rfl (World.ownsRow_made wr #[] 0 (Nat.le_refl _) (by decide) rfl) (.slice og b.gave.length capg) b.gave.length (bcells b.gave) rfl (Src.of_row (hgv.alloc _)) (bcells_one _) (by simp [maxLen]; omega) (by omega) (by simp) ?_; intro v4 w4 own4 grow4; rw [Nat.zero_add, List.nil_append] at own4; obtain ⟨og4, cap4, rfl⟩ := slice2 own4)
            | (at_builtin; refine wpList_append_src _ rfl (.tmp 78) (.tmp 82) 43 rfl wr.heap.size 47 i0 (.agg #[.int .i64 0, .int .i64 0]) 2 16 Try.underlying43 hi hz0 hz1 hz2 rfl (by decide) (.slice og4 b.gave.length cap4) b.gave.length (bcells b.gave) rfl (own4.alloc _) (.slice (some ⟨w4.heap.size, 0, none⟩) 1 1) 1 (bcells [(f, o)]) rfl (src_new _ _ _ _) (bcells_one _) (by simp [maxLen]; omega) (by omega) (by have := grow4.size; simp at this ⊢; omega) ?_; intro v5 w5 own5 grow5; rw [← bcells_app] at own5; obtain ⟨og5, cap5, rfl⟩ := slice2 own5; have u5 := gave_upd hgv grow4 grow5 (fun k hk => (own4.lt k hk).1); have hc5 := u5.cell hc2 (fun h => h); have hf5 := frozen_block (u5.at hhd (fun h => h)) 2))
          have hCl := lt_of_heap hhd
          have hh5 := u5.at hhd (fun h => h)
          have uS : Upd (· = C) w5 (w5.setCell ⟨C, 2, none⟩ (.slice og5 (b.gave.length + 1) cap5)) := (Upd.refl (· = C) w5).setCell (.inl rfl) _
          have hrow := row_kept (row_base own5 (Nat.zero_le _)) uS (fun k hk e => by have := (own5.lt k hk).1; omega)
          have hfr6 := uS.at (u5.at hF2.out (fun h => h)) (fun e => hCF e.symm)
          have hh6 : (w5.setCell ⟨C, 2, none⟩ (.slice og5 (b.gave.length + 1) cap5)).heap[C]? = some (.cells #[.pointer (some ⟨MP, 0, none⟩), .slice (some ⟨FB, 0, none⟩) b.n b.n, .slice og5 (b.gave.length + 1) cap5] 45 (0, 0)) := heap_setCell_same (C := [.pointer (some ⟨MP, 0, none⟩), .slice (some ⟨FB, 0, none⟩) b.n b.n, .slice og b.gave.length capg]) hh5 2 _
          have uw : Upd (fun k => k = C ∨ k = FB) w (w5.setCell ⟨C, 2, none⟩ (.slice og5 (b.gave.length + 1) cap5)) :=
            (((upd_of_below b2 (by omega)).mono (fun _ _ h => h.elim)).trans (U.mono (fun _ _ h => .inr h))).trans ((u5.mono (fun _ _ h => h.elim)).trans (uS.mono (fun _ _ h => .inl h)))
          go_ret2
          exact .inr ⟨x, .slice og5 (b.gave.length + 1) cap5, Hn.out, by rw [hf]; rfl, by rw [hf]; exact ⟨hh6, hfr6, by show _; rw [show (b.give (f, o)).gave.length = b.gave.length + 1 from by simp [Bud.give]]; exact hrow, hgo⟩, uw, fun k hk => by have := (own5.lt k hk).1; omega⟩
end Go.Proofs.Ytmobhojblclmjaa
