/-
  The document's own allocator: where it lies, and the contracts of its power, free, Blocks, Left.
-/
import Derived.Test.YtmobhojblclmjaaMemR
import Derived.Test.YtmobhojblclmjaaBuS
import Derived.Maps.AppendAt
import Derived.RangeFuncBox
namespace Go.Proofs.Ytmobhojblclmjaa
open Go.ChangeShapes Go.WideShapes Go.ChangeAt Go.RowKit

/-- the cells of blocks -/
def bcells (l : List (Nat × Nat)) : List Value := l.flatMap fun x => [.int .i64 (x.1 : Int), .int .i64 (x.2 : Int)]
theorem bcells_app (l l' : List (Nat × Nat)) : bcells (l ++ l') = bcells l ++ bcells l' := List.flatMap_append
theorem bcells_length (l : List (Nat × Nat)) : (bcells l).length = l.length * 2 := by
  induction l with
  | nil => rfl
  | cons x r ih => rw [show x :: r = [x] ++ r from rfl, bcells_app, List.length_append, ih]; simp [bcells]; omega
def fcells (n : Nat) (F : Nat → Bool) : List Value := (List.range n).map fun i => .bool (F i)
/-- the document's allocator b lies at block C, over the memory at MP, its marks at FB, the given blocks in the slice g -/
structure RBud (w : World) (C MP FB : Nat) (g : Value) (b : Bud) : Prop where
  head : w.heap[C]? = some (.cells #[.pointer (some ⟨MP, 0, none⟩), .slice (some ⟨FB, 0, none⟩) b.n b.n, g] 45 (0, 0))
  fr : w.heap[FB]? = some (.cells (fcells b.n b.F).toArray 4 (0, 0))
  gv : w.ownsRow 0 47 2 g b.gave.length (bcells b.gave)
  ok : b.Ok
theorem RBud.c0 {w : World} {C MP FB : Nat} {g : Value} {b : Bud} (h : RBud w C MP FB g b) : w.cell? ⟨C, 0, none⟩ = some (.pointer (some ⟨MP, 0, none⟩)) := by rw [cell_of_row w C 0 _ _ _ h.head]; rfl
theorem RBud.c1 {w : World} {C MP FB : Nat} {g : Value} {b : Bud} (h : RBud w C MP FB g b) : w.cell? ⟨C, 1, none⟩ = some (.slice (some ⟨FB, 0, none⟩) b.n b.n) := by rw [cell_of_row w C 1 _ _ _ h.head]; rfl
theorem RBud.c2 {w : World} {C MP FB : Nat} {g : Value} {b : Bud} (h : RBud w C MP FB g b) : w.cell? ⟨C, 2, none⟩ = some g := by rw [cell_of_row w C 2 _ _ _ h.head]; rfl
theorem fcell {w : World} {FB n : Nat} {F : Nat → Bool} {t : TypeId} (h : w.heap[FB]? = some (.cells (fcells n F).toArray t (0, 0))) (i : Nat) (hi : i < n) : w.cell? ⟨FB, i, none⟩ = some (.bool (F i)) := by
  rw [cell_of_row w FB i _ _ _ h, List.getElem?_toArray]
  simp [fcells, hi]

theorem row_kept {S : Nat → Prop} {w w' : World} {base sz k : Nat} {e : TypeId} {v : Value} {xs : List Value} (h : w.ownsRow base e sz v k xs) (u : Upd S w w') (hg : ∀ j, v.ownBlock = some j → ¬ S j) : w'.ownsRow base e sz v k xs := by
  refine ⟨h.1, ?_⟩
  rcases h.2 with hn | ⟨g, cap, cur, rfl, hb, hgg, rest⟩
  · exact .inl hn
  · exact .inr ⟨g, cap, cur, rfl, hb, u.at hgg (hg g rfl), rest⟩
theorem RBud.kept {S : Nat → Prop} {w w' : World} {C MP FB : Nat} {g : Value} {b : Bud} (h : RBud w C MP FB g b) (u : Upd S w w') (h1 : ¬ S C) (h2 : ¬ S FB) (h3 : ∀ j, g.ownBlock = some j → ¬ S j) : RBud w' C MP FB g b :=
  ⟨u.at h.head h1, u.at h.fr h2, row_kept h.gv u h3, h.ok⟩
theorem upd_of_below {B : Nat} {w w' : World} (h : Below B w w') (hB : w.heap.size ≤ B) : Upd (fun _ => False) w w' := ⟨h.os, h.tape, h.output, h.size, fun k hk _ => h.block k (by omega)⟩
theorem RBud.below {w w' : World} {C MP FB B : Nat} {g : Value} {b : Bud} (h : RBud w C MP FB g b) (hb : Below B w w') (hB : w.heap.size ≤ B) : RBud w' C MP FB g b :=
  h.kept (upd_of_below hb hB) (fun h => h) (fun h => h) (fun _ _ h => h)
/-- two to the power of k, as a number that the walk leaves alone -/
def pw (k : Nat) : Int := ((2 ^ k : Nat) : Int)
theorem pw_succ (k : Nat) : pw (k + 1) = pw k * 2 := by unfold pw; rw [Nat.pow_succ]; omega
theorem pw_bd (k : Nat) (h : k ≤ 8) : 1 ≤ pw k ∧ pw k ≤ 256 := by
  have h1 : 2 ^ k ≤ 2 ^ 8 := pow_mono h
  have h2 := Nat.two_pow_pos k
  unfold pw
  omega
set_option maxHeartbeats 400000 in
theorem rpower_any (k : Nat) (w : World) (hk : k ≤ 8) :
    Calls Try.prog 33 #[.int .i64 k] w fun e w' => e = .returned (.int .i64 (pw k)) ∧ w = w' := by
  go_enter Try.func33, Try.ntmps33
  go_wp2
  go_loop [3, 4] (fun p t => ∃ i : Nat, i ≤ k ∧ t = .int .i64 i ∧ p = .int .i64 (pw i)) (fun _ t => k - (intOf t).toNat)
  case atStart => exact ⟨0, by omega, rfl, rfl⟩
  case round =>
    obtain ⟨i, hi, rfl, rfl⟩ := hrel
    by_cases hlt : i < k
    · have h1 := pw_bd i (by omega)
      have hs := Lib.hid (pw_succ i)
      generalize pw i = p at h1 hs ⊢
      go_wp2
      exact ⟨⟨i + 1, by omega, by go_num, by rw [hs.out]⟩, by simp [intOf]; omega⟩
    · have e : i = k := by omega
      subst e
      go_wp2
      go_ret
      exact ⟨rfl, rfl⟩

def freeAll (F : Nat → Bool) (n i q : Nat) : Bool := decide (i + q ≤ n) && (List.range q).all fun j => F (i + j)
theorem blkB_free (F : Nat → Bool) (n i k : Nat) : blkB F n i k = (decide (i % 2 ^ k = 0) && freeAll F n i (2 ^ k)) := by
  unfold blkB freeAll
  rw [Bool.and_assoc]
theorem freeAll_no {F : Nat → Bool} {n i q : Nat} (h : ¬ i + q ≤ n) : freeAll F n i q = false := by unfold freeAll; simp [h]
theorem freeAll_hit {F : Nat → Bool} {n i q j : Nat} (h1 : i ≤ j) (h2 : j < i + q) (hF : F j = false) : freeAll F n i q = false := by
  cases hb : freeAll F n i q
  · rfl
  · unfold freeAll at hb
    rw [Bool.and_eq_true, List.all_eq_true] at hb
    have := hb.2 (j - i) (by simp; omega)
    rw [show i + (j - i) = j from by omega, hF] at this
    cases this
theorem freeAll_yes {F : Nat → Bool} {n i q : Nat} (h : i + q ≤ n) (hF : ∀ j, i ≤ j → j < i + q → F j = true) : freeAll F n i q = true := by
  unfold freeAll
  rw [Bool.and_eq_true, List.all_eq_true]
  exact ⟨decide_eq_true h, fun j hj => hF (i + j) (by omega) (by simp at hj; omega)⟩

set_option maxHeartbeats 1000000 in
theorem rfree_any (C MP FB : Nat) (g : Value) (b : Bud) (i q : Nat) (w : World) (h : RBud w C MP FB g b) (hi : i ≤ 256) (hq : q ≤ 256) :
    Calls Try.prog 39 #[.pointer (some ⟨C, 0, none⟩), .int .i64 i, .int .i64 q] w fun e w' => e = .returned (.bool (freeAll b.F b.n i q)) ∧ w = w' := by
  have hc := h.c1
  have hn := h.ok.hi
  have hcell := fun j hj => fcell h.fr j hj
  by_cases hle : i + q ≤ b.n
  · go_enter Try.func39, Try.ntmps39
    go_wp2
    go_loop [7] (fun t => ∃ j : Nat, i ≤ j ∧ j ≤ i + q ∧ t = .int .i64 j ∧ Hid (∀ x, i ≤ x → x < j → b.F x = true)) (fun t => 1000 - (intOf t).toNat)
    case atStart => exact ⟨i, Nat.le_refl _, by omega, rfl, Lib.hid fun x h1 h2 => by omega⟩
    case round =>
      obtain ⟨j, j1, j2, rfl, hF⟩ := hrel
      by_cases hlt : j < i + q
      · have hcj := hcell j (by omega)
        cases hb : b.F j
        · have hv := Lib.hid (freeAll_hit (n := b.n) j1 hlt hb)
          rw [hb] at hcj
          clear hb hcell
          go_wp2
          go_ret
          exact ⟨by rw [hv.out]; rfl, rfl⟩
        · rw [hb] at hcj
          have hst : Hid (∀ x, i ≤ x → x < j + 1 → b.F x = true) := Lib.hid fun x h1 h2 => by
            rcases Nat.lt_or_ge x j with hx | hx
            · exact hF.out x h1 hx
            · rw [show x = j from by omega]; exact hb
          clear hb hcell
          go_wp2
          exact ⟨⟨j + 1, by omega, by omega, by go_num, hst⟩, by simp [intOf]; omega⟩
      · have hv := Lib.hid (freeAll_yes hle fun x h1 h2 => hF.out x h1 (by omega))
        clear hcell
        go_wp2
        go_ret
        exact ⟨by rw [hv.out]; rfl, rfl⟩
  · have hv := Lib.hid (freeAll_no (F := b.F) hle)
    clear hcell
    go_enter Try.func39, Try.ntmps39
    go_wp2
    go_ret
    exact ⟨by rw [hv.out]; rfl, rfl⟩

set_option maxHeartbeats 1000000 in
theorem rleft_any (C MP FB : Nat) (g : Value) (b : Bud) (w : World) (h : RBud w C MP FB g b) :
    Calls Try.prog 29 #[.pointer (some ⟨C, 0, none⟩)] w fun e w' => e = .returned (.int .i64 b.left) ∧ w = w' := by
  have hc := h.c1
  have hn := h.ok.hi
  have hcell := fun j hj => fcell h.fr j hj
  go_enter Try.func29, Try.ntmps29
  go_wp2
  go_loop [3, 4] (fun s t => ∃ j : Nat, j ≤ b.n ∧ t = .int .i64 j ∧ s = .int .i64 (cnt b.F j : Nat)) (fun _ t => b.n - (intOf t).toNat)
  case atStart => exact ⟨0, by omega, rfl, rfl⟩
  case round =>
    obtain ⟨j, j1, rfl, rfl⟩ := hrel
    by_cases hlt : j < b.n
    · have hcj := hcell j hlt
      have hs := Lib.hid (cnt_succ b.F j)
      have hcl := cnt_le b.F j
      generalize cnt b.F j = c at hs hcl ⊢
      clear hcell
      cases hb : b.F j
      · rw [hb] at hcj hs
        clear hb
        go_wp2
        exact ⟨⟨j + 1, by omega, by go_num, by rw [hs.out]; rfl⟩, by simp [intOf]; omega⟩
      · rw [hb] at hcj hs
        clear hb
        go_wp2
        exact ⟨⟨j + 1, by omega, by go_num, by rw [hs.out]; rfl⟩, by simp [intOf]; omega⟩
    · have e : j = b.n := by omega
      subst e
      clear hcell
      have hv := Lib.hid (show b.left = cnt b.F b.n from rfl)
      generalize cnt b.F b.n = c at hv ⊢
      go_wp2
      go_ret
      exact ⟨by rw [hv.out]; rfl, rfl⟩

/-- the greatest order below k of a free block at i, as Blocks looks for it -/
def bestTo (F : Nat → Bool) (n i : Nat) : Nat → Int
  | 0 => -1
  | k + 1 => if blkB F n i k = true then (k : Int) else bestTo F n i k
theorem bestTo_none {F : Nat → Bool} {n i : Nat} (h : F i = false) : ∀ k, bestTo F n i k = -1
  | 0 => rfl
  | k + 1 => by
    rw [bestTo, if_neg, bestTo_none h k]
    intro hb
    have := (blkB_iff.1 hb).fr i (Nat.le_refl _) (by have := Nat.two_pow_pos k; omega)
    rw [h] at this; cases this
theorem bestTo_is {F : Nat → Bool} {n i k : Nat} (h : Blk F n i k) (hk : k ≤ 8) (hu : ∀ l, l ≤ 8 → Blk F n i l → l ≤ k) : ∀ d, k < d → d ≤ 9 → bestTo F n i d = k
  | 0, h1, _ => by omega
  | d + 1, h1, h2 => by
    rw [bestTo]
    by_cases hd : d = k
    · subst hd; rw [if_pos (blkB_iff.2 h)]
    · rw [if_neg, bestTo_is h hk hu d (by omega) (by omega)]
      intro hb
      have := hu d (by omega) (blkB_iff.1 hb)
      omega
theorem bestTo_bd (F : Nat → Bool) (n i : Nat) : ∀ k, -1 ≤ bestTo F n i k ∧ bestTo F n i k < k
  | 0 => by simp [bestTo]
  | k + 1 => by
    have := bestTo_bd F n i k
    rw [bestTo]
    split <;> omega

theorem mxTo_len (F : Nat → Bool) (n : Nat) : ∀ m, (mxTo F n m).length ≤ m
  | 0 => by simp [mxTo]
  | m + 1 => by
    rw [mxTo_succ, List.length_append]
    have := mxTo_len F n m
    by_cases h : ∃ k, Mx F n m k
    · obtain ⟨k, hk⟩ := h
      rw [mxAt_one hk]; simp; omega
    · rw [mxAt_none fun k hk => h ⟨k, hk⟩]; simp; omega
theorem info_rblock : (Try.prog.info? 47).map (fun i => (i.zero, i.size, i.bytes)) = some (some (.agg #[.int .i64 0, .int .i64 0]), 2, 16) := by kernel_rfl
theorem slice2 {w : World} {base : Nat} {e : TypeId} {v : Value} {k : Nat} {xs : List Value} (h : w.ownsRow base e 2 v k xs) : ∃ o cap, v = .slice o k cap := by
  rcases h.2 with ⟨rfl, rfl⟩ | ⟨g, cap, cur, rfl, _⟩
  · exact ⟨none, 0, rfl⟩
  · exact ⟨_, _, rfl⟩
theorem cell_two (w : World) (x y : Value) (t : TypeId) : ∀ j u, [x, y][j]? = some u → (w.alloc (.cells #[x, y] t)).cell? ((⟨w.heap.size, 0, none⟩ : Addr).add j) = some u := by
  intro j u hj
  have hadd : (⟨w.heap.size, 0, none⟩ : Addr).add j = ⟨w.heap.size, j, none⟩ := by unfold Addr.add; split <;> simp_all
  rw [hadd, cell_of_row _ _ j _ _ _ (heap_alloc_last w (.cells #[x, y] t))]
  simpa using hj

set_option maxRecDepth 100000 in
set_option maxHeartbeats 2000000 in
theorem rblocks_any (C MP FB : Nat) (g : Value) (b : Bud) (w : World) (h : RBud w C MP FB g b) :
    Calls Try.prog 23 #[.pointer (some ⟨C, 0, none⟩)] w fun e w' => ∃ v, e = .returned v ∧ w'.ownsRow w.heap.size 47 2 v (blocks b.F b.n).length (bcells (blocks b.F b.n)) ∧ Below w.heap.size w w' := by
  obtain ⟨i0, hi, hz0, hz1, hz2⟩ := info_parts info_rblock
  have hn := h.ok.hi
  obtain ⟨N, hN⟩ : ∃ N, w.heap.size = N := ⟨_, rfl⟩
  rw [hN]
  go_enter Try.func23, Try.ntmps23
  go_wp2
  go_loopw [3, 4] (fun v t wr => ∃ i : Nat, i ≤ b.n ∧ t = .int .i64 i ∧ wr.ownsRow N 47 2 v (mxTo b.F b.n i).length (bcells (mxTo b.F b.n i)) ∧ Below N w wr ∧ Hid (Edge b.F b.n i)) (fun _ t _ => b.n - (intOf t).toNat)
  case atStart => exact ⟨0, by omega, rfl, World.ownsRow_nil _ _ _ _, hN ▸ Below.refl _ _, Lib.hid (edge_zero _ _)⟩
  case round =>
    obtain ⟨i, hi', rfl, hrow, hB, hE⟩ := hrel
    have hW : RBud wr C MP FB g b := h.below hB (by omega)
    have hc := hW.c1
    have hsize := hB.size
    by_cases hlt : i < b.n
    · go_wp2
      go_loop [5, 6] (fun s t => ∃ k : Nat, k ≤ 9 ∧ t = .int .i64 k ∧ s = .int .i64 (bestTo b.F b.n i k)) (fun _ t => 9 - (intOf t).toNat)
      case atStart => exact ⟨0, by omega, rfl, rfl⟩
      case round =>
        obtain ⟨k, hk, rfl, rfl⟩ := hrel
        by_cases hk9 : k < 9
        · have hbd := pw_bd k (by omega)
          have hpow := fun wx => rpower_any k wx (by omega)
          have hfree : ∀ wx, RBud wx C MP FB g b → Calls Try.prog 39 #[.pointer (some ⟨C, 0, none⟩), .int .i64 i, .int .i64 (pw k)] wx fun e w' => e = .returned (.bool (freeAll b.F b.n i (2 ^ k))) ∧ wx = w' := fun wx hx => rfree_any C MP FB g b i (2 ^ k) wx hx (by omega) (by have := hbd.2; unfold pw at this; omega)
          have hst := Lib.hid (show bestTo b.F b.n i (k + 1) = if (decide (i % 2 ^ k = 0) && freeAll b.F b.n i (2 ^ k)) = true then (k : Int) else bestTo b.F b.n i k from by rw [bestTo, blkB_free])
          have hmod : (i : Int) % pw k = 0 ↔ decide (i % 2 ^ k = 0) = true := by
            unfold pw
            rw [← Int.natCast_emod, decide_eq_true_iff]
            omega
          generalize freeAll b.F b.n i (2 ^ k) = fa at hfree hst
          generalize bestTo b.F b.n i k = bt at hst ⊢
          generalize decide (i % 2 ^ k = 0) = al at hst hmod
          generalize pw k = pk at hbd hpow hfree hmod
          have hne : ¬ pk = 0 := by omega
          cases al
          · have hm : ¬ (i : Int) % pk = 0 := fun h => by have := hmod.1 h; cases this
            clear hmod
            go_wp2_with fail
            refine (hpow _).mono ?_
            rintro z w3 ⟨rfl, rfl⟩
            go_wp2
            exact ⟨⟨k + 1, by omega, by go_num, by rw [hst.out]; rfl⟩, by simp [intOf]; omega⟩
          · have hm : (i : Int) % pk = 0 := hmod.2 rfl
            clear hmod
            cases fa
            · go_wp2_with fail
              refine (hpow _).mono ?_
              rintro z w3 ⟨rfl, rfl⟩
              go_wp2_with fail
              refine (hpow _).mono ?_
              rintro z w3 ⟨rfl, rfl⟩
              go_wp2_with fail
              refine (hfree _ hW).mono ?_
              rintro z w3 ⟨rfl, rfl⟩
              go_wp2
              exact ⟨⟨k + 1, by omega, by go_num, by rw [hst.out]; rfl⟩, by simp [intOf]; omega⟩
            · go_wp2_with fail
              refine (hpow _).mono ?_
              rintro z w3 ⟨rfl, rfl⟩
              go_wp2_with fail
              refine (hpow _).mono ?_
              rintro z w3 ⟨rfl, rfl⟩
              go_wp2_with fail
              refine (hfree _ hW).mono ?_
              rintro z w3 ⟨rfl, rfl⟩
              go_wp2
              exact ⟨⟨k + 1, by omega, by go_num, by rw [hst.out]; rfl⟩, by simp [intOf]; omega⟩
        · have e : k = 9 := by omega
          subst e
          cases hF : b.F i
          · have hb := Lib.hid (bestTo_none (n := b.n) hF 9)
            have hE' := Lib.hid (edge_skip hF hE.out)
            have hm := Lib.hid (mxTo_skip (n := b.n) hF)
            rw [hb.out]
            go_wp2
            exact ⟨⟨i + 1, by omega, by go_num, by rw [hm.out]; exact hrow, hB, hE'⟩, by simp [intOf]; omega⟩
          · obtain ⟨q, hq, hmax⟩ := edge_mx hE.out hF hlt
            have hb := Lib.hid (bestTo_is hq.b hq.hi hmax 9 (by have := hq.hi; omega) (by omega))
            have hE' := Lib.hid (edge_jump hq hE.out)
            have hm := Lib.hid (mxTo_jump hq)
            have hql := hq.b.le
            have hq8 := hq.hi
            have hbd := pw_bd q hq8
            have hpow := fun wx => rpower_any q wx hq8
            have hpw := Lib.hid (show pw q = ((2 ^ q : Nat) : Int) from rfl)
            rw [hb.out]
            obtain ⟨o, cap, rfl⟩ := slice2 hrow
            have hml : (mxTo b.F b.n i).length ≤ i := mxTo_len _ _ _
            clear hmax hq
            generalize pw q = pq at hbd hpow hpw
            go_wp2_with (first
              | (at_builtin; refine wpList_append_own _ rfl _ _ 43 rfl N 47 i0 (.agg #[.int .i64 0, .int .i64 0]) 2 16 Try.underlying43 hi hz0 hz1 hz2 rfl (by decide) _ _ _ rfl (hrow.alloc _) ⟨wr.heap.size, 0, none⟩ 1 1 [.int .i64 i, .int .i64 q] rfl rfl (cell_two _ _ _ _) (by simp [Value.oneCell']) (by simp [maxLen]; omega) (by omega) (by simp; omega) ?_; intro v' w1 hown' hgrow _; obtain ⟨g', cap', rfl⟩ := ownsRow_succ hown')
              | (go_at_call 33; refine (hpow _).mono ?_; rintro z w3 ⟨rfl, rfl⟩))
            have hp2 := Nat.two_pow_pos q
            refine ⟨⟨i + 2 ^ q, hql, by rw [hpw.out]; congr 1, by rw [hm.out, bcells_app, List.length_append]; exact hown', ?_, hE'⟩, by rw [hpw.out]; simp only [intOf]; omega⟩
            exact hB.trans (((Below.refl N wr).alloc (by omega) _).grown hgrow (by simp; omega) fun j ej => (hrow.lt j ej).1)
    · have e : i = b.n := by omega
      subst e
      obtain ⟨o, cap, rfl⟩ := slice2 hrow
      have Hrow := Lib.hid (show wr.ownsRow N 47 2 _ (blocks b.F b.n).length (bcells (blocks b.F b.n)) from hrow)
      clear hrow
      go_wp2
      go_ret
      exact ⟨_, rfl, Hrow.out, hB⟩
end Go.Proofs.Ytmobhojblclmjaa
