/-
  Package bitmap: Gap.
-/
import Derived.Test.YthlehgohpagfnaaBmC
namespace Go.Proofs.Ythlehgohpagfnaa
open Go.ChangeShapes Go.WideShapes Go.ChangeAt Go.RowKit Go.Shelf

attribute [local go_sem] Oper.semAt_some

theorem boxed_from {B b : Nat} {X Y : World} {row : Option Nat} {t : TypeId} {v : Value} (h : Boxed X b t v) (hg : X.grownBy Y row) (hr : ∀ r, row = some r → B ≤ r ∧ ∃ o : Obj, X.heap[r]? = some o ∧ o.isCells = false) : Boxed Y b t v :=
  Own.from (boxed_own (β := Unit) b t fun _ => v) B () X Y row h hg hr
theorem below_from {n₀ B : Nat} {w₀ X Y : World} {row : Option Nat} (h : Below n₀ w₀ X) (hn : n₀ ≤ w₀.heap.size) (hB : n₀ ≤ B) (hg : X.grownBy Y row) (hr : ∀ r, row = some r → B ≤ r ∧ ∃ o : Obj, X.heap[r]? = some o ∧ o.isCells = false) : Below n₀ w₀ Y :=
  ownFrom_below (β := Unit) hn hB () X Y row h hg hr
/-- where Gap's search stands: no gap yet -/
def GapOn (many : Int) (pre : List Nr) (g : Nat) : Prop := ∀ rest, gapGo many 0 (vals pre ++ rest) = gapGo many g rest
/-- the gap is found -/
def GapAt (many : Int) (pre : List Nr) (g : Nat) : Prop := ∀ rest, gapGo many 0 (vals pre ++ rest) = g
theorem gapOn_nil (many : Int) : GapOn many [] 0 := fun _ => rfl
theorem vals_snoc (pre : List Nr) (x : Nr) (rest : List Nat) : vals (pre ++ [x]) ++ rest = vals pre ++ (x.v :: rest) := by simp [vals]
theorem GapOn.step {many : Int} {pre : List Nr} {g : Nat} (h : GapOn many pre g) (x : Nr) (hx : (x.v : Int) - g < many) : GapOn many (pre ++ [x]) (x.v + 1) := by
  intro rest
  rw [vals_snoc, h, gapGo, if_neg (by omega)]
  rfl
theorem GapOn.found {many : Int} {pre : List Nr} {g : Nat} (h : GapOn many pre g) (x : Nr) (hx : many ≤ (x.v : Int) - g) : GapAt many (pre ++ [x]) g := by
  intro rest
  rw [vals_snoc, h, gapGo, if_pos hx]
theorem GapOn.all {many : Int} {m : Nat → Bool} {g : Nat} (h : GapOn many (lift (els m)) g) : gapGo many 0 (els m) = g := by
  have := h []
  rwa [List.append_nil, show vals (lift (els m)) = els m from lift_els m] at this
theorem GapAt.all {many : Int} {m : Nat → Bool} {g : Nat} {pre : List Nr} (h : GapAt many pre g) (hp : pre <+: lift (els m)) : gapGo many 0 (els m) = g := by
  obtain ⟨r, hr⟩ := hp
  have := h (vals r)
  rwa [show vals pre ++ vals r = els m from by rw [← lift_els m, ← hr]; simp [vals]] at this

set_option maxRecDepth 100000 in
set_option maxHeartbeats 4000000 in
theorem gap_any (A : Nat) (m : Nat → Bool) (many e : Int) (w : World) (h : SetAt w A m) :
    Calls Try.prog 12 #[.pointer (some ⟨A, 0, none⟩), .int .i64 many, .int .i64 e] w fun x w' => x = .returned (.int .i64 (gapI m many e)) ∧ Below w.heap.size w w' := by
  refine (callsIn_wide (n := 3)).1 ?_
  by_cases h1 : many < 1
  · have hv := Lib.hid (show gapI m many e = -1 from by unfold gapI; rw [if_pos (.inl h1)])
    refine callsIn_of_wp_marks Try.func12 rfl trivial ?_ rfl
    simp only [Try.ntmps12, List.size_toArray, List.length_cons, List.length_nil, Nat.reduceAdd, Nat.reduceSub, Array.replicate_succ, Array.replicate_zero, List.push_toArray, List.append_toArray, List.nil_append, List.cons_append]
    gi_wp2
    exact ⟨_, results_tmp rfl _ _ _, by rw [hv.out]; rfl, (Below.refl _ w).alloc (Nat.le_refl _) _⟩
  by_cases h2 : e < 0
  · have hv := Lib.hid (show gapI m many e = -1 from by unfold gapI; rw [if_pos (.inr (.inl h2))])
    refine callsIn_of_wp_marks Try.func12 rfl trivial ?_ rfl
    simp only [Try.ntmps12, List.size_toArray, List.length_cons, List.length_nil, Nat.reduceAdd, Nat.reduceSub, Array.replicate_succ, Array.replicate_zero, List.push_toArray, List.append_toArray, List.nil_append, List.cons_append]
    gi_wp2
    exact ⟨_, results_tmp rfl _ _ _, by rw [hv.out]; rfl, (Below.refl _ w).alloc (Nat.le_refl _) _⟩
  by_cases h3 : 256 < e
  · have hv := Lib.hid (show gapI m many e = -1 from by unfold gapI; rw [if_pos (.inr (.inr h3))])
    refine callsIn_of_wp_marks Try.func12 rfl trivial ?_ rfl
    simp only [Try.ntmps12, List.size_toArray, List.length_cons, List.length_nil, Nat.reduceAdd, Nat.reduceSub, Array.replicate_succ, Array.replicate_zero, List.push_toArray, List.append_toArray, List.nil_append, List.cons_append]
    gi_wp2
    exact ⟨_, results_tmp rfl _ _ _, by rw [hv.out]; rfl, (Below.refl _ w).alloc (Nat.le_refl _) _⟩
  have hv := Lib.hid (show gapI m many e = if e - gapGo many 0 (els m) < many then -1 else gapGo many 0 (els m) from by unfold gapI; rw [if_neg (by omega)])
  refine callsIn_of_wp_marks Try.func12 rfl trivial ?_ rfl
  simp only [Try.ntmps12, List.size_toArray, List.length_cons, List.length_nil, Nat.reduceAdd, Nat.reduceSub, Array.replicate_succ, Array.replicate_zero, List.push_toArray, List.append_toArray, List.nil_append, List.cons_append]
  gi_wp2_with fail
  refine ⟨trivial, (callsIn_wide.2 (all_any A _)).mono ?_⟩
  rintro x w' ⟨rfl, rfl⟩
  gi_wp2
  have bM := Boxed.new w 3 (.int .i64 many)
  have bF := Boxed.new (w.alloc (.cells #[.int .i64 many] 3)) 3 (.int .i64 0)
  have bN := Boxed.new ((w.alloc (.cells #[.int .i64 many] 3)).alloc (.cells #[.int .i64 0] 3)) 24 (.pointer (some ⟨A, 0, none⟩))
  rw [World.size_alloc] at bF
  rw [World.size_alloc, World.size_alloc] at bN
  have hB0 : Below w.heap.size w (((w.alloc (.cells #[.int .i64 many] 3)).alloc (.cells #[.int .i64 0] 3)).alloc (.cells #[.pointer (some ⟨A, 0, none⟩)] 24)) := (((Below.refl _ w).alloc (Nat.le_refl _) _).alloc (by simp) _).alloc (by simp; omega) _
  have bM := (bM.alloc (.cells #[.int .i64 0] 3)).alloc (.cells #[.pointer (some ⟨A, 0, none⟩)] 24)
  have bF := bF.alloc (.cells #[.pointer (some ⟨A, 0, none⟩)] 24)
  have hsz : (((w.alloc (.cells #[.int .i64 many] 3)).alloc (.cells #[.int .i64 0] 3)).alloc (.cells #[.pointer (some ⟨A, 0, none⟩)] 24)).heap.size = w.heap.size + 3 := by simp
  have hAlt := h.lt
  generalize (((w.alloc (.cells #[.int .i64 many] 3)).alloc (.cells #[.int .i64 0] 3)).alloc (.cells #[.pointer (some ⟨A, 0, none⟩)] 24)) = W0 at bM bF bN hB0 hsz ⊢
  have hS0 : SetAt W0 A m := (hB0.block A h.lt).trans h
  obtain ⟨N, hN⟩ : ∃ N, w.heap.size = N := ⟨_, rfl⟩
  rw [hN] at bM bF bN hB0 hsz hAlt ⊢
  refine wpIn_rangeFunc_ownG rfl (by decide) (gf := 23) (lb := #[.pointer (some ⟨N + 1 + 1, 0, none⟩)]) rfl trivial (enters_of Try.func23 (by kernel_rfl) rfl)
    (all_stops (3 - 1) (by decide) (N + 1 + 1) A m W0 bN hS0) keepsTwo_t (keepsTwo_b (by omega) (by omega)) (Below.refl _ _) (fun _ => rfl)
    (fun pre W => ∃ g : Nat, g ≤ 256 ∧ GapOn many pre g ∧ Boxed W (N + 1) 3 (.int .i64 g) ∧ Boxed W N 3 (.int .i64 many) ∧ Boxed W (N + 1 + 1) 24 (.pointer (some ⟨A, 0, none⟩)) ∧ Below N w W)
    (fun c pre W => c = .exit 0 ∧ ∃ g : Nat, g ≤ 256 ∧ GapAt many pre g ∧ Boxed W (N + 1) 3 (.int .i64 g) ∧ Boxed W N 3 (.int .i64 many) ∧ Boxed W (N + 1 + 1) 24 (.pointer (some ⟨A, 0, none⟩)) ∧ Below N w W)
    (by rintro s X Y row ⟨g, g1, g2, b1, b2, b3, bl⟩ hg hr; exact ⟨g, g1, g2, boxed_from b1 hg hr, boxed_from b2 hg hr, boxed_from b3 hg hr, below_from bl (by omega) (by omega) hg hr⟩)
    (by rintro c s X Y row ⟨rfl, g, g1, g2, b1, b2, b3, bl⟩ hg hr; exact ⟨rfl, g, g1, g2, boxed_from b1 hg hr, boxed_from b2 hg hr, boxed_from b3 hg hr, below_from bl (by omega) (by omega) hg hr⟩)
    ⟨0, by omega, gapOn_nil _, bF, bM, bN, hB0⟩
    (fun x => { tmps := #[.pointer (some ⟨A, 0, none⟩), .int .i64 many, .int .i64 e, undef, .pointer (some ⟨N, 0, none⟩), undef, .int .i64 0, .pointer (some ⟨N + 1, 0, none⟩), .int .i64 x.v, .int .i64 many, .bool false, .bool false, .int .i64 e, .bool false, .bool false, .bool false, .int .i64 e, .bool false, .bool false, .pointer (some ⟨A, 0, none⟩), .func (.func 23) #[] #[.pointer (some ⟨N + 1 + 1, 0, none⟩)], .int .i64 x.v, undef, undef, undef, undef, undef, undef, undef, undef, undef, undef, undef, undef, undef], defers := [] }) ?assign ?body ?done ?stop
  case assign =>
    intro l x W K hK
    gi_wp2
    exact hK
  case body =>
    rintro l pre x W ⟨g, g1, g2, b1, b2, b3, bl⟩ hlt
    have hc1 := b1.cell
    have hf1 := b1.frozen
    have hc2 := b2.cell
    have hS : SetAt W A m := (bl.block A (by omega)).trans h
    have hx := x.lt
    by_cases hq : many ≤ (x.v : Int) - g
    · have hat := g2.found x hq
      gi_wp2
      exact ⟨KeepsFrom.refl _ _, rfl, g, g1, hat, b1, b2, b3, bl⟩
    · have hon := g2.step x (by omega)
      gi_wp2
      have hst := b1.set (.int .i64 ((x.v : Int) + 1))
      have ht := (Below.refl N W).setCell (p := ⟨N + 1, 0, none⟩) (by simp) (.int .i64 ((x.v : Int) + 1))
      exact ⟨(KeepsOthers.setCell _ _ _).from _, keepsTwo_of hS ((ht.block A (by omega)).trans hS) b3 (b3.other (by omega) _), x.v + 1, hx, hon, hst, b2.other (by omega) _, b3.other (by omega) _, bl.trans ht⟩
  case done =>
    rintro D ys W hD rfl ⟨g, g1, g2, b1, b2, b3, bl⟩ hK
    have hg := g2.all
    rw [hg] at hv
    have hc1 := b1.cell
    have hc2 := b2.cell
    have hfin := bl.trans (belowK_b (w := w) (n₀ := N) (by omega) _ D _ (.deferred none) (by omega) hK rfl rfl)
    by_cases hq : e - g < many
    · rw [if_pos hq] at hv
      gi_wp2
      refine ⟨by simp, .inl ⟨_, _, rfl, run_takeDeferred hK, ?_⟩⟩
      exact ⟨_, results_tmp rfl _ _ _, by rw [hv.out]; rfl, by first | exact hfin | (rw [hN]; exact hfin)⟩
    · rw [if_neg hq] at hv
      gi_wp2
      refine ⟨by simp, .inl ⟨_, _, rfl, run_takeDeferred hK, ?_⟩⟩
      exact ⟨_, results_tmp rfl _ _ _, by rw [hv.out]; rfl, by first | exact hfin | (rw [hN]; exact hfin)⟩
  case stop =>
    rintro D c pre W hD hp ⟨rfl, g, g1, g2, b1, b2, b3, bl⟩ hK
    have hg := g2.all hp
    rw [hg] at hv
    have hc1 := b1.cell
    have hc2 := b2.cell
    have hfin := bl.trans (belowK_b (w := w) (n₀ := N) (by omega) _ D _ (.deferred none) (by omega) hK rfl rfl)
    by_cases hq : e - g < many
    · rw [if_pos hq] at hv
      gi_wp2
      refine ⟨by simp, .inl ⟨_, _, rfl, run_takeDeferred hK, ?_⟩⟩
      exact ⟨_, results_tmp rfl _ _ _, by rw [hv.out]; rfl, by first | exact hfin | (rw [hN]; exact hfin)⟩
    · rw [if_neg hq] at hv
      gi_wp2
      refine ⟨by simp, .inl ⟨_, _, rfl, run_takeDeferred hK, ?_⟩⟩
      exact ⟨_, results_tmp rfl _ _ _, by rw [hv.out]; rfl, by first | exact hfin | (rw [hN]; exact hfin)⟩
end Go.Proofs.Ythlehgohpagfnaa
