/-
  The laws' told: all that a set tells, in a new slice.
-/
import Derived.Maps.AppendAt
import Derived.Test.YthlehgohpagfnaaBmB
namespace Go.Proofs.Ythlehgohpagfnaa
open Go.ChangeShapes Go.WideShapes Go.ChangeAt Go.RowKit Go.Shelf

attribute [local go_sem] Oper.semAt_some

theorem info_int : (Try.prog.info? 3).map (fun i => (i.zero, i.size, i.bytes)) = some (some (.int .i64 0), 1, 8) := by kernel_rfl
/-- the cells of numbers that were told -/
def nums (l : List Nat) : List Value := l.map fun n : Nat => .int .i64 (n : Int)
def vals (l : List Nr) : List Nat := l.map Nr.v
theorem nums_snoc (l : List Nr) (x : Nr) : nums (vals (l ++ [x])) = nums (vals l) ++ [.int .i64 (x.v : Int)] := by simp [nums, vals]
theorem row_slice {w : World} {base : Nat} {e : TypeId} {v : Value} {k : Nat} {xs : List Value} (h : w.ownsRow base e 1 v k xs) : ∃ o cap, v = .slice o k cap := by
  rcases h.2 with ⟨rfl, rfl⟩ | ⟨g, cap, cur, rfl, _⟩
  · exact ⟨none, 0, rfl⟩
  · exact ⟨_, _, rfl⟩
theorem keepsTwo_of {A Bn : Nat} {t t' : TypeId} {W W' : World} {c : Array Value} {v : Value} (h1 : W.heap[A]? = some (.cells c t (0, 0))) (h1' : W'.heap[A]? = some (.cells c t (0, 0))) (h2 : Boxed W Bn t' v) (h2' : Boxed W' Bn t' v) : KeepsTwo A Bn W W' := by
  rintro k (rfl | rfl)
  · rw [h1, h1']
  · rw [show W.heap[k]? = _ from h2, show W'.heap[k]? = _ from h2']

set_option maxRecDepth 100000 in
set_option maxHeartbeats 4000000 in
theorem told_any (A : Nat) (m : Nat → Bool) (w : World) (h : SetAt w A m) :
    Calls Try.prog 15 #[.pointer (some ⟨A, 0, none⟩)] w fun e W' => ∃ v, e = .returned v ∧ W'.ownsRow w.heap.size 3 1 v (els m).length (nums (els m)) ∧ Below w.heap.size w W' := by
  refine (callsIn_wide (n := 3)).1 ?_
  obtain ⟨i0, hi, hz0, hz1, hz2⟩ := info_parts info_int
  refine callsIn_of_wp_marks Try.func15 rfl trivial ?_ rfl
  simp only [Try.ntmps15, List.size_toArray, List.length_cons, List.length_nil, Nat.reduceAdd, Nat.reduceSub, Array.replicate_succ, Array.replicate_zero, List.push_toArray, List.append_toArray, List.nil_append, List.cons_append]
  gi_wp2_with fail
  refine ⟨trivial, (callsIn_wide.2 (all_any A _)).mono ?_⟩
  rintro e w' ⟨rfl, rfl⟩
  have hnil : ∀ (B : Nat) (w : World), (binOp .eql 45 (.func (.func 23) #[] #[.pointer (some ⟨B, 0, none⟩)]) .nilFunc).run Try.prog w = .ok (.bool false) w := fun B w => by kernel_rfl
  gi_wp2
  have bR := Boxed.new w 39 (.slice none 0 0)
  have bO := Boxed.new (w.alloc (.cells #[.slice none 0 0] 39)) 39 (.slice none 0 0)
  have bN := Boxed.new ((w.alloc (.cells #[.slice none 0 0] 39)).alloc (.cells #[.slice none 0 0] 39)) 24 (.pointer (some ⟨A, 0, none⟩))
  rw [World.size_alloc] at bO
  rw [World.size_alloc, World.size_alloc] at bN
  have hB0 : Below w.heap.size w (((w.alloc (.cells #[.slice none 0 0] 39)).alloc (.cells #[.slice none 0 0] 39)).alloc (.cells #[.pointer (some ⟨A, 0, none⟩)] 24)) := (((Below.refl _ w).alloc (Nat.le_refl _) _).alloc (by simp) _).alloc (by simp; omega) _
  have bR := (bR.alloc (.cells #[.slice none 0 0] 39)).alloc (.cells #[.pointer (some ⟨A, 0, none⟩)] 24)
  have bO := bO.alloc (.cells #[.pointer (some ⟨A, 0, none⟩)] 24)
  have hsz : (((w.alloc (.cells #[.slice none 0 0] 39)).alloc (.cells #[.slice none 0 0] 39)).alloc (.cells #[.pointer (some ⟨A, 0, none⟩)] 24)).heap.size = w.heap.size + 3 := by simp
  have hAlt := h.lt
  generalize (((w.alloc (.cells #[.slice none 0 0] 39)).alloc (.cells #[.slice none 0 0] 39)).alloc (.cells #[.pointer (some ⟨A, 0, none⟩)] 24)) = W0 at *
  have hS0 : SetAt W0 A m := (hB0.block A h.lt).trans h
  generalize hN : w.heap.size = N at *
  refine wpIn_rangeFunc_ownG rfl (by decide) (gf := 23) (lb := #[.pointer (some ⟨N + 1 + 1, 0, none⟩)]) rfl trivial (enters_of Try.func23 (by kernel_rfl) rfl)
    (all_stops (3 - 1) (by decide) (N + 1 + 1) A m W0 bN hS0) keepsTwo_t (keepsTwo_b (by omega) (by omega)) (Below.refl _ _) (fun _ => rfl)
    (fun pre W => (∃ v, Boxed W (N + 1) 39 v ∧ W.ownsRow N 3 1 v pre.length (nums (vals pre)) ∧ True) ∧ (Boxed W N 39 (.slice none 0 0) ∧ Boxed W (N + 1 + 1) 24 (.pointer (some ⟨A, 0, none⟩))) ∧ Below N w W)
    (fun _ _ _ => False)
    (OwnFrom.and (Own.from (holdsRow_own N (N + 1) 39 3 1 (fun pre : List Nr => pre.length) (fun pre => nums (vals pre)) (fun _ _ => True)) _) (OwnFrom.and (OwnFrom.and (Own.from (boxed_own _ _ _) _) (Own.from (boxed_own _ _ _) _)) (ownFrom_below (by omega) (by omega))))
    (fun _ _ _ _ _ hs _ _ => hs)
    ⟨⟨_, bO, World.ownsRow_nil _ _ _ _, trivial⟩, ⟨bR, bN⟩, hB0⟩
    (fun x => { tmps := #[.pointer (some ⟨A, 0, none⟩), undef, .pointer (some ⟨N, 0, none⟩), .pointer (some ⟨N + 1, 0, none⟩), .func (.func 23) #[] #[.pointer (some ⟨N + 1 + 1, 0, none⟩)], .int .i64 x.v, .pointer (some ⟨A, 0, none⟩), .func (.func 23) #[] #[.pointer (some ⟨N + 1 + 1, 0, none⟩)], .func (.func 23) #[] #[.pointer (some ⟨N + 1 + 1, 0, none⟩)], .bool false, .func (.func 23) #[] #[.pointer (some ⟨N + 1 + 1, 0, none⟩)], .int .i64 x.v, undef, undef, undef, undef, undef, undef, undef, undef], defers := [] }) ?assign ?body ?done ?stop
  case assign =>
    intro l x W K hK
    gi_wp2
    exact hK
  case body =>
    rintro l pre x W ⟨⟨v, hv, hrow, -⟩, ⟨hR, hN2⟩, hB⟩ hlt
    have hc := hv.cell
    have hS : SetAt W A m := (hB.block A (by omega)).trans h
    have hsize := hB.size
    obtain ⟨o, cap, rfl⟩ := row_slice hrow
    gi_wp2_with (gi_at_builtin; refine wpListIn_append_own _ rfl _ _ 39 rfl N 3 i0 (.int .i64 0) 1 8 Try.underlying39 hi hz0 hz1 hz2 rfl (by decide) _ _ _ rfl (hrow.alloc _) ⟨W.heap.size, 0, none⟩ 1 1 [.int .i64 x.v] rfl rfl (cell_one_new _ _ _) (by simp [Value.oneCell']) (by simp [maxLen]; omega) (by omega) (by simp; omega) ?_; intro v' w1 hown' hgrow _; obtain ⟨g', cap', rfl⟩ := ownsRow_succ hown'; obtain ⟨hv1, hv2, hr2, hk2, hb2⟩ := hv.appended (by decide) hrow (by omega) (by omega) hown' hgrow; have hR1 := (hR.alloc _).kept hgrow (hR.not_row (by decide) hrow); have hN1 := (hN2.alloc _).kept hgrow (hN2.not_row (by decide) hrow); have hc1 := hv1.cell; have hf1 := hv1.frozen)
    have hSb := (hb2.block A (by omega)).trans hS
    exact ⟨hk2.from _, keepsTwo_of hS hSb hN2 (hN1.other (by omega) _), ⟨_, hv2, by rw [nums_snoc, List.length_append]; exact hr2, trivial⟩, ⟨hR1.other (by omega) _, hN1.other (by omega) _⟩, hB.trans hb2⟩
  case done =>
    rintro D ys W hD rfl ⟨⟨v, hv, hrow, -⟩, ⟨hR, hN2⟩, hB⟩ hK
    have hc := hv.cell
    have hcR := hR.cell
    have hfR := hR.frozen
    obtain ⟨o, cap, rfl⟩ := row_slice hrow
    gi_wp2
    refine ⟨by simp, .inl ⟨_, _, rfl, run_takeDeferred ?_, ?_⟩⟩
    · exact (KeepsOthers.setCell _ _ _).same D _ hK rfl
    have hR2 := (hR.set (.slice o (lift (els m)).length cap)).kept (grownBy_putObj' _ D (.deferred none)) (by intro e; cases e; omega)
    have hlen : (lift (els m)).length = (els m).length := by have := congrArg List.length (lift_els m); rwa [List.length_map] at this
    refine ⟨.slice o (lift (els m)).length cap, ?_, _, rfl, ?_, ?_⟩
    · have hcc := hR2.cell
      simp [results, Try.results15, asAddr, go_sem, hcc]
    · rw [hN, ← hlen]
      have e : nums (els m) = nums (vals (lift (els m))) := by unfold vals; rw [lift_els]
      rw [e]
      exact ownsRow_putObj (hrow.kept (grownBy_setCell' _ _ _) (.inr (hR.not_row (by decide) hrow).symm)) _ ((KeepsOthers.setCell _ _ _).same D _ hK rfl) rfl
    · rw [hN]
      exact (hB.setCell (p := ⟨N, 0, none⟩) (by simp) _).trans (belowK_b (w := w) (by omega) _ D _ _ (by omega) ((KeepsOthers.setCell _ _ _).same D _ hK rfl) rfl rfl)
  case stop =>
    rintro D c pre W _ _ h _
    exact h.elim
end Go.Proofs.Ythlehgohpagfnaa
