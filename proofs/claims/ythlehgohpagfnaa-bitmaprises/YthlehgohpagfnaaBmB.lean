/-
  Package bitmap: All, and what its function does when it is ranged over.
-/
import Derived.RangeFuncNested
import Derived.RangeFuncBound
import Derived.RangeFuncCalls
import Derived.RangeFuncLeaves
import Derived.Shelf.Abstract
import Derived.Shelf.RegionOpen
import Derived.WalkKit
import Derived.OwnWalkIn
import Derived.TacticsInMore
import Derived.LoopNIn
import Derived.LoopIn
import Derived.Test.YthlehgohpagfnaaBmA
namespace Go.Proofs.Ythlehgohpagfnaa
open Go.ChangeShapes Go.WideShapes Go.ChangeAt Go.RowKit Go.Shelf

attribute [local go_sem] Oper.semAt_some

/-- a number of the range -/
structure Nr where
  v : Nat
  lt : v < 256
def lift (l : List Nat) : List Nr := l.filterMap fun n => if h : n < 256 then some ⟨n, h⟩ else none
theorem lift_app (a b : List Nat) : lift (a ++ b) = lift a ++ lift b := List.filterMap_append
theorem lift_one (n : Nat) (h : n < 256) : lift [n] = [⟨n, h⟩] := by simp [lift, h]
theorem lift_upto (m : Nat → Bool) (k : Nat) (h : k < 256) (hk : m k = true) : lift (upto m (k + 1)) = lift (upto m k) ++ [⟨k, h⟩] := by
  rw [upto_succ, hk, if_pos rfl, lift_app, lift_one k h]
theorem lift_upto_no (m : Nat → Bool) (k : Nat) (hk : m k = false) : lift (upto m (k + 1)) = lift (upto m k) := by
  rw [upto_succ, hk, lift_app]; simp [lift]
theorem lift_len (l : List Nat) : (lift l).length ≤ l.length := List.length_filterMap_le _ _
theorem lift_map (l : List Nat) (h : ∀ n, n ∈ l → n < 256) : (lift l).map Nr.v = l := by
  induction l with
  | nil => rfl
  | cons n r ih =>
    rw [show n :: r = [n] ++ r from rfl, lift_app, lift_one n (h n (by simp)), List.map_append, ih fun k hk => h k (by simp [hk])]
    rfl
theorem lift_els (m : Nat → Bool) : (lift (els m)).map Nr.v = els m := lift_map _ fun _ hn => (mem_upto.1 hn).1
theorem upto_prefix (m : Nat → Bool) (j k : Nat) (h : j ≤ k) : upto m j <+: upto m k := by
  obtain ⟨d, rfl⟩ := Nat.le.dest h
  clear h
  induction d with
  | zero => exact List.prefix_refl _
  | succ d ih => rw [← Nat.add_assoc, upto_succ]; exact ih.trans (List.prefix_append _ _)
theorem lift_prefix (m : Nat → Bool) (j k : Nat) (h : j ≤ k) : lift (upto m j) <+: lift (upto m k) := by
  obtain ⟨r, hr⟩ := upto_prefix m j k h
  rw [← hr, lift_app]
  exact List.prefix_append _ _

/-- what a round that goes on keeps: the set and the box that names it -/
def KeepsTwo (A Bn : Nat) (W W' : World) : Prop := ∀ k, k = A ∨ k = Bn → W'.heap[k]? = W.heap[k]?
theorem keepsTwo_t {A Bn : Nat} {X Y Z : World} (h : KeepsTwo A Bn X Y) (h' : KeepsTwo A Bn Y Z) : KeepsTwo A Bn X Z := fun k hk => (h' k hk).trans (h k hk)
theorem keepsTwo_b {A Bn : Nat} {w : World} (hA : A < w.heap.size) (hB : Bn < w.heap.size) (W : World) (l : Nat) (o o' : Obj) (hl : w.heap.size ≤ l) (_ : W.heap[l]? = some o) (_ : o.isCells = false) (_ : o.isWalk = false) : KeepsTwo A Bn W (W.putObj l o') := by
  intro k hk
  exact Array.getElem?_setIfInBounds_ne (by omega)

theorem grownBy_drewN (W : World) (k : Nat) : W.grownBy (W.drewN k) none := ⟨rfl, rfl, rfl, Nat.le_refl _, fun _ _ _ => rfl⟩

set_option maxHeartbeats 400000 in
theorem all_any (A : Nat) (w : World) :
    Calls Try.prog 18 #[.pointer (some ⟨A, 0, none⟩)] w fun e w' => e = .returned (.func (.func 23) #[] #[.pointer (some ⟨w.heap.size, 0, none⟩)]) ∧ w' = w.alloc (.cells #[.pointer (some ⟨A, 0, none⟩)] 24) := by
  go_enter Try.func18, Try.ntmps18
  go_wp2
  go_ret
  exact ⟨rfl, rfl⟩

set_option maxRecDepth 100000 in
set_option maxHeartbeats 2000000 in
theorem all1_in (n : Nat) (hn : 1 ≤ n) (l Bn A : Nat) (m : Nat → Bool) (J Jx : List Nr → World → Prop) (W : World)
    (hJd : ∀ s X k, J s X → J s (X.drewN k))
    (hY : ∀ pre (x : Nr) W, J pre W → pre.length < 256 → YieldAt Fence.wide (n - 1) Try.prog l #[.int .i64 x.v] W fun e W' =>
      (e = .returned (.bool true) ∧ J (pre ++ [x]) W' ∧ KeepsTwo A Bn W W') ∨ (e = .returned (.bool false) ∧ Jx (pre ++ [x]) W'))
    (hBn : Boxed W Bn 24 (.pointer (some ⟨A, 0, none⟩))) (hA : SetAt W A m) (h0 : J [] W) :
    CallsIn Fence.wide n Try.prog 23 #[.func (.yield l) #[] #[], .pointer (some ⟨Bn, 0, none⟩)] W fun e W' => (∃ v, e = .returned v) ∧
      ((∃ ys, ys = lift (els m) ∧ J ys W') ∨ (∃ pre, pre <+: lift (els m) ∧ Jx pre W')) := by
  refine callsIn_of_wp Try.func23 rfl trivial ?_ rfl
  simp only [Try.ntmps23, List.size_toArray, List.length_cons, List.length_nil, Nat.reduceAdd, Nat.reduceSub, Array.replicate_succ, Array.replicate_zero, List.push_toArray, List.append_toArray, List.nil_append, List.cons_append]
  gi_wp2
  gi_loopw [4] (fun p wr => ∃ k : Nat, k ≤ 256 ∧ p = .int .i64 k ∧ J (lift (upto m k)) wr ∧ SetAt wr A m ∧ Boxed wr Bn 24 (.pointer (some ⟨A, 0, none⟩)))
    (fun p _ => 256 - (intOf p).toNat)
  case atStart => exact ⟨0, by omega, rfl, h0, hA, hBn⟩
  case round =>
    obtain ⟨k, hk, rfl, hJ, hS, hB⟩ := hrel
    have hc := hB.cell
    by_cases hlt : k < 256
    · cases hb : m k
      · have hcall := fun w1 h => has_any A m k w1 h
        rw [hasB_nat m k hlt, hb] at hcall
        gi_wp2_with fail
        refine ⟨trivial, (callsIn_wide.2 (hcall _ hS)).mono ?_⟩
        rintro e w' ⟨rfl, q, rfl⟩
        gi_wp2
        refine ⟨fun _ h => (by cases h), ?_⟩
        gi_wp2
        go_roundw
        case rel => exact ⟨k + 1, hlt, by go_num, by rw [lift_upto_no m k hb]; exact hJd _ _ _ hJ, hS.drewN q, hB⟩
        case measure => simp [intOf]; omega
      · have hcall := fun w1 h => has_any A m k w1 h
        rw [hasB_nat m k hlt, hb] at hcall
        gi_wp2_with fail
        refine ⟨trivial, (callsIn_wide.2 (hcall _ hS)).mono ?_⟩
        rintro e w' ⟨rfl, q, rfl⟩
        obtain ⟨fn, tmps, assign, body, hy, hR⟩ := hY (lift (upto m k)) ⟨k, hlt⟩ _ (hJd _ _ q hJ) (by have := lift_len (upto m k); have := upto_len m k; omega)
        dsimp only at hy
        gi_wp2
        refine hR.mono ?_
        rintro e W3 (⟨rfl, hJ3, hk3⟩ | ⟨rfl, hJx3⟩)
        · rw [← lift_upto m k hlt hb] at hJ3
          gi_wp2
          go_roundw
          case rel => exact ⟨k + 1, hlt, by go_num, hJ3, (hk3 A (.inl rfl)).trans hS, (hk3 Bn (.inr rfl)).trans hB⟩
          case measure => simp [intOf]; omega
        · rw [← lift_upto m k hlt hb] at hJx3
          gi_wp2
          refine bodyPost_ret (results_none rfl _ _ _) rfl ?_
          exact ⟨⟨_, rfl⟩, .inr ⟨_, lift_prefix m (k + 1) 256 hlt, hJx3⟩⟩
    · have e : k = 256 := by omega
      subst e
      gi_wp2
      go_end0
      exact ⟨⟨_, rfl⟩, .inl ⟨_, rfl, hJ⟩⟩

/-- s.All() hands back a value that can be ranged over: all elements in order, or a beginning of them -/
theorem all_stops (n : Nat) (hn : 1 ≤ n) (Bn A : Nat) (m : Nat → Bool) (w : World) (hB : Boxed w Bn 24 (.pointer (some ⟨A, 0, none⟩))) (hA : SetAt w A m) :
    SeqStopsK Fence.wide n Try.prog 23 #[.pointer (some ⟨Bn, 0, none⟩)] (fun x : Nr => #[Value.int .i64 x.v]) (KeepsTwo A Bn) (fun ys => ys = lift (els m)) (fun pre => pre <+: lift (els m)) 256 w := fun l J Jx W hW hJ _ hY h0 =>
  all1_in n hn l Bn A m J Jx W (fun s X k h => hJ s X _ none h (grownBy_drewN X k) (by simp)) hY ((hW.block Bn hB.lt).trans hB) ((hW.block A hA.lt).trans hA) h0
end Go.Proofs.Ythlehgohpagfnaa
