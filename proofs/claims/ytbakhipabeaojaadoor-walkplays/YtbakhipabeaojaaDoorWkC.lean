/-
  Contracts of package walk: indices.
-/
import Derived.Test.YtbakhipabeaojaaDoorWkB
namespace Go.Proofs.YtbakhipabeaojaaDoor
open Go.ChangeShapes Go.WideShapes Go.ChangeAt Go.RowKit

def pageB (q : Int) : Bool := decide (0 ≤ q ∧ q ≤ 4095)
theorem idxB_page (q l : Int) (h0 : 0 ≤ l) (h1 : l ≤ 2) : idxB q l = pageB q := by
  unfold idxB pageB
  rw [Bool.eq_iff_iff, decide_eq_true_eq, decide_eq_true_eq]
  omega
theorem idx_bd (q l : Int) : 0 ≤ idxI q l ∧ idxI q l ≤ 15 := by
  unfold idxI
  cases h : idxB q l
  · simp
  · have h' := of_decide_eq_true h
    simp only [if_true]
    split
    · omega
    · split <;> omega
/-- the first k places of a page -/
def ixs (q : Int) (k : Nat) (j : Nat) : Int := if j < k then idxI q j else 0
theorem ArrAt.there {w : World} {B : Nat} {a b c : Int} (h : ArrAt w B a b c) : w.there B 0 3 := fun j hj =>
  ⟨by rw [Nat.zero_add, h.cellk j hj]; rfl, h.frozen _⟩
theorem ArrAt.sets {w : World} {B : Nat} {a b c : Int} (h : ArrAt w B a b c) (a' b' c' : Int) : ArrAt (w.setCells B 0 [.int .i64 a', .int .i64 b', .int .i64 c']) B a' b' c' := by
  unfold ArrAt
  have := heap_setCells_same B _ [.int .i64 a', .int .i64 b', .int .i64 c'] 0 w [.int .i64 a, .int .i64 b, .int .i64 c] h (by simp)
  rw [this, splice_all _ _ (by simp)]
theorem ArrAt.putk {w : World} {B : Nat} {q : Int} {k : Nat} (hk : k < 3) (h : ArrAt w B (ixs q k 0) (ixs q k 1) (ixs q k 2)) : ArrAt (w.setCell ⟨B, k, none⟩ (.int .i64 (idxI q k))) B (ixs q (k + 1) 0) (ixs q (k + 1) 1) (ixs q (k + 1) 2) := by
  unfold ArrAt
  have := heap_setCell_same (C := [.int .i64 (ixs q k 0), .int .i64 (ixs q k 1), .int .i64 (ixs q k 2)]) h k (.int .i64 (idxI q k))
  rw [this]
  match k, hk with
  | 0, _ => rfl
  | 1, _ => rfl
  | 2, _ => rfl
theorem arr3_sz (a b c : Int) : (#[.int .i64 a, .int .i64 b, .int .i64 c] : Array Value).size = 3 := rfl
theorem arr3_one (a b c : Int) : (#[.int .i64 a, .int .i64 b, .int .i64 c] : Array Value).all (·.oneCell') = true := by simp [Value.oneCell']
theorem arr3_ls (a b c : Int) : (#[.int .i64 a, .int .i64 b, .int .i64 c] : Array Value).toList = [.int .i64 a, .int .i64 b, .int .i64 c] := rfl
/-- a result that lies in a cell -/
theorem ret_arr3 {fn : Func} {p u : Tmp} (h : fn.results = #[.cell p 74, .tmp u]) (tmps : Array Value) (w : World) (B : Nat) (a b c : Int) (hp : tmps.getD p undef = .pointer (some ⟨B, 0, none⟩)) (he : ArrAt w B a b c) :
    (results fn tmps).run Tryd.prog w = .ok (.tuple #[arr3 a b c, tmps.getD u undef]) w := by
  rw [results_cell_tmp h, hp]
  have := run_loadVar_mid w B 0 74 [.int .i64 a, .int .i64 b, .int .i64 c] _ he.range Tryd.underlying74 rfl size_arr3
  simp only [asAddr, Sem.run_pure, Result.andThen_ok]
  rw [this]
  rfl
theorem arr_blocks (w : World) : ArrAt ((w.alloc (.cells #[.int .i64 0, .int .i64 0, .int .i64 0] 74)).alloc (.cells #[.int .i64 0, .int .i64 0, .int .i64 0] 74)) w.heap.size 0 0 0 ∧
    ArrAt ((w.alloc (.cells #[.int .i64 0, .int .i64 0, .int .i64 0] 74)).alloc (.cells #[.int .i64 0, .int .i64 0, .int .i64 0] 74)) (w.heap.size + 1) 0 0 0 :=
  ⟨(two_blocks w 0 _ _).1, (two_blocks w 0 _ _).2⟩
set_option maxHeartbeats 1000000 in
theorem windices_any (q : Int) (w : World) (T : Tab w) :
    Calls Tryd.prog 34 #[.int .i64 q] w fun e w' => e = .returned (.tuple #[arr3 (idxI q 0) (idxI q 1) (idxI q 2), .int .i64 (errB (pageB q))]) ∧ Upd (fun _ => False) w w' := by
  have c := Lib.hid (fun (l : Int) W (T : Tab W) => eindex_any q l W T)
  have hix := Lib.hid (idxB_page q)
  obtain ⟨k0, k1⟩ := arr_blocks w
  have U0 : Upd (fun _ => False) w ((w.alloc (.cells #[.int .i64 0, .int .i64 0, .int .i64 0] 74)).alloc (.cells #[.int .i64 0, .int .i64 0, .int .i64 0] 74)) := ((Upd.refl _ _).alloc _).alloc _
  cases hq : pageB q
  · have e0 : idxI q 0 = 0 := by unfold idxI; rw [if_neg (by rw [hix.out 0 (by omega) (by omega), hq]; decide)]
    have e1 : idxI q 1 = 0 := by unfold idxI; rw [if_neg (by rw [hix.out 1 (by omega) (by omega), hq]; decide)]
    have e2 : idxI q 2 = 0 := by unfold idxI; rw [if_neg (by rw [hix.out 2 (by omega) (by omega), hq]; decide)]
    have h0 := Lib.hid (c.out 0 _ (T.kept U0))
    rw [show idxB q 0 = false from by rw [hix.out 0 (by omega) (by omega), hq], e0] at h0
    rw [e0, e1, e2]
    clear e0 e1 e2 hq c hix
    go_enter Tryd.func34, Tryd.ntmps34
    go_wp2
    generalize (w.alloc (.cells #[.int .i64 0, .int .i64 0, .int .i64 0] 74)).alloc (.cells #[.int .i64 0, .int .i64 0, .int .i64 0] 74) = W at k0 k1 U0 h0 ⊢
    obtain ⟨B, hB⟩ : ∃ B, B = w.heap.size := ⟨_, rfl⟩
    rw [← hB] at k0 k1 ⊢
    have hB' := Lib.hid hB
    clear hB
    have K0 := Lib.hid k0
    have HU := Lib.hid U0
    clear k0 k1 U0 T
    go_loopw [8] (fun t wr => t = .int .i64 0 ∧ wr = W) (fun _ _ => 0)
    case atStart => exact ⟨rfl, rfl⟩
    case round =>
      obtain ⟨rfl, rfl⟩ := hrel
      go_wp2_with fail
      refine h0.out.mono ?_
      rintro e w1 ⟨rfl, n1, rfl⟩
      have K1 : Hid (ArrAt (wr.drewN n1) B 0 0 0) := Lib.hid (show ArrAt (wr.drewN n1) B 0 0 0 from K0.out)
      rw [show errB false = 1 from rfl]
      go_wp2_with (with_reducible refine wpList_store_sz rfl 74 (.tmp 2) (.tmp 19) rfl B 0 #[.int .i64 0, .int .i64 0, .int .i64 0] rfl rfl 3 (arr3_sz _ _ _) K1.out.there size_arr3 (arr3_one _ _ _) [.int .i64 0, .int .i64 0, .int .i64 0] (arr3_ls _ _ _) ?_)
      (try simp only [Exit.inBlock, Exit.then])
      refine bodyPost_ret (ret_arr3 rfl _ _ B 0 0 0 rfl (K1.out.sets 0 0 0)) rfl ⟨rfl, ?_⟩
      exact Upd.setCells (.inr (Nat.le_of_eq hB'.out.symm)) _ _ (HU.out.drewN _)
  · go_enter Tryd.func34, Tryd.ntmps34
    go_wp2
    generalize (w.alloc (.cells #[.int .i64 0, .int .i64 0, .int .i64 0] 74)).alloc (.cells #[.int .i64 0, .int .i64 0, .int .i64 0] 74) = W at k0 k1 U0 ⊢
    obtain ⟨B, hB⟩ : ∃ B, B = w.heap.size := ⟨_, rfl⟩
    rw [← hB] at k0 k1 ⊢
    have hB' := Lib.hid hB
    clear hB
    go_loopw [8] (fun t wr => ∃ k : Nat, k ≤ 3 ∧ t = .int .i64 k ∧ Upd (fun _ => False) w wr ∧ Hid (ArrAt wr B 0 0 0) ∧ Hid (ArrAt wr (B + 1) (ixs q k 0) (ixs q k 1) (ixs q k 2))) (fun t _ => 3 - (intOf t).toNat)
    case atStart => exact ⟨0, by omega, rfl, U0, Lib.hid k0, Lib.hid k1⟩
    case round =>
      obtain ⟨k, hk, rfl, hU, K0, K1⟩ := hrel
      by_cases hlt : k < 3
      · have hc := Lib.hid (c.out k wr (T.kept hU))
        rw [hix.out k (by omega) (by omega), hq] at hc
        have b := Lib.hid (K1.out.putk hlt)
        have hcell := K1.out.cellk k hlt
        have hfr := K1.out.frozen k
        have hbd := idx_bd q k
        have K0' := Lib.hid (K0.out.other (C := B + 1) (by omega) k (.int .i64 (idxI q k)))
        generalize idxI q k = z at hc b hbd K0'
        clear c hix k0 k1 U0 hq
        go_wp2_with fail
        refine hc.out.mono ?_
        rintro e w1 ⟨rfl, n1, rfl⟩
        rw [show errB true = 0 from rfl]
        go_wp2
        exact ⟨⟨k + 1, by omega, by go_num, (hU.drewN _).setCell (.inr (by have := hB'.out; show _ ≤ B + 1; omega)) _, Lib.hid (show ArrAt _ _ _ _ _ from K0'.out), Lib.hid (show ArrAt _ _ _ _ _ from b.out)⟩, by simp [intOf]; omega⟩
      · obtain rfl : k = 3 := by omega
        clear c hix k0 k1 U0 hq
        go_wp2_with (first
          | (with_reducible refine wpList_load_sz rfl 74 (.tmp 4) rfl (B + 1) 0 rfl [.int .i64 (ixs q 3 0), .int .i64 (ixs q 3 1), .int .i64 (ixs q 3 2)] _ K1.out.range Tryd.underlying74 rfl 3 (arr_len _ _ _) size_arr3 ?_)
          | (with_reducible refine wpList_store_sz rfl 74 (.tmp 2) (.tmp 25) rfl B 0 #[.int .i64 (ixs q 3 0), .int .i64 (ixs q 3 1), .int .i64 (ixs q 3 2)] rfl rfl 3 (arr3_sz _ _ _) K0.out.there size_arr3 (arr3_one _ _ _) [.int .i64 (ixs q 3 0), .int .i64 (ixs q 3 1), .int .i64 (ixs q 3 2)] (arr3_ls _ _ _) ?_))
        (try simp only [Exit.inBlock, Exit.then])
        refine bodyPost_ret (ret_arr3 rfl _ _ B _ _ _ rfl (K0.out.sets _ _ _)) rfl ⟨rfl, ?_⟩
        exact Upd.setCells (.inr (Nat.le_of_eq hB'.out.symm)) _ _ hU
end Go.Proofs.YtbakhipabeaojaaDoor
