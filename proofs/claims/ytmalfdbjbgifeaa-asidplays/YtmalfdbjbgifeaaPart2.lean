/-
  Texts that the laws stand on, joined: AsC, AsD, Cut, AsE, AsR, AsS, AsT, Frame, Laid.
-/
import Derived.Below
import Derived.Carry
import Derived.ChangeOld
import Derived.ChangeSame
import Derived.Deep.Fields
import Derived.Deep.MidRow
import Derived.Deep.RegionHeld3
import Derived.Deep.RegionLaw
import Derived.Deep.Slices
import Derived.FnData
import Derived.IntWalk
import Derived.LaidHandle
import Derived.LaidLaws
import Derived.OpenShut
import Derived.ProofKit
import Derived.WalkKit
import Derived.Test.YtmalfdbjbgifeaaPart1

/-
  Package asid: New, Take, Back.
-/
namespace Go.Proofs.Ytmalfdbjbgifeaa
open Go.ChangeShapes Go.WideShapes Go.ChangeAt Go.RowKit Go.Maps Go.Sort Go.Shelf

set_option maxHeartbeats 400000 in
theorem anew_no (m : Int) (w : World) (hm : m < 1 ∨ 8 < m) : Calls Try.prog 7 #[.int .i64 m] w fun e w' => e = .returned (.tuple #[.pointer none, .int .i64 1]) ∧ w = w' := by
  by_cases h0 : m < 1
  · clear hm
    go_enter Try.func7, Try.ntmps7
    go_wp2
    go_ret2
    exact ⟨rfl, rfl⟩
  · have h1 : 8 < m := by omega
    clear hm
    go_enter Try.func7, Try.ntmps7
    go_wp2
    go_ret2
    exact ⟨rfl, rfl⟩
theorem wf_turn {n : Nat} (h : n ≤ 1001) : (Lit.int .i64 (n : Int)).wf = true := by
  show (decide (IntKind.i64.min ≤ (n : Int)) && decide ((n : Int) ≤ IntKind.i64.max)) = true
  rw [decide_eq_true (show IntKind.i64.min ≤ (n : Int) by show -9223372036854775808 ≤ (n : Int); omega), decide_eq_true (show (n : Int) ≤ IntKind.i64.max by show (n : Int) ≤ 9223372036854775807; omega)]
  rfl
/-- the first k numbers are there -/
def upTo (k : Nat) : List (Nat × Nat) := (List.range k).map fun i => (i + 1, 0)
theorem upTo_succ (k : Nat) : upTo (k + 1) = upTo k ++ [(k + 1, 0)] := by unfold upTo; rw [List.range_succ, List.map_append]; rfl
theorem po0_ls (n : Nat) : (po0 n).ls false = upTo n := by unfold Po.ls; rw [po0_idx]; rfl
theorem po0_ls1 (n : Nat) : (po0 n).ls true = [] := by
  unfold Po.ls Po.idx
  rw [List.filter_eq_nil_iff.2 (fun a _ => by show ¬ ((false == true) = true); decide)]
  rfl
set_option maxRecDepth 100000 in
set_option maxHeartbeats 1000000 in
theorem anew_yes (n : Nat) (w : World) (h1 : 1 ≤ n) (h8 : n ≤ 8) : Calls Try.prog 7 #[.int .i64 n] w fun e w' => ∃ A B1 B2, e = .returned (.tuple #[.pointer (some ⟨A, 0, none⟩), .int .i64 0]) ∧ PoolAt w' A B1 B2 (po0 n) ∧ w.heap.size ≤ A ∧ w.heap.size ≤ B1 ∧ w.heap.size ≤ B2 ∧ Upd (fun _ => False) w w' := by
  have hmk := fun w => run_makeMap (P := Try.prog) 50 w
  obtain ⟨w3, hw3⟩ : ∃ w3, ((w.alloc (.map #[] 0)).alloc (.map #[] 0)).alloc (.cells #[.map (some w.heap.size), .map (some (w.heap.size + 1))] 52) = w3 := ⟨_, rfl⟩
  have hm1 : (w.alloc (.map #[] 0)).ownsMap Try.prog 3 (plainElem (H := Unit) Try.prog 3) w.heap.size 0 (.map []) := World.ownsMap_made w _ _ _
  have hm2 : ((w.alloc (.map #[] 0)).alloc (.map #[] 0)).ownsMap Try.prog 3 (plainElem (H := Unit) Try.prog 3) (w.heap.size + 1) 0 (.map []) := by
    have := World.ownsMap_made (H := Unit) (w.alloc (.map #[] 0)) Try.prog 3 (plainElem (H := Unit) Try.prog 3)
    rwa [World.size_alloc] at this
  have g1 : w3.ownsMap Try.prog 3 (plainElem (H := Unit) Try.prog 3) w.heap.size 256 (.map []) := by rw [← hw3]; exact ((hm1.alloc _).alloc _).mono (by omega)
  have g2 : w3.ownsMap Try.prog 3 (plainElem (H := Unit) Try.prog 3) (w.heap.size + 1) 256 (.map []) := by rw [← hw3]; exact (hm2.alloc _).mono (by omega)
  have g3 : w3.heap[w.heap.size + 2]? = some (.cells #[.map (some w.heap.size), .map (some (w.heap.size + 1))] 52 (0, 0)) := by
    rw [← hw3]
    have := heap_alloc_last ((w.alloc (.map #[] 0)).alloc (.map #[] 0)) (.cells #[.map (some w.heap.size), .map (some (w.heap.size + 1))] 52)
    rwa [show ((w.alloc (.map #[] 0)).alloc (.map #[] 0)).heap.size = w.heap.size + 2 from by simp] at this
  have U3 : Upd (fun _ => False) w w3 := by rw [← hw3]; exact (((Upd.refl _ _).alloc _).alloc _).alloc _
  have Hw3 := Lib.hid hw3
  clear hm1 hm2 hw3
  go_enter Try.func7, Try.ntmps7
  go_upto_region 4 with fail
  rw [Hw3.out]
  obtain ⟨N, hN⟩ : ∃ N, w.heap.size = N := ⟨_, rfl⟩
  rw [hN] at g1 g2 g3 ⊢
  have HN := Lib.hid hN
  have hz := zero_int
  have g1' : ∃ D : DataW Unit, w3.ownsMap Try.prog 3 (plainElem Try.prog 3) N 256 D ∧ MapOf D (upTo 0) := ⟨_, g1, mapOf_nil⟩
  clear hN g1 Hw3
  go_wp2
  go_loopw [17] (fun t wr => ∃ j : Nat, j ≤ n ∧ t = .int .i64 j ∧ (∃ D : DataW Unit, wr.ownsMap Try.prog 3 (plainElem Try.prog 3) N 256 D ∧ MapOf D (upTo j)) ∧ Upd (· = N) w3 wr) (fun t _ => n - (intOf t).toNat)
  case atStart => exact ⟨0, by omega, rfl, g1', Upd.refl _ _⟩
  case round =>
    clear g1'
    obtain ⟨j, hj, rfl, ⟨D, hD, hM⟩, hU⟩ := hrel
    by_cases hlt : j < n
    · have g3r := hU.at g3 (by show ¬ N + 2 = N; omega)
      have hc0 : wr.cell? ⟨N + 2, 0, none⟩ = some (.map (some N)) := by rw [cell_of_row wr (N + 2) 0 _ _ _ g3r]; rfl
      have hwf := Lib.hid (wf_frame (n := j + 1) (by omega))
      have hput := Lib.hid (hM.put (hD.tidy keyLaw) (j + 1) 0 fun x hx e => by
        unfold upTo at hx
        obtain ⟨i, hi, rfl⟩ := List.mem_map.1 hx
        have := List.mem_range.1 hi
        simp only at e
        omega)
      rw [← upTo_succ] at hput
      have hlen : (upTo (j + 1)).length ≤ 256 := by simp [upTo]; omega
      obtain ⟨X, hX⟩ : ∃ X, j + 1 = X := ⟨_, rfl⟩
      rw [hX] at hwf
      have hXe : IntKind.i64.wrap ((j : Int) + 1) = (X : Int) := by rw [IntWalk.i64_in _ (by omega)]; omega
      have HX := Lib.hid hX
      rw [show kf (j + 1) = kf X from by rw [hX]] at hput
      clear hX
      go_wp2_with ((at_mapUpdate; refine wpList_mapUpdate_own _ rfl _ _ _ 50 rfl 3 3 keyLaw Try.underlying50 _ N 256 D rfl hD (by decide) _ _ (kf X) rfl rfl (keyOf_int_mk Try.underlying3 hwf.out) (.lit (.int .i64 0)) [] (plainElem_int Try.underlying3 rfl) ?_; intro w5 hown hgrow))
      have hx := HX.out
      exact ⟨⟨X, by omega, rfl, ⟨_, map_tight hown 256 (Nat.le_trans (Nat.le_of_eq hput.out.sz) hlen), by rw [← hx]; rw [← hx] at hput; exact hput.out⟩, hU.trans (upd_grown hgrow)⟩, by simp [intOf]; omega⟩
    · have e : j = n := by omega
      subst e
      have g3r := hU.at g3 (by show ¬ N + 2 = N; omega)
      have g2r := map_kept g2 hU (by show ¬ N + 1 = N; omega)
      have hn := HN.out
      have P := Lib.hid (show PoolAt wr (N + 2) N (N + 1) (po0 j) from ⟨g3r, ⟨D, hD, by rw [po0_ls]; exact hM⟩, ⟨_, g2r, by rw [po0_ls1]; exact mapOf_nil⟩, h8, by omega⟩)
      have V := U3.onto hU (by omega)
      have l1 : w.heap.size ≤ N + 2 := by omega
      have l2 : w.heap.size ≤ N := by omega
      have l3 : w.heap.size ≤ N + 1 := by omega
      clear hn g2r g3r g3 g2 hD hM hU
      go_wp2
      go_ret2
      exact ⟨_, _, _, rfl, P.out, l1, l2, l3, V⟩

set_option maxRecDepth 100000 in
set_option maxHeartbeats 2000000 in
theorem atake_any (A B1 B2 : Nat) (p : Po) (K : Nat) (hK : K ≤ 1000) (ht : p.top K) (w : World) (h : PoolAt w A B1 B2 p) :
    Calls Try.prog 9 #[.pointer (some ⟨A, 0, none⟩)] w fun e w' =>
      (p.best = none ∧ e = .returned (.tuple #[tagV 0 0, .int .i64 7]) ∧ Upd (fun _ => False) w w') ∨
      (∃ c, p.best = some c ∧ c < p.n ∧ p.g c = false ∧ e = .returned (.tuple #[tagV ((c + 1 : Nat) : Int) ((p.u c + 1 : Nat) : Int), .int .i64 0]) ∧ PoolAt w' A B1 B2 (p.take c) ∧ Upd (fun k => k = B1 ∨ k = B2) w w') := by
  have hn := fun W h => anext_any A B1 B2 p K hK ht W h
  cases hb : p.best with
  | none =>
    have HN := Lib.hid hn
    have Hb := Lib.hid hb
    obtain ⟨t1, t2⟩ := tag_box w 0 0
    obtain ⟨w1, hw⟩ : ∃ w1, w.alloc (.cells #[.int .i64 0, .int .i64 0] 33) = w1 := ⟨_, rfl⟩
    rw [hw] at t1 t2
    have hw1 := Lib.hid hw
    have h1 := h.still t2
    clear hn hw hb ht
    go_enter Try.func9, Try.ntmps9
    go_upto_region 1 with fail
    rw [hw1.out]
    generalize hR : w.heap.size = R at t1 ⊢
    have HR := Lib.hid hR
    clear hR
    go_wp2_with fail
    refine (HN.out _ h1).mono ?_
    rintro e w2 ⟨rfl, U2⟩
    rw [Hb.out]
    have t3 := (t1.kept U2 id).kept ((Upd.refl (fun _ => False) w2).alloc (.cells #[.int .i64 (bestA none), .int .i64 (bestT p.u none)] 33)) id
    have U3 := (t2.trans U2).alloc (.cells #[.int .i64 (bestA none), .int .i64 (bestT p.u none)] 33)
    have hth := Lib.hid t3.there
    have hset := Lib.hid (t3.set 0 0)
    clear t1 t2 U2
    go_upto_region 2 with fail
    generalize w2.alloc (.cells #[.int .i64 (bestA none), .int .i64 (bestT p.u none)] 33) = w3 at t3 U3 hth hset ⊢
    go_wp2_with (with_reducible refine wpList_store_sz rfl 33 (.tmp 2) (.tmp 13) rfl R 0 #[.int .i64 0, .int .i64 0] rfl rfl 2 (tag_sz _ _) hth.out size_tag (tag_one _ _) [.int .i64 0, .int .i64 0] (tag_ls _ _) ?_)
    (try simp only [Exit.inBlock, Exit.then])
    refine bodyPost_ret (ret_tag rfl _ _ R 0 0 rfl hset.out) rfl (.inl ⟨trivial, rfl, ?_⟩)
    exact Upd.setCells (.inr (by rw [HR.out]; exact Nat.le_refl _)) _ _ U3
  | some c =>
    have HN := Lib.hid hn
    have Hb := Lib.hid hb
    obtain ⟨c1, c2, _⟩ := Po.best_some hb
    have hcu := ht c c1
    obtain ⟨t1, t2⟩ := tag_box w 0 0
    obtain ⟨w1, hw⟩ : ∃ w1, w.alloc (.cells #[.int .i64 0, .int .i64 0] 33) = w1 := ⟨_, rfl⟩
    rw [hw] at t1 t2
    have hw1 := Lib.hid hw
    have h1 := h.still t2
    have hl := h.lts
    obtain ⟨C, hC⟩ : ∃ C, c + 1 = C := ⟨_, rfl⟩
    obtain ⟨T, hT⟩ : ∃ T, p.u c + 1 = T := ⟨_, rfl⟩
    have hA : bestA (some c) = (C : Int) := by rw [← hC]; rfl
    have hB : bestT p.u (some c) = (T : Int) := by rw [← hT]; rfl
    have HC := Lib.hid (show C ≤ 8 ∧ T ≤ 1001 ∧ C = c + 1 ∧ T = p.u c + 1 from ⟨by have := h.hi; omega, by omega, hC.symm, hT.symm⟩)
    have HAB := Lib.hid (And.intro hA hB)
    have hr2 := Lib.hid (show ∀ e : Ending, e = .returned (.tuple #[tagV (C : Int) (T : Int), .int .i64 0]) → e = .returned (.tuple #[tagV ((c + 1 : Nat) : Int) ((p.u c + 1 : Nat) : Int), .int .i64 0]) from fun e h => by rw [hC, hT]; exact h)
    have hno := Lib.hid (Po.take_no c1 c2)
    have hyes := Lib.hid (Po.take_yes c1 c2)
    have hmem := Lib.hid (show (c + 1, p.u c) ∈ p.ls false from Po.mem_ls.2 ⟨c, c1, c2, rfl⟩)
    rw [hC] at hmem hno hyes
    rw [hT] at hyes
    clear hn hw hb ht hC hT hA hB hcu
    go_enter Try.func9, Try.ntmps9
    go_upto_region 1 with fail
    rw [hw1.out]
    generalize hR : w.heap.size = R at t1 hl ⊢
    have HR := Lib.hid hR
    clear hR
    go_wp2_with fail
    refine (HN.out _ h1).mono ?_
    rintro e w2 ⟨rfl, U2⟩
    rw [Hb.out, HAB.out.1, HAB.out.2]
    obtain ⟨k1, k2⟩ := tag_box w2 C T
    have hR2 : R < w2.heap.size := Nat.lt_of_lt_of_le (lt_of_heap t1) U2.size
    have t3 := (t1.kept U2 id).kept k2 id
    have U3 := (t2.trans U2).trans k2
    have h3 := (h1.still U2).still k2
    clear t1 t2 U2 h1 k2
    go_upto_region 2 with fail
    generalize w2.alloc (.cells #[.int .i64 (C : Int), .int .i64 (T : Int)] 33) = w3 at t3 U3 h3 k1 ⊢
    generalize w2.heap.size = M at k1 hR2 ⊢
    go_upto_region 4 with fail
    refine wp_region_tail 6 (by kernel_rfl) (by kernel_rfl) ?_
    simp only [List.take_succ_cons, List.take_zero, List.drop_succ_cons, List.drop_zero]
    intro w4 hw4
    have u4 := (Upd.refl (fun _ => False) w3).drew
    rw [← hw4] at u4
    clear hw4
    have h4 := h3.still u4
    have t4 := t3.kept u4 id
    have k4 := k1.kept u4 id
    have U4 := U3.trans u4
    clear h3 t3 k1 U3 u4
    have a0 := h4.c0
    have b0 := k4.c0
    obtain ⟨D, hD, hM⟩ := h4.m1
    have hwf := Lib.hid (wf_frame (n := C) (by have := HC.out.1; omega))
    have hdel := Lib.hid ((hM.del (hD.tidy keyLaw) hmem.out (p.ls_nodup _) fun y hy e => Po.ls_key hmem.out hy e).perm hno.out)
    repeat still_step
    refine wpStill_nil ?_
    go_upto_region 5 with ((at_delete; refine wpList_delete_own _ rfl _ _ 50 3 rfl 3 keyLaw Try.underlying50 _ B1 256 D rfl hD _ _ rfl (keyOf_int_mk Try.underlying3 hwf.out) ?_; intro w5 hown5 hturn5))
    have g5 := upd_grown hturn5.grown
    have hd5 := g5.at h4.head h.ne1
    have two := h.two
    have t5 := t4.kept g5 (by show ¬ R = B1; omega)
    have k5 := k4.kept g5 (by show ¬ M = B1; omega)
    have U5 := (U4.mono (T := fun k => k = B1 ∨ k = B2) fun _ _ x => x.elim).trans (g5.mono fun _ _ e => .inl e)
    have m1 := Lib.hid (show ∃ D : DataW Unit, w5.ownsMap Try.prog 3 (plainElem Try.prog 3) B1 256 D ∧ MapOf D ((p.take c).ls false) from ⟨_, hown5, hdel.out⟩)
    obtain ⟨D2, hD2, hM2⟩ := h4.m2
    have hD2 := map_kept hD2 g5 (fun e => two e.symm)
    clear hdel hD hM hown5 hturn5 g5 U4 t4 k4 h4 a0 b0
    refine wp_region_tail 8 (by kernel_rfl) (by kernel_rfl) ?_
    simp only [List.take_succ_cons, List.take_zero, List.drop_succ_cons, List.drop_zero]
    intro w6 hw6
    have u6 := (Upd.refl (fun _ => False) w5).drew
    rw [← hw6] at u6
    clear hw6
    have hd6 := u6.at hd5 id
    have t6 := t5.kept u6 id
    have k6 := k5.kept u6 id
    have U6 := U5.trans (u6.mono (T := fun k => k = B1 ∨ k = B2) fun _ _ x => x.elim)
    have m1 := Lib.hid (show ∃ D : DataW Unit, w6.ownsMap Try.prog 3 (plainElem Try.prog 3) B1 256 D ∧ MapOf D ((p.take c).ls false) from by obtain ⟨D, x, y⟩ := m1.out; exact ⟨D, map_kept x u6 id, y⟩)
    have hD2 := map_kept hD2 u6 id
    clear hd5 t5 k5 U5 u6
    have a1 : w6.cell? ⟨A, 1, none⟩ = some (.map (some B2)) := by rw [cell_of_row w6 A 1 _ _ _ hd6]; rfl
    have b0 := k6.c0
    have b1 := k6.c1
    have hwt := Lib.hid (wf_turn (n := T) HC.out.2.1)
    have hput := Lib.hid ((hM2.put (hD2.tidy keyLaw) C T fun x hx e => by
      obtain ⟨i, i1, i2, rfl⟩ := Po.mem_ls.1 hx
      have := HC.out.2.2.1
      obtain rfl : i = c := by simp only at e; omega
      rw [c2] at i2; cases i2).perm hyes.out)
    repeat still_step
    refine wpStill_nil ?_
    go_upto_region 6 with ((at_mapUpdate; refine wpList_mapUpdate_own _ rfl _ _ _ 50 rfl 3 3 keyLaw Try.underlying50 _ B2 256 D2 rfl hD2 (by decide) _ _ (kf C) rfl rfl (keyOf_int_mk Try.underlying3 hwf.out) _ [] (plainElem_int Try.underlying3 hwt.out) ?_; intro w7 hown7 hgrow7))
    have g7 := upd_grown hgrow7
    have t7 := t6.kept g7 (by show ¬ R = B2; omega)
    have k7 := k6.kept g7 (by show ¬ M = B2; omega)
    have U7 := U6.trans (g7.mono (T := fun k => k = B1 ∨ k = B2) fun _ _ e => .inr e)
    have P7 := Lib.hid (show PoolAt w7 A B1 B2 (p.take c) from ⟨g7.at hd6 h.ne2, by obtain ⟨D, x, y⟩ := m1.out; exact ⟨D, map_kept x g7 two, y⟩,
      ⟨_, map_tight hown7 256 (by rw [hput.out.sz]; have := (p.take c).ls_len8 true h.hi; omega), hput.out⟩, h.hi, two⟩)
    have hth := Lib.hid t7.there
    have hset := Lib.hid (t7.set C T)
    have hrg := Lib.hid k7.range
    have hRl := hR2
    clear hown7 hgrow7 g7 t6 k6 U6 m1 hD2 hM2 hput hwt hwf a1 b0 b1 hd6 t7 k7
    go_wp2_with (first
      | (with_reducible refine wpList_load_sz rfl 33 (.tmp 4) rfl M 0 rfl [.int .i64 C, .int .i64 T] _ hrg.out Try.underlying33 rfl 2 rfl size_tag ?_)
      | (with_reducible refine wpList_store_sz rfl 33 (.tmp 2) (.tmp 28) rfl R 0 #[.int .i64 C, .int .i64 T] rfl rfl 2 (tag_sz _ _) hth.out size_tag (tag_one _ _) [.int .i64 C, .int .i64 T] (tag_ls _ _) ?_))
    (try simp only [Exit.inBlock, Exit.then])
    refine bodyPost_ret (ret_tag rfl _ _ R C T rfl hset.out) rfl (.inr ⟨c, rfl, c1, c2, hr2.out _ rfl, ?_, ?_⟩)
    · have u8 : Upd (· = R) w7 (w7.setCells R 0 [.int .i64 C, .int .i64 T]) := Upd.setCells (S := (· = R)) (.inl rfl) _ _ (Upd.refl _ _)
      exact P7.out.kept u8 (by show ¬ A = R; omega) (by show ¬ B1 = R; omega) (by show ¬ B2 = R; omega)
    · exact Upd.setCells (.inr (by rw [HR.out]; exact Nat.le_refl _)) _ _ U7

set_option maxRecDepth 100000 in
set_option maxHeartbeats 2000000 in
theorem aback_any (A B1 B2 : Nat) (p : Po) (K : Nat) (hK : K ≤ 1000) (ht : p.top K) (a t : Int) (hwa : (Lit.int .i64 a).wf = true) (w : World) (h : PoolAt w A B1 B2 p) :
    Calls Try.prog 11 #[.pointer (some ⟨A, 0, none⟩), tagV a t] w fun e w' =>
      (p.at a t = none ∧ e = .returned (.int .i64 2) ∧ Upd (fun _ => False) w w') ∨
      (∃ c, p.at a t = some c ∧ e = .returned (.int .i64 0) ∧ PoolAt w' A B1 B2 (p.back c) ∧ Upd (fun k => k = B1 ∨ k = B2) w w') := by
  obtain ⟨t1, t2⟩ := tag_box w a t
  obtain ⟨w1, hw⟩ : ∃ w1, w.alloc (.cells #[.int .i64 a, .int .i64 t] 33) = w1 := ⟨_, rfl⟩
  rw [hw] at t1 t2
  have hw1 := Lib.hid hw
  have h1 := h.still t2
  have hl := h.lts
  have hrg := Lib.hid t1.range
  have HL := Lib.hid (alives_any A B1 B2 p a t hwa w1 h1)
  cases hb : p.at a t with
  | none =>
    rw [hb] at HL
    clear hw hb ht hwa
    go_enter Try.func11, Try.ntmps11
    go_upto_region 1 with fail
    rw [hw1.out]
    generalize w.heap.size = R at t1 hl hrg ⊢
    go_wp2_with (with_reducible refine wpList_load_sz rfl 33 (.tmp 3) rfl R 0 rfl [.int .i64 a, .int .i64 t] _ hrg.out Try.underlying33 rfl 2 rfl size_tag ?_)
    refine HL.out.mono ?_
    rintro e w2 ⟨rfl, U2⟩
    go_wp2
    go_ret
    exact .inl ⟨trivial, rfl, t2.trans U2⟩
  | some c =>
    obtain ⟨e1, e2, c1, c2⟩ := Po.at_some hb
    have hcu := ht c c1
    rw [hb] at HL
    obtain ⟨C, hC⟩ : ∃ C, c + 1 = C := ⟨_, rfl⟩
    obtain ⟨T, hT⟩ : ∃ T, p.u c = T := ⟨_, rfl⟩
    have HC := Lib.hid (show C ≤ 8 ∧ T ≤ 1001 ∧ C = c + 1 ∧ T = p.u c from ⟨by have := h.hi; omega, by omega, hC.symm, hT.symm⟩)
    have hno := Lib.hid (Po.back_no c1 c2)
    have hyes := Lib.hid (Po.back_yes c1 c2)
    have hmem := Lib.hid (show (c + 1, p.u c) ∈ p.ls true from Po.mem_ls.2 ⟨c, c1, c2, rfl⟩)
    rw [hC, hT] at hmem hno hyes
    rw [hC] at e1
    rw [hT] at e2
    subst e1 e2
    clear hw hb ht hC hT hcu hwa
    go_enter Try.func11, Try.ntmps11
    go_upto_region 1 with fail
    rw [hw1.out]
    generalize w.heap.size = R at t1 hl hrg ⊢
    go_wp2_with (with_reducible refine wpList_load_sz rfl 33 (.tmp 3) rfl R 0 rfl [.int .i64 C, .int .i64 T] _ hrg.out Try.underlying33 rfl 2 rfl size_tag ?_)
    refine HL.out.mono ?_
    rintro e w3 ⟨rfl, U2⟩
    have U3 := t2.trans U2
    have h3 := h1.still U2
    have k1 := t1.kept U2 id
    clear t1 t2 U2 h1 HL hrg
    go_upto_region 3 with fail
    refine wp_region_tail 6 (by kernel_rfl) (by kernel_rfl) ?_
    simp only [List.take_succ_cons, List.take_zero, List.drop_succ_cons, List.drop_zero]
    intro w4 hw4
    have u4 := (Upd.refl (fun _ => False) w3).drew
    rw [← hw4] at u4
    clear hw4
    have h4 := h3.still u4
    have k4 := k1.kept u4 id
    have U4 := U3.trans u4
    clear h3 k1 U3 u4
    have a0 := h4.c1
    have b0 := k4.c0
    obtain ⟨D, hD, hM⟩ := h4.m2
    have hwf := Lib.hid (wf_frame (n := C) (by have := HC.out.1; omega))
    have hdel := Lib.hid ((hM.del (hD.tidy keyLaw) hmem.out (p.ls_nodup _) fun y hy e => Po.ls_key hmem.out hy e).perm hyes.out)
    repeat still_step
    refine wpStill_nil ?_
    go_upto_region 4 with ((at_delete; refine wpList_delete_own _ rfl _ _ 50 3 rfl 3 keyLaw Try.underlying50 _ B2 256 D rfl hD _ _ rfl (keyOf_int_mk Try.underlying3 hwf.out) ?_; intro w5 hown5 hturn5))
    have g5 := upd_grown hturn5.grown
    have hd5 := g5.at h4.head h.ne2
    have two := h.two
    have k5 := k4.kept g5 (by show ¬ R = B2; omega)
    have U5 := (U4.mono (T := fun k => k = B1 ∨ k = B2) fun _ _ x => x.elim).trans (g5.mono fun _ _ e => .inr e)
    have m1 := Lib.hid (show ∃ D : DataW Unit, w5.ownsMap Try.prog 3 (plainElem Try.prog 3) B2 256 D ∧ MapOf D ((p.back c).ls true) from ⟨_, hown5, hdel.out⟩)
    obtain ⟨D2, hD2, hM2⟩ := h4.m1
    have hD2 := map_kept hD2 g5 two
    clear hdel hD hM hown5 hturn5 g5 U4 k4 h4 a0 b0
    refine wp_region_tail 8 (by kernel_rfl) (by kernel_rfl) ?_
    simp only [List.take_succ_cons, List.take_zero, List.drop_succ_cons, List.drop_zero]
    intro w6 hw6
    have u6 := (Upd.refl (fun _ => False) w5).drew
    rw [← hw6] at u6
    clear hw6
    have hd6 := u6.at hd5 id
    have k6 := k5.kept u6 id
    have U6 := U5.trans (u6.mono (T := fun k => k = B1 ∨ k = B2) fun _ _ x => x.elim)
    have m1 := Lib.hid (show ∃ D : DataW Unit, w6.ownsMap Try.prog 3 (plainElem Try.prog 3) B2 256 D ∧ MapOf D ((p.back c).ls true) from by obtain ⟨D, x, y⟩ := m1.out; exact ⟨D, map_kept x u6 id, y⟩)
    have hD2 := map_kept hD2 u6 id
    clear hd5 k5 U5 u6
    have a1 : w6.cell? ⟨A, 0, none⟩ = some (.map (some B1)) := by rw [cell_of_row w6 A 0 _ _ _ hd6]; rfl
    have b0 := k6.c0
    have b1 := k6.c1
    have hwt := Lib.hid (wf_turn (n := T) HC.out.2.1)
    have hput := Lib.hid ((hM2.put (hD2.tidy keyLaw) C T fun x hx e => by
      obtain ⟨i, i1, i2, rfl⟩ := Po.mem_ls.1 hx
      have := HC.out.2.2.1
      obtain rfl : i = c := by simp only at e; omega
      rw [c2] at i2; cases i2).perm hno.out)
    repeat still_step
    refine wpStill_nil ?_
    go_upto_region 5 with ((at_mapUpdate; refine wpList_mapUpdate_own _ rfl _ _ _ 50 rfl 3 3 keyLaw Try.underlying50 _ B1 256 D2 rfl hD2 (by decide) _ _ (kf C) rfl rfl (keyOf_int_mk Try.underlying3 hwf.out) _ [] (plainElem_int Try.underlying3 hwt.out) ?_; intro w7 hown7 hgrow7))
    have g7 := upd_grown hgrow7
    have U7 := U6.trans (g7.mono (T := fun k => k = B1 ∨ k = B2) fun _ _ e => .inl e)
    have P7 := Lib.hid (show PoolAt w7 A B1 B2 (p.back c) from ⟨g7.at hd6 h.ne1, ⟨_, map_tight hown7 256 (by rw [hput.out.sz]; have := (p.back c).ls_len8 false h.hi; omega), hput.out⟩,
      by obtain ⟨D, x, y⟩ := m1.out; exact ⟨D, map_kept x g7 (fun e => two e.symm), y⟩, h.hi, two⟩)
    clear hown7 hgrow7 g7 k6 U6 m1 hD2 hM2 hput hwt hwf a1 b0 b1 hd6
    go_wp2
    go_ret
    exact .inr ⟨c, rfl, rfl, P7.out, U7⟩
end Go.Proofs.Ytmalfdbjbgifeaa

/-
  Package asid: two tags compared; the laws' awake.
-/
namespace Go.Proofs.Ytmalfdbjbgifeaa
open Go.ChangeShapes Go.WideShapes Go.ChangeAt Go.RowKit Go.Maps

/-- two tags compared -/
theorem run_eqTgd (d : Nat) (a t a' t' : Int) (w : World) :
    (Op.equalIn (d + 2) 33 (.agg #[.int .i64 a, .int .i64 t]) (.agg #[.int .i64 a', .int .i64 t'])).run Try.prog w = .ok (decide (a = a' ∧ t = t')) w := by
  have hF : (Try.prog.fieldsOf 33).toList.map (fun f => (f.name == "_", f.type, f.offset)) = [(false, 3, 0), (false, 3, 1)] := by kernel_rfl
  rw [run_equalIn_struct w (d + 1) _ _ _ (by kernel_rfl) (by kernel_rfl)]
  have hag : ∀ (e : TypeId) (d : TypeDesc), Try.prog.underlying e = some d → d.isRow = false → (isAgg e).run Try.prog w = .ok false w := by
    intro e d he hd
    unfold isAgg
    rw [Sem.run_bind, run_underlying he w]
    cases d <;> first | rfl | cases hd
  have hpart : ∀ (e : TypeId) (d : TypeDesc), Try.prog.underlying e = some d → d.isRow = false → ∀ (cs : Array Value) (i : Nat) (x : Value), cs[i]? = some x → (part e cs i).run Try.prog w = .ok x w := by
    intro e d he hd cs i x hx
    unfold part
    rw [Sem.run_bind, hag e d he hd]
    simp only [Result.andThen_ok, Bool.false_eq_true, if_false, hx]
    rfl
  have hlen := congrArg List.length hF
  rw [List.length_map] at hlen
  generalize (Try.prog.fieldsOf 33).toList = L at hF hlen ⊢
  match L, hlen with
  | [g0, g1], _ =>
    simp only [List.map_cons, List.map_nil, List.cons.injEq, Prod.mk.injEq, and_true] at hF
    obtain ⟨⟨n0, t0, o0⟩, ⟨n1, t1, o1⟩⟩ := hF
    have n0 : g0.name ≠ "_" := by simpa using n0
    have n1 : g1.name ≠ "_" := by simpa using n1
    have ui := Try.underlying3
    have step : ∀ (X Y : Array Value) (g : Field) (fs : List Field) (x y : Value) (q : Bool), g.name ≠ "_" → (part g.type X g.offset).run Try.prog w = .ok x w → (part g.type Y g.offset).run Try.prog w = .ok y w →
        (Op.equalIn (d + 1) g.type x y).run Try.prog w = .ok q w → (Op.eqFields (d + 1) X Y (g :: fs)).run Try.prog w = if q = true then (Op.eqFields (d + 1) X Y fs).run Try.prog w else .ok false w := by
      intro X Y g fs x y q hn hx hy hq
      rw [Op.eqFields, if_pos hn, Sem.run_bind, hx, Result.andThen_ok, Sem.run_bind, hy, Result.andThen_ok, Sem.run_bind, hq, Result.andThen_ok]
      cases q
      · rfl
      · rfl
    rw [step _ _ g0 _ (.int .i64 a) (.int .i64 a') (a == a') n0 (by rw [t0, o0]; exact hpart _ _ ui rfl _ _ _ rfl) (by rw [t0, o0]; exact hpart _ _ ui rfl _ _ _ rfl) (by rw [t0]; exact run_equalIn_int w d _ .i64 .i64 _ _ ui),
      step _ _ g1 _ (.int .i64 t) (.int .i64 t') (t == t') n1 (by rw [t1, o1]; exact hpart _ _ ui rfl _ _ _ rfl) (by rw [t1, o1]; exact hpart _ _ ui rfl _ _ _ rfl) (by rw [t1]; exact run_equalIn_int w d _ .i64 .i64 _ _ ui)]
    by_cases e1 : a = a'
    · by_cases e2 : t = t'
      · simp [e1, e2, Op.eqFields]
      · simp [e1, e2]
    · simp [e1]
theorem run_eqTg (a t a' t' : Int) (b : Bool) (hb : decide (a = a' ∧ t = t') = b) (w : World) :
    (Op.equalIn 10000 33 (.agg #[.int .i64 a, .int .i64 t]) (.agg #[.int .i64 a', .int .i64 t'])).run Try.prog w = .ok b w := by
  subst hb
  exact run_eqTgd 9998 a t a' t' w

/-- nothing of the pool was there before block B -/
theorem Upd.pool {w a c : World} {A B1 B2 : Nat} (h : Upd (fun _ => False) w a) (k : Upd (fun x => x = B1 ∨ x = B2) a c) (h1 : w.heap.size ≤ B1) (h2 : w.heap.size ≤ B2) : Upd (fun _ => False) w c :=
  ⟨k.os.trans h.os, k.tape.trans h.tape, k.output.trans h.output, Nat.le_trans h.size k.size, fun i hi hs => (k.block i (Nat.lt_of_lt_of_le hi h.size) (by omega)).trans (h.block i hi hs)⟩
theorem aw10_1 : (po0 1).best = some 0 := by decide
theorem aw10_2 : ((po0 1).take 0).best = none := by decide
theorem aw10_3 : ((po0 1).take 0).at ((0 + 1 : Nat) : Int) (((po0 1).u 0 + 1 : Nat) : Int) = some 0 := by decide
theorem aw10_4 : (((po0 1).take 0).back 0).best = some 0 := by decide
theorem aw10_5 : ((((po0 1).take 0).back 0).take 0).at 1 1 = none := by decide
theorem aw10_6 : ((((po0 1).take 0).back 0).take 0).at 1 2 = some 0 := by decide
set_option maxRecDepth 100000 in
set_option maxHeartbeats 2000000 in
theorem a10awake_any (w : World) : Calls Try.prog 6 #[] w fun e w' => e = .returned (.bool true) ∧ Upd (fun _ => False) w w' := by
  have he := run_eqTg 1 1 1 1 true (by decide)
  go_enter Try.func6, Try.ntmps6
  go_wp2_with fail
  refine (anew_yes 1 _ (by omega) (by omega)).mono ?_
  rintro e w1 ⟨A, B1, B2, rfl, P1, l0, l1, l2, U1⟩
  go_wp2_with fail
  refine (atake_any A B1 B2 _ 0 (by omega) (top_po0 1) _ P1).mono ?_
  rintro e w2 (⟨hb, _⟩ | ⟨c, hb, _, _, rfl, P2, U2⟩)
  · rw [aw10_1] at hb; cases hb
  rw [aw10_1] at hb
  obtain rfl : 0 = c := by injection hb
  have U2 := U1.pool (A := A) U2 l1 l2
  have T2 : ((po0 1).take 0).top 1 := Po.top_take (top_po0 1) 0
  rw [show (((0 + 1 : Nat)) : Int) = 1 from rfl, show (((po0 1).u 0 + 1 : Nat) : Int) = 1 from rfl]
  obtain ⟨k2, u2⟩ := tag_box w2 1 1
  have P3 := P2.still u2
  have U3 := U2.trans u2
  clear hb P1 U1 P2 U2 u2
  go_upto_region 5 with fail
  generalize w2.alloc (.cells #[.int .i64 1, .int .i64 1] 33) = w3 at k2 P3 U3 ⊢
  generalize w2.heap.size = R2 at k2 ⊢
  go_wp2_with fail
  refine (atake_any A B1 B2 _ 1 (by omega) T2 _ P3).mono ?_
  rintro e w4 (⟨_, rfl, V⟩ | ⟨c, hb, _⟩)
  rotate_left
  · rw [aw10_2] at hb; cases hb
  obtain ⟨_, u4⟩ := tag_box w4 0 0
  have P4 := (P3.still V).still u4
  have U4 := (U3.trans V).trans u4
  have k4 := (k2.kept V id).kept u4 id
  clear P3 U3 k2 V u4
  go_upto_region 6 with fail
  generalize w4.alloc (.cells #[.int .i64 0, .int .i64 0] 33) = w5 at k4 P4 U4 ⊢
  generalize w4.heap.size = R4
  have hrg := Lib.hid k4.range
  go_wp2_with (with_reducible refine wpList_load_sz rfl 33 (.tmp 3) rfl R2 0 rfl [.int .i64 1, .int .i64 1] _ hrg.out Try.underlying33 rfl 2 rfl size_tag ?_)
  refine (aback_any A B1 B2 _ 1 (by omega) T2 1 1 rfl _ P4).mono ?_
  rintro e w6 (⟨hb, _⟩ | ⟨c, hb, rfl, P6, V⟩)
  · rw [show ((po0 1).take 0).at 1 1 = some 0 from aw10_3] at hb; cases hb
  rw [show ((po0 1).take 0).at 1 1 = some 0 from aw10_3] at hb
  obtain rfl : 0 = c := by injection hb
  have n1 : R2 ≠ B1 ∧ R2 ≠ B2 := by
    obtain ⟨D, ⟨es, cc, hx, _⟩, _⟩ := P4.m1
    obtain ⟨D', ⟨es', cc', hx', _⟩, _⟩ := P4.m2
    refine ⟨fun e => ?_, fun e => ?_⟩
    · have := k4; unfold TagAt at this; rw [e, hx] at this; cases this
    · have := k4; unfold TagAt at this; rw [e, hx'] at this; cases this
  have k6 := k4.kept V (by rintro (e | e); exact n1.1 e; exact n1.2 e)
  have U6 := U4.pool (A := A) V l1 l2
  have T6 : (((po0 1).take 0).back 0).top 2 := Po.top_back T2 0
  clear hb P4 U4 k4 hrg V T2
  go_wp2_with fail
  refine (atake_any A B1 B2 _ 2 (by omega) T6 _ P6).mono ?_
  rintro e w7 (⟨hb, _⟩ | ⟨c, hb, _, _, rfl, P7, V⟩)
  · rw [aw10_4] at hb; cases hb
  rw [aw10_4] at hb
  obtain rfl : 0 = c := by injection hb
  rw [show (((0 + 1 : Nat)) : Int) = 1 from rfl, show ((((((po0 1).take 0).back 0).u 0 + 1 : Nat)) : Int) = 2 from rfl]
  obtain ⟨k8, u8⟩ := tag_box w7 1 2
  have k7 := (k6.kept V (by rintro (e | e); exact n1.1 e; exact n1.2 e)).kept u8 id
  have U8 := (U6.pool (A := A) V l1 l2).trans u8
  have P8 := P7.still u8
  clear hb P6 P7 U6 k6 V u8 T6 n1
  go_upto_region 8 with fail
  generalize w7.alloc (.cells #[.int .i64 1, .int .i64 2] 33) = w8 at k7 k8 P8 U8 ⊢
  generalize w7.heap.size = R8 at k8 ⊢
  have hr2 := Lib.hid k7.range
  have hr8 := Lib.hid k8.range
  have c8 := k8.c1
  go_wp2_with (with_reducible refine wpList_load_sz rfl 33 (.tmp 3) rfl R2 0 rfl [.int .i64 1, .int .i64 1] _ hr2.out Try.underlying33 rfl 2 rfl size_tag ?_)
  refine (alives_any A B1 B2 _ 1 1 rfl _ P8).mono ?_
  rintro e w9 ⟨rfl, V⟩
  rw [aw10_5]
  have hr9 := Lib.hid (k8.kept V id).range
  have P9 := P8.still V
  have U9 := U8.trans V
  clear P8 U8 hr8 hr2 c8 V
  go_wp2_with (with_reducible refine wpList_load_sz rfl 33 (.tmp 8) rfl R8 0 rfl [.int .i64 1, .int .i64 2] _ hr9.out Try.underlying33 rfl 2 rfl size_tag ?_)
  refine (alives_any A B1 B2 _ 1 2 rfl _ P9).mono ?_
  rintro e w10 ⟨rfl, V⟩
  rw [aw10_6]
  have U10 := U9.trans V
  go_wp2
  go_ret
  exact ⟨rfl, U10⟩
end Go.Proofs.Ytmalfdbjbgifeaa

/-
  Rows of structs as lists: their cells, parts of slices of them, appended onto a new slice.
-/
namespace Go.Proofs.Ytmalfdbjbgifeaa
open Go.RowKit

/-- the cells of a list of structs -/
def listC {α : Type} (c : α → List Value) (l : List α) : List Value := l.flatMap c
section
variable {α : Type} {c : α → List Value} {k : Nat}
theorem listC_nil : listC c [] = [] := rfl
theorem listC_app (l l' : List α) : listC c (l ++ l') = listC c l ++ listC c l' := List.flatMap_append
theorem listC_one (x : α) : listC c [x] = c x := by simp [listC]
theorem listC_len (hk : ∀ a, (c a).length = k) (l : List α) : (listC c l).length = l.length * k := by
  induction l with
  | nil => simp [listC]
  | cons x r ih => rw [show x :: r = [x] ++ r from rfl, listC_app, List.length_append, ih, listC_one, hk, List.length_append, Nat.add_mul]; simp
theorem listC_take (hk : ∀ a, (c a).length = k) (l : List α) (i : Nat) : (listC c l).take (i * k) = listC c (l.take i) := by
  induction l generalizing i with
  | nil => simp [listC]
  | cons x r ih =>
    cases i with
    | zero => simp [listC]
    | succ i =>
      rw [show x :: r = [x] ++ r from rfl, listC_app, listC_one, show (i + 1) * k = k + i * k from by rw [Nat.add_mul]; omega, List.take_append, hk, List.take_of_length_le (by rw [hk]; omega), show k + i * k - k = i * k from by omega, ih]
      show c x ++ listC c (r.take i) = listC c ([x] ++ r.take i)
      rw [listC_app, listC_one]
theorem listC_drop (hk : ∀ a, (c a).length = k) (l : List α) (i : Nat) : (listC c l).drop (i * k) = listC c (l.drop i) := by
  induction l generalizing i with
  | nil => simp [listC]
  | cons x r ih =>
    cases i with
    | zero => simp
    | succ i =>
      rw [show x :: r = [x] ++ r from rfl, listC_app, listC_one, show (i + 1) * k = k + i * k from by rw [Nat.add_mul]; omega, List.drop_append, hk, List.drop_eq_nil_of_le (by rw [hk]; omega), show k + i * k - k = i * k from by omega, ih]
      rfl
theorem listC_get (hk : ∀ a, (c a).length = k) (d : α) (l : List α) (i j : Nat) (hi : i < l.length) (hj : j < k) : (listC c l)[i * k + j]? = (c (l.getD i d))[j]? := by
  have h1 := listC_drop (c := c) hk l i
  have h2 : (listC c l)[i * k + j]? = ((listC c l).drop (i * k))[j]? := by rw [List.getElem?_drop]
  rw [h2, h1, List.drop_eq_getElem_cons hi, show l[i] :: l.drop (i + 1) = [l[i]] ++ l.drop (i + 1) from rfl, listC_app, listC_one, List.getElem?_append_left (by rw [hk]; exact hj)]
  simp [List.getD_eq_getElem?_getD, List.getElem?_eq_getElem hi]
theorem listC_all {p : Value → Prop} (h : ∀ a, ∀ u ∈ c a, p u) (l : List α) : ∀ u ∈ listC c l, p u := by
  intro u hu
  simp only [listC, List.mem_flatMap] at hu
  obtain ⟨a, _, ha⟩ := hu
  exact h a u ha
end
/-- s[:i] -/
theorem cut_to {P : Program} {α : Type} {c : α → List Value} {k : Nat} (hk : ∀ a, (c a).length = k) (T : TypeId) (hu : P.underlying T = some (.slice (P.elem T))) (hz : ∀ w : World, (sizeOf (P.elem T)).run P w = .ok k w) (o : Option Addr) (ln cap i : Nat) (h1 : i ≤ cap) :
    ∃ y, (∀ w : World, (Instr.sliceAt T (.slice o ln cap) none (some (.int .i64 (i : Int))) none).run P w = .ok y w) ∧
    ∀ (w : World) (l : List α), Src w (.slice o ln cap) ln k (listC c l) → i ≤ l.length → l.length = ln → Src w y i k (listC c (l.take i)) := by
  refine ⟨.slice (if cap = 0 then o else o.map (·.add (0 * k))) (i - 0) (cap - 0), fun w => ?_, fun w l hs hi hl => ?_⟩
  · rw [run_sliceAt_slice w _ _ _ _ _ hu, run_slice_h w _ _ _ _ hu _ _ (by omega) (by omega), hz]
    simp [sliced]
  · rcases hs with ⟨h, rfl, h3⟩ | ⟨b, off, q, h, h2, h3⟩
    · simp at h
      obtain ⟨rfl, rfl⟩ := h
      have : i = 0 := by omega
      subst this
      exact .inl ⟨by simp, rfl, by simp [listC]⟩
    · simp at h
      obtain ⟨rfl, rfl⟩ := h
      refine .inr ⟨b, off, cap, by simp [Option.map, add_mid0], by rw [listC_len hk, List.length_take, Nat.min_eq_left hi], fun j u hu => h3 j u ?_⟩
      rw [← listC_take hk, List.getElem?_take] at hu
      split at hu
      · exact hu
      · cases hu
/-- s[i:] -/
theorem cut_from {P : Program} {α : Type} {c : α → List Value} {k : Nat} (hk : ∀ a, (c a).length = k) (T : TypeId) (hu : P.underlying T = some (.slice (P.elem T))) (hz : ∀ w : World, (sizeOf (P.elem T)).run P w = .ok k w) (o : Option Addr) (ln cap i : Nat) (h1 : i ≤ ln) (h2 : ln ≤ cap) :
    ∃ y, (∀ w : World, (Instr.sliceAt T (.slice o ln cap) (some (.int .i64 (i : Int))) none none).run P w = .ok y w) ∧
    ∀ (w : World) (l : List α), Src w (.slice o ln cap) ln k (listC c l) → l.length = ln → Src w y (ln - i) k (listC c (l.drop i)) := by
  refine ⟨.slice (if cap = i then o else o.map (·.add (i * k))) (ln - i) (cap - i), fun w => ?_, fun w l hs hl => ?_⟩
  · rw [run_sliceAt_slice w _ _ _ _ _ hu, run_slice_l w _ _ _ _ hu _ _ (by omega) (by omega), hz]
    simp [sliced]
  · rcases hs with ⟨h, rfl, h3⟩ | ⟨b, off, q, h, h4, h3⟩
    · simp at h
      obtain ⟨rfl, rfl⟩ := h
      have : i = 0 := by omega
      subst this
      exact .inl ⟨by simp, rfl, by simp; exact h3⟩
    · simp at h
      obtain ⟨rfl, rfl⟩ := h
      by_cases hci : cap = i
      · have hz : ln - i = 0 := by omega
        have hd : l.drop i = [] := List.drop_eq_nil_of_le (by omega)
        refine .inr ⟨b, off, cap - i, by simp [hci], by rw [hd, hz]; simp [listC], fun j u hu => ?_⟩
        rw [hd] at hu
        simp [listC] at hu
      · refine .inr ⟨b, off + i * k, cap - i, by simp [hci, add_mid0], by rw [listC_len hk, List.length_drop, hl], fun j u hu => ?_⟩
        rw [Nat.add_assoc]
        refine h3 (i * k + j) u ?_
        rw [← listC_drop hk, List.getElem?_drop] at hu
        exact hu
theorem cut_cap {w : World} {base sz k n cap : Nat} {e : TypeId} {o : Option Addr} {xs : List Value} (h : w.ownsRow base e sz (.slice o n cap) k xs) : k ≤ cap := by
  rcases h.2 with ⟨h1, h2⟩ | ⟨g, cap', cur, h1, _, _, h3, _⟩
  · omega
  · simp at h1; omega
/-- onto a new empty slice: nothing that was there has turned -/
theorem cut_upd {wr w4 : World} {e : TypeId} (g4 : ((wr.alloc (.cells #[] e)).drew).grownBy w4 (Value.slice (some ⟨wr.heap.size, 0, none⟩) 0 0).ownBlock) : Upd (fun _ => False) wr w4 := by
  refine ⟨g4.os, g4.tape, g4.output, by have := g4.size; simp at this; omega, fun k hk _ => ?_⟩
  rw [g4.block k (by simp; omega) (fun e' => by simp [Value.ownBlock] at e'; omega)]
  exact Below.heap_alloc _ _ _ hk
theorem cut_upd2 {wr w4 w5 : World} {v : Value} (u : Upd (fun _ => False) wr w4) (g5 : w4.grownBy w5 v.ownBlock) (h4 : ∀ k, v.ownBlock = some k → wr.heap.size ≤ k) : Upd (fun _ => False) wr w5 :=
  ⟨g5.os.trans u.os, g5.tape.trans u.tape, g5.output.trans u.output, Nat.le_trans u.size g5.size, fun k hk _ => (g5.block k (Nat.lt_of_lt_of_le hk u.size) (fun e' => by have := h4 k e'.symm; omega)).trans (u.block k hk (fun h => h))⟩
/-- 'append([]T{}, ..)': the new empty slice -/
theorem cut_made (w : World) (e : TypeId) (sz : Nat) : (((w.alloc (.cells #[] e)).drew).ownsRow w.heap.size e sz (.slice (some ⟨w.heap.size, 0, none⟩) 0 0) 0 []) :=
  ⟨by simp, .inr ⟨w.heap.size, 0, #[], rfl, Nat.le_refl _, heap_alloc_last w _, Nat.le_refl _, Nat.zero_le _, by simp, by simp⟩⟩
theorem cut_row {w : World} {base sz k : Nat} {e : TypeId} {v : Value} {xs : List Value} (h : w.ownsRow base e sz v k xs) (o : Obj) : ((w.alloc o).drew).ownsRow base e sz v k xs := rows_kept (S := fun _ => False) h ((Upd.refl _ _).alloc _).drew fun _ _ h => h
theorem cut_base {w : World} {b b' sz k : Nat} {e : TypeId} {v : Value} {xs : List Value} (h : w.ownsRow b e sz v k xs) (hb : b' ≤ b) : w.ownsRow b' e sz v k xs := by
  refine ⟨h.1, ?_⟩
  rcases h.2 with hn | ⟨g, cap, cur, h1, h2, rest⟩
  · exact .inl hn
  · exact .inr ⟨g, cap, cur, h1, Nat.le_trans hb h2, rest⟩
end Go.Proofs.Ytmalfdbjbgifeaa

/-
  Package asid: the tags that are given now, and all that were told, as lists.
-/
namespace Go.Proofs.Ytmalfdbjbgifeaa
open Go.ChangeShapes Go.WideShapes Go.ChangeAt Go.RowKit Go.Maps

def tagC (x : Nat × Nat) : List Value := [.int .i64 (x.1 : Int), .int .i64 (x.2 : Int)]
theorem tagC_len (x : Nat × Nat) : (tagC x).length = 2 := rfl
theorem tagC_one (x : Nat × Nat) : ∀ u ∈ tagC x, u.oneCell' = true := by intro u hu; simp [tagC] at hu; rcases hu with rfl | rfl <;> rfl
theorem tags_at {w : World} {base k cap : Nat} {e : TypeId} {o : Option Addr} {l : List (Nat × Nat)} (h : w.ownsRow base e 2 (.slice o k cap) k (listC tagC l)) (hk : l.length = k) (i : Nat) (hi : i < k) :
    ∃ g, o = some ⟨g, 0, none⟩ ∧ base ≤ g ∧ w.cell? ⟨g, i * 2, none⟩ = some (.int .i64 ((l.getD i (0, 0)).1 : Int)) ∧ w.cell? ⟨g, i * 2 + 1, none⟩ = some (.int .i64 ((l.getD i (0, 0)).2 : Int)) := by
  obtain ⟨g, rfl, hc⟩ := rows_at h (by omega)
  exact ⟨g, rfl, (h.lt g rfl).1, hc (i * 2) _ (by have := listC_get tagC_len (0, 0) l i 0 (by omega) (by omega); rwa [Nat.add_zero] at this), hc (i * 2 + 1) _ (listC_get tagC_len (0, 0) l i 1 (by omega) (by omega))⟩
/-- the tags that are given (Lv) and those that were told (Td) -/
structure TagInv (n K : Nat) (p : Po) (Lv Td : List (Nat × Nat)) : Prop where
  hn : p.n = n
  top : p.top K
  lv : Lv.Perm (p.ls true)
  td : ∀ x, x ∈ Td → ∃ i, i < n ∧ x.1 = i + 1 ∧ x.2 ≤ p.u i
  tl : Td.length ≤ K
theorem TagInv.zero (n : Nat) : TagInv n 0 (po0 n) [] [] := ⟨rfl, top_po0 n, by rw [po0_ls1], fun x hx => absurd hx List.not_mem_nil, Nat.le_refl _⟩
theorem TagInv.len {n K : Nat} {p : Po} {Lv Td : List (Nat × Nat)} (h : TagInv n K p Lv Td) : p.left + Lv.length = n := by
  rw [h.lv.length_eq, Po.ls_len, ← h.hn]
  exact p.counts
theorem TagInv.le {n K : Nat} {p : Po} {Lv Td : List (Nat × Nat)} (h : TagInv n K p Lv Td) : Lv.length ≤ n := by have := h.len; omega
theorem TagInv.full {n K : Nat} {p : Po} {Lv Td : List (Nat × Nat)} (h : TagInv n K p Lv Td) (hb : p.best = none) : Lv.length = n := by have := h.len; have := Po.best_none hb; omega
theorem TagInv.stay {n K : Nat} {p : Po} {Lv Td : List (Nat × Nat)} (h : TagInv n K p Lv Td) : TagInv n (K + 1) p Lv Td := ⟨h.hn, Po.top_succ h.top, h.lv, h.td, Nat.le_succ_of_le h.tl⟩
theorem TagInv.new {n K : Nat} {p : Po} {Lv Td : List (Nat × Nat)} (h : TagInv n K p Lv Td) {c : Nat} (hc : c < p.n) (hg : p.g c = false) :
    TagInv n (K + 1) (p.take c) (Lv ++ [(c + 1, p.u c + 1)]) (Td ++ [(c + 1, p.u c + 1)]) ∧ (∀ x, x ∈ Td → ¬ (x.1 = c + 1 ∧ x.2 = p.u c + 1)) ∧ (∀ x, x ∈ Lv → x.1 ≠ c + 1) ∧ Lv.length < n := by
  refine ⟨⟨h.hn, Po.top_take h.top c, (h.lv.append_right _).trans (Po.take_yes hc hg), fun x hx => ?_, ?_⟩, fun x hx e => ?_, fun x hx e => ?_, ?_⟩
  · have mono : ∀ i, p.u i ≤ (p.take c).u i := fun i => by
      show p.u i ≤ updP p.u c (p.u c + 1) i
      by_cases e : i = c
      · subst e; rw [updP_same]; omega
      · rw [updP_other e]; omega
    rcases List.mem_append.1 hx with hx | hx
    · obtain ⟨i, i1, i2, i3⟩ := h.td x hx
      exact ⟨i, i1, i2, Nat.le_trans i3 (mono i)⟩
    · simp only [List.mem_singleton] at hx
      subst hx
      exact ⟨c, by have := h.hn; omega, rfl, by show _ ≤ updP p.u c (p.u c + 1) c; rw [updP_same]; exact Nat.le_refl _⟩
  · rw [List.length_append]; have := h.tl; simp; omega
  · obtain ⟨i, i1, i2, i3⟩ := h.td x hx
    obtain rfl : i = c := by omega
    omega
  · obtain ⟨i, i1, i2, rfl⟩ := Po.mem_ls.1 (h.lv.mem_iff.1 hx)
    obtain rfl : i = c := by simp only at e; omega
    rw [hg] at i2; cases i2
  · have h1 := h.len
    have := (Po.take_left hc hg)
    omega
theorem TagInv.at {n K : Nat} {p : Po} {Lv Td : List (Nat × Nat)} (h : TagInv n K p Lv Td) {j : Nat} (hj : j < Lv.length) :
    ∃ c, c < p.n ∧ p.g c = true ∧ Lv.getD j (0, 0) = (c + 1, p.u c) ∧ p.at ((Lv.getD j (0, 0)).1 : Int) ((Lv.getD j (0, 0)).2 : Int) = some c := by
  have hm : Lv.getD j (0, 0) ∈ Lv := by rw [List.getD_eq_getElem?_getD, List.getElem?_eq_getElem hj]; exact List.getElem_mem _
  obtain ⟨c, c1, c2, e⟩ := Po.mem_ls.1 (h.lv.mem_iff.1 hm)
  exact ⟨c, c1, c2, e, by rw [e]; exact Po.at_of c1 c2⟩
theorem TagInv.gone {n K : Nat} {p : Po} {Lv Td : List (Nat × Nat)} (h : TagInv n K p Lv Td) {j c : Nat} (hj : j < Lv.length) (hc : c < p.n) (hg : p.g c = true) (e : Lv.getD j (0, 0) = (c + 1, p.u c)) :
    TagInv n (K + 1) (p.back c) (Lv.take j ++ Lv.drop (j + 1)) Td ∧ (p.back c).at ((c + 1 : Nat) : Int) (p.u c : Int) = none := by
  refine ⟨⟨h.hn, Po.top_back h.top c, ?_, h.td, Nat.le_succ_of_le h.tl⟩, ?_⟩
  · have hL : Lv = Lv.take j ++ (c + 1, p.u c) :: Lv.drop (j + 1) := by
      have := (List.take_append_drop j Lv).symm
      rwa [List.drop_eq_getElem_cons hj, show Lv[j] = (c + 1, p.u c) from by rw [← e]; simp [List.getD_eq_getElem?_getD, List.getElem?_eq_getElem hj]] at this
    have h1 : Lv.Perm ((c + 1, p.u c) :: (Lv.take j ++ Lv.drop (j + 1))) := by
      conv => lhs; rw [hL]
      exact List.perm_middle
    have h2 := (h1.symm.trans h.lv).erase (c + 1, p.u c)
    rw [List.erase_cons_head] at h2
    exact h2.trans (Po.back_yes hc hg)
  · cases hat : (p.back c).at ((c + 1 : Nat) : Int) (p.u c : Int) with
    | none => rfl
    | some d =>
      obtain ⟨e1, _, _, e4⟩ := Po.at_some hat
      obtain rfl : d = c := by omega
      have : updP p.g d false d = true := e4
      rw [updP_same] at this
      cases this
theorem info_tag : (Try.prog.info? 33).map (fun i => (i.zero, i.size, i.bytes)) = some (some (.agg #[.int .i64 0, .int .i64 0]), 2, 16) := by kernel_rfl
theorem run_size_tags (w : World) : (sizeOf (Try.prog.elem 31)).run Try.prog w = .ok 2 w := by kernel_rfl
end Go.Proofs.Ytmalfdbjbgifeaa

/-
  The document's own pool: where it lies; New, Lives, Left.
-/
namespace Go.Proofs.Ytmalfdbjbgifeaa
open Go.ChangeShapes Go.WideShapes Go.ChangeAt Go.RowKit

def uC (n : Nat) (u : Nat → Nat) : List Value := (List.range n).map fun i => .int .i64 (u i : Int)
def gC (n : Nat) (g : Nat → Bool) : List Value := (List.range n).map fun i => .bool (g i)
theorem uC_len (n : Nat) (u : Nat → Nat) : (uC n u).length = n := by simp [uC]
theorem gC_len (n : Nat) (g : Nat → Bool) : (gC n g).length = n := by simp [gC]
theorem uC_set (n : Nat) (u : Nat → Nat) (i v : Nat) : (uC n u).set i (.int .i64 (v : Int)) = uC n (updP u i v) := by
  apply List.ext_getElem
  · simp [uC]
  · intro j h1 h2
    simp only [uC, List.getElem_set, List.getElem_map, List.getElem_range, updP]
    by_cases h : i = j
    · simp [h]
    · rw [if_neg h, if_neg (fun e => h e.symm)]
theorem gC_set (n : Nat) (g : Nat → Bool) (i : Nat) (v : Bool) : (gC n g).set i (.bool v) = gC n (updP g i v) := by
  apply List.ext_getElem
  · simp [gC]
  · intro j h1 h2
    simp only [gC, List.getElem_set, List.getElem_map, List.getElem_range, updP]
    by_cases h : i = j
    · simp [h]
    · rw [if_neg h, if_neg (fun e => h e.symm)]
/-- the document's pool lies at C, its numbers at UB, which are given at GB -/
structure RPo (w : World) (C UB GB : Nat) (p : Po) : Prop where
  head : w.heap[C]? = some (.cells #[.slice (some ⟨UB, 0, none⟩) p.n p.n, .slice (some ⟨GB, 0, none⟩) p.n p.n] 55 (0, 0))
  ub : w.heap[UB]? = some (.cells (uC p.n p.u).toArray 3 (0, 0))
  gb : w.heap[GB]? = some (.cells (gC p.n p.g).toArray 4 (0, 0))
  hi : p.n ≤ 8
theorem RPo.c0 {w : World} {C UB GB : Nat} {p : Po} (h : RPo w C UB GB p) : w.cell? ⟨C, 0, none⟩ = some (.slice (some ⟨UB, 0, none⟩) p.n p.n) := by rw [cell_of_row w C 0 _ _ _ h.head]; rfl
theorem RPo.c1 {w : World} {C UB GB : Nat} {p : Po} (h : RPo w C UB GB p) : w.cell? ⟨C, 1, none⟩ = some (.slice (some ⟨GB, 0, none⟩) p.n p.n) := by rw [cell_of_row w C 1 _ _ _ h.head]; rfl
theorem RPo.u {w : World} {C UB GB : Nat} {p : Po} (h : RPo w C UB GB p) (i : Nat) (hi : i < p.n) : w.cell? ⟨UB, i, none⟩ = some (.int .i64 (p.u i : Int)) := by
  rw [cell_of_row w UB i _ _ _ h.ub, List.getElem?_toArray]
  simp [uC, hi]
theorem RPo.g {w : World} {C UB GB : Nat} {p : Po} (h : RPo w C UB GB p) (i : Nat) (hi : i < p.n) : w.cell? ⟨GB, i, none⟩ = some (.bool (p.g i)) := by
  rw [cell_of_row w GB i _ _ _ h.gb, List.getElem?_toArray]
  simp [gC, hi]
theorem RPo.kept {S : Nat → Prop} {w w' : World} {C UB GB : Nat} {p : Po} (h : RPo w C UB GB p) (x : Upd S w w') (h1 : ¬ S C) (h2 : ¬ S UB) (h3 : ¬ S GB) : RPo w' C UB GB p := ⟨x.at h.head h1, x.at h.ub h2, x.at h.gb h3, h.hi⟩
theorem RPo.still {w w' : World} {C UB GB : Nat} {p : Po} (h : RPo w C UB GB p) (x : Upd (fun _ => False) w w') : RPo w' C UB GB p := h.kept x id id id
theorem RPo.lts {w : World} {C UB GB : Nat} {p : Po} (h : RPo w C UB GB p) : C < w.heap.size ∧ UB < w.heap.size ∧ GB < w.heap.size := ⟨lt_of_heap h.head, lt_of_heap h.ub, lt_of_heap h.gb⟩
theorem RPo.ne {w : World} {C UB GB : Nat} {p : Po} (h : RPo w C UB GB p) : C ≠ UB ∧ C ≠ GB ∧ UB ≠ GB := by
  refine ⟨fun e => ?_, fun e => ?_, fun e => ?_⟩
  · have h1 := h.head; rw [e, h.ub] at h1; simp at h1
  · have h1 := h.head; rw [e, h.gb] at h1; simp at h1
  · have h1 := h.ub; rw [e, h.gb] at h1; simp at h1
theorem rtag_box (w : World) (a t : Int) : TagAt 38 (w.alloc (.cells #[.int .i64 a, .int .i64 t] 38)) w.heap.size a t ∧ Upd (fun _ => False) w (w.alloc (.cells #[.int .i64 a, .int .i64 t] 38)) :=
  ⟨heap_alloc_last w _, (Upd.refl _ _).alloc _⟩
theorem size_rtag : (Try.prog.info? 38).map (·.size) = some 2 := by kernel_rfl
theorem ret_rtag {fn : Func} {p u : Tmp} (h : fn.results = #[.cell p 38, .tmp u]) (tmps : Array Value) (w : World) (b : Nat) (a t : Int) (hp : tmps.getD p undef = .pointer (some ⟨b, 0, none⟩)) (he : TagAt 38 w b a t) :
    (results fn tmps).run Try.prog w = .ok (.tuple #[tagV a t, tmps.getD u undef]) w := by
  rw [results_cell_tmp h, hp]
  have := run_loadVar_mid w b 0 38 [.int .i64 a, .int .i64 t] _ he.range Try.underlying38 rfl size_rtag
  simp only [asAddr, Sem.run_pure, Result.andThen_ok]
  rw [this]
  rfl
set_option maxHeartbeats 400000 in
theorem rnew10_no (m : Int) (w : World) (hm : m < 1 ∨ 8 < m) : Calls Try.prog 8 #[.int .i64 m] w fun e w' => e = .returned (.tuple #[.pointer none, .int .i64 1]) ∧ w = w' := by
  by_cases h0 : m < 1
  · clear hm
    go_enter Try.func8, Try.ntmps8
    go_wp2
    go_ret2
    exact ⟨rfl, rfl⟩
  · have h1 : 8 < m := by omega
    clear hm
    go_enter Try.func8, Try.ntmps8
    go_wp2
    go_ret2
    exact ⟨rfl, rfl⟩
set_option maxHeartbeats 1000000 in
theorem rlives_any (C UB GB : Nat) (p : Po) (a t : Int) (hwf : -9223372036854775808 ≤ a ∧ a ≤ 9223372036854775807) (w : World) (h : RPo w C UB GB p) :
    Calls Try.prog 16 #[.pointer (some ⟨C, 0, none⟩), tagV a t] w fun e w' => e = .returned (.bool (p.at a t).isSome) ∧ Upd (fun _ => False) w w' := by
  obtain ⟨t1, t2⟩ := rtag_box w a t
  have h1 := h.still t2
  have hc0 := h1.c0
  have hc1 := h1.c1
  have T0 := t1.c0
  have T1 := t1.c1
  have hU := Lib.hid t2
  by_cases g1 : 1 ≤ a
  · by_cases g2 : a ≤ (p.n : Int)
    · obtain ⟨i, hi⟩ : ∃ i : Nat, a = (i : Int) + 1 := ⟨(a - 1).toNat, by omega⟩
      subst hi
      have hin : i < p.n := by omega
      have hiI : (i : Int) < (p.n : Int) := by omega
      have hn8 := h.hi
      have ci := h1.u i hin
      have di := h1.g i hin
      have hw : IntKind.i64.wrap ((i : Int) + 1 - 1) = (i : Int) := by rw [IntWalk.i64_in _ (by omega)]; omega
      have hw' : IntKind.i64.wrap ((i : Int)) = (i : Int) := by rw [IntWalk.i64_in _ (by omega)]
      have hv := Lib.hid (show (p.at ((i : Int) + 1) t).isSome = (p.g i && ((p.u i : Int) == t)) from by
        unfold Po.at
        have e : ((i : Int) + 1).toNat - 1 = i := by omega
        rw [e]
        by_cases c1 : p.g i = true
        · by_cases c2 : (p.u i : Int) = t
          · rw [if_pos ⟨by omega, by omega, c1, c2⟩, c1, c2]; simp
          · rw [if_neg (fun h => c2 h.2.2.2), c1, beq_false_of_ne c2]; rfl
        · rw [if_neg (fun h => c1 h.2.2.1)]
          have : p.g i = false := by simpa using c1
          rw [this]; rfl)
      generalize p.u i = ui at ci hv
      generalize p.g i = gi at di hv
      clear h1 h t1 t2 hwf
      cases gi
      · go_enter Try.func16, Try.ntmps16
        go_wp2
        go_quiet (fail)
        go_wp2
        go_ret
        exact ⟨by rw [hv.out]; rfl, hU.out.drewN _⟩
      · go_enter Try.func16, Try.ntmps16
        go_wp2
        go_quiet (fail)
        go_wp2
        go_ret
        exact ⟨by rw [hv.out]; rfl, hU.out.drewN _⟩
    · have hv := Lib.hid (show (p.at a t).isSome = false from by unfold Po.at; rw [if_neg (by omega)]; rfl)
      have hw := IntWalk.i64_in (a - 1) (by omega)
      have b1 : decide (1 ≤ a) = true := decide_eq_true g1
      have b2 : decide (a ≤ (p.n : Int)) = false := decide_eq_false g2
      clear h1 h t1 t2 hwf
      go_enter Try.func16, Try.ntmps16
      go_wp2
      go_quiet (fail)
      go_wp2
      go_ret
      exact ⟨by rw [hv.out]; rfl, hU.out.drewN _⟩
  · have hv := Lib.hid (show (p.at a t).isSome = false from by unfold Po.at; rw [if_neg (by omega)]; rfl)
    have b1 : decide (1 ≤ a) = false := decide_eq_false g1
    clear h1 h t1 t2 hwf
    go_enter Try.func16, Try.ntmps16
    go_wp2
    go_quiet (fail)
    go_wp2
    go_ret
    exact ⟨by rw [hv.out]; rfl, hU.out.drewN _⟩
/-- how many of the first k are not given -/
def cntG (g : Nat → Bool) (k : Nat) : Nat := ((List.range k).filter fun i => g i == false).length
theorem cntG_succ (g : Nat → Bool) (k : Nat) : cntG g (k + 1) = cntG g k + (if g k = false then 1 else 0) := by
  unfold cntG
  rw [List.range_succ, List.filter_append, List.length_append]
  cases h : g k <;> simp [h]
theorem cntG_le (g : Nat → Bool) (k : Nat) : cntG g k ≤ k := by
  have := List.length_filter_le (fun i => g i == false) (List.range k)
  rwa [List.length_range] at this
set_option maxHeartbeats 400000 in
theorem rleft10_any (C UB GB : Nat) (p : Po) (w : World) (h : RPo w C UB GB p) :
    Calls Try.prog 14 #[.pointer (some ⟨C, 0, none⟩)] w fun e w' => e = .returned (.int .i64 p.left) ∧ w = w' := by
  have hc1 := h.c1
  have hn8 := h.hi
  have hcell := fun j hj => h.g j hj
  have hv := Lib.hid (show p.left = cntG p.g p.n from rfl)
  clear h
  go_enter Try.func14, Try.ntmps14
  go_wp2
  go_loop [3, 4] (fun s t => ∃ j : Nat, j ≤ p.n ∧ t = .int .i64 j ∧ s = .int .i64 (cntG p.g j : Int)) (fun _ t => p.n - (intOf t).toNat)
  case atStart => exact ⟨0, by omega, rfl, rfl⟩
  case round =>
    obtain ⟨j, hj, rfl, rfl⟩ := hrel
    by_cases hlt : j < p.n
    · have hcj := hcell j hlt
      have hs := Lib.hid (cntG_succ p.g j)
      have hcl := cntG_le p.g j
      generalize cntG p.g j = c at hs hcl ⊢
      generalize p.g j = x at hcj hs
      clear hcell
      cases x
      · go_wp2
        exact ⟨⟨j + 1, by omega, by go_num, by rw [hs.out, if_pos rfl]; rfl⟩, by simp [intOf]; omega⟩
      · go_wp2
        exact ⟨⟨j + 1, by omega, by go_num, by rw [hs.out, if_neg (by decide)]; rfl⟩, by simp [intOf]; omega⟩
    · have e : j = p.n := by omega
      subst e
      clear hcell
      generalize cntG p.g p.n = c at hv ⊢
      go_wp2
      go_ret
      exact ⟨by rw [hv.out]; rfl, rfl⟩
end Go.Proofs.Ytmalfdbjbgifeaa

/-
  The document's own pool: New, Back, Take.
-/
namespace Go.Proofs.Ytmalfdbjbgifeaa
open Go.ChangeShapes Go.WideShapes Go.ChangeAt Go.RowKit

set_option maxHeartbeats 1000000 in
theorem rback10_any (C UB GB : Nat) (p : Po) (a t : Int) (hwf : -9223372036854775808 ≤ a ∧ a ≤ 9223372036854775807) (w : World) (h : RPo w C UB GB p) :
    Calls Try.prog 12 #[.pointer (some ⟨C, 0, none⟩), tagV a t] w fun e w' =>
      (p.at a t = none ∧ e = .returned (.int .i64 2) ∧ Upd (fun _ => False) w w') ∨
      (∃ c, p.at a t = some c ∧ e = .returned (.int .i64 0) ∧ RPo w' C UB GB (p.back c) ∧ Upd (· = GB) w w') := by
  obtain ⟨t1, t2⟩ := rtag_box w a t
  obtain ⟨w1, hw⟩ : ∃ w1, w.alloc (.cells #[.int .i64 a, .int .i64 t] 38) = w1 := ⟨_, rfl⟩
  rw [hw] at t1 t2
  have hw1 := Lib.hid hw
  have h1 := h.still t2
  have hl := h.lts
  have hrg := Lib.hid t1.range
  have HL := Lib.hid (rlives_any C UB GB p a t hwf w1 h1)
  cases hb : p.at a t with
  | none =>
    rw [hb] at HL
    clear hw hb hwf
    go_enter Try.func12, Try.ntmps12
    go_upto_region 1 with fail
    rw [hw1.out]
    generalize w.heap.size = R at t1 hl hrg ⊢
    go_wp2_with (with_reducible refine wpList_load_sz rfl 38 (.tmp 3) rfl R 0 rfl [.int .i64 a, .int .i64 t] _ hrg.out Try.underlying38 rfl 2 rfl size_rtag ?_)
    refine HL.out.mono ?_
    rintro e w2 ⟨rfl, U2⟩
    go_wp2
    go_ret
    exact .inl ⟨trivial, rfl, t2.trans U2⟩
  | some c =>
    obtain ⟨e1, e2, c1, c2⟩ := Po.at_some hb
    obtain ⟨X, hX⟩ : ∃ X, c + 1 = X := ⟨_, rfl⟩
    rw [hX] at e1
    subst e1
    have HX := Lib.hid hX
    have hn8 := h.hi
    rw [hb] at HL
    clear hw hb hwf hX e2
    go_enter Try.func12, Try.ntmps12
    go_upto_region 1 with fail
    rw [hw1.out]
    generalize w.heap.size = R at t1 hl hrg ⊢
    go_wp2_with (with_reducible refine wpList_load_sz rfl 38 (.tmp 3) rfl R 0 rfl [.int .i64 (X : Int), .int .i64 t] _ hrg.out Try.underlying38 rfl 2 rfl size_rtag ?_)
    refine HL.out.mono ?_
    rintro e w3 ⟨rfl, U2⟩
    have U3 := t2.trans U2
    have h3 := h1.still U2
    have k1 := t1.kept U2 id
    clear t1 t2 U2 h1 HL hrg
    go_upto_region 3 with fail
    refine wp_region_tail 8 (by kernel_rfl) (by kernel_rfl) ?_
    simp only [List.take_succ_cons, List.take_zero, List.drop_succ_cons, List.drop_zero]
    intro w4 hw4
    have u4 := (Upd.refl (fun _ => False) w3).drew
    rw [← hw4] at u4
    clear hw4
    have h4 := h3.still u4
    have k4 := k1.kept u4 id
    have U4 := U3.trans u4
    clear h3 k1 U3 u4
    have a0 := h4.c1
    have b0 := k4.c0
    have g0 := h4.g c c1
    have hfz := frozen_block h4.gb c
    have hset := Lib.hid (show (w4.setCell ⟨GB, c, none⟩ (.bool false)).heap[GB]? = some (.cells (gC p.n (updP p.g c false)).toArray 4 (0, 0)) from by rw [heap_setCell_same h4.gb c, gC_set])
    have cI : (c : Int) < (p.n : Int) := by omega
    have hwr : IntKind.i64.wrap ((X : Int) - 1) = (c : Int) := by have := HX.out; rw [IntWalk.i64_in _ (by omega)]; omega
    have cI0 : (0 : Int) ≤ (c : Int) := by omega
    repeat still_step
    refine wpStill_nil ?_
    go_wp2
    go_ret
    obtain ⟨n1, n2, n3⟩ := h4.ne
    refine .inr ⟨c, rfl, rfl, ⟨(Below.heap_setCell _ _ _ _ n2).trans h4.head, (Below.heap_setCell _ _ _ _ n3).trans h4.ub, hset.out, h4.hi⟩, ?_⟩
    exact (U4.mono (T := (· = GB)) fun _ _ x => x.elim).setCell (.inl rfl) _
theorem infoI : (Try.prog.info? 3).map (fun i => (i.zero, i.size, i.bytes)) = some (some (.int .i64 0), 1, 8) := by kernel_rfl
theorem infoB : (Try.prog.info? 4).map (fun i => (i.zero, i.size, i.bytes)) = some (some (.bool false), 1, 1) := by kernel_rfl
theorem uC_zero (n : Nat) : (uC n fun _ => 0) = List.replicate n (.int .i64 0) := by
  apply List.ext_getElem
  · simp [uC]
  · intro i h1 h2
    simp [uC]
theorem gC_zero (n : Nat) : (gC n fun _ => false) = List.replicate n (.bool false) := by
  apply List.ext_getElem
  · simp [gC]
  · intro i h1 h2
    simp [gC]
theorem three_blocks (w : World) (o1 o2 o3 : Array Value) (t1 t2 t3 : TypeId) :
    (((w.alloc (.cells o1 t1)).alloc (.cells o2 t2)).alloc (.cells o3 t3)).drew.heap[w.heap.size]? = some (.cells o1 t1 (0, 0)) ∧
    (((w.alloc (.cells o1 t1)).alloc (.cells o2 t2)).alloc (.cells o3 t3)).drew.heap[w.heap.size + 1]? = some (.cells o2 t2 (0, 0)) ∧
    (((w.alloc (.cells o1 t1)).alloc (.cells o2 t2)).alloc (.cells o3 t3)).drew.heap[w.heap.size + 1 + 1]? = some (.cells o3 t3 (0, 0)) ∧
    Upd (fun _ => False) w (((w.alloc (.cells o1 t1)).alloc (.cells o2 t2)).alloc (.cells o3 t3)).drew := by
  refine ⟨?_, ?_, ?_, ((((Upd.refl _ _).alloc _).alloc _).alloc _).drew⟩
  · show (((w.alloc (.cells o1 t1)).alloc (.cells o2 t2)).alloc (.cells o3 t3)).heap[w.heap.size]? = _
    rw [Below.heap_alloc _ _ _ (by simp; omega), Below.heap_alloc _ _ _ (by simp)]
    exact heap_alloc_last w _
  · show (((w.alloc (.cells o1 t1)).alloc (.cells o2 t2)).alloc (.cells o3 t3)).heap[w.heap.size + 1]? = _
    rw [Below.heap_alloc _ _ _ (by simp)]
    have := heap_alloc_last (w.alloc (.cells o1 t1)) (.cells o2 t2)
    rwa [World.size_alloc] at this
  · show (((w.alloc (.cells o1 t1)).alloc (.cells o2 t2)).alloc (.cells o3 t3)).heap[w.heap.size + 1 + 1]? = _
    have := heap_alloc_last ((w.alloc (.cells o1 t1)).alloc (.cells o2 t2)) (.cells o3 t3)
    rwa [World.size_alloc, World.size_alloc] at this
set_option maxRecDepth 100000 in
set_option maxHeartbeats 1000000 in
theorem rnew10_yes (n : Nat) (w : World) (h1 : 1 ≤ n) (h8 : n ≤ 8) :
    Calls Try.prog 8 #[.int .i64 n] w fun e w' => ∃ C UB GB, e = .returned (.tuple #[.pointer (some ⟨C, 0, none⟩), .int .i64 0]) ∧ RPo w' C UB GB (po0 n) ∧ w.heap.size ≤ C ∧ w.heap.size ≤ UB ∧ w.heap.size ≤ GB ∧ Upd (fun _ => False) w w' := by
  obtain ⟨i1, hi1, hz1, hs1, hb1⟩ := info_parts infoI
  obtain ⟨i2, hi2, hz2, hs2, hb2⟩ := info_parts infoB
  have m1 : ∀ w : World, (Instr.makeSlice 47 (.int .i64 (n : Int)) (.int .i64 (n : Int))).run Try.prog w = .ok (.slice (some ⟨w.heap.size, 0, none⟩) n n) (w.alloc (.cells (uC n fun _ => 0).toArray 3)) := fun w => by
    have := run_make (P := Try.prog) w 47 3 i1 _ Try.underlying47 hi1 hz1 .i64 .i64 (n : Int) (n : Int) (by omega) (Int.le_refl _) (by rw [hb1]; omega) (by omega)
    rw [this, hs1]
    simp only [Int.toNat_natCast]
    rw [uC_zero, Nat.mul_one, show madeCells (Value.int .i64 0).cells n = (List.replicate n (.int .i64 0)).toArray from by have := madeCells_same (.int .i64 0) 1 n (by decide); exact this]
  have m2 : ∀ w : World, (Instr.makeSlice 53 (.int .i64 (n : Int)) (.int .i64 (n : Int))).run Try.prog w = .ok (.slice (some ⟨w.heap.size, 0, none⟩) n n) (w.alloc (.cells (gC n fun _ => false).toArray 4)) := fun w => by
    have := run_make (P := Try.prog) w 53 4 i2 _ Try.underlying53 hi2 hz2 .i64 .i64 (n : Int) (n : Int) (by omega) (Int.le_refl _) (by rw [hb2]; omega) (by omega)
    rw [this, hs2]
    simp only [Int.toNat_natCast]
    rw [gC_zero, Nat.mul_one, show madeCells (Value.bool false).cells n = (List.replicate n (.bool false)).toArray from by have := madeCells_same (.bool false) 1 n (by decide); exact this]
  generalize hu : (uC n fun _ => 0).toArray = UC at m1
  generalize hg : (gC n fun _ => false).toArray = GC at m2
  have HU := Lib.hid hu
  have HG := Lib.hid hg
  clear hu hg hi1 hz1 hs1 hb1 hi2 hz2 hs2 hb2
  go_enter Try.func8, Try.ntmps8
  go_wp2
  go_region_held3 (fun w' => True) (exact trivial) (fail)
  · obtain ⟨b1, b2, b3, U⟩ := three_blocks w UC GC #[.slice (some ⟨w.heap.size, 0, none⟩) n n, .slice (some ⟨w.heap.size + 1, 0, none⟩) n n] 3 4 55
    go_wp2
    go_ret2
    exact ⟨_, _, _, rfl, ⟨b3, by show _ = some (Obj.cells (uC n fun _ => 0).toArray _ _); rw [HU.out]; exact b1, by show _ = some (Obj.cells (gC n fun _ => false).toArray _ _); rw [HG.out]; exact b2, h8⟩, by omega, by omega, by omega, U⟩
  · obtain ⟨b1, b2, b3, U⟩ := three_blocks w GC UC #[.slice (some ⟨w.heap.size + 1, 0, none⟩) n n, .slice (some ⟨w.heap.size, 0, none⟩) n n] 4 3 55
    go_wp2
    go_ret2
    exact ⟨_, _, _, rfl, ⟨b3, by show _ = some (Obj.cells (uC n fun _ => 0).toArray _ _); rw [HU.out]; exact b2, by show _ = some (Obj.cells (gC n fun _ => false).toArray _ _); rw [HG.out]; exact b1, h8⟩, by omega, by omega, by omega, U⟩

/-- the best one as the document's loop has it -/
def bI : Option Nat → Int
  | none => -1
  | some c => c
def bestK (p : Po) (k : Nat) : Option Nat := pickL p.u ((List.range k).filter fun i => p.g i == false)
theorem bestK_no {p : Po} {k : Nat} (h : p.g k = true) : bestK p (k + 1) = bestK p k := by
  unfold bestK
  rw [List.range_succ, List.filter_append, List.filter_cons, h]
  simp
theorem bestK_yes {p : Po} {k : Nat} (h : p.g k = false) : bestK p (k + 1) = pickI p.u (bestK p k) k := by
  unfold bestK
  rw [List.range_succ, List.filter_append, List.filter_cons, h]
  simp only [beq_self_eq_true, if_true, List.filter_nil]
  exact pickL_snoc _ _ _
theorem bestK_lt {p : Po} {k c : Nat} (h : bestK p k = some c) : c < k := List.mem_range.1 (List.mem_filter.1 (pickL_mem h)).1
set_option maxRecDepth 100000 in
set_option maxHeartbeats 2000000 in
theorem rtake10_any (C UB GB : Nat) (p : Po) (K : Nat) (hK : K ≤ 1000) (ht : p.top K) (w : World) (h : RPo w C UB GB p) :
    Calls Try.prog 10 #[.pointer (some ⟨C, 0, none⟩)] w fun e w' =>
      (p.best = none ∧ e = .returned (.tuple #[tagV 0 0, .int .i64 7]) ∧ Upd (fun _ => False) w w') ∨
      (∃ c, p.best = some c ∧ e = .returned (.tuple #[tagV ((c + 1 : Nat) : Int) ((p.u c + 1 : Nat) : Int), .int .i64 0]) ∧ RPo w' C UB GB (p.take c) ∧ Upd (fun k => k = UB ∨ k = GB) w w') := by
  obtain ⟨t1, t2⟩ := rtag_box w 0 0
  obtain ⟨w1, hw⟩ : ∃ w1, w.alloc (.cells #[.int .i64 0, .int .i64 0] 38) = w1 := ⟨_, rfl⟩
  rw [hw] at t1 t2
  have hw1 := Lib.hid hw
  have h1 := h.still t2
  have hl := h.lts
  have hn8 := h.hi
  have Ht := Lib.hid ht
  have hbest := Lib.hid (show p.best = bestK p p.n from rfl)
  clear hw ht
  go_enter Try.func10, Try.ntmps10
  go_upto_region 1 with fail
  rw [hw1.out]
  generalize hR : w.heap.size = R at t1 hl ⊢
  have HR := Lib.hid hR
  clear hR
  go_wp2
  go_loopw [4, 5] (fun s t wr => ∃ k q : Nat, k ≤ p.n ∧ t = .int .i64 k ∧ s = .int .i64 (bI (bestK p k)) ∧ wr = w1.drewN q) (fun _ t _ => p.n - (intOf t).toNat)
  case atStart => exact ⟨0, 0, by omega, rfl, rfl, rfl⟩
  case round =>
    obtain ⟨k, q, hk, rfl, rfl, rfl⟩ := hrel
    have c0 := h1.c0
    have c1 := h1.c1
    by_cases hlt : k < p.n
    · have gk := h1.g k hlt
      have uk := h1.u k hlt
      have kI : (k : Int) < (p.n : Int) := by omega
      have k0 : (0 : Int) ≤ (k : Int) := by omega
      cases hg : p.g k
      · have hs := Lib.hid (bestK_yes hg)
        rw [hg] at gk
        cases hb : bestK p k with
        | none =>
          rw [hb] at hs
          have hv := Lib.hid (show bI (bestK p (k + 1)) = (k : Int) from by rw [hs.out]; rfl)
          clear hs hg hb
          rw [show bI none = -1 from rfl]
          go_wp2
          go_quiet (fail)
          go_wp2
          go_roundw
          case rel => first | exact ⟨k + 1, _, by omega, by go_num, by rw [hv.out], by rw [World.drewN_drewN]⟩ | exact ⟨k + 1, _, by omega, by go_num, by rw [hv.out], rfl⟩
          case measure => simp [intOf]; omega
        | some c =>
          rw [hb] at hs
          have hc := bestK_lt hb
          have uc := h1.u c (by omega)
          have cI : (c : Int) < (p.n : Int) := by omega
          have cc0 : (0 : Int) ≤ (c : Int) := by omega
          have cn : decide ((c : Int) < 0) = false := decide_eq_false (by omega)
          rw [show bI (some c) = (c : Int) from rfl]
          by_cases hlu : p.u k < p.u c
          · have hv := Lib.hid (show bI (bestK p (k + 1)) = (k : Int) from by rw [hs.out]; show bI (if _ then _ else _) = _; rw [if_pos hlu]; rfl)
            have hd : decide ((p.u k : Int) < (p.u c : Int)) = true := decide_eq_true (by omega)
            have hd2 : decide (p.u k < p.u c) = true := decide_eq_true hlu
            generalize p.u k = a1 at uk hd hd2 hlu
            generalize p.u c = a2 at uc hd hd2 hlu
            clear hs hg hb
            go_wp2
            go_quiet (fail)
            go_wp2
            go_roundw
            case rel => first | exact ⟨k + 1, _, by omega, by go_num, by rw [hv.out], by rw [World.drewN_drewN]⟩ | exact ⟨k + 1, _, by omega, by go_num, by rw [hv.out], rfl⟩
            case measure => simp [intOf]; omega
          · have hv := Lib.hid (show bI (bestK p (k + 1)) = (c : Int) from by rw [hs.out]; show bI (if _ then _ else _) = _; rw [if_neg hlu]; rfl)
            have hd : decide ((p.u k : Int) < (p.u c : Int)) = false := decide_eq_false (by omega)
            have hd2 : decide (p.u k < p.u c) = false := decide_eq_false hlu
            generalize p.u k = a1 at uk hd hd2 hlu
            generalize p.u c = a2 at uc hd hd2 hlu
            clear hs hg hb
            go_wp2
            go_quiet (fail)
            go_wp2
            go_roundw
            case rel => first | exact ⟨k + 1, _, by omega, by go_num, by rw [hv.out], by rw [World.drewN_drewN]⟩ | exact ⟨k + 1, _, by omega, by go_num, by rw [hv.out], rfl⟩
            case measure => simp [intOf]; omega
      · have hv := Lib.hid (show bI (bestK p (k + 1)) = bI (bestK p k) from by rw [bestK_no hg])
        rw [hg] at gk
        generalize bI (bestK p k) = bb at hv ⊢
        clear hg
        go_wp2
        go_quiet (fail)
        go_wp2
        go_roundw
        case rel => first | exact ⟨k + 1, _, by omega, by go_num, by rw [hv.out], by rw [World.drewN_drewN]⟩ | exact ⟨k + 1, _, by omega, by go_num, by rw [hv.out], rfl⟩
        case measure => simp [intOf]; omega
    · have e : k = p.n := by omega
      have hb := hbest.out
      rw [← e] at hb
      rw [← hb]
      have V := t2.drewN q
      have t3 := t1.kept ((Upd.refl (fun _ => False) w1).drewN q) id
      have h3 := h1.still ((Upd.refl (fun _ => False) w1).drewN q)
      have hRg := HR.out
      generalize w1.drewN q = w2 at V t3 h3 ⊢
      have n8I : k ≤ 8 := by omega
      clear h1 t1 t2 hlt hk hb c0 c1 h
      have c0 := h3.c0
      have c1 := h3.c1
      cases hb : p.best with
      | none =>
        have hth := Lib.hid t3.there
        have hset := Lib.hid (t3.set 0 0)
        have hnI : ¬ ((p.n : Int) < (p.n : Int)) := by omega
        subst e
        have Hb := Lib.hid hb
        clear hb t3 hRg
        rw [show bI none = -1 from rfl]
        go_wp2_with (with_reducible refine wpList_store_sz rfl 38 (.tmp 2) (.tmp 47) rfl R 0 #[.int .i64 0, .int .i64 0] rfl rfl 2 (tag_sz _ _) hth.out size_rtag (tag_one _ _) [.int .i64 0, .int .i64 0] (tag_ls _ _) ?_)
        (try simp only [Exit.inBlock, Exit.then])
        refine bodyPost_ret (ret_rtag rfl _ _ R 0 0 rfl hset.out) rfl (.inl ⟨Hb.out, rfl, ?_⟩)
        exact Upd.setCells (.inr (by rw [HR.out]; exact Nat.le_refl _)) _ _ V
      | some c =>
        obtain ⟨b1, b2, _⟩ := Po.best_some hb
        have hpu := Ht.out c b1
        rw [show bI (some c) = (c : Int) from rfl]
        obtain ⟨u, hu⟩ : ∃ u, p.u c = u := ⟨_, rfl⟩
        have uc := h3.u c b1
        rw [hu] at uc hpu
        have cI : (c : Int) < (p.n : Int) := by omega
        have cc0 : (0 : Int) ≤ (c : Int) := by omega
        have cn : decide ((c : Int) < 0) = false := decide_eq_false (by omega)
        have fz := frozen_block h3.ub c
        subst e
        obtain ⟨n1, n2, n3⟩ := h3.ne
        have P1 : RPo (w2.setCell ⟨UB, c, none⟩ (.int .i64 ((u : Int) + 1))) C UB GB { p with u := updP p.u c (p.u c + 1) } :=
          ⟨(Below.heap_setCell _ _ _ _ n1).trans h3.head, by
            have := heap_setCell_same h3.ub c (.int .i64 ((u : Int) + 1))
            rw [this, show (Value.int .i64 ((u : Int) + 1)) = .int .i64 ((p.u c + 1 : Nat) : Int) from by rw [hu]; rfl, uC_set], (Below.heap_setCell _ _ _ _ (fun e => n3 e.symm)).trans h3.gb, h3.hi⟩
        have V3 : Upd (fun k => k = UB ∨ k = GB) w (w2.setCell ⟨UB, c, none⟩ (.int .i64 ((u : Int) + 1))) := (V.mono (T := fun k => k = UB ∨ k = GB) fun _ _ x => x.elim).setCell (.inl (.inl rfl)) _
        have t4 : TagAt 38 (w2.setCell ⟨UB, c, none⟩ (.int .i64 ((u : Int) + 1))) R 0 0 := (Below.heap_setCell _ _ _ _ (by show ¬ R = UB; omega)).trans t3
        have Hb := Lib.hid hb
        have Hu := Lib.hid hu
        have H3 := Lib.hid h3
        clear hb hu h3 t3 V hRg
        go_upto_region 10 with fail
        generalize w2.setCell ⟨UB, c, none⟩ (.int .i64 ((u : Int) + 1)) = w3 at P1 V3 t4 ⊢
        have d0 := P1.c0
        have d1 := P1.c1
        have g3 := P1.g c b1
        have fz3 := frozen_block P1.gb c
        have P2 : RPo (w3.setCell ⟨GB, c, none⟩ (.bool true)) C UB GB (p.take c) :=
          ⟨(Below.heap_setCell _ _ _ _ n2).trans P1.head, (Below.heap_setCell _ _ _ _ n3).trans P1.ub, by
            have := heap_setCell_same P1.gb c (.bool true)
            rw [this, gC_set]; rfl, P1.hi⟩
        have V4 := V3.setCell (p := ⟨GB, c, none⟩) (.inl (.inr rfl)) (.bool true)
        have t5 : TagAt 38 (w3.setCell ⟨GB, c, none⟩ (.bool true)) R 0 0 := (Below.heap_setCell _ _ _ _ (by show ¬ R = GB; omega)).trans t4
        clear V3 t4 c0 c1 uc fz
        simp only at d0 d1 g3
        go_upto_region 11 with fail
        generalize w3.setCell ⟨GB, c, none⟩ (.bool true) = w4 at P2 V4 t5 ⊢
        have e0 := P2.c0
        have u4 := P2.u c b1
        rw [show (p.take c).u c = u + 1 from by show updP _ _ _ _ = _; rw [updP_same, Hu.out]] at u4
        rw [show (p.take c).n = p.n from rfl] at e0
        obtain ⟨X, hX⟩ : ∃ X, c + 1 = X := ⟨_, rfl⟩
        obtain ⟨Y, hY⟩ : ∃ Y, u + 1 = Y := ⟨_, rfl⟩
        rw [hY] at u4
        have hXI : IntKind.i64.wrap ((c : Int) + 1) = (X : Int) := by rw [IntWalk.i64_in _ (by omega)]; omega
        have hXI2 : (c : Int) + 1 = (X : Int) := by omega
        have HX := Lib.hid hX
        have HY := Lib.hid hY
        have hth := Lib.hid t5.there
        have hset := Lib.hid (t5.set X Y)
        clear hX hY d0 d1 g3 fz3 P1 H3 t5
        go_wp2_with (with_reducible refine wpList_store_sz rfl 38 (.tmp 2) (.tmp 72) rfl R 0 #[.int .i64 (X : Int), .int .i64 (Y : Int)] rfl rfl 2 (tag_sz _ _) hth.out size_rtag (tag_one _ _) [.int .i64 (X : Int), .int .i64 (Y : Int)] (tag_ls _ _) ?_)
        (try simp only [Exit.inBlock, Exit.then])
        refine bodyPost_ret (ret_rtag rfl _ _ R X Y rfl hset.out) rfl (.inr ⟨c, Hb.out, ?_, ?_, ?_⟩)
        · rw [HX.out, Hu.out, HY.out]; rfl
        · exact P2.kept (Upd.setCells (S := (· = R)) (.inl rfl) _ _ (Upd.refl _ _)) (by show ¬ C = R; omega) (by show ¬ UB = R; omega) (by show ¬ GB = R; omega)
        · exact Upd.setCells (.inr (by rw [HR.out]; exact Nat.le_refl _)) _ _ V4
end Go.Proofs.Ytmalfdbjbgifeaa

/-
  Package asid: Take and Back of both pools, whatever comes of them.
-/
namespace Go.Proofs.Ytmalfdbjbgifeaa
open Go.ChangeShapes Go.WideShapes Go.ChangeAt Go.RowKit

def Po.tkA (p : Po) : Nat := match p.best with | none => 0 | some c => c + 1
def Po.tkT (p : Po) : Nat := match p.best with | none => 0 | some c => p.u c + 1
def Po.tkE (p : Po) : Int := match p.best with | none => 7 | some _ => 0
def Po.tkP (p : Po) : Po := match p.best with | none => p | some c => p.take c
def Po.bkE (p : Po) (a t : Int) : Int := match p.at a t with | none => 2 | some _ => 0
def Po.bkP (p : Po) (a t : Int) : Po := match p.at a t with | none => p | some c => p.back c
theorem Po.tk_top {p : Po} {K : Nat} (h : p.top K) : p.tkP.top (K + 1) := by
  unfold Po.tkP
  cases p.best with
  | none => exact Po.top_succ h
  | some c => exact Po.top_take h c
theorem Po.bk_top {p : Po} {K : Nat} (h : p.top K) (a t : Int) : (p.bkP a t).top (K + 1) := by
  unfold Po.bkP
  cases p.at a t with
  | none => exact Po.top_succ h
  | some c => exact Po.top_back h c
theorem Po.tkA_le {p : Po} (h : p.n ≤ 8) : p.tkA ≤ 8 := by
  unfold Po.tkA
  cases hb : p.best with
  | none => exact Nat.zero_le _
  | some c => have := (Po.best_some hb).1; show c + 1 ≤ 8; omega
theorem atake_all (A B1 B2 : Nat) (p : Po) (K : Nat) (hK : K ≤ 1000) (ht : p.top K) (w : World) (h : PoolAt w A B1 B2 p) :
    Calls Try.prog 9 #[.pointer (some ⟨A, 0, none⟩)] w fun e w' => e = .returned (.tuple #[tagV (p.tkA : Int) (p.tkT : Int), .int .i64 p.tkE]) ∧ PoolAt w' A B1 B2 p.tkP ∧ Upd (fun k => k = B1 ∨ k = B2) w w' := by
  refine (atake_any A B1 B2 p K hK ht w h).mono ?_
  rintro e w' (⟨hb, rfl, U⟩ | ⟨c, hb, _, _, rfl, P, U⟩)
  · unfold Po.tkA Po.tkT Po.tkE Po.tkP
    rw [hb]
    exact ⟨rfl, h.still U, U.mono fun _ _ x => x.elim⟩
  · unfold Po.tkA Po.tkT Po.tkE Po.tkP
    rw [hb]
    exact ⟨rfl, P, U⟩
theorem rtake_all (C UB GB : Nat) (p : Po) (K : Nat) (hK : K ≤ 1000) (ht : p.top K) (w : World) (h : RPo w C UB GB p) :
    Calls Try.prog 10 #[.pointer (some ⟨C, 0, none⟩)] w fun e w' => e = .returned (.tuple #[tagV (p.tkA : Int) (p.tkT : Int), .int .i64 p.tkE]) ∧ RPo w' C UB GB p.tkP ∧ Upd (fun k => k = UB ∨ k = GB) w w' := by
  refine (rtake10_any C UB GB p K hK ht w h).mono ?_
  rintro e w' (⟨hb, rfl, U⟩ | ⟨c, hb, rfl, P, U⟩)
  · unfold Po.tkA Po.tkT Po.tkE Po.tkP
    rw [hb]
    exact ⟨rfl, h.still U, U.mono fun _ _ x => x.elim⟩
  · unfold Po.tkA Po.tkT Po.tkE Po.tkP
    rw [hb]
    exact ⟨rfl, P, U⟩
theorem aback_all (A B1 B2 : Nat) (p : Po) (K : Nat) (hK : K ≤ 1000) (ht : p.top K) (a t : Int) (hwa : (Lit.int .i64 a).wf = true) (w : World) (h : PoolAt w A B1 B2 p) :
    Calls Try.prog 11 #[.pointer (some ⟨A, 0, none⟩), tagV a t] w fun e w' => e = .returned (.int .i64 (p.bkE a t)) ∧ PoolAt w' A B1 B2 (p.bkP a t) ∧ Upd (fun k => k = B1 ∨ k = B2) w w' := by
  refine (aback_any A B1 B2 p K hK ht a t hwa w h).mono ?_
  rintro e w' (⟨hb, rfl, U⟩ | ⟨c, hb, rfl, P, U⟩)
  · unfold Po.bkE Po.bkP
    rw [hb]
    exact ⟨rfl, h.still U, U.mono fun _ _ x => x.elim⟩
  · unfold Po.bkE Po.bkP
    rw [hb]
    exact ⟨rfl, P, U⟩
theorem rback_all (C UB GB : Nat) (p : Po) (a t : Int) (hwf : -9223372036854775808 ≤ a ∧ a ≤ 9223372036854775807) (w : World) (h : RPo w C UB GB p) :
    Calls Try.prog 12 #[.pointer (some ⟨C, 0, none⟩), tagV a t] w fun e w' => e = .returned (.int .i64 (p.bkE a t)) ∧ RPo w' C UB GB (p.bkP a t) ∧ Upd (fun k => k = UB ∨ k = GB) w w' := by
  refine (rback10_any C UB GB p a t hwf w h).mono ?_
  rintro e w' (⟨hb, rfl, U⟩ | ⟨c, hb, rfl, P, U⟩)
  · unfold Po.bkE Po.bkP
    rw [hb]
    exact ⟨rfl, h.still U, U.mono fun _ _ x => x.elim⟩
  · unfold Po.bkE Po.bkP
    rw [hb]
    exact ⟨rfl, P, U.mono fun _ _ e => .inr e⟩
/-- a step's box and the box of its tag -/
theorem step_boxes (w : World) (d x a t : Int) (T : TypeId) :
    ((w.alloc (.cells #[.int .i64 d, .int .i64 x, .int .i64 a, .int .i64 t] T)).alloc (.cells #[.int .i64 a, .int .i64 t] 33)).heap[w.heap.size]? = some (.cells #[.int .i64 d, .int .i64 x, .int .i64 a, .int .i64 t] T (0, 0)) ∧
    TagAt 33 ((w.alloc (.cells #[.int .i64 d, .int .i64 x, .int .i64 a, .int .i64 t] T)).alloc (.cells #[.int .i64 a, .int .i64 t] 33)) (w.heap.size + 1) a t ∧
    Upd (fun _ => False) w ((w.alloc (.cells #[.int .i64 d, .int .i64 x, .int .i64 a, .int .i64 t] T)).alloc (.cells #[.int .i64 a, .int .i64 t] 33)) := by
  refine ⟨?_, ?_, ((Upd.refl _ _).alloc _).alloc _⟩
  · rw [Below.heap_alloc _ _ _ (by simp)]
    exact heap_alloc_last w _
  · have := heap_alloc_last (w.alloc (.cells #[.int .i64 d, .int .i64 x, .int .i64 a, .int .i64 t] T)) (.cells #[.int .i64 a, .int .i64 t] 33)
    rwa [World.size_alloc] at this
end Go.Proofs.Ytmalfdbjbgifeaa

/-
  What the rows' frames want of a reading: integers, arrays of integers. Over any program.
-/
namespace Go.Proofs.Ytmalfdbjbgifeaa.Fr
open Go.ChangeShapes Go.WideShapes Go.ChangeAt Go.RowKit
variable {H : Type} {enc : TypeId × Value → H} {P : Program} {w : World} {base : Nat} {spare : Nat → Bool} {held : Bool}

/-- an array's value -/
theorem okWide_arr {r : Reach} {b0 n : Nat} {t e : TypeId} {v : Value} (ht : P.underlying t = some (.array n e)) (h : Value.okWide P w r b0 t v) : ∃ cs, v = .agg cs ∧ cs.size = P.cellsOf t := by
  simp only [Value.okWide, ht] at h
  obtain ⟨cs, h1, h2, _⟩ := h
  exact ⟨cs, h1, h2⟩

/-- an array of integers, opened: the numbers -/
theorem open_intArr {r : Reach} {b0 n : Nat} {t e : TypeId} {k : IntKind} {v : Value} {d : DataW H} {p : List MemPlace} (ht : P.underlying t = some (.array n e)) (he : P.underlying e = some (.int k))
    (hce : P.cellsOf e = 1) (hct : P.cellsOf t = n) (hv : Value.okWide P w r b0 t v) (h : DataW.Trod enc P w base spare held t v d p) :
    ∃ zs : List Int, zs.length = n ∧ v = .agg (zs.map (fun z => Value.int k z)).toArray ∧ ∀ z ∈ zs, (Lit.int k z).wf = true := by
  obtain ⟨cs, rfl, hsz⟩ := okWide_arr ht hv
  obtain ⟨fuel, hf⟩ := h
  obtain ⟨xs, m, _, _, _, hl, hrd⟩ := DataW.trod_array ht hf
  have hlen : cs.toList.length = n := by rw [Array.length_toList, hsz, hct]
  have hcell : ∀ i (hi : i < cs.toList.length), ∃ z, cs.toList[i] = .int k z ∧ (Lit.int k z).wf = true := by
    intro i hi
    have hx := hrd i (by omega)
    have hi2 : i < xs.length := by omega
    rw [List.getElem?_eq_getElem hi2] at hx
    obtain ⟨z, hz, _, hwf⟩ := DataW.trod_int he hx
    have hi3 : i < cs.size := by simpa using hi
    simp only [Value.cells, hce, Nat.mul_one] at hz
    rw [List.drop_eq_getElem_cons hi] at hz
    simp at hz
    exact ⟨z, by simpa using hz, hwf⟩
  refine ⟨cs.toList.map (fun c => match c with | .int _ q => q | _ => 0), by rw [List.length_map, hlen], ?_, ?_⟩
  · congr 1
    apply Array.ext'
    simp only [List.map_map]
    symm
    conv => rhs; rw [← List.map_id cs.toList]
    apply List.map_congr_left
    intro c hc
    obtain ⟨i, hi, rfl⟩ := List.getElem_of_mem hc
    obtain ⟨z, hz, _⟩ := hcell i hi
    simp only [Function.comp, hz, id]
  · intro z hz
    obtain ⟨c, hc, rfl⟩ := List.mem_map.1 hz
    obtain ⟨i, hi, rfl⟩ := List.getElem_of_mem hc
    obtain ⟨z', hz', hwf⟩ := hcell i hi
    simp only [hz']
    exact hwf
/-! ### whatever is made of integers and bools alone: its leaves, cell by cell -/
/-- a leaf's kind: 'some k' an integer, 'none' a bool -/
def flatFs (P : Program) (g : TypeId → Option (List (Option IntKind))) : List Field → Nat → Option (List (Option IntKind))
  | [], _ => some []
  | f :: fs, o => match g f.type, flatFs P g fs (o + P.cellsOf f.type) with
    | some l, some r => if f.offset = o ∧ l.length = P.cellsOf f.type then some (l ++ r) else none
    | _, _ => none
def flat (P : Program) : Nat → TypeId → Option (List (Option IntKind))
  | 0, _ => none
  | d + 1, t => match P.underlying t with
    | some (.int k) => some [some k]
    | some .bool => some [none]
    | some (.array n e) => match flat P d e with
      | some l => if l.length = P.cellsOf e ∧ P.cellsOf t = n * P.cellsOf e then some (List.replicate n l).flatten else none
      | none => none
    | some (.struct fs) => match flatFs P (flat P d) fs.toList 0 with
      | some l => if P.cellsOf t = l.length then some l else none
      | none => none
    | _ => none
def okLeaf : Option IntKind → Value → Prop
  | some k, v => ∃ z, v = .int k z ∧ (Lit.int k z).wf = true
  | none, v => ∃ b, v = .bool b
def okLeaves (ks : List (Option IntKind)) (cs : List Value) : Prop := cs.length = ks.length ∧ ∀ (j : Nat) (k : Option IntKind) (v : Value), ks[j]? = some k → cs[j]? = some v → okLeaf k v
theorem okLeaves_append {k1 k2 : List (Option IntKind)} {c1 c2 : List Value} (h1 : okLeaves k1 c1) (h2 : okLeaves k2 c2) : okLeaves (k1 ++ k2) (c1 ++ c2) := by
  refine ⟨by rw [List.length_append, List.length_append, h1.1, h2.1], fun j k v hk hv => ?_⟩
  have e := h1.1
  by_cases hj : j < k1.length
  · rw [List.getElem?_append_left hj] at hk
    rw [List.getElem?_append_left (by omega)] at hv
    exact h1.2 j k v hk hv
  · rw [List.getElem?_append_right (by omega)] at hk
    rw [List.getElem?_append_right (by omega), e] at hv
    exact h2.2 _ k v hk hv
theorem okLeaves_rep {l : List (Option IntKind)} : ∀ (n : Nat) (cs : List Value), cs.length = n * l.length → (∀ i, i < n → okLeaves l ((cs.drop (i * l.length)).take l.length)) → okLeaves (List.replicate n l).flatten cs
  | 0, cs, hl, _ => by
    have : cs = [] := List.eq_nil_of_length_eq_zero (by omega)
    subst this
    exact ⟨rfl, fun j k v hk => by simp at hk⟩
  | n + 1, cs, hl, h => by
    have hl' : cs.length = n * l.length + l.length := by rw [hl, Nat.succ_mul]
    rw [List.replicate_succ, List.flatten_cons, ← List.take_append_drop l.length cs]
    have h0 := h 0 (by omega)
    rw [Nat.zero_mul, List.drop_zero] at h0
    refine okLeaves_append h0 (okLeaves_rep n _ (by rw [List.length_drop]; omega) fun i hi => ?_)
    have := h (i + 1) (by omega)
    rw [Nat.succ_mul] at this
    rwa [List.drop_drop, Nat.add_comm]
theorem flatFs_ge {P : Program} {g : TypeId → Option (List (Option IntKind))} : ∀ {fs : List Field} {o : Nat} {ks : List (Option IntKind)}, flatFs P g fs o = some ks → ∀ (i : Nat) (f : Field), fs[i]? = some f → o ≤ f.offset
  | [], _, _, _, i, f, hi => by simp at hi
  | f0 :: fs, o, ks, hk, i, f, hi => by
    simp only [flatFs] at hk
    split at hk
    · rename_i l r hgl hr
      split at hk
      · rename_i hc
        cases i with
        | zero => simp only [List.getElem?_cons_zero, Option.some.injEq] at hi; subst hi; omega
        | succ i => have := flatFs_ge hr i f hi; omega
      · cases hk
    · cases hk
theorem okLeaves_fs {g : TypeId → Option (List (Option IntKind))} {n : Nat}
    (hg : ∀ t ks cs x, g t = some ks → DataW.trod enc P w base spare held n t cs = some x → okLeaves ks cs) :
    ∀ (fs : List Field) (o : Nat) (ks : List (Option IntKind)) (cs : List Value), flatFs P g fs o = some ks → cs.length = ks.length →
      (∀ (i : Nat) (f : Field), fs[i]? = some f → ∃ x, DataW.trod enc P w base spare held n f.type ((cs.drop (f.offset - o)).take (P.cellsOf f.type)) = some x) → okLeaves ks cs
  | [], o, ks, cs, hk, hl, _ => by
    simp only [flatFs, Option.some.injEq] at hk
    subst hk
    exact ⟨hl, fun j k v hk => by simp at hk⟩
  | f :: fs, o, ks, cs, hk, hl, h => by
    simp only [flatFs] at hk
    split at hk
    · rename_i l r hgl hr
      split at hk
      · rename_i hc
        obtain ⟨ho, hll⟩ := hc
        simp only [Option.some.injEq] at hk
        subst hk
        rw [List.length_append] at hl
        obtain ⟨x, hx⟩ := h 0 f rfl
        rw [ho, Nat.sub_self, List.drop_zero] at hx
        have h1 := hg _ _ _ _ hgl hx
        rw [← List.take_append_drop (P.cellsOf f.type) cs]
        refine okLeaves_append h1 (okLeaves_fs hg fs _ r _ hr (by rw [List.length_drop]; omega) fun i f' hi => ?_)
        obtain ⟨y, hy⟩ := h (i + 1) f' hi
        have hge : o + P.cellsOf f.type ≤ f'.offset := flatFs_ge hr i f' hi
        refine ⟨y, ?_⟩
        rw [List.drop_drop, show P.cellsOf f.type + (f'.offset - (o + P.cellsOf f.type)) = f'.offset - o from by omega]
        exact hy
      · cases hk
    · cases hk
theorem okLeaves_of : ∀ (d : Nat) (t : TypeId) (ks : List (Option IntKind)) (fuel : Nat) (cs : List Value) (x : DataW H × List MemPlace), flat P d t = some ks → DataW.trod enc P w base spare held fuel t cs = some x → okLeaves ks cs
  | 0, _, _, _, _, _, h, _ => by simp [flat] at h
  | d + 1, t, ks, fuel, cs, x, h, ht => by
    unfold flat at h
    split at h
    · rename_i k hu
      simp only [Option.some.injEq] at h
      subst h
      obtain ⟨z, rfl, _, hw⟩ := DataW.trod_int hu ht
      refine ⟨rfl, fun j k' v hk hv => ?_⟩
      match j, hk, hv with
      | 0, hk, hv => simp at hk hv; subst hk hv; exact ⟨z, rfl, hw⟩
      | j + 1, hk, _ => simp at hk
    · rename_i hu
      simp only [Option.some.injEq] at h
      subst h
      obtain ⟨b, rfl, _⟩ := DataW.trod_bool hu ht
      refine ⟨rfl, fun j k' v hk hv => ?_⟩
      match j, hk, hv with
      | 0, hk, hv => simp at hk hv; subst hk hv; exact ⟨b, rfl⟩
      | j + 1, hk, _ => simp at hk
    · rename_i n e hu
      split at h
      · rename_i l hl
        split at h
        · rename_i hc
          obtain ⟨c1, c2⟩ := hc
          simp only [Option.some.injEq] at h
          subst h
          obtain ⟨xs, m, _, _, hlen, hxl, hrd⟩ := DataW.trod_array hu ht
          refine okLeaves_rep n cs (by rw [hlen, c2, c1]) fun i hi => ?_
          have := hrd i hi
          have hi2 : i < xs.length := by omega
          rw [List.getElem?_eq_getElem hi2, ← c1] at this
          exact okLeaves_of d e l m _ _ hl this
        · cases h
      · cases h
    · rename_i fs hu
      split at h
      · rename_i l hl
        split at h
        · rename_i hc
          simp only [Option.some.injEq] at h
          subst h
          obtain ⟨xs, m, _, _, hlen, hxl, hrd⟩ := DataW.trod_struct hu ht
          refine okLeaves_fs (fun t' ks' cs' x' h1 h2 => okLeaves_of d t' ks' m cs' x' h1 h2) fs.toList 0 l cs hl (by rw [hlen, hc]) fun i f hi => ?_
          have hi' : fs[i]? = some f := by simpa using hi
          have hi2 : i < xs.length := by
            have := (Array.getElem?_eq_some_iff.1 hi').1
            omega
          have := hrd i f hi'
          rw [List.getElem?_eq_getElem hi2] at this
          exact ⟨_, by rw [Nat.sub_zero]; exact this⟩
        · cases h
      · cases h
    · cases h
/-- an argument that is a slice of such things -/
structure RowArg (w : World) (ao : Option Addr) (n b off : Nat) (ks : List (Option IntKind)) (E : Nat → Nat → Value) : Prop where
  place : 0 < n → ao = some ⟨b, off, none⟩
  lt : 0 < n → b < w.heap.size
  cell : ∀ i, i < n → ∀ j, j < ks.length → w.cell? ⟨b, off + (i * ks.length + j), none⟩ = some (E i j)
  ok : ∀ i, i < n → ∀ (j : Nat) (k : Option IntKind), ks[j]? = some k → okLeaf k (E i j)
  most : n ≤ 9223372036854775807
theorem RowArg.kept {w w' : World} {ao : Option Addr} {n b off : Nat} {ks : List (Option IntKind)} {E : Nat → Nat → Value} (h : RowArg w ao n b off ks E) (u : Below w.heap.size w w') : RowArg w' ao n b off ks E :=
  ⟨h.place, fun h0 => Nat.lt_of_lt_of_le (h.lt h0) u.size, fun i hi j hj => (u.cell (p := ⟨b, off + (i * ks.length + j), none⟩) (h.lt (by omega))).trans (h.cell i hi j hj), h.ok, h.most⟩
/-- a slice's value is no aggregate -/
theorem okWide_noAgg {r : Reach} {b0 : Nat} {t e : TypeId} {c : Array Value} (ht : P.underlying t = some (.slice e)) (h : Value.okWide P w r b0 t (.agg c)) : False := by
  simp [Value.okWide, Cell.okWide, Cell.ok, ht] at h
theorem open_rows {r : Reach} {b0 : Nat} {t e : TypeId} {v : Value} {dt : DataW H} {p : List MemPlace} (D : Nat) (ks : List (Option IntKind)) (ht : P.underlying t = some (.slice e)) (hf : flat P D e = some ks) (hc : P.cellsOf e = ks.length) (hpos : 0 < ks.length)
    (hw : Value.okWide P w r b0 t v) (h : DataW.Trod enc P w base spare held t v dt p) :
    ∃ (ao : Option Addr) (n cap b off : Nat) (E : Nat → Nat → Value), v = .slice ao n cap ∧ RowArg w ao n b off ks E := by
  obtain ⟨fuel, hfu⟩ := h
  rcases Deep.open_slice ht hfu with ⟨h1, _⟩ | ⟨a, len, cap, m, n, DD, Pl, h1, _, hl, hm, hmm, _, hi⟩
  · have hv : v = .slice none 0 0 := by
      cases v
      case agg c => exact (okWide_noAgg ht hw).elim
      all_goals (simp [Value.cells] at h1; try simp [h1])
    exact ⟨none, 0, 0, 0, 0, fun _ _ => .bool false, hv, ⟨fun h => absurd h (by omega), fun h => absurd h (by omega), fun i hi => absurd hi (by omega), fun i hi => absurd hi (by omega), by omega⟩⟩
  · have hv : v = .slice (some a) len cap := by
      cases v
      case agg c => exact (okWide_noAgg ht hw).elim
      all_goals (simp [Value.cells] at h1; try simp [h1])
    have hle : len ≤ m := by rw [hmm]; split <;> omega
    obtain ⟨E, hE⟩ := Deep.choose_lt (n := len) (p := fun i (f : Nat → Value) => ∀ j, j < ks.length → w.cell? (a.add (i * ks.length + j)) = some (f j) ∧ ∀ k, ks[j]? = some k → okLeaf k (f j)) (fun i hil => by
      obtain ⟨cs', hc', ht'⟩ := hi i (by omega)
      rw [hc] at hc'
      obtain ⟨_, hcl, hat⟩ := World.cells?_some hc'
      have ok := okLeaves_of D e ks n cs' _ hf ht'
      refine ⟨fun j => cs'.getD j (.bool false), fun j hj => ?_⟩
      have hjl : j < cs'.length := by rw [ok.1]; exact hj
      have hv : cs'[j]? = some (cs'.getD j (.bool false)) := by simp [List.getElem?_eq_getElem hjl]
      refine ⟨?_, fun k hk => ok.2 j k _ hk hv⟩
      rw [← Deep.add_add, hat j hj, hv])
    have hspot : 0 < len → a = ⟨a.block, a.off, none⟩ := fun h0 => by
      have := (hE 0 h0 0 hpos).1
      rw [Nat.zero_mul, Nat.add_zero] at this
      obtain ⟨ab, aoff, asp⟩ := a
      cases asp with
      | none => rfl
      | some s =>
        simp only [Addr.add, if_true, World.cell?] at this
        split at this <;> simp at this
    refine ⟨some a, len, cap, a.block, a.off, E, hv, ⟨fun h0 => by rw [← hspot h0], fun h0 => ?_, fun i hil j hj => ?_, fun i hil j k hk => ?_, by unfold maxLen at hm; omega⟩⟩
    · have := (hE 0 h0 0 hpos).1
      rw [Nat.zero_mul, Nat.add_zero] at this
      have hb := World.block_lt_of_cell? w _ this
      simpa [Addr.add] using hb
    · have := (hE i hil j hj).1
      rw [hspot (by omega), Addr.add_mid] at this
      exact this
    · have hj : j < ks.length := (List.getElem?_eq_some_iff.1 hk).1
      exact (hE i hil j hj).2 k hk
/-- a struct of such things by value: its cells -/
theorem open_flat {r : Reach} {b0 : Nat} {t : TypeId} {fs : Array Field} {v : Value} {dt : DataW H} {p : List MemPlace} (D : Nat) (ks : List (Option IntKind)) (ht : P.underlying t = some (.struct fs)) (hf : flat P D t = some ks)
    (hw : Value.okWide P w r b0 t v) (h : DataW.Trod enc P w base spare held t v dt p) : ∃ cs : List Value, v = .agg cs.toArray ∧ okLeaves ks cs := by
  obtain ⟨fuel, hfu⟩ := h
  simp only [Value.okWide, ht] at hw
  obtain ⟨cs, rfl, _⟩ := hw
  exact ⟨cs.toList, by simp, okLeaves_of D t ks fuel _ _ hf hfu⟩
theorem cells2 {cs : List Value} (h : cs.length = 2) : ∃ a b, cs = [a, b] := by
  match cs, h with
  | [a, b], _ => exact ⟨a, b, rfl⟩
theorem cells3 {cs : List Value} (h : cs.length = 3) : ∃ a b c, cs = [a, b, c] := by
  match cs, h with
  | [a, b, c], _ => exact ⟨a, b, c, rfl⟩
theorem cells4 {cs : List Value} (h : cs.length = 4) : ∃ a b c d, cs = [a, b, c, d] := by
  match cs, h with
  | [a, b, c, d], _ => exact ⟨a, b, c, d, rfl⟩
theorem cells5 {cs : List Value} (h : cs.length = 5) : ∃ a b c d e, cs = [a, b, c, d, e] := by
  match cs, h with
  | [a, b, c, d, e], _ => exact ⟨a, b, c, d, e, rfl⟩
theorem cells6 {cs : List Value} (h : cs.length = 6) : ∃ c0 c1 c2 c3 c4 c5, cs = [c0, c1, c2, c3, c4, c5] := by
  match cs, h with
  | [c0, c1, c2, c3, c4, c5], _ => exact ⟨c0, c1, c2, c3, c4, c5, rfl⟩
theorem cells7 {cs : List Value} (h : cs.length = 7) : ∃ c0 c1 c2 c3 c4 c5 c6, cs = [c0, c1, c2, c3, c4, c5, c6] := by
  match cs, h with
  | [c0, c1, c2, c3, c4, c5, c6], _ => exact ⟨c0, c1, c2, c3, c4, c5, c6, rfl⟩
theorem cells8 {cs : List Value} (h : cs.length = 8) : ∃ c0 c1 c2 c3 c4 c5 c6 c7, cs = [c0, c1, c2, c3, c4, c5, c6, c7] := by
  match cs, h with
  | [c0, c1, c2, c3, c4, c5, c6, c7], _ => exact ⟨c0, c1, c2, c3, c4, c5, c6, c7, rfl⟩
theorem cells9 {cs : List Value} (h : cs.length = 9) : ∃ c0 c1 c2 c3 c4 c5 c6 c7 c8, cs = [c0, c1, c2, c3, c4, c5, c6, c7, c8] := by
  match cs, h with
  | [c0, c1, c2, c3, c4, c5, c6, c7, c8], _ => exact ⟨c0, c1, c2, c3, c4, c5, c6, c7, c8, rfl⟩
theorem cells10 {cs : List Value} (h : cs.length = 10) : ∃ c0 c1 c2 c3 c4 c5 c6 c7 c8 c9, cs = [c0, c1, c2, c3, c4, c5, c6, c7, c8, c9] := by
  match cs, h with
  | [c0, c1, c2, c3, c4, c5, c6, c7, c8, c9], _ => exact ⟨c0, c1, c2, c3, c4, c5, c6, c7, c8, c9, rfl⟩
theorem cells11 {cs : List Value} (h : cs.length = 11) : ∃ c0 c1 c2 c3 c4 c5 c6 c7 c8 c9 c10, cs = [c0, c1, c2, c3, c4, c5, c6, c7, c8, c9, c10] := by
  match cs, h with
  | [c0, c1, c2, c3, c4, c5, c6, c7, c8, c9, c10], _ => exact ⟨c0, c1, c2, c3, c4, c5, c6, c7, c8, c9, c10, rfl⟩
theorem cells12 {cs : List Value} (h : cs.length = 12) : ∃ c0 c1 c2 c3 c4 c5 c6 c7 c8 c9 c10 c11, cs = [c0, c1, c2, c3, c4, c5, c6, c7, c8, c9, c10, c11] := by
  match cs, h with
  | [c0, c1, c2, c3, c4, c5, c6, c7, c8, c9, c10, c11], _ => exact ⟨c0, c1, c2, c3, c4, c5, c6, c7, c8, c9, c10, c11, rfl⟩
theorem len2 {zs : List Int} (h : zs.length = 2) : ∃ a b, zs = [a, b] := by
  match zs, h with
  | [a, b], _ => exact ⟨a, b, rfl⟩
theorem len3 {zs : List Int} (h : zs.length = 3) : ∃ a b c, zs = [a, b, c] := by
  match zs, h with
  | [a, b, c], _ => exact ⟨a, b, c, rfl⟩
theorem len4 {zs : List Int} (h : zs.length = 4) : ∃ a b c d, zs = [a, b, c, d] := by
  match zs, h with
  | [a, b, c, d], _ => exact ⟨a, b, c, d, rfl⟩
end Go.Proofs.Ytmalfdbjbgifeaa.Fr

/-
  Package-level variables of integers and bools that a row lists: their cells, out of the row's condition. Over any program.
-/
namespace Go.Proofs.Ytmalfdbjbgifeaa.Fr
open Go.ChangeShapes Go.WideShapes Go.ChangeAt Go.RowKit
mutual
/-- the cells of a datum made of integers and bools -/
def datCells : DataW Unit → List Value
  | .lit (.int k z) => [.int k z]
  | .lit (.bool b) => [.bool b]
  | .agg ps => datAll ps
  | _ => []
def datAll : List (DataW Unit) → List Value
  | [] => []
  | d :: r => datCells d ++ datAll r
end
/-- the variable's cells -/
def VarIs (w : World) (g : Nat) (cs : List Value) : Prop := ∀ j v, cs[j]? = some v → w.cell? ⟨g, j, none⟩ = some v
theorem datAll_rows (k : Nat) : ∀ (xs : List (DataW Unit × List MemPlace)) (cs : List Value), cs.length = xs.length * k → (∀ i (h : i < xs.length), (cs.drop (i * k)).take k = datCells (xs[i]).1) → cs = datAll (xs.map (·.1))
  | [], cs, hl, _ => by
    have : cs = [] := List.eq_nil_of_length_eq_zero (by simpa using hl)
    subst this
    rfl
  | x :: xs, cs, hl, h => by
    have hl' : cs.length = xs.length * k + k := by rw [hl, List.length_cons, Nat.succ_mul]
    have h0 := h 0 (by simp)
    rw [Nat.zero_mul, List.drop_zero] at h0
    rw [← List.take_append_drop k cs, h0]
    simp only [List.map_cons, datAll, List.getElem_cons_zero]
    congr 1
    refine datAll_rows k xs _ (by rw [List.length_drop]; omega) fun i hi => ?_
    have := h (i + 1) (by simpa using hi)
    rw [Nat.succ_mul] at this
    simpa [List.drop_drop, Nat.add_comm] using this
theorem datAll_fs {P : Program} {g : TypeId → Option (List (Option IntKind))} : ∀ (fs : List Field) (o : Nat) (ks : List (Option IntKind)) (cs : List Value) (xs : List (DataW Unit × List MemPlace)), flatFs P g fs o = some ks → cs.length = ks.length → xs.length = fs.length →
      (∀ (i : Nat) (f : Field) (x : DataW Unit × List MemPlace), fs[i]? = some f → xs[i]? = some x → (cs.drop (f.offset - o)).take (P.cellsOf f.type) = datCells x.1) → cs = datAll (xs.map (·.1))
  | [], o, ks, cs, xs, hk, hl, hx, _ => by
    simp only [flatFs, Option.some.injEq] at hk
    subst hk
    have e1 : cs = [] := List.eq_nil_of_length_eq_zero (by simpa using hl)
    have e2 : xs = [] := List.eq_nil_of_length_eq_zero (by simpa using hx)
    subst e1 e2
    rfl
  | f :: fs, o, ks, cs, [], hk, hl, hx, h => by simp at hx
  | f :: fs, o, ks, cs, x :: xs, hk, hl, hx, h => by
    simp only [flatFs] at hk
    split at hk
    · rename_i l r hgl hr
      split at hk
      · rename_i hc
        obtain ⟨ho, hll⟩ := hc
        simp only [Option.some.injEq] at hk
        subst hk
        rw [List.length_append] at hl
        have h0 := h 0 f x rfl rfl
        rw [ho, Nat.sub_self, List.drop_zero] at h0
        rw [← List.take_append_drop (P.cellsOf f.type) cs, h0]
        simp only [List.map_cons, datAll]
        congr 1
        refine datAll_fs fs _ r _ xs hr (by rw [List.length_drop]; omega) (by simpa using hx) fun i f' x' hi hi' => ?_
        have hy := h (i + 1) f' x' hi hi'
        have hge : o + P.cellsOf f.type ≤ f'.offset := flatFs_ge hr i f' hi
        rw [List.drop_drop, show P.cellsOf f.type + (f'.offset - (o + P.cellsOf f.type)) = f'.offset - o from by omega]
        exact hy
      · cases hk
    · cases hk
theorem cells_flat {P : Program} {w : World} {base : Nat} {spare : Nat → Bool} {held : Bool} : ∀ (d : Nat) (t : TypeId) (ks : List (Option IntKind)) (fuel : Nat) (cs : List Value) (x : DataW Unit × List MemPlace),
    flat P d t = some ks → DataW.trod (fun _ => ()) P w base spare held fuel t cs = some x → cs = datCells x.1
  | 0, _, _, _, _, _, h, _ => by simp [flat] at h
  | d + 1, t, ks, fuel, cs, x, h, ht => by
    have hlen0 := (okLeaves_of (d + 1) t ks fuel cs x h ht).1
    unfold flat at h
    split at h
    · rename_i k hu
      obtain ⟨z, rfl, rfl, hw⟩ := DataW.trod_int hu ht
      rfl
    · rename_i hu
      obtain ⟨b, rfl, rfl⟩ := DataW.trod_bool hu ht
      rfl
    · rename_i n e hu
      split at h
      · rename_i l hl
        split at h
        · rename_i hc
          obtain ⟨c1, c2⟩ := hc
          obtain ⟨xs, m, _, rfl, hlen, hxl, hrd⟩ := DataW.trod_array hu ht
          show cs = datAll (xs.map (·.1))
          refine datAll_rows (P.cellsOf e) xs cs (by rw [hlen, c2, hxl]) fun i hi => ?_
          have := hrd i (by omega)
          rw [List.getElem?_eq_getElem hi] at this
          exact cells_flat d e l m _ _ hl this
        · cases h
      · cases h
    · rename_i fs hu
      split at h
      · rename_i l hl
        split at h
        · rename_i hc
          simp only [Option.some.injEq] at h
          subst h
          obtain ⟨xs, m, _, rfl, hlen, hxl, hrd⟩ := DataW.trod_struct hu ht
          show cs = datAll (xs.map (·.1))
          refine datAll_fs fs.toList 0 l cs xs hl hlen0 (by rw [hxl]; simp) fun i f x hi hx => ?_
          have hi' : fs[i]? = some f := by simpa using hi
          have := hrd i f hi'
          rw [hx] at this
          rw [Nat.sub_zero]
          have hfl : ∃ l', flat P d f.type = some l' := by
            clear this hi' hx hrd hlen hxl hlen0 ht
            revert i hi
            generalize (0 : Nat) = o at hl
            generalize fs.toList = F at hl
            clear hc
            induction F generalizing o l with
            | nil => intro i hi; simp at hi
            | cons a r ih =>
              intro i hi
              simp only [flatFs] at hl
              split at hl
              · rename_i l1 r1 h1 h2
                cases i with
                | zero => simp only [List.getElem?_cons_zero, Option.some.injEq] at hi; subst hi; exact ⟨_, h1⟩
                | succ i => exact ih _ _ h2 i hi
              · cases hl
          obtain ⟨l', hl'⟩ := hfl
          exact cells_flat d f.type l' m _ _ hl' this
        · cases h
      · cases h
    · cases h
/-- a listed variable's cells -/
theorem varIs_of_vars {P : Program} {w : World} (D : Nat) : ∀ (l : List (String × DataW Unit)) (ps : List MemPlace), DataW.LaidVars P w l ps → ∀ (n : String) (d : DataW Unit), (n, d) ∈ l → ∀ (g : Nat) (t : TypeId) (ks : List (Option IntKind)),
    P.globalNamed n = some g → (P.globals[g]?).map (·.type) = some t → flat P D t = some ks → VarIs w g (datCells d)
  | [], _, _, n, d, hm, _, _, _, _, _, _ => by cases hm
  | (n0, d0) :: r, ps, h, n, d, hm, g, t, ks, hg, ht, hf => by
    obtain ⟨g0, t0, cs, fuel, p, q, hg0, ht0, hv, hd, hr, _⟩ := h
    rcases List.mem_cons.1 hm with e | hm'
    · cases e
      obtain rfl := Option.some.inj (hg.symm.trans hg0)
      obtain rfl := Option.some.inj (ht.symm.trans ht0)
      have e := cells_flat D t ks fuel cs.toList _ hf hd
      intro j v hj
      rw [World.var?_cell hg0 hv j, ← hj, ← e]
      simp
    · exact varIs_of_vars D r q hr n d hm' g t ks hg ht hf
theorem varIs_of_laid {P : Program} {w : World} {l : List (String × DataW Unit)} (D : Nat) (h : laidMet P l w) (n : String) (d : DataW Unit) (hm : (n, d) ∈ l) {g : Nat} {t : TypeId} {ks : List (Option IntKind)}
    (hg : P.globalNamed n = some g) (ht : (P.globals[g]?).map (·.type) = some t) (hf : flat P D t = some ks) : VarIs w g (datCells d) := by
  obtain ⟨ps, hl, _⟩ := h
  exact varIs_of_vars D l ps hl n d hm g t ks hg ht hf
end Go.Proofs.Ytmalfdbjbgifeaa.Fr
