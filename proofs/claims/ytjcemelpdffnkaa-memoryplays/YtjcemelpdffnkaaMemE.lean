/-
  The laws' own small functions over package memory: awake, second.
-/
import Derived.Test.YtjcemelpdffnkaaMemD
namespace Go.Proofs.Ytjcemelpdffnkaa
open Go.ChangeShapes Go.WideShapes Go.ChangeAt Go.RowKit

theorem Upd.new {S : Nat → Prop} {a b c : World} (h : Upd S a b) (k : Upd (a.heap.size ≤ ·) b c) : Upd S a c :=
  ⟨k.os.trans h.os, k.tape.trans h.tape, k.output.trans h.output, Nat.le_trans h.size k.size, fun i hi hs => (k.block i (Nat.lt_of_lt_of_le hi h.size) (by omega)).trans (h.block i hi hs)⟩
theorem Upd.one {a b : World} {B n : Nat} (h : Upd (· = B) a b) (hB : n ≤ B) : Upd (n ≤ ·) a b := h.mono (fun k _ e => by omega)
theorem Upd.none {a b : World} {T : Nat → Prop} (h : Upd (fun _ => False) a b) : Upd T a b := h.mono (fun _ _ e => e.elim)

theorem aw_has (B : Nat) : (memNew B 2).has 17 = true := rfl
theorem aw_has1 (B : Nat) : ((memNew B 2).wr 17 5).has 17 = true := rfl
theorem aw_rd (B : Nat) : ((memNew B 2).wr 17 5).rd 17 = 5 := rfl
theorem aw_z (B : Nat) : ((memNew B 2).wr 17 5).zero 1 = false := rfl
theorem aw_ex (B : Nat) : ((memNew B 2).wr 17 5).ex 1 1 = true := rfl
theorem aw_z2 (B : Nat) : (((memNew B 2).wr 17 5).scrub 1 1).zero 1 = true := rfl
theorem aw_n (B : Nat) : (((memNew B 2).wr 17 5).scrub 1 1).n = 2 := rfl
set_option maxHeartbeats 400000 in
theorem awake_any (w : World) : Calls Try.prog 7 #[] w fun e w' => e = .returned (.bool true) ∧ Upd (fun _ => False) w w' := by
  go_enter Try.func7, Try.ntmps7
  go_wp2_with fail
  refine (new_yes 2 _ (by omega) (by omega)).mono ?_
  rintro e w1 ⟨rfl, M1, U1, _⟩
  go_wp2_with fail
  refine (write_any _ _ 17 5 _ M1).mono ?_
  rintro e w2 ⟨rfl, M2, U2⟩
  rw [aw_has]
  go_wp2_with fail
  refine (read_any _ _ 17 _ M2).mono ?_
  rintro e w3 ⟨rfl, rfl⟩
  rw [aw_rd, aw_has1]
  go_wp2_with fail
  refine (zero_any _ _ 1 _ M2).mono ?_
  rintro e w3 ⟨rfl, rfl⟩
  rw [aw_z]
  go_wp2_with fail
  refine (scrub_any _ _ 1 1 _ M2 (by omega)).mono ?_
  rintro e w3 ⟨rfl, M3, U3⟩
  rw [aw_ex]
  go_wp2_with fail
  refine (zero_any _ _ 1 _ M3).mono ?_
  rintro e w4 ⟨rfl, rfl⟩
  rw [aw_z2]
  go_wp2_with fail
  refine (frames_any _ _ _ M3).mono ?_
  rintro e w4 ⟨rfl, rfl⟩
  rw [aw_n]
  go_wp2
  go_ret
  exact ⟨rfl, (U1.new (U2.one (Nat.le_refl _))).new (U3.one (Nat.le_refl _))⟩

/-- words of which each second one is v -/
def second (v : Int) : List Int := [v, 0, v, 0, v, 0, v, 0, v, 0, v, 0, v, 0, v, 0]
/-- the first k pairs of them -/
def secondN (v : Int) (k : Nat) : List Int := (second v).take (2 * k) ++ noughts.drop (2 * k)
theorem secondN_step (v : Int) (k : Nat) (h : k < 8) : (secondN v k).set (2 * k) v = secondN v (k + 1) := by
  match k, h with
  | 0, _ | 1, _ | 2, _ | 3, _ | 4, _ | 5, _ | 6, _ | 7, _ => rfl
theorem secondN_len (v : Int) (k : Nat) (h : k ≤ 8) : (secondN v k).length = 16 := by
  match k, h with
  | 0, _ | 1, _ | 2, _ | 3, _ | 4, _ | 5, _ | 6, _ | 7, _ | 8, _ => rfl
theorem second_len (v : Int) : (second v).length = 16 := rfl
theorem ints_set (k : IntKind) (l : List Int) (i : Nat) (v : Int) : (ints k l).set i (.int k v) = ints k (l.set i v) := by simp [ints, List.map_set]
set_option maxHeartbeats 400000 in
theorem second_any (v : Int) (w : World) : Calls Try.prog 15 #[.int .u64 v] w fun e w' => e = .returned (.agg (ints .u64 (second v)).toArray) ∧ Upd (fun _ => False) w w' := by
  obtain ⟨f1, f2⟩ := alloc2_facts w 37 37 #[.int .u64 0, .int .u64 0, .int .u64 0, .int .u64 0, .int .u64 0, .int .u64 0, .int .u64 0, .int .u64 0, .int .u64 0, .int .u64 0, .int .u64 0, .int .u64 0, .int .u64 0, .int .u64 0, .int .u64 0, .int .u64 0] #[.int .u64 0, .int .u64 0, .int .u64 0, .int .u64 0, .int .u64 0, .int .u64 0, .int .u64 0, .int .u64 0, .int .u64 0, .int .u64 0, .int .u64 0, .int .u64 0, .int .u64 0, .int .u64 0, .int .u64 0, .int .u64 0]
  have hU : Upd (fun _ => False) w ((w.alloc (.cells #[.int .u64 0, .int .u64 0, .int .u64 0, .int .u64 0, .int .u64 0, .int .u64 0, .int .u64 0, .int .u64 0, .int .u64 0, .int .u64 0, .int .u64 0, .int .u64 0, .int .u64 0, .int .u64 0, .int .u64 0, .int .u64 0] 37)).alloc (.cells #[.int .u64 0, .int .u64 0, .int .u64 0, .int .u64 0, .int .u64 0, .int .u64 0, .int .u64 0, .int .u64 0, .int .u64 0, .int .u64 0, .int .u64 0, .int .u64 0, .int .u64 0, .int .u64 0, .int .u64 0, .int .u64 0] 37)) := ((Upd.refl _ _).alloc _).alloc _
  have F1 : Hid (((w.alloc (.cells #[.int .u64 0, .int .u64 0, .int .u64 0, .int .u64 0, .int .u64 0, .int .u64 0, .int .u64 0, .int .u64 0, .int .u64 0, .int .u64 0, .int .u64 0, .int .u64 0, .int .u64 0, .int .u64 0, .int .u64 0, .int .u64 0] 37)).alloc (.cells #[.int .u64 0, .int .u64 0, .int .u64 0, .int .u64 0, .int .u64 0, .int .u64 0, .int .u64 0, .int .u64 0, .int .u64 0, .int .u64 0, .int .u64 0, .int .u64 0, .int .u64 0, .int .u64 0, .int .u64 0, .int .u64 0] 37)).heap[w.heap.size]? = some (.cells (ints .u64 noughts).toArray 37 (0, 0))) := f1
  have F2 : Hid (((w.alloc (.cells #[.int .u64 0, .int .u64 0, .int .u64 0, .int .u64 0, .int .u64 0, .int .u64 0, .int .u64 0, .int .u64 0, .int .u64 0, .int .u64 0, .int .u64 0, .int .u64 0, .int .u64 0, .int .u64 0, .int .u64 0, .int .u64 0] 37)).alloc (.cells #[.int .u64 0, .int .u64 0, .int .u64 0, .int .u64 0, .int .u64 0, .int .u64 0, .int .u64 0, .int .u64 0, .int .u64 0, .int .u64 0, .int .u64 0, .int .u64 0, .int .u64 0, .int .u64 0, .int .u64 0, .int .u64 0] 37)).heap[w.heap.size + 1]? = some (.cells (ints .u64 (secondN v 0)).toArray 37 (0, 0))) := f2
  clear f1 f2
  go_enter Try.func15, Try.ntmps15
  go_wp2
  generalize (w.alloc (.cells #[.int .u64 0, .int .u64 0, .int .u64 0, .int .u64 0, .int .u64 0, .int .u64 0, .int .u64 0, .int .u64 0, .int .u64 0, .int .u64 0, .int .u64 0, .int .u64 0, .int .u64 0, .int .u64 0, .int .u64 0, .int .u64 0] 37)).alloc (.cells #[.int .u64 0, .int .u64 0, .int .u64 0, .int .u64 0, .int .u64 0, .int .u64 0, .int .u64 0, .int .u64 0, .int .u64 0, .int .u64 0, .int .u64 0, .int .u64 0, .int .u64 0, .int .u64 0, .int .u64 0, .int .u64 0] 37) = W at F1 F2 hU ⊢
  go_loopw [4] (fun t wr => ∃ k : Nat, k ≤ 8 ∧ t = .int .i64 (2 * k : Nat) ∧ Hid (wr.heap[w.heap.size]? = some (.cells (ints .u64 noughts).toArray 37 (0, 0))) ∧ Hid (wr.heap[w.heap.size + 1]? = some (.cells (ints .u64 (secondN v k)).toArray 37 (0, 0))) ∧ Upd (fun _ => False) w wr) (fun t _ => 16 - (intOf t).toNat)
  case atStart => exact ⟨0, by omega, rfl, F1, F2, hU⟩
  case round =>
    obtain ⟨k, hk, rfl, G1, G2, hU⟩ := hrel
    by_cases hlt : k < 8
    · have hc := cell_block G2.out (2 * k) (by rw [secondN_len v k hk]; omega)
      have hf := frozen_block G2.out (2 * k)
      generalize (secondN v k).getD (2 * k) 0 = x at hc
      go_wp2
      go_roundw
      case rel =>
        refine ⟨k + 1, by omega, by go_num, ?_, ?_, hU.setCell (by right; show w.heap.size ≤ w.heap.size + 1; omega) _⟩
        · show _ = _
          rw [Below.heap_setCell _ _ _ _ (by show w.heap.size ≠ w.heap.size + 1; omega)]; exact G1.out
        · show _ = _
          rw [heap_setCell_same G2.out, ints_set, secondN_step v k hlt]
      case measure => simp [intOf]; omega
    · have e : k = 8 := by omega
      subst e
      have R2 := Lib.hid (show wr.rangeAt (w.heap.size + 1) 0 (ints .u64 (second v)) from rangeAt_block G2.out)
      have T1 := Lib.hid (there_block G1.out 0 16 (Nat.le_refl _))
      have hL : Hid ((second v).length = 16) := rfl
      generalize hq : second v = L at *
      have Hq := Lib.hid hq
      clear hq
      go_wp2_with (first
        | (with_reducible refine wpList_load_sz rfl 37 (.tmp 3) rfl (w.heap.size + 1) 0 rfl (ints .u64 L) _ R2.out Try.underlying37 rfl 16 (by rw [ints_length]; exact hL.out) size_arr ?_)
        | (with_reducible refine wpList_store_sz rfl 37 (.tmp 2) (.tmp 12) rfl w.heap.size 0 (ints .u64 L).toArray rfl rfl 16 (by rw [List.size_toArray, ints_length]; exact hL.out) T1.out size_arr (ints_one _ _) _ rfl ?_))
      have hld := heap_setCells_same w.heap.size 37 (ints .u64 L) 0 wr (ints .u64 noughts) G1.out (by rw [ints_length, ints_length, hL.out]; exact Nat.le_refl _)
      rw [splice_ints, splice_all _ _ (by rw [hL.out]; rfl)] at hld
      have hU2 : Upd (fun _ => False) w (wr.setCells w.heap.size 0 (ints .u64 L)) := Upd.setCells (by right; exact Nat.le_refl _) _ _ hU
      generalize wr.setCells w.heap.size 0 (ints .u64 L) = W2 at hld hU2 ⊢
      refine bodyPost_ret (v := .agg (ints .u64 L).toArray) ?_ rfl ⟨by rw [Hq.out], hU2⟩
      have := run_loadVar_mid (P := Try.prog) W2 w.heap.size 0 37 (ints .u64 L) _ (rangeAt_block hld) Try.underlying37 rfl (by rw [ints_length, hL.out]; exact size_arr)
      simp [results, Try.results15, asAddr, Act.put, this]
end Go.Proofs.Ytjcemelpdffnkaa
