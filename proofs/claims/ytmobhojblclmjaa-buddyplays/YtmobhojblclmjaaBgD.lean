/-
  Package buddy: longest, the greatest free block that begins at a frame.
-/
import Derived.Test.YtmobhojblclmjaaBgC
import Derived.Deep.LoopGhost
import Derived.WalkMore
namespace Go.Proofs.Ytmobhojblclmjaa
open Go.ChangeShapes Go.WideShapes Go.ChangeAt Go.RowKit Go.Maps

/-- what longest tells where the greatest order is bt, or none -/
def lres (i : Nat) (bt : Int) : Value := if bt < 0 then .tuple #[.agg #[.int .i64 0, .int .i64 0], .bool false] else .tuple #[.agg #[.int .i64 i, .int .i64 bt], .bool true]
theorem size_block : (Try.prog.info? 60).map (·.size) = some 2 := by kernel_rfl
theorem mul_fit {i k : Nat} (hi : i < 256) (hk : k ≤ 8) (h : i % 2 ^ k = 0) : i + 2 ^ k ≤ 256 := by
  obtain ⟨d, hd⟩ := Nat.le.dest hk
  have e : 256 = 2 ^ k * 2 ^ d := by rw [← Nat.pow_add, hd]
  obtain ⟨c, hc⟩ := Nat.dvd_of_mod_eq_zero h
  have hp := Nat.two_pow_pos k
  rw [hc, e] at hi
  have := Nat.lt_of_mul_lt_mul_left hi
  have h2 : 2 ^ k * (c + 1) ≤ 2 ^ k * 2 ^ d := Nat.mul_le_mul_left _ (by omega)
  rw [hc]
  rw [Nat.mul_succ] at h2
  omega
theorem two_sz (x y : Int) : (#[.int .i64 x, .int .i64 y] : Array Value).size = 2 := rfl
theorem two_one (x y : Int) : (#[.int .i64 x, .int .i64 y] : Array Value).all (·.oneCell') = true := all_oneCell_toArray (cs := [.int .i64 x, .int .i64 y]) fun v hv => by
  simp at hv
  rcases hv with rfl | rfl <;> rfl
theorem two_ls (x y : Int) : (#[.int .i64 x, .int .i64 y] : Array Value).toList = [.int .i64 x, .int .i64 y] := rfl
set_option maxRecDepth 100000 in
set_option maxHeartbeats 2000000 in
theorem blong_any (F : Nat → Bool) (n i : Nat) (w : World) (hi : i < 256) (hn : n ≤ 256) (hF : ∀ j, F j = true → j < n) :
    Calls Try.prog 38 #[.agg (fcells 256 F).toArray, .int .i64 i] w fun e w' => e = .returned (lres i (bestTo F n i 9)) ∧ Upd (fun _ => False) w w' := by
  obtain ⟨N, hN⟩ : ∃ N, w.heap.size = N := ⟨_, rfl⟩
  obtain ⟨L, hL⟩ : ∃ L, fcells 256 F = L := ⟨_, rfl⟩
  rw [hL]
  obtain ⟨W, hWe⟩ : ∃ W, (w.alloc (.cells L.toArray 80)).alloc (.cells #[.int .i64 0, .int .i64 0] 60) = W := ⟨_, rfl⟩
  have hU0 : Upd (fun _ => False) w W := by rw [← hWe]; exact ((Upd.refl _ _).alloc _).alloc _
  have hW0 := Lib.hid (show W.heap[N]? = some (.cells (fcells 256 F).toArray 80 (0, 0)) from by
    rw [← hWe, ← hN, Below.heap_alloc _ _ _ (by simp), hL]
    exact heap_alloc_last w _)
  have hW1 := Lib.hid (show W.heap[N + 1]? = some (.cells #[.int .i64 0, .int .i64 0] 60 (0, 0)) from by
    have := heap_alloc_last (w.alloc (.cells L.toArray 80)) (.cells #[.int .i64 0, .int .i64 0] 60)
    rwa [World.size_alloc, hN, hWe] at this)
  clear hL
  go_enter Try.func38, Try.ntmps38
  go_upto_region 1 with fail
  clear hWe
  go_wp2
  go_step3
  go_wp2
  go_step3
  go_wp2
  go_loopg [6] 9 (fun g t wr => g ≤ 9 ∧ t = .int .i64 ((g : Int) - 1) ∧ wr = W ∧ Hid (bestTo F n i 9 = bestTo F n i g))
  case atStart => exact ⟨Nat.le_refl _, rfl, rfl, Lib.hid rfl⟩
  case round =>
    obtain ⟨hg, rfl, rfl, hbt⟩ := hrel
    cases gk with
    | zero =>
      have hv := Lib.hid (show lres i (bestTo F n i 9) = .tuple #[.agg #[.int .i64 0, .int .i64 0], .bool false] from by rw [hbt.out]; rfl)
      have hT1 := Lib.hid (row_there (C := [.int .i64 0, .int .i64 0]) hW1.out 2 (Nat.le_refl _))
      have hNN : w.heap.size ≤ N + 1 := by omega
      clear hF hbt
      go_wp2_with (first
        | (with_reducible refine wpList_store_sz rfl 60 (.tmp 4) (.tmp 33) rfl (N + 1) 0 #[.int .i64 0, .int .i64 0] rfl rfl 2 (two_sz _ _) hT1.out size_block (two_one _ _) [.int .i64 0, .int .i64 0] (two_ls _ _) ?_))
      have hfin := heap_setCells_same (N + 1) 60 [.int .i64 0, .int .i64 0] 0 wr [.int .i64 0, .int .i64 0] hW1.out (Nat.le_refl _)
      rw [splice_all _ _ rfl] at hfin
      have hU2 : Upd (fun _ => False) w (wr.setCells (N + 1) 0 [.int .i64 0, .int .i64 0]) := Upd.setCells (by right; exact hNN) _ _ hU0
      generalize wr.setCells (N + 1) 0 [.int .i64 0, .int .i64 0] = W2 at hfin hU2 ⊢
      try rw [Exit.noGoto_ret]
      refine bodyPost_ret (v := .tuple #[.agg #[.int .i64 0, .int .i64 0], .bool false]) ?_ rfl ⟨by rw [hv.out], hU2⟩
      have := run_loadVar_mid (P := Try.prog) W2 (N + 1) 0 60 [.int .i64 0, .int .i64 0] _ (row_range hfin) Try.underlying60 rfl size_block
      simp [results, Try.results38, asAddr, this]
    | succ k =>
      have hk8 : k ≤ 8 := by omega
      have hbd := pw_bd k hk8
      have hst := Lib.hid (show bestTo F n i (k + 1) = if (decide (i % 2 ^ k = 0) && freeAll F n i (2 ^ k)) = true then (k : Int) else bestTo F n i k from by rw [bestTo, blkB_free])
      have hmod : (i : Int) % pw k = 0 ↔ i % 2 ^ k = 0 := by
        unfold pw
        rw [← Int.natCast_emod]
        omega
      have hne : ¬ pw k = 0 := by omega
      have hk1 : ((k + 1 : Nat) : Int) - 1 = (k : Int) := by omega
      rw [hk1]
      by_cases hal : i % 2 ^ k = 0
      · have hm := hmod.2 hal
        have hfit := mul_fit hi hk8 hal
        have hpw := Lib.hid (show pw k = ((2 ^ k : Nat) : Int) from rfl)
        have hyes := Lib.hid (show (∀ y, y < 2 ^ k → F (i + y) = true) → bestTo F n i 9 = (k : Int) from fun ha => by
          have hp := Nat.two_pow_pos k
          have hlast := hF _ (ha (2 ^ k - 1) (by omega))
          rw [hbt.out, hst.out, decide_eq_true hal, freeAll_yes (by omega) fun j h1 h2 => by have := ha (j - i) (by omega); rwa [show i + (j - i) = j from by omega] at this]
          rfl)
        have hno := Lib.hid (show ∀ y, y < 2 ^ k → F (i + y) = false → bestTo F n i 9 = bestTo F n i k from fun y hy hf => by
          rw [hbt.out, hst.out, freeAll_hit (j := i + y) (by omega) (by omega) hf, Bool.and_false]
          rfl)
        have hfit2 : (i : Int) + pw k ≤ 256 := by have := hpw.out; omega
        clear hmod hst hbt hal hF hfit
        go_wp2_with (first
          | (with_reducible refine wpList_shl1 rfl _ _ _ _ rfl rfl k hk8 rfl ?_)
          | go_in)
        go_loopg [20] 256 (fun g t wr' => ∃ x : Nat, (x : Int) ≤ pw k ∧ x + g = 256 ∧ t = .int .i64 x ∧ wr' = wr ∧ Hid (∀ y, y < x → F (i + y) = true))
        case atStart => exact ⟨0, by omega, by omega, rfl, rfl, Lib.hid fun y hy => by omega⟩
        case round =>
          obtain ⟨x, hx, hxg, rfl, rfl, hall⟩ := hrel
          by_cases hxl : (x : Int) < pw k
          · have hci := fcell hW0.out (i + x) (by omega)
            cases hFx : F (i + x)
            · have hnx := Lib.hid (hno.out x (by have := hpw.out; omega) hFx)
              rw [hFx] at hci
              clear hyes hno hpw hall hFx
              go_wp2
              go_roundg k
              case measure => omega
              case rel => exact ⟨by omega, by go_num, rfl, hnx⟩
            · rw [hFx] at hci
              have hall' := Lib.hid (show ∀ y, y < x + 1 → F (i + y) = true from fun y hy => by
                rcases Nat.lt_or_ge y x with h1 | h1
                · exact hall.out y h1
                · rw [show y = x from by omega]; exact hFx)
              clear hyes hno hpw hall hFx
              go_wp2
              go_roundg (gk - 1)
              case measure => omega
              case rel => exact ⟨x + 1, by omega, by omega, by go_num, rfl, hall'⟩
          · have e := Lib.hid (hyes.out fun y hy => hall.out y (by have := hpw.out; omega))
            have hv := Lib.hid (show lres i (bestTo F n i 9) = .tuple #[.agg #[.int .i64 i, .int .i64 k], .bool true] from by rw [e.out]; unfold lres; rw [if_neg (by omega)])
            have hT1 := Lib.hid (row_there (C := [.int .i64 0, .int .i64 0]) hW1.out 2 (Nat.le_refl _))
            have hNN : w.heap.size ≤ N + 1 := by omega
            clear hyes hno hpw hall e
            go_wp2_with (first
              | (with_reducible refine wpList_store_sz rfl 60 (.tmp 4) (.tmp 32) rfl (N + 1) 0 #[.int .i64 i, .int .i64 k] rfl rfl 2 (two_sz _ _) hT1.out size_block (two_one _ _) [.int .i64 i, .int .i64 k] (two_ls _ _) ?_))
            have hfin := heap_setCells_same (N + 1) 60 [.int .i64 i, .int .i64 k] 0 wr [.int .i64 0, .int .i64 0] hW1.out (Nat.le_refl _)
            rw [splice_all ([.int .i64 0, .int .i64 0] : List Value) [.int .i64 i, .int .i64 k] rfl] at hfin
            have hU2 : Upd (fun _ => False) w (wr.setCells (N + 1) 0 [.int .i64 i, .int .i64 k]) := Upd.setCells (by right; exact hNN) _ _ hU0
            generalize wr.setCells (N + 1) 0 [.int .i64 i, .int .i64 k] = W2 at hfin hU2 ⊢
            refine bodyPost_ret (v := .tuple #[.agg #[.int .i64 i, .int .i64 k], .bool true]) ?_ rfl ⟨by rw [hv.out], hU2⟩
            have := run_loadVar_mid (P := Try.prog) W2 (N + 1) 0 60 [.int .i64 i, .int .i64 k] _ (row_range hfin) Try.underlying60 rfl size_block
            simp [results, Try.results38, asAddr, this]
      · have hm : ¬ (i : Int) % pw k = 0 := fun h => hal (hmod.1 h)
        have hnx := Lib.hid (show bestTo F n i 9 = bestTo F n i k from by rw [hbt.out, hst.out, decide_eq_false hal]; rfl)
        clear hmod hst hbt hal hF
        go_wp2_with (first
          | (with_reducible refine wpList_shl1 rfl _ _ _ _ rfl rfl k hk8 rfl ?_)
          | go_in)
        go_roundg k
        case measure => omega
        case rel => exact ⟨by omega, by go_num, rfl, hnx⟩
end Go.Proofs.Ytmobhojblclmjaa
