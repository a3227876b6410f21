/-
  Texts that the laws stand on, joined: IsU, BitsM, BitsA, BitsK, BitsB, BitsC, BitsD, BitsE, IsV, IsW, IsX, IsZ, MapK, IsY, IsO.
-/
import Derived.Deep.RegionHeld3
import Derived.IntWalk
import Derived.Laws.BitsAllLaws
import Derived.Maps.OwnOps
import Derived.Maps.OwnSet
import Derived.Maps.RangeWalk
import Derived.StringKeys
import Derived.Test.YtgjppnbkklionaaDoorPart1

/-
  The document's own instructions: Of.
-/
namespace Go.Proofs.YtgjppnbkklionaaDoor
open Go.ChangeShapes Go.WideShapes Go.ChangeAt Go.RowKit

def Ins.zero : Ins := ⟨0, 0, 0, 0, 0⟩
/-- what Of answers -/
def Ins.ov (v : Int) : Ins := if Ins.hit v = true then Ins.of v else Ins.zero
def Ins.oe (v : Int) : Int := if Ins.hit v = true then 0 else 11
theorem ins_sz (o a b c m : Int) : (#[.int .i64 o, .int .i64 a, .int .i64 b, .int .i64 c, .int .i64 m] : Array Value).size = 5 := rfl
theorem ins_one (o a b c m : Int) : (#[.int .i64 o, .int .i64 a, .int .i64 b, .int .i64 c, .int .i64 m] : Array Value).all (·.oneCell') = true := by simp [Value.oneCell']
theorem ins_ls (o a b c m : Int) : (#[.int .i64 o, .int .i64 a, .int .i64 b, .int .i64 c, .int .i64 m] : Array Value).toList = [.int .i64 o, .int .i64 a, .int .i64 b, .int .i64 c, .int .i64 m] := rfl
theorem InsAt.there {w : World} {X : Nat} {i : Ins} (h : InsAt w X i) : w.there X 0 5 := fun j hj => by
  refine ⟨?_, frozen_block h _⟩
  match j, hj with
  | 0, _ => rw [h.range 0 _ rfl]; rfl
  | 1, _ => rw [h.range 1 _ rfl]; rfl
  | 2, _ => rw [h.range 2 _ rfl]; rfl
  | 3, _ => rw [h.range 3 _ rfl]; rfl
  | 4, _ => rw [h.range 4 _ rfl]; rfl
theorem InsAt.set {w : World} {X : Nat} {i : Ins} (h : InsAt w X i) (k : Ins) : InsAt (w.setCells X 0 [.int .i64 k.op, .int .i64 k.a, .int .i64 k.b, .int .i64 k.c, .int .i64 k.m]) X k :=
  heap_setCells_same X _ [.int .i64 k.op, .int .i64 k.a, .int .i64 k.b, .int .i64 k.c, .int .i64 k.m] 0 w _ h (by simp)
theorem ret_ins {fn : Func} {p u : Tmp} (h : fn.results = #[.cell p 23, .tmp u]) (tmps : Array Value) (w : World) (b : Nat) (i : Ins) (hp : tmps.getD p undef = .pointer (some ⟨b, 0, none⟩)) (he : InsAt w b i) :
    (results fn tmps).run Tryd.prog w = .ok (.tuple #[.agg #[.int .i64 i.op, .int .i64 i.a, .int .i64 i.b, .int .i64 i.c, .int .i64 i.m], tmps.getD u undef]) w := by
  rw [results_cell_tmp h, hp]
  have := run_loadVar_mid w b 0 23 [.int .i64 i.op, .int .i64 i.a, .int .i64 i.b, .int .i64 i.c, .int .i64 i.m] _ he.range Tryd.underlying23 rfl size_ins
  simp only [asAddr, Sem.run_pure, Result.andThen_ok]
  rw [this]
  rfl
theorem of_part (v : Int) (h0 : 0 ≤ v) (h1 : v < 18446744073709551616) (d k : Int) (hd : 0 < d) (hk : 0 < k) (hk' : k ≤ 65536) : wrap64 ((IntKind.u64.wrap (v.tdiv d)).tmod k) = v / d % k := by
  have e1 : v.tdiv d = v / d := Int.tdiv_eq_ediv_of_nonneg h0
  have e2 : 0 ≤ v / d := Int.ediv_nonneg h0 (Int.le_of_lt hd)
  have e3 : v / d ≤ v := Int.ediv_le_self d h0
  have e4 : 0 ≤ v / d % k := Int.emod_nonneg _ (by omega)
  have e5 : v / d % k < k := Int.emod_lt_of_pos _ hk
  rw [e1, IntWalk.u64_in _ ⟨e2, by omega⟩, Int.tmod_eq_emod_of_nonneg e2]
  exact IntWalk.wrap64_in _ (by omega)
set_option maxRecDepth 100000 in
set_option maxHeartbeats 2000000 in
theorem iof_any (v : Int) (h0 : 0 ≤ v) (h1 : v < 18446744073709551616) (w : World) : Calls Tryd.prog 11 #[.int .u64 v] w fun e w' => e = .returned (.tuple #[.agg #[.int .i64 (Ins.ov v).op, .int .i64 (Ins.ov v).a, .int .i64 (Ins.ov v).b, .int .i64 (Ins.ov v).c, .int .i64 (Ins.ov v).m], .int .i64 (Ins.oe v)]) ∧ Upd (fun _ => False) w w' := by
  have t1 := of_part v h0 h1 256 8 (by omega) (by omega) (by omega)
  have t2 := of_part v h0 h1 2048 8 (by omega) (by omega) (by omega)
  have t3 := of_part v h0 h1 16384 8 (by omega) (by omega) (by omega)
  have t4 := of_part v h0 h1 16777216 65536 (by omega) (by omega) (by omega)
  have T := Lib.hid (And.intro t1 (And.intro t2 (And.intro t3 t4)))
  clear t1 t2 t3 t4 h1
  have k0 := Lib.hid (show InsAt (w.alloc (.cells #[.int .i64 0, .int .i64 0, .int .i64 0, .int .i64 0, .int .i64 0] 23)) w.heap.size Ins.zero from heap_alloc_last w _)
  have U0 := Lib.hid ((Upd.refl (fun _ => False) w).alloc (.cells #[.int .i64 0, .int .i64 0, .int .i64 0, .int .i64 0, .int .i64 0] 23))
  have cW := Lib.hid (fun W => iword_any (Ins.of v) W)
  have hv := Lib.hid (show Ins.of v = ⟨v % 256, v / 256 % 8, v / 2048 % 8, v / 16384 % 8, v / 16777216 % 65536⟩ from rfl)
  have hy : Hid (Ins.hit v = true → Ins.ov v = Ins.of v ∧ Ins.oe v = 0 ∧ (Ins.of v).we = 0 ∧ (Ins.of v).wv = v) := Lib.hid (fun h => by
    have h2 := h
    unfold Ins.hit at h2
    simp only [Bool.and_eq_true, decide_eq_true_eq] at h2
    refine ⟨by unfold Ins.ov; rw [h]; rfl, by unfold Ins.oe; rw [h]; rfl, by unfold Ins.we; rw [h2.1]; rfl, by unfold Ins.wv; rw [h2.1, if_pos rfl]; exact h2.2⟩)
  have hn : Hid (Ins.hit v = false → Ins.ov v = Ins.zero ∧ Ins.oe v = 11 ∧ ((Ins.of v).we = 1 ∨ ((Ins.of v).we = 0 ∧ (Ins.of v).wv ≠ v))) := Lib.hid (fun h => by
    refine ⟨by unfold Ins.ov; rw [h]; rfl, by unfold Ins.oe; rw [h]; rfl, ?_⟩
    unfold Ins.hit at h
    cases hr : (Ins.of v).right
    · exact .inl (by unfold Ins.we; rw [hr]; rfl)
    · rw [hr, Bool.true_and] at h
      exact .inr ⟨by unfold Ins.we; rw [hr]; rfl, by unfold Ins.wv; rw [hr, if_pos rfl]; exact of_decide_eq_false h⟩)
  generalize Ins.ov v = ov at hy hn ⊢
  generalize Ins.oe v = oe at hy hn ⊢
  obtain ⟨u, hu⟩ : ∃ u, Ins.of v = u := ⟨_, rfl⟩
  rw [hu] at cW hv hy hn
  clear hu
  go_enter Tryd.func11, Tryd.ntmps11
  go_upto_region 1 with fail
  obtain ⟨w1, hw1⟩ : ∃ w1, w1 = w.alloc (.cells #[.int .i64 0, .int .i64 0, .int .i64 0, .int .i64 0, .int .i64 0] 23) := ⟨_, rfl⟩
  obtain ⟨N, hN⟩ : ∃ N, N = w.heap.size := ⟨_, rfl⟩
  have HN := Lib.hid (Nat.le_of_eq hN.symm)
  rw [← hw1, ← hN] at k0
  rw [← hw1] at U0 ⊢
  rw [← hN]
  clear hw1 hN
  go_upto_region 2 with fail
  rw [T.out.1, T.out.2.1, T.out.2.2.1, T.out.2.2.2]
  have X4 := Lib.hid (show InsAt (w1.alloc (.cells #[.int .i64 (v % 256), .int .i64 (v / 256 % 8), .int .i64 (v / 2048 % 8), .int .i64 (v / 16384 % 8), .int .i64 (v / 16777216 % 65536)] 23)) w1.heap.size u from by rw [hv.out]; exact heap_alloc_last w1 _)
  have u4 := (Upd.refl (fun _ => False) w1).alloc (.cells #[.int .i64 (v % 256), .int .i64 (v / 256 % 8), .int .i64 (v / 2048 % 8), .int .i64 (v / 16384 % 8), .int .i64 (v / 16777216 % 65536)] 23)
  have k4 := Lib.hid (k0.out.kept u4 id)
  have V4 := Lib.hid (U0.out.trans u4)
  clear k0 U0 u4 T hv
  generalize w1.alloc (.cells #[.int .i64 (v % 256), .int .i64 (v / 256 % 8), .int .i64 (v / 2048 % 8), .int .i64 (v / 16384 % 8), .int .i64 (v / 16777216 % 65536)] 23) = w4 at X4 k4 V4 ⊢
  generalize w1.heap.size = D at X4 ⊢
  go_wp2_with (with_reducible refine wpList_load_sz rfl 23 (.tmp 4) rfl D 0 rfl [.int .i64 u.op, .int .i64 u.a, .int .i64 u.b, .int .i64 u.c, .int .i64 u.m] _ X4.out.range Tryd.underlying23 rfl 5 (ins_len _ _ _ _ _) size_ins ?_)
  refine (cW.out _).mono ?_
  rintro e w5 ⟨rfl, u5⟩
  have X5 := Lib.hid (X4.out.kept u5 id)
  have k5 := Lib.hid (k4.out.kept u5 id)
  have V5 := Lib.hid (V4.out.trans u5)
  clear X4 k4 V4 u5 cW
  have K := k5.out.there
  generalize u.wv = wv at hy hn ⊢
  generalize u.we = we at hy hn ⊢
  cases hh : Ins.hit v
  · obtain ⟨rfl, rfl, hd⟩ := hn.out hh
    clear hy hn hh
    rcases hd with rfl | ⟨rfl, hne⟩
    · go_wp2_with (with_reducible refine wpList_store_sz rfl 23 (.tmp 2) (.tmp 39) rfl N 0 #[.int .i64 0, .int .i64 0, .int .i64 0, .int .i64 0, .int .i64 0] rfl rfl 5 (ins_sz _ _ _ _ _) K size_ins (ins_one _ _ _ _ _) [.int .i64 0, .int .i64 0, .int .i64 0, .int .i64 0, .int .i64 0] (ins_ls _ _ _ _ _) ?_)
      (try simp only [Exit.inBlock, Exit.then])
      refine bodyPost_ret (ret_ins rfl _ _ N Ins.zero rfl (k5.out.set Ins.zero)) rfl ⟨rfl, ?_⟩
      exact Upd.setCells (.inr HN.out) _ _ V5.out
    · have hb : (wv != v) = true := by simp [hne]
      go_wp2_with (with_reducible refine wpList_store_sz rfl 23 (.tmp 2) (.tmp 39) rfl N 0 #[.int .i64 0, .int .i64 0, .int .i64 0, .int .i64 0, .int .i64 0] rfl rfl 5 (ins_sz _ _ _ _ _) K size_ins (ins_one _ _ _ _ _) [.int .i64 0, .int .i64 0, .int .i64 0, .int .i64 0, .int .i64 0] (ins_ls _ _ _ _ _) ?_)
      (try simp only [Exit.inBlock, Exit.then])
      refine bodyPost_ret (ret_ins rfl _ _ N Ins.zero rfl (k5.out.set Ins.zero)) rfl ⟨rfl, ?_⟩
      exact Upd.setCells (.inr HN.out) _ _ V5.out
  · obtain ⟨rfl, rfl, rfl, rfl⟩ := hy.out hh
    clear hy hn hh
    go_wp2_with (first
      | (with_reducible refine wpList_load_sz rfl 23 (.tmp 4) rfl D 0 rfl [.int .i64 ov.op, .int .i64 ov.a, .int .i64 ov.b, .int .i64 ov.c, .int .i64 ov.m] _ X5.out.range Tryd.underlying23 rfl 5 (ins_len _ _ _ _ _) size_ins ?_)
      | (with_reducible refine wpList_store_sz rfl 23 (.tmp 2) (.tmp 40) rfl N 0 #[.int .i64 ov.op, .int .i64 ov.a, .int .i64 ov.b, .int .i64 ov.c, .int .i64 ov.m] rfl rfl 5 (ins_sz _ _ _ _ _) K size_ins (ins_one _ _ _ _ _) [.int .i64 ov.op, .int .i64 ov.a, .int .i64 ov.b, .int .i64 ov.c, .int .i64 ov.m] (ins_ls _ _ _ _ _) ?_))
    (try simp only [Exit.inBlock, Exit.then])
    refine bodyPost_ret (ret_ins rfl _ _ N ov rfl (k5.out.set ov)) rfl ⟨rfl, ?_⟩
    exact Upd.setCells (.inr HN.out) _ _ V5.out
end Go.Proofs.YtgjppnbkklionaaDoor

/-
  Plain mathematics of bit fields: no program in it.
-/
namespace Go.Proofs.YtgjppnbkklionaaDoor.M

/-- the field's number -/
def getN (x f m : Nat) : Nat := x / 2 ^ f % 2 ^ m
/-- the word with the field replaced -/
def putN (x y f m : Nat) : Nat := 2 ^ f * (2 ^ m * (x / 2 ^ (f + m)) + y) + x % 2 ^ f

theorem getN_bit (x f m i : Nat) : (getN x f m).testBit i = (decide (i < m) && x.testBit (i + f)) := by
  unfold getN
  rw [Nat.testBit_mod_two_pow, Nat.testBit_div_two_pow, Nat.add_comm]
theorem putN_bit (x y f m i : Nat) (hy : y < 2 ^ m) : (putN x y f m).testBit i = if i < f then x.testBit i else if i < f + m then y.testBit (i - f) else x.testBit i := by
  unfold putN
  rw [Nat.testBit_two_pow_mul_add _ (Nat.mod_lt _ (Nat.two_pow_pos _))]
  by_cases h : i < f
  · simp [h, Nat.testBit_mod_two_pow]
  · rw [if_neg h, if_neg h, Nat.testBit_two_pow_mul_add _ hy]
    by_cases h2 : i < f + m
    · rw [if_pos (by omega), if_pos h2]
    · rw [if_neg (by omega), if_neg h2, Nat.testBit_div_two_pow]; congr 1; omega

theorem getN_lt (x f m : Nat) : getN x f m < 2 ^ m := Nat.mod_lt _ (Nat.two_pow_pos _)
theorem pow64 : (2 : Nat) ^ 64 = 18446744073709551616 := by decide
theorem getN_lt64 (x f m : Nat) (hm : m ≤ 64) : getN x f m < 18446744073709551616 := by
  rw [← pow64]; exact Nat.lt_of_lt_of_le (getN_lt x f m) (Nat.pow_le_pow_right (by decide) hm)

theorem lt_of_bits (a k : Nat) (h : ∀ i, k ≤ i → a.testBit i = false) : a < 2 ^ k := Nat.lt_pow_two_of_testBit a h
theorem bit_of_lt (a k i : Nat) (h : a < 2 ^ k) (hi : k ≤ i) : a.testBit i = false :=
  Nat.testBit_lt_two_pow (Nat.lt_of_lt_of_le h (Nat.pow_le_pow_right (by decide) hi))

theorem putN_lt64 (x y f m : Nat) (hy : y < 2 ^ m) (hx : x < 18446744073709551616) (hfm : f + m ≤ 64) : putN x y f m < 18446744073709551616 := by
  rw [← pow64] at hx ⊢
  apply lt_of_bits
  intro i hi
  rw [putN_bit _ _ _ _ _ hy, if_neg (by omega), if_neg (by omega)]
  exact bit_of_lt x 64 i hx hi

/-- what was put is got -/
theorem get_put (x y f m : Nat) (hy : y < 2 ^ m) : getN (putN x y f m) f m = y := by
  apply Nat.eq_of_testBit_eq
  intro i
  rw [getN_bit, putN_bit _ _ _ _ _ hy]
  by_cases h : i < m
  · rw [if_neg (by omega), if_pos (by omega)]; simp [h]
  · simp [h]; exact (bit_of_lt y m i hy (by omega))
/-- put back, the word is as it was -/
theorem put_back (x y f m : Nat) (hy : y < 2 ^ m) : putN (putN x y f m) (getN x f m) f m = x := by
  apply Nat.eq_of_testBit_eq
  intro i
  rw [putN_bit _ _ _ _ _ (getN_lt x f m), putN_bit _ _ _ _ _ hy, getN_bit]
  by_cases h : i < f
  · simp [h]
  · by_cases h2 : i < f + m
    · rw [if_neg h, if_pos h2]
      have e : i - f + f = i := by omega
      have e2 : i - f < m := by omega
      simp [e, e2]
    · simp [h, h2]
/-- two fields that have no bit in common -/
theorem get_apart (x y f m g k : Nat) (hy : y < 2 ^ k) (h : g + k ≤ f ∨ f + m ≤ g) : getN (putN x y g k) f m = getN x f m := by
  apply Nat.eq_of_testBit_eq
  intro i
  rw [getN_bit, getN_bit, putN_bit _ _ _ _ _ hy]
  by_cases hi : i < m
  · congr 1
    rcases h with h | h
    · rw [if_neg (by omega), if_neg (by omega)]
    · rw [if_pos (by omega)]
  · simp [hi]
/-- a word is put together of its two parts -/
theorem whole (x c : Nat) (hx : x < 18446744073709551616) (hc : c ≤ 64) : putN (putN 0 (getN x 0 c) 0 c) (getN x c (64 - c)) c (64 - c) = x := by
  rw [← pow64] at hx
  apply Nat.eq_of_testBit_eq
  intro i
  rw [putN_bit _ _ _ _ _ (getN_lt _ _ _), putN_bit _ _ _ _ _ (getN_lt _ _ _), getN_bit, getN_bit]
  by_cases h : i < c
  · simp [h]
  · by_cases h2 : i < c + (64 - c)
    · have e : i - c + c = i := by omega
      have e2 : i - c < 64 - c := by omega
      simp [h, h2, e, e2]
    · simp [h, h2]; exact bit_of_lt x 64 i hx (by omega)

/-- the code's masks -/
theorem and_get (x f m : Nat) : x / 2 ^ f &&& (2 ^ m - 1) = getN x f m := Nat.and_two_pow_sub_one_eq_mod _ _

theorem mask_bit (f m i : Nat) (h : f + m ≤ 64) : (18446744073709551615 - (2 ^ m - 1) * 2 ^ f).testBit i = (decide (i < 64) && !(decide (f ≤ i) && decide (i < f + m))) := by
  have hlt : (2 ^ m - 1) * 2 ^ f < 2 ^ 64 := by
    apply lt_of_bits
    intro j hj
    rw [← Nat.shiftLeft_eq, Nat.testBit_shiftLeft, Nat.testBit_two_pow_sub_one]
    simp; omega
  have e : 18446744073709551615 - (2 ^ m - 1) * 2 ^ f = 2 ^ 64 - ((2 ^ m - 1) * 2 ^ f + 1) := by rw [pow64]; omega
  rw [e, Nat.testBit_two_pow_sub_succ hlt, ← Nat.shiftLeft_eq, Nat.testBit_shiftLeft, Nat.testBit_two_pow_sub_one]
  congr 2
  by_cases h1 : f ≤ i <;> simp [h1]
  omega

theorem andNot_or (x y f m : Nat) (hx : x < 18446744073709551616) (hy : y < 2 ^ m) (h : f + m ≤ 64) :
    (x &&& (18446744073709551615 - (2 ^ m - 1) * 2 ^ f)) ||| (y * 2 ^ f) = putN x y f m := by
  rw [← pow64] at hx
  apply Nat.eq_of_testBit_eq
  intro i
  rw [Nat.testBit_or, Nat.testBit_and, mask_bit f m i h, putN_bit _ _ _ _ _ hy, ← Nat.shiftLeft_eq, Nat.testBit_shiftLeft]
  by_cases h0 : i < 64
  · by_cases h1 : i < f
    · have : ¬ f ≤ i := by omega
      simp [h0, h1, this]
    · by_cases h2 : i < f + m
      · have : f ≤ i := by omega
        simp [h1, h2, this]
      · have : f ≤ i := by omega
        simp [h0, h1, h2, this]
        exact fun hh => by rw [bit_of_lt y m (i - f) hy (by omega)] at hh; cases hh
  · have h1 : ¬ i < f := by omega
    have h2 : ¬ i < f + m := by omega
    have : f ≤ i := by omega
    rw [bit_of_lt x 64 i hx (by omega), bit_of_lt y m (i - f) hy (by omega)]
    simp [h1, h2]
end Go.Proofs.YtgjppnbkklionaaDoor.M
namespace Go.Proofs.YtgjppnbkklionaaDoor.M
/-- the least k with n ≤ 2^k -/
def logN (n : Nat) : Nat := if n ≤ 1 then 0 else Nat.log2 (n - 1) + 1
theorem logN_one {n : Nat} (h : n ≤ 1) : logN n = 0 := by simp [logN, h]
theorem logN_of {n k : Nat} (h1 : n ≤ 2 ^ k) (h2 : k = 0 ∨ 2 ^ (k - 1) < n) : logN n = k := by
  unfold logN
  by_cases h : n ≤ 1
  · rw [if_pos h]
    rcases h2 with h2 | h2
    · exact h2.symm
    · have := Nat.two_pow_pos (k - 1); omega
  · rw [if_neg h]
    have hn : n - 1 ≠ 0 := by omega
    have hk : k ≠ 0 := by rintro rfl; simp at h1; omega
    rcases h2 with h2 | h2
    · exact absurd h2 hk
    · have a : (n - 1).log2 < k := (Nat.log2_lt hn).2 (by omega)
      have b : ¬ (n - 1).log2 < k - 1 := fun hlt => by have := (Nat.log2_lt hn).1 hlt; omega
      omega
theorem logN_ge (n : Nat) : n ≤ 2 ^ logN n := by
  unfold logN
  by_cases h : n ≤ 1
  · rw [if_pos h]; simpa using h
  · rw [if_neg h]
    have := (Nat.log2_lt (n := n - 1) (k := (n - 1).log2 + 1) (by omega)).1 (Nat.lt_succ_self _)
    omega
theorem logN_lt (n : Nat) : logN n = 0 ∨ 2 ^ (logN n - 1) < n := by
  unfold logN
  by_cases h : n ≤ 1
  · rw [if_pos h]; exact .inl rfl
  · rw [if_neg h]
    have := Nat.log2_self_le (n := n - 1) (by omega)
    right; simp only [Nat.add_sub_cancel]; omega
theorem logN_le {n k : Nat} (h : n ≤ 2 ^ k) : logN n ≤ k := by
  rcases logN_lt n with h2 | h2
  · omega
  · have : 2 ^ (logN n - 1) < 2 ^ k := by omega
    have := (Nat.pow_lt_pow_iff_right (a := 2) (by decide)).1 this
    omega

/-- how many of the first k bits are 1 -/
def cntTo (x : Nat) : Nat → Nat
  | 0 => 0
  | k + 1 => cntTo x k + (x.testBit k).toNat
theorem cntTo_le (x k : Nat) : cntTo x k ≤ k := by
  induction k with
  | zero => exact Nat.le_refl _
  | succ k ih => have := Bool.toNat_le (x.testBit k); simp only [cntTo]; omega
theorem bit_div (x k : Nat) : x / 2 ^ k % 2 = (x.testBit k).toNat := (Nat.toNat_testBit x k).symm
theorem cntTo_succ (x k : Nat) : cntTo x (k + 1) = cntTo x k + x / 2 ^ k % 2 := by rw [bit_div]; rfl
theorem cntTo_congr (x y k : Nat) (h : ∀ i, i < k → x.testBit i = y.testBit i) : cntTo x k = cntTo y k := by
  induction k with
  | zero => rfl
  | succ k ih => rw [cntTo, cntTo, ih (fun i hi => h i (by omega)), h k (by omega)]
theorem cntTo_zero (x k n : Nat) (h : ∀ i, k ≤ i → x.testBit i = false) : cntTo x (k + n) = cntTo x k := by
  induction n with
  | zero => rfl
  | succ n ih => rw [Nat.add_succ, cntTo, ih, h (k + n) (by omega)]; rfl
theorem cntTo_shift (x c n : Nat) : cntTo x (c + n) = cntTo x c + cntTo (x / 2 ^ c) n := by
  induction n with
  | zero => rfl
  | succ n ih => rw [Nat.add_succ, cntTo, ih, cntTo, Nat.testBit_div_two_pow, Nat.add_comm n c]; omega
/-- a word has as many bits as both its parts -/
theorem cnt_whole (x c : Nat) (hc : c ≤ 64) : cntTo (getN x 0 c) 64 + cntTo (getN x c (64 - c)) 64 = cntTo x 64 := by
  have e : 64 = c + (64 - c) := by omega
  have h1 : cntTo (getN x 0 c) 64 = cntTo x c := by
    have hb : cntTo (getN x 0 c) (c + (64 - c)) = cntTo (getN x 0 c) c := cntTo_zero _ _ _ (fun i hi => by rw [getN_bit]; simp; omega)
    rw [← e] at hb
    rw [hb]
    exact cntTo_congr _ _ _ (fun i hi => by rw [getN_bit]; simp [hi])
  have h2 : cntTo (getN x c (64 - c)) 64 = cntTo (x / 2 ^ c) (64 - c) := by
    have hb : cntTo (getN x c (64 - c)) ((64 - c) + c) = cntTo (getN x c (64 - c)) (64 - c) := cntTo_zero _ _ _ (fun i hi => by rw [getN_bit]; simp; omega)
    rw [show (64 - c) + c = 64 by omega] at hb
    rw [hb]
    exact cntTo_congr _ _ _ (fun i hi => by rw [getN_bit, Nat.testBit_div_two_pow, Nat.add_comm]; simp [hi])
  have h3 := cntTo_shift x c (64 - c)
  rw [← e] at h3
  omega
end Go.Proofs.YtgjppnbkklionaaDoor.M

/-
  Contracts of package bits' small functions: within, isField, ones, Get, Put.
-/
namespace Go.Proofs.YtgjppnbkklionaaDoor
open Go.ChangeShapes Go.WideShapes Go.ChangeAt Go.RowKit

theorem ones_val (m : Int) (h1 : 1 ≤ m) (h2 : m ≤ 64) : (18446744073709551615 : Int) / 2 ^ (64 - m).toNat = 2 ^ m.toNat - 1 := by
  obtain ⟨k, rfl⟩ := Int.eq_ofNat_of_zero_le (by omega : 0 ≤ m)
  have hk : k ≤ 64 := by omega
  clear h1 h2
  revert k
  decide +kernel

def onesI (m : Int) : Int := 2 ^ m.toNat - 1

set_option maxHeartbeats 400000 in
theorem ones_any (m : Int) (w : World) (h1 : 1 ≤ m) (h2 : m ≤ 64) :
    Calls Tryd.prog 32 #[.int .i64 m] w fun e w' => e = .returned (.int .u64 (onesI m)) ∧ w = w' := by
  have hv := Lib.hid (ones_val m h1 h2)
  go_enter Tryd.func32, Tryd.ntmps32
  go_wp2
  go_ret
  exact ⟨by rw [hv.out]; rfl, rfl⟩

def withinB (x a b : Int) : Bool := decide (a ≤ x ∧ x ≤ b)

set_option maxHeartbeats 400000 in
theorem within_int (x a b : Int) (w : World) :
    Calls Tryd.prog 38 #[.int .i64 x, .int .i64 a, .int .i64 b] w fun e w' => e = .returned (.bool (withinB x a b)) ∧ w = w' := by
  by_cases h : a ≤ x
  · have hv := Lib.hid (show decide (x ≤ b) = withinB x a b from by simp [withinB, h])
    go_enter Tryd.func38, Tryd.ntmps38
    go_wp2
    go_ret
    exact ⟨by rw [← hv.out]; rfl, rfl⟩
  · have hv := Lib.hid (show false = withinB x a b from by simp [withinB, h])
    go_enter Tryd.func38, Tryd.ntmps38
    go_wp2
    go_ret
    exact ⟨by rw [← hv.out]; rfl, rfl⟩
theorem within_u64 (x a b : Int) (w : World) :
    Calls Tryd.prog 31 #[.int .u64 x, .int .u64 a, .int .u64 b] w fun e w' => e = .returned (.bool (withinB x a b)) ∧ w = w' := by
  by_cases h : a ≤ x
  · have hv := Lib.hid (show decide (x ≤ b) = withinB x a b from by simp [withinB, h])
    go_enter Tryd.func31, Tryd.ntmps31
    go_wp2
    go_ret
    exact ⟨by rw [← hv.out]; rfl, rfl⟩
  · have hv := Lib.hid (show false = withinB x a b from by simp [withinB, h])
    go_enter Tryd.func31, Tryd.ntmps31
    go_wp2
    go_ret
    exact ⟨by rw [← hv.out]; rfl, rfl⟩

def fieldB (f m : Int) : Bool := decide (1 ≤ m ∧ m ≤ 64 ∧ 0 ≤ f ∧ f + m ≤ 64)

set_option maxHeartbeats 400000 in
theorem isField_any (f m : Int) (w : World) :
    Calls Tryd.prog 30 #[.int .i64 f, .int .i64 m] w fun e w' => e = .returned (.bool (fieldB f m)) ∧ w = w' := by
  by_cases h : 1 ≤ m ∧ m ≤ 64
  · have hb : withinB m 1 64 = true := by simp [withinB]; omega
    obtain ⟨h1, h2⟩ := h
    have hc := Lib.hid (show withinB f 0 (64 - m) = fieldB f m from by rw [Bool.eq_iff_iff]; simp [withinB, fieldB]; omega)
    go_enter Tryd.func30, Tryd.ntmps30
    go_wp2_with (go_at_call 38; refine (within_int _ _ _ _).mono ?_; rintro e w' ⟨rfl, rfl⟩)
    go_ret
    exact ⟨by rw [← hc.out]; rfl, rfl⟩
  · have hb : withinB m 1 64 = false := by simp [withinB]; omega
    have hc := Lib.hid (show false = fieldB f m from by simp [fieldB]; omega)
    go_enter Tryd.func30, Tryd.ntmps30
    go_wp2_with (go_at_call 38; refine (within_int _ _ _ _).mono ?_; rintro e w' ⟨rfl, rfl⟩)
    go_ret
    exact ⟨by rw [← hc.out]; rfl, rfl⟩

/-- Get's number, over the walk's integers -/
def getI (x f m : Int) : Int := (M.getN x.toNat f.toNat m.toNat : Int)
/-- Put's number -/
def putI (x y f m : Int) : Int := (M.putN x.toNat y.toNat f.toNat m.toNat : Int)

theorem onesI_nat (m : Int) : onesI m = ((2 ^ m.toNat - 1 : Nat) : Int) := by
  unfold onesI
  have := Nat.two_pow_pos m.toNat
  rw [Int.natCast_sub (by omega)]; simp
theorem ones_lt (m : Nat) (h : m ≤ 64) : 2 ^ m - 1 < 18446744073709551616 := by
  have := Nat.pow_le_pow_right (n := 2) (by decide) h
  rw [M.pow64] at this; omega
theorem div_nat (x f : Int) (hx0 : 0 ≤ x) : x / 2 ^ f.toNat = ((x.toNat / 2 ^ f.toNat : Nat) : Int) := by
  rw [Int.natCast_ediv, Int.toNat_of_nonneg hx0]; simp
theorem get_bits (x f m : Int) (h2 : m ≤ 64) (hx0 : 0 ≤ x) (hx : x < 18446744073709551616) :
    bits BinOp.and IntKind.u64 (x / 2 ^ f.toNat) (onesI m) = getI x f m := by
  rw [onesI_nat, div_nat x f hx0, u64_and_nat _ _ (Nat.lt_of_le_of_lt (Nat.div_le_self _ _) (by omega)) (ones_lt _ (by omega)), M.and_get]; rfl

set_option maxHeartbeats 400000 in
theorem get_yes (x f m : Int) (w : World) (h : fieldB f m = true) (hx0 : 0 ≤ x) (hx : x < 18446744073709551616) :
    Calls Tryd.prog 19 #[.int .u64 x, .int .i64 f, .int .i64 m] w fun e w' => e = .returned (.tuple #[.int .u64 (getI x f m), .bool true]) ∧ ∃ n, w' = w.drewN n := by
  obtain ⟨h1, h2, h3, h4⟩ := of_decide_eq_true h
  have hv := Lib.hid (get_bits x f m h2 hx0 hx)
  go_enter Tryd.func19, Tryd.ntmps19
  go_wp2_with (go_at_call 30; refine (isField_any _ _ _).mono ?_; rintro e w' ⟨rfl, rfl⟩)
  go_quiet ((go_at_call 32; exact still0 (ones_any _ _ h1 h2)))
  go_wp2
  go_ret2
  exact ⟨by rw [← hv.out]; rfl, _, rfl⟩
set_option maxHeartbeats 400000 in
theorem get_no (x f m : Int) (w : World) (h : fieldB f m = false) :
    Calls Tryd.prog 19 #[.int .u64 x, .int .i64 f, .int .i64 m] w fun e w' => e = .returned (.tuple #[.int .u64 0, .bool false]) ∧ w = w' := by
  go_enter Tryd.func19, Tryd.ntmps19
  go_wp2_with (go_at_call 30; refine (isField_any _ _ _).mono ?_; rintro e w' ⟨rfl, rfl⟩)
  go_ret2
  exact ⟨rfl, rfl⟩

/-- does it fit? -/
def fitsB (y m : Int) : Bool := withinB y 0 (onesI m)
set_option maxHeartbeats 400000 in
theorem put_no1 (x y f m : Int) (w : World) (h : fieldB f m = false) :
    Calls Tryd.prog 17 #[.int .u64 x, .int .u64 y, .int .i64 f, .int .i64 m] w fun e w' => e = .returned (.tuple #[.int .u64 0, .bool false]) ∧ w = w' := by
  go_enter Tryd.func17, Tryd.ntmps17
  go_wp2_with (go_at_call 30; refine (isField_any _ _ _).mono ?_; rintro e w' ⟨rfl, rfl⟩)
  go_ret2
  exact ⟨rfl, rfl⟩
set_option maxHeartbeats 400000 in
theorem put_no2 (x y f m : Int) (w : World) (h : fieldB f m = true) (hy : withinB y 0 (onesI m) = false) :
    Calls Tryd.prog 17 #[.int .u64 x, .int .u64 y, .int .i64 f, .int .i64 m] w fun e w' => e = .returned (.tuple #[.int .u64 0, .bool false]) ∧ w = w' := by
  obtain ⟨h1, h2, h3, h4⟩ := of_decide_eq_true h
  go_enter Tryd.func17, Tryd.ntmps17
  go_wp2_with (first
    | (go_at_call 30; refine (isField_any _ _ _).mono ?_; rintro e w' ⟨rfl, rfl⟩)
    | (go_at_call 32; refine (ones_any _ _ h1 h2).mono ?_; rintro e w' ⟨rfl, rfl⟩)
    | (go_at_call 31; refine (within_u64 _ _ _ _).mono ?_; rintro e w' ⟨rfl, rfl⟩))
  go_ret2
  exact ⟨rfl, rfl⟩
theorem shl_lt (a f m : Nat) (ha : a < 2 ^ m) (h : f + m ≤ 64) : a * 2 ^ f < 18446744073709551616 := by
  have h1 : a * 2 ^ f < 2 ^ m * 2 ^ f := Nat.mul_lt_mul_of_pos_right ha (Nat.two_pow_pos f)
  rw [← Nat.pow_add] at h1
  have h2 := Nat.pow_le_pow_right (n := 2) (by decide) (show m + f ≤ 64 by omega)
  rw [M.pow64] at h2; omega
theorem shl_nat (y f : Int) (m : Nat) (hy0 : 0 ≤ y) (hy : y.toNat < 2 ^ m) (h : f.toNat + m ≤ 64) : IntKind.u64.wrap (y * 2 ^ f.toNat) = ((y.toNat * 2 ^ f.toNat : Nat) : Int) := by
  have e : y * 2 ^ f.toNat = ((y.toNat * 2 ^ f.toNat : Nat) : Int) := by rw [Int.natCast_mul, Int.toNat_of_nonneg hy0]; simp
  have := shl_lt y.toNat f.toNat m hy h
  rw [e, IntKind.wrap_u64]; omega
theorem fits_lt (y m : Int) (hy : withinB y 0 (onesI m) = true) : 0 ≤ y ∧ y.toNat < 2 ^ m.toNat := by
  obtain ⟨h1, h2⟩ := of_decide_eq_true hy
  rw [onesI_nat] at h2
  have := Nat.two_pow_pos m.toNat
  omega
theorem put_bits (x y f m : Int) (h : fieldB f m = true) (hy : withinB y 0 (onesI m) = true) (hx0 : 0 ≤ x) (hx : x < 18446744073709551616) :
    bits BinOp.or IntKind.u64 (bits BinOp.andNot IntKind.u64 x (IntKind.u64.wrap (onesI m * 2 ^ f.toNat))) (IntKind.u64.wrap (y * 2 ^ f.toNat)) = putI x y f m := by
  obtain ⟨h1, h2, h3, h4⟩ := of_decide_eq_true h
  obtain ⟨y0, y1⟩ := fits_lt y m hy
  have p := Nat.two_pow_pos m.toNat
  have ho := onesI_nat m
  have e1 := shl_nat (onesI m) f m.toNat (by omega) (by rw [ho]; omega) (by omega)
  have e2 := shl_nat y f m.toNat y0 y1 (by omega)
  have l1 := shl_lt (onesI m).toNat f.toNat m.toNat (by rw [ho]; omega) (by omega)
  have l2 := shl_lt y.toNat f.toNat m.toNat y1 (by omega)
  have et : (onesI m).toNat = 2 ^ m.toNat - 1 := by rw [ho]; omega
  obtain ⟨n, rfl⟩ := Int.eq_ofNat_of_zero_le hx0
  rw [e1, e2, u64_andNot_nat n _ (by omega) l1, u64_or_nat _ _ (Nat.lt_of_le_of_lt Nat.and_le_left (by omega)) l2, et, M.andNot_or n y.toNat f.toNat m.toNat (by omega) y1 (by omega)]
  rfl
set_option maxHeartbeats 400000 in
theorem put_yes (x y f m : Int) (w : World) (h : fieldB f m = true) (hy : withinB y 0 (onesI m) = true) (hx0 : 0 ≤ x) (hx : x < 18446744073709551616) :
    Calls Tryd.prog 17 #[.int .u64 x, .int .u64 y, .int .i64 f, .int .i64 m] w fun e w' => e = .returned (.tuple #[.int .u64 (putI x y f m), .bool true]) ∧ ∃ n, w' = w.drewN n := by
  obtain ⟨h1, h2, h3, h4⟩ := of_decide_eq_true h
  have hv := Lib.hid (put_bits x y f m h hy hx0 hx)
  go_enter Tryd.func17, Tryd.ntmps17
  go_wp2_with (first
    | (go_at_call 30; refine (isField_any _ _ _).mono ?_; rintro e w' ⟨rfl, rfl⟩)
    | (go_at_call 32; refine (ones_any _ _ h1 h2).mono ?_; rintro e w' ⟨rfl, rfl⟩)
    | (go_at_call 31; refine (within_u64 _ _ _ _).mono ?_; rintro e w' ⟨rfl, rfl⟩))
  go_quiet ((go_at_call 32; exact still0 (ones_any _ _ h1 h2)))
  go_wp2
  go_ret2
  exact ⟨by rw [← hv.out]; rfl, _, rfl⟩

/-! bounds that callers want -/
theorem getI_bd (x f m : Int) (h : fieldB f m = true) : 0 ≤ getI x f m ∧ getI x f m < 18446744073709551616 := by
  obtain ⟨h1, h2, h3, h4⟩ := of_decide_eq_true h
  have := M.getN_lt64 x.toNat f.toNat m.toNat (by omega)
  unfold getI; omega
theorem putI_bd (x y f m : Int) (h : fieldB f m = true) (hy : withinB y 0 (onesI m) = true) (hx0 : 0 ≤ x) (hx : x < 18446744073709551616) : 0 ≤ putI x y f m ∧ putI x y f m < 18446744073709551616 := by
  obtain ⟨h1, h2, h3, h4⟩ := of_decide_eq_true h
  obtain ⟨y0, y1⟩ := fits_lt y m hy
  have := M.putN_lt64 x.toNat y.toNat f.toNat m.toNat y1 (by omega) (by omega)
  unfold putI; omega

end Go.Proofs.YtgjppnbkklionaaDoor

/-
  Contract of package bits' Count.
-/
namespace Go.Proofs.YtgjppnbkklionaaDoor
open Go.ChangeShapes Go.WideShapes Go.ChangeAt Go.RowKit

theorem bit_and (m k : Nat) (hm : m < 18446744073709551616) : bits BinOp.and IntKind.u64 ((m : Int) / 2 ^ k) 1 = ((m / 2 ^ k % 2 : Nat) : Int) := by
  have e := div_nat m k (by omega)
  rw [Int.toNat_natCast, Int.toNat_natCast] at e
  rw [e, show (1 : Int) = ((1 : Nat) : Int) from rfl, u64_and_nat _ _ (Nat.lt_of_le_of_lt (Nat.div_le_self _ _) hm) (by decide), nat_mask1]
def countI (x : Int) : Int := (M.cntTo x.toNat 64 : Int)
end Go.Proofs.YtgjppnbkklionaaDoor

/-
  Contracts of package bits' Log, Align.
-/
namespace Go.Proofs.YtgjppnbkklionaaDoor
open Go.ChangeShapes Go.WideShapes Go.ChangeAt Go.RowKit

def logI (n : Int) : Int := (M.logN n.toNat : Int)

theorem wrap_pow (k : Nat) (h : k ≤ 63) : IntKind.u64.wrap (2 ^ k) = 2 ^ k := by
  revert k; decide +kernel

def alignI (n o : Int) : Int := if 0 ≤ n ∧ 0 ≤ o ∧ o ≤ 30 then n - n % 2 ^ o.toNat else n
theorem wrapi_pow (k : Nat) (h : k ≤ 30) : IntKind.i64.wrap (2 ^ k) = 2 ^ k := by
  revert k; decide +kernel
theorem pow_bd (k : Nat) (h : k ≤ 30) : (1 : Int) ≤ 2 ^ k ∧ (2 : Int) ^ k ≤ 1073741824 := by
  revert k; decide +kernel
end Go.Proofs.YtgjppnbkklionaaDoor

/-
  Contracts of the document's own answers for bits: power, field, Get, Put, Log, Align, Count.
-/
namespace Go.Proofs.YtgjppnbkklionaaDoor
open Go.ChangeShapes Go.WideShapes Go.ChangeAt Go.RowKit

theorem wrap_dbl (k : Nat) (h : k < 63) : IntKind.u64.wrap (2 ^ k * 2) = 2 ^ (k + 1) := by
  revert k; decide +kernel

/-- 2 to the power of n -/
def powI (n : Int) : Int := 2 ^ n.toNat
theorem powI_pos (n : Int) : 1 ≤ powI n := by
  have := Nat.two_pow_pos n.toNat
  unfold powI
  exact_mod_cast this
theorem powI_nat (k : Nat) : powI (k : Int) = ((2 ^ k : Nat) : Int) := by unfold powI; rw [Int.toNat_natCast]; simp
theorem powI_nat2 (a b : Nat) : powI ((a : Int) + (b : Int)) = ((2 ^ (a + b) : Nat) : Int) := powI_nat (a + b)
theorem u64_id (n : Nat) (h : n < 18446744073709551616) : IntKind.u64.wrap (n : Int) = (n : Int) := by rw [IntKind.wrap_u64]; omega
theorem bit_term (X j : Nat) (hX : X < 18446744073709551616) : (IntKind.u64.wrap ((X : Int) / powI (j : Int))).tmod 2 = ((X / 2 ^ j % 2 : Nat) : Int) := by
  have : X / 2 ^ j ≤ X := Nat.div_le_self _ _
  rw [powI_nat, ← Int.natCast_ediv, u64_id _ (Nat.lt_of_le_of_lt this hX)]
  exact IntWalk.rem_in _ _ (Int.natCast_nonneg _)
theorem sum_term (c z k n : Nat) (hn : n < 18446744073709551616) (e : n = c + z * 2 ^ k) :
    IntKind.u64.wrap ((c : Int) + IntKind.u64.wrap ((z : Int) * powI (k : Int))) = (n : Int) := by
  rw [powI_nat, ← Int.natCast_mul]
  generalize z * 2 ^ k = t at *
  rw [u64_id _ (by omega), ← Int.natCast_add, ← e, u64_id _ hn]
theorem get_step (X F k : Nat) (hX : X < 18446744073709551616) (_h : F + k < 64) :
    IntKind.u64.wrap ((M.getN X F k : Int) + IntKind.u64.wrap ((IntKind.u64.wrap ((X : Int) / powI ((F : Int) + (k : Int)))).tmod 2 * powI (k : Int))) = (M.getN X F (k + 1) : Int) := by
  rw [show (F : Int) + (k : Int) = ((F + k : Nat) : Int) from rfl, bit_term X (F + k) hX]
  apply sum_term
  · have h1 : M.getN X F (k + 1) ≤ X / 2 ^ F := Nat.mod_le _ _
    have h2 : X / 2 ^ F ≤ X := Nat.div_le_self _ _
    omega
  · unfold M.getN
    rw [Nat.mod_pow_succ, Nat.div_div_eq_div_mul, ← Nat.pow_add, Nat.mul_comm]
theorem ones_pow (m : Int) : onesI m = powI m - 1 := rfl
/-- the bit that the document's Put adds in round k -/
theorem put_term (X Y F L k : Nat) (hY : Y < 2 ^ L) : M.putN X Y F L / 2 ^ k % 2 = if F ≤ k ∧ k < F + L then Y / 2 ^ (k - F) % 2 else X / 2 ^ k % 2 := by
  rw [M.bit_div, M.putN_bit _ _ _ _ _ hY, M.bit_div, M.bit_div]
  by_cases h1 : k < F
  · rw [if_pos h1, if_neg (by omega)]
  · by_cases h2 : k < F + L
    · rw [if_neg h1, if_pos h2, if_pos ⟨by omega, h2⟩]
    · rw [if_neg h1, if_neg h2, if_neg (by omega)]
theorem put_step (P k z : Nat) (hP : P < 18446744073709551616) (hz : P / 2 ^ k % 2 = z) :
    IntKind.u64.wrap (((P % 2 ^ k : Nat) : Int) + IntKind.u64.wrap ((z : Int) * powI (k : Int))) = ((P % 2 ^ (k + 1) : Nat) : Int) := by
  apply sum_term
  · have := Nat.mod_le P (2 ^ (k + 1)); omega
  · rw [Nat.mod_pow_succ, hz, Nat.mul_comm]
end Go.Proofs.YtgjppnbkklionaaDoor

/-
  Contracts of the document's own Log, Align, Count; and the laws' awake.
-/
namespace Go.Proofs.YtgjppnbkklionaaDoor
open Go.ChangeShapes Go.WideShapes Go.ChangeAt Go.RowKit

theorem align_eq (n p : Int) (hp : 1 ≤ p) (hn0 : 0 ≤ n) (hn : n ≤ 9223372036854775807) : wrap64 (n / p * p) = n - n % p := by
  have h2 := Int.mul_ediv_add_emod n p
  have h3 := Int.emod_nonneg n (show p ≠ 0 by omega)
  have h4 : 0 ≤ n / p := Int.ediv_nonneg hn0 (by omega)
  have h5 : 0 ≤ p * (n / p) := Int.mul_nonneg (by omega) h4
  rw [Int.mul_comm, IntWalk.wrap64_in _ (by omega)]
  omega
end Go.Proofs.YtgjppnbkklionaaDoor

/-
  Get and Put, the code's and the document's, each in one contract.
-/
namespace Go.Proofs.YtgjppnbkklionaaDoor
open Go.ChangeShapes Go.WideShapes Go.ChangeAt Go.RowKit

def getV (x f m : Int) : Int := if fieldB f m = true then getI x f m else 0
def putB (y f m : Int) : Bool := fieldB f m && withinB y 0 (onesI m)
def putV (x y f m : Int) : Int := if putB y f m = true then putI x y f m else 0
theorem getV_yes {x f m : Int} (h : fieldB f m = true) : getV x f m = getI x f m := by unfold getV; rw [if_pos h]
theorem getV_no {x f m : Int} (h : fieldB f m = false) : getV x f m = 0 := by unfold getV; rw [if_neg (by rw [h]; decide)]
theorem putV_yes {x y f m : Int} (h : putB y f m = true) : putV x y f m = putI x y f m := by unfold putV; rw [if_pos h]
theorem putV_no {x y f m : Int} (h : putB y f m = false) : putV x y f m = 0 := by unfold putV; rw [if_neg (by rw [h]; decide)]
theorem putB_and {y f m : Int} (h : putB y f m = true) : fieldB f m = true ∧ withinB y 0 (onesI m) = true := by simpa [putB] using h

theorem get_any (x f m : Int) (w : World) (hx0 : 0 ≤ x) (hx : x < 18446744073709551616) :
    Calls Tryd.prog 19 #[.int .u64 x, .int .i64 f, .int .i64 m] w fun e w' => e = .returned (.tuple #[.int .u64 (getV x f m), .bool (fieldB f m)]) ∧ ∃ n, w' = w.drewN n := by
  cases h : fieldB f m
  · rw [getV_no h]; refine (get_no x f m w h).mono ?_; rintro e w' ⟨rfl, rfl⟩; exact ⟨rfl, 0, rfl⟩
  · rw [getV_yes h]; exact get_yes x f m w h hx0 hx
theorem put_any (x y f m : Int) (w : World) (hx0 : 0 ≤ x) (hx : x < 18446744073709551616) :
    Calls Tryd.prog 17 #[.int .u64 x, .int .u64 y, .int .i64 f, .int .i64 m] w fun e w' => e = .returned (.tuple #[.int .u64 (putV x y f m), .bool (putB y f m)]) ∧ ∃ n, w' = w.drewN n := by
  cases h : putB y f m
  · rw [putV_no h]
    cases h1 : fieldB f m
    · refine (put_no1 x y f m w h1).mono ?_; rintro e w' ⟨rfl, rfl⟩; exact ⟨rfl, 0, rfl⟩
    · have h2 : withinB y 0 (onesI m) = false := by rw [putB, h1] at h; simpa using h
      refine (put_no2 x y f m w h1 h2).mono ?_; rintro e w' ⟨rfl, rfl⟩; exact ⟨rfl, 0, rfl⟩
  · rw [putV_yes h]
    exact put_yes x y f m w (putB_and h).1 (putB_and h).2 hx0 hx
theorem getV_bd (x f m : Int) : 0 ≤ getV x f m ∧ getV x f m < 18446744073709551616 := by
  cases h : fieldB f m
  · rw [getV_no h]; omega
  · rw [getV_yes h]; exact getI_bd x f m h
theorem putV_bd (x y f m : Int) (hx0 : 0 ≤ x) (hx : x < 18446744073709551616) : 0 ≤ putV x y f m ∧ putV x y f m < 18446744073709551616 := by
  cases h : putB y f m
  · rw [putV_no h]; omega
  · rw [putV_yes h]; exact putI_bd x y f m (putB_and h).1 (putB_and h).2 hx0 hx
/-- a word that a uint64 holds -/
theorem wf_u64 {x : Int} (h : (Lit.int .u64 x).wf = true) : 0 ≤ x ∧ x < 18446744073709551616 := by have := bounds_u64 h; omega
theorem wf_i64 {x : Int} (h : (Lit.int .i64 x).wf = true) : -9223372036854775808 ≤ x ∧ x ≤ 9223372036854775807 := bounds_i64 h
end Go.Proofs.YtgjppnbkklionaaDoor

/-
  The program's instructions: its two tables, the parts of an instruction.
-/
namespace Go.Proofs.YtgjppnbkklionaaDoor
open Go.ChangeShapes Go.WideShapes Go.ChangeAt Go.RowKit

/-- the program's tables in memory -/
structure Tabs (w : World) : Prop where
  ops : Fr.VarAt w 0 (Fr.datS (Rows.laid_trunnion_isa_operations (H := Unit)))
  pls : Fr.VarAt w 1 (Fr.datS (Rows.laid_trunnion_isa_places (H := Unit)))
/-- what the library's functions read -/
structure Libs (w : World) : Prop where
  pow : Fr.VarAt w 5 (Lib.pow10Tab.map fun z => Value.int .u64 z)
  syn : Fr.Sent w 3
  ran : Fr.Sent w 4
theorem varAt_kept {S : Nat → Prop} {w w' : World} {g : Nat} {cs : List Value} (h : Fr.VarAt w g cs) (u : Upd S w w') (hs : ¬ S g) : Fr.VarAt w' g cs := by
  obtain ⟨t, fr, h⟩ := h
  exact ⟨t, fr, u.at h hs⟩
theorem sent_kept {S : Nat → Prop} {w w' : World} {g : Nat} (h : Fr.Sent w g) (u : Upd S w w') (hs : ¬ S g) : Fr.Sent w' g := by
  obtain ⟨ev, h, h2⟩ := h
  exact ⟨ev, u.cell h hs, h2⟩
theorem Tabs.kept {w w' : World} (h : Tabs w) (u : Upd (fun _ => False) w w') : Tabs w' := ⟨varAt_kept h.ops u id, varAt_kept h.pls u id⟩
theorem Libs.kept {w w' : World} (h : Libs w) (u : Upd (fun _ => False) w w') : Libs w' := ⟨varAt_kept h.pow u id, sent_kept h.syn u id, sent_kept h.ran u id⟩
/-- which operands an operation has, by their places -/
def hasK (op : Int) : Nat → Bool
  | 0 => hasA op
  | 1 => hasB op
  | 2 => hasC op
  | _ => hasM op
/-- where a part stands -/
def frK : Nat → Int
  | 0 => 8
  | 1 => 11
  | 2 => 14
  | _ => 24
def mnK : Nat → Int
  | 0 => 3
  | 1 => 3
  | 2 => 3
  | _ => 16
def sgK : Nat → List Nat
  | 0 => [114]
  | 1 => [114]
  | 2 => [114]
  | _ => []
theorem Tabs.name {w : World} (h : Tabs w) (o : Nat) (ho : o < 12) : w.cell? ⟨0, o * 5, none⟩ = some (.string (strOf (byts (opName o)))) := by
  refine h.ops.cell ?_
  have hc : o = 0 ∨ o = 1 ∨ o = 2 ∨ o = 3 ∨ o = 4 ∨ o = 5 ∨ o = 6 ∨ o = 7 ∨ o = 8 ∨ o = 9 ∨ o = 10 ∨ o = 11 := by omega
  rcases hc with rfl | rfl | rfl | rfl | rfl | rfl | rfl | rfl | rfl | rfl | rfl | rfl <;> rfl
theorem Tabs.has {w : World} (h : Tabs w) (o : Nat) (ho : o < 12) (k : Nat) (hk : k < 4) : w.cell? ⟨0, o * 5 + 1 + k, none⟩ = some (.bool (hasK o k)) := by
  refine h.ops.cell ?_
  have hc : o = 0 ∨ o = 1 ∨ o = 2 ∨ o = 3 ∨ o = 4 ∨ o = 5 ∨ o = 6 ∨ o = 7 ∨ o = 8 ∨ o = 9 ∨ o = 10 ∨ o = 11 := by omega
  have hd : k = 0 ∨ k = 1 ∨ k = 2 ∨ k = 3 := by omega
  rcases hd with rfl | rfl | rfl | rfl <;> rcases hc with rfl | rfl | rfl | rfl | rfl | rfl | rfl | rfl | rfl | rfl | rfl | rfl <;> rfl
theorem Tabs.pl {w : World} (h : Tabs w) (k : Nat) (hk : k < 4) : w.cell? ⟨1, k * 3, none⟩ = some (.int .i64 (frK k)) ∧ w.cell? ⟨1, k * 3 + 1, none⟩ = some (.int .i64 (mnK k)) ∧ w.cell? ⟨1, k * 3 + 2, none⟩ = some (.string (strOf (byts (sgK k)))) := by
  have hd : k = 0 ∨ k = 1 ∨ k = 2 ∨ k = 3 := by omega
  rcases hd with rfl | rfl | rfl | rfl <;> exact ⟨h.pls.cell rfl, h.pls.cell rfl, h.pls.cell rfl⟩
theorem Ins.h_eq (i : Ins) (k : Nat) : i.h k = hasK i.op k := by
  match k with
  | 0 => rfl
  | 1 => rfl
  | 2 => rfl
  | _ + 3 => rfl
/-- the fields are ints -/
structure Ins.In (i : Ins) : Prop where
  o : -9223372036854775808 ≤ i.op ∧ i.op ≤ 9223372036854775807
  a : -9223372036854775808 ≤ i.a ∧ i.a ≤ 9223372036854775807
  b : -9223372036854775808 ≤ i.b ∧ i.b ≤ 9223372036854775807
  c : -9223372036854775808 ≤ i.c ∧ i.c ≤ 9223372036854775807
  m : -9223372036854775808 ≤ i.m ∧ i.m ≤ 9223372036854775807
theorem Ins.Ok.in {i : Ins} (h : i.Ok) : i.In := by
  obtain ⟨o, a, b, c, m, -, -, -, -⟩ := h
  exact ⟨by omega, by omega, by omega, by omega, by omega⟩
theorem Ins.In.p {i : Ins} (h : i.In) (k : Nat) : -9223372036854775808 ≤ i.p k ∧ i.p k ≤ 9223372036854775807 := by
  match k with
  | 0 => exact h.a
  | 1 => exact h.b
  | 2 => exact h.c
  | _ + 3 => exact h.m

theorem size_i4 : (Tryd.prog.info? 38).map (·.size) = some 4 := by kernel_rfl
theorem ret_i4 {fn : Func} {p : Tmp} (h : fn.results = #[.cell p 38]) (tmps : Array Value) (w : World) (g : Nat) (a b c d : Int) (hp : tmps.getD p undef = .pointer (some ⟨g, 0, none⟩)) (hg : w.heap[g]? = some (.cells #[.int .i64 a, .int .i64 b, .int .i64 c, .int .i64 d] 38 (0, 0))) :
    (results fn tmps).run Tryd.prog w = .ok (.agg #[.int .i64 a, .int .i64 b, .int .i64 c, .int .i64 d]) w :=
  results_cell_row h tmps w g _ _ _ _ hp hg Tryd.underlying38 rfl size_i4
theorem ret_in5 {fn : Func} {p : Tmp} (h : fn.results = #[.cell p 23]) (tmps : Array Value) (w : World) (g : Nat) (i : Ins) (hp : tmps.getD p undef = .pointer (some ⟨g, 0, none⟩)) (hg : InsAt w g i) :
    (results fn tmps).run Tryd.prog w = .ok (.agg #[.int .i64 i.op, .int .i64 i.a, .int .i64 i.b, .int .i64 i.c, .int .i64 i.m]) w :=
  results_cell_row h tmps w g _ _ _ _ hp hg Tryd.underlying23 rfl size_ins
theorem alloc_two (w : World) (o p : Obj) : ((w.alloc o).alloc p).heap[w.heap.size + 1]? = some p := by
  have h : (w.alloc o).heap.size = w.heap.size + 1 := by show (w.heap.push _).size = _; simp
  rw [← h]
  exact heap_alloc_last _ _
set_option maxHeartbeats 2000000 in
theorem numbers_any (i : Ins) (w : World) : Calls Tryd.prog 16 #[.agg #[.int .i64 i.op, .int .i64 i.a, .int .i64 i.b, .int .i64 i.c, .int .i64 i.m]] w fun e w' => e = .returned (.agg #[.int .i64 (i.p 0), .int .i64 (i.p 1), .int .i64 (i.p 2), .int .i64 (i.p 3)]) ∧ Upd (fun _ => False) w w' := by
  obtain ⟨op, a, b, c, m⟩ := i
  have U2 := Lib.hid (((Upd.refl (fun _ => False) w).alloc (.cells #[.int .i64 op, .int .i64 a, .int .i64 b, .int .i64 c, .int .i64 m] 23)).alloc (.cells #[.int .i64 a, .int .i64 b, .int .i64 c, .int .i64 m] 38))
  have X := Lib.hid (alloc_two w (.cells #[.int .i64 op, .int .i64 a, .int .i64 b, .int .i64 c, .int .i64 m] 23) (.cells #[.int .i64 a, .int .i64 b, .int .i64 c, .int .i64 m] 38))
  go_enter Tryd.func16, Tryd.ntmps16
  go_wp2
  (try simp only [Exit.inBlock, Exit.then])
  exact bodyPost_ret (ret_i4 rfl _ _ _ _ _ _ _ rfl X.out) rfl ⟨rfl, U2.out⟩
set_option maxHeartbeats 2000000 in
theorem instr_any (op a b c m : Int) (w : World) : Calls Tryd.prog 20 #[.int .i64 op, .agg #[.int .i64 a, .int .i64 b, .int .i64 c, .int .i64 m]] w fun e w' => e = .returned (.agg #[.int .i64 op, .int .i64 a, .int .i64 b, .int .i64 c, .int .i64 m]) ∧ Upd (fun _ => False) w w' := by
  have U2 := Lib.hid (((Upd.refl (fun _ => False) w).alloc (.cells #[.int .i64 a, .int .i64 b, .int .i64 c, .int .i64 m] 38)).alloc (.cells #[.int .i64 op, .int .i64 a, .int .i64 b, .int .i64 c, .int .i64 m] 23))
  have X := Lib.hid (show InsAt _ _ ⟨op, a, b, c, m⟩ from alloc_two w (.cells #[.int .i64 a, .int .i64 b, .int .i64 c, .int .i64 m] 38) (.cells #[.int .i64 op, .int .i64 a, .int .i64 b, .int .i64 c, .int .i64 m] 23))
  go_enter Tryd.func20, Tryd.ntmps20
  go_wp2
  (try simp only [Exit.inBlock, Exit.then])
  exact bodyPost_ret (ret_in5 rfl _ _ _ _ rfl X.out) rfl ⟨rfl, U2.out⟩
end Go.Proofs.YtgjppnbkklionaaDoor

/-
  The program's instructions: Word.
-/
namespace Go.Proofs.YtgjppnbkklionaaDoor
open Go.ChangeShapes Go.WideShapes Go.ChangeAt Go.RowKit

/-- the word of an operation's first k parts -/
def Ins.wk (i : Ins) : Nat → Int
  | 0 => i.op
  | 1 => i.op + 256 * i.a
  | 2 => i.op + 256 * i.a + 2048 * i.b
  | 3 => i.op + 256 * i.a + 2048 * i.b + 16384 * i.c
  | _ => i.word
def topK : Nat → Int
  | 0 => 7
  | 1 => 7
  | 2 => 7
  | _ => 65535
def fits (z : Int) (k : Nat) : Bool := decide (0 ≤ z ∧ z ≤ topK k)
theorem fine_iff (i : Ins) (k : Nat) (hk : k < 4) : i.fine k ↔ fits (i.p k) k = true ∧ (hasK i.op k = false → i.p k = 0) := by
  unfold Ins.fine fits
  rw [decide_eq_true_eq, Ins.h_eq]
  have hd : k = 0 ∨ k = 1 ∨ k = 2 ∨ k = 3 := by omega
  rcases hd with rfl | rfl | rfl | rfl <;> simp only [topK] <;> constructor <;> rintro ⟨h1, h2⟩ <;> refine ⟨?_, h2⟩ <;> omega
theorem putB_k (z : Int) (h0 : -9223372036854775808 ≤ z) (h1 : z ≤ 9223372036854775807) (k : Nat) (hk : k < 4) : putB (IntKind.u64.wrap z) (frK k) (mnK k) = fits z k := by
  have hw : IntKind.u64.wrap z = if z < 0 then z + 18446744073709551616 else z := by
    by_cases hz : z < 0
    · rw [if_pos hz]
      show z % 18446744073709551616 = _
      omega
    · rw [if_neg hz]
      exact IntWalk.u64_in _ ⟨by omega, by omega⟩
  have hd : k = 0 ∨ k = 1 ∨ k = 2 ∨ k = 3 := by omega
  rcases hd with rfl | rfl | rfl | rfl
  all_goals
    unfold putB fits
    rw [show fieldB (frK _) (mnK _) = true from by decide, Bool.true_and, hw]
    unfold withinB
    rw [decide_eq_decide]
    simp only [mnK, topK, onesI]
    split <;> constructor <;> intro h <;> simp at h ⊢ <;> omega
theorem putV_k (i : Ins) (ho : 0 ≤ i.op ∧ i.op ≤ 11) (k : Nat) (hk : k < 4) (hf : ∀ j, j < k + 1 → fits (i.p j) j = true) : putV (i.wk k) (IntKind.u64.wrap (i.p k)) (frK k) (mnK k) = i.wk (k + 1) := by
  have hz := hf k (by omega)
  have hb : fits (i.p k) k = true := hz
  have hin : 0 ≤ i.p k ∧ i.p k ≤ topK k := of_decide_eq_true hz
  have hk7 : topK k ≤ 65535 := by
    have hd : k = 0 ∨ k = 1 ∨ k = 2 ∨ k = 3 := by omega
    rcases hd with rfl | rfl | rfl | rfl <;> simp [topK]
  rw [← putB_k (i.p k) (by omega) (by omega) k hk] at hb
  rw [putV_yes hb, IntWalk.u64_in _ ⟨by omega, by omega⟩]
  have ha := fun h : 0 < k + 1 => (of_decide_eq_true (hf 0 h) : 0 ≤ i.p 0 ∧ i.p 0 ≤ topK 0)
  have hb1 := fun h : 1 < k + 1 => (of_decide_eq_true (hf 1 h) : 0 ≤ i.p 1 ∧ i.p 1 ≤ topK 1)
  have hc := fun h : 2 < k + 1 => (of_decide_eq_true (hf 2 h) : 0 ≤ i.p 2 ∧ i.p 2 ≤ topK 2)
  obtain ⟨op, a, b, c, m⟩ := i
  have hd : k = 0 ∨ k = 1 ∨ k = 2 ∨ k = 3 := by omega
  unfold putI M.putN
  rcases hd with rfl | rfl | rfl | rfl
  · simp only [Ins.wk, Ins.p, frK, mnK, topK] at *
    rw [show Int.toNat 8 = 8 from rfl, show Int.toNat 3 = 3 from rfl]
    simp
    omega
  · have := ha (by omega)
    simp only [Ins.wk, Ins.p, frK, mnK, topK] at *
    rw [show Int.toNat 11 = 11 from rfl, show Int.toNat 3 = 3 from rfl]
    simp
    omega
  · have := ha (by omega)
    have := hb1 (by omega)
    simp only [Ins.wk, Ins.p, frK, mnK, topK] at *
    rw [show Int.toNat 14 = 14 from rfl, show Int.toNat 3 = 3 from rfl]
    simp
    omega
  · have := ha (by omega)
    have := hb1 (by omega)
    have := hc (by omega)
    simp only [Ins.wk, Ins.p, Ins.word, frK, mnK, topK] at *
    rw [show Int.toNat 24 = 24 from rfl, show Int.toNat 16 = 16 from rfl]
    simp
    omega
theorem wk_bd (i : Ins) (ho : 0 ≤ i.op ∧ i.op ≤ 11) (k : Nat) (hk : k ≤ 4) (hf : ∀ j, j < k → fits (i.p j) j = true) : 0 ≤ i.wk k ∧ i.wk k < 18446744073709551616 := by
  have ha := fun h : 0 < k => (of_decide_eq_true (hf 0 h) : 0 ≤ i.p 0 ∧ i.p 0 ≤ topK 0)
  have hb := fun h : 1 < k => (of_decide_eq_true (hf 1 h) : 0 ≤ i.p 1 ∧ i.p 1 ≤ topK 1)
  have hc := fun h : 2 < k => (of_decide_eq_true (hf 2 h) : 0 ≤ i.p 2 ∧ i.p 2 ≤ topK 2)
  have hm := fun h : 3 < k => (of_decide_eq_true (hf 3 h) : 0 ≤ i.p 3 ∧ i.p 3 ≤ topK 3)
  obtain ⟨op, a, b, c, m⟩ := i
  have hd : k = 0 ∨ k = 1 ∨ k = 2 ∨ k = 3 ∨ k = 4 := by omega
  rcases hd with rfl | rfl | rfl | rfl | rfl <;> simp [Ins.wk, Ins.p, Ins.word, topK] at * <;> omega
theorem wk_zero (i : Ins) : i.wk 0 = i.op := rfl
theorem wk_four (i : Ins) : i.wk 4 = i.word := rfl
theorem fine_all {i : Ins} (ho : 0 ≤ i.op ∧ i.op ≤ 11) (h : ∀ k, k < 4 → fits (i.p k) k = true ∧ (hasK i.op k = false → i.p k = 0)) : i.right = true :=
  Ins.ok_of ho fun k hk => (fine_iff i k hk).2 (h k hk)
theorem not_fine {i : Ins} (k : Nat) (hk : k < 4) (h : ¬ (fits (i.p k) k = true ∧ (hasK i.op k = false → i.p k = 0))) : i.right = false :=
  Ins.bad_of (k := k) fun hf => h ((fine_iff i k hk).1 hf)
set_option maxRecDepth 100000 in
set_option maxHeartbeats 4000000 in
theorem wword_any (i : Ins) (hi : i.In) (w : World) (hT : Tabs w) : Calls Tryd.prog 8 #[.agg #[.int .i64 i.op, .int .i64 i.a, .int .i64 i.b, .int .i64 i.c, .int .i64 i.m]] w fun e w' => e = .returned (.tuple #[.int .u64 i.wv, .int .i64 i.we]) ∧ Upd (fun _ => False) w w' := by
  have U0 := Lib.hid ((Upd.refl (fun _ => False) w).alloc (.cells #[.int .i64 i.op, .int .i64 i.a, .int .i64 i.b, .int .i64 i.c, .int .i64 i.m] 23))
  by_cases o1 : i.op < 0
  · have hr : i.right = false := by unfold Ins.right; rw [decide_eq_false (by omega)]; rfl
    have h1 : i.wv = 0 := by unfold Ins.wv; rw [hr]; rfl
    have h2 : i.we = 1 := by unfold Ins.we; rw [hr]; rfl
    rw [h1, h2]
    clear hT hi hr h1 h2
    go_enter Tryd.func8, Tryd.ntmps8
    go_wp2
    go_ret2
    exact ⟨rfl, U0.out⟩
  by_cases o2 : 11 < i.op
  · have hr : i.right = false := by unfold Ins.right; rw [decide_eq_false (by omega)]; rfl
    have h1 : i.wv = 0 := by unfold Ins.wv; rw [hr]; rfl
    have h2 : i.we = 1 := by unfold Ins.we; rw [hr]; rfl
    rw [h1, h2]
    clear hT hi hr h1 h2
    go_enter Tryd.func8, Tryd.ntmps8
    go_wp2
    go_ret2
    exact ⟨rfl, U0.out⟩
  have hOp : 0 ≤ i.op ∧ i.op ≤ 11 := ⟨by omega, by omega⟩
  have hyes : Hid ((∀ k, k < 4 → fits (i.p k) k = true ∧ (hasK i.op k = false → i.p k = 0)) → i.wv = i.word ∧ i.we = 0) := Lib.hid (fun h => by have hr := fine_all hOp h; unfold Ins.wv Ins.we; rw [hr]; exact ⟨rfl, rfl⟩)
  have hno : Hid (∀ k, k < 4 → ¬ (fits (i.p k) k = true ∧ (hasK i.op k = false → i.p k = 0)) → i.wv = 0 ∧ i.we = 1) := Lib.hid (fun k hk h => by have hr := not_fine k hk h; unfold Ins.wv Ins.we; rw [hr]; exact ⟨rfl, rfl⟩)
  have hput : Hid (∀ k, k < 4 → putB (IntKind.u64.wrap (i.p k)) (frK k) (mnK k) = fits (i.p k) k ∧ ((∀ j, j < k + 1 → fits (i.p j) j = true) → putV (i.wk k) (IntKind.u64.wrap (i.p k)) (frK k) (mnK k) = i.wk (k + 1))) := Lib.hid (fun k hk => ⟨putB_k (i.p k) (hi.p k).1 (hi.p k).2 k hk, putV_k i hOp k hk⟩)
  have hbd := Lib.hid (wk_bd i hOp)
  have h0 := Lib.hid (wk_zero i)
  have h4 := Lib.hid (wk_four i)
  have cN := Lib.hid (fun W => numbers_any i W)
  have hT1 := Lib.hid (hT.kept U0.out)
  obtain ⟨on, hon⟩ := Int.eq_ofNat_of_zero_le hOp.1
  have hon2 : on < 12 := by omega
  rw [hon] at hyes hno h0 U0 cN hT1 ⊢
  have hh : Hid (∀ W, Tabs W → ∀ k, k < 4 → W.cell? ⟨0, on * 5 + 1 + k, none⟩ = some (.bool (hasK on k))) := Lib.hid (fun W h k hk => h.has on hon2 k hk)
  have honb : (on : Int) ≤ 11 := by omega
  generalize hasK (on : Int) = hb at hyes hno hh
  generalize i.p = p at hyes hno hput hbd cN
  generalize i.wk = wk at hput hbd h0 h4
  generalize i.word = wd at hyes h4
  generalize i.wv = wv at hyes hno ⊢
  generalize i.we = we at hyes hno ⊢
  generalize i.a = a at U0 cN hT1 ⊢
  generalize i.b = b at U0 cN hT1 ⊢
  generalize i.c = c at U0 cN hT1 ⊢
  generalize i.m = m at U0 cN hT1 ⊢
  clear hT hi hOp o1 o2 hon i hon2
  have X := heap_alloc_last w (.cells #[.int .i64 (on : Int), .int .i64 a, .int .i64 b, .int .i64 c, .int .i64 m] 23)
  have i0 := Lib.hid (show ∀ W, Upd (fun _ => False) (w.alloc (.cells #[.int .i64 (on : Int), .int .i64 a, .int .i64 b, .int .i64 c, .int .i64 m] 23)) W → W.cell? ⟨w.heap.size, 0, none⟩ = some (.int .i64 on) from fun W u => by rw [cell_of_row _ _ _ _ _ _ (u.at X id)]; rfl)
  have R0 := Lib.hid (show (w.alloc (.cells #[.int .i64 (on : Int), .int .i64 a, .int .i64 b, .int .i64 c, .int .i64 m] 23)).rangeAt w.heap.size 0 [.int .i64 (on : Int), .int .i64 a, .int .i64 b, .int .i64 c, .int .i64 m] from World.rangeAt_of_block X 0 5)
  clear X
  go_enter Tryd.func8, Tryd.ntmps8
  go_upto_region 4 with fail
  go_wp2_with (with_reducible refine wpList_load_sz rfl 23 (.tmp 1) rfl w.heap.size 0 rfl [.int .i64 (on : Int), .int .i64 a, .int .i64 b, .int .i64 c, .int .i64 m] _ R0.out Tryd.underlying23 rfl 5 (ins_len _ _ _ _ _) size_ins ?_)
  refine (cN.out _).mono ?_
  rintro e w2 ⟨rfl, u2⟩
  have hT2 := Lib.hid (hT1.out.kept u2)
  have V2 := Lib.hid (U0.out.trans u2)
  have i2 := Lib.hid (i0.out _ u2)
  clear hT1 U0 u2 i0 R0 cN
  generalize w.heap.size = XI at i2 ⊢
  have hx : Hid (∀ k, k < 4 → ∀ w, (Instr.index 38 (.agg #[.int .i64 (p 0), .int .i64 (p 1), .int .i64 (p 2), .int .i64 (p 3)]) (.int .i64 (k : Nat))).run Tryd.prog w = .ok (.int .i64 (p k)) w) := Lib.hid (fun k hk => run_index_ints (P := Tryd.prog) Tryd.underlying38 Tryd.underlying3 (by kernel_rfl) [p 0, p 1, p 2, p 3] rfl .i64 k hk (p k) (by
    have hd : k = 0 ∨ k = 1 ∨ k = 2 ∨ k = 3 := by omega
    rcases hd with rfl | rfl | rfl | rfl <;> rfl))
  generalize p 0 = p0 at hx ⊢
  generalize p 1 = p1 at hx ⊢
  generalize p 2 = p2 at hx ⊢
  generalize p 3 = p3 at hx ⊢
  go_wp2_with fail
  go_loopw [4, 22] (fun t4 t22 wr => ∃ k : Nat, k ≤ 4 ∧ t4 = .int .u64 (wk k) ∧ t22 = .int .i64 k ∧ Hid (Upd (fun _ => False) w2 wr) ∧ Hid (∀ j, j < k → fits (p j) j = true ∧ (hb j = false → p j = 0))) (fun _ t22 _ => 4 - (intOf t22).toNat)
  case atStart => exact ⟨0, by omega, by rw [h0.out], rfl, Lib.hid (Upd.refl _ _), Lib.hid (fun j hj => absurd hj (by omega))⟩
  case round =>
    obtain ⟨k, hk, rfl, rfl, hU, hall⟩ := hrel
    by_cases h4k : k < 4
    · have hxk := hx.out k h4k
      have c1 := hh.out _ (hT2.out.kept hU.out) k h4k
      obtain ⟨c2, c3, -⟩ := (hT2.out.kept hU.out).pl k h4k
      have c0 := hU.out.cell i2.out id
      obtain ⟨e1, e2⟩ := hput.out k h4k
      have hn := hno.out k h4k
      have k0 : (0 : Int) ≤ (k : Int) := by omega
      have k4 : (k : Int) < 4 := by omega
      have hV := Lib.hid (V2.out.trans hU.out)
      clear hx hh hput hno
      by_cases hz : p k = 0
      · skip
        have hg : hb k = false → p k = 0 := fun _ => hz
        cases hf : fits (p k) k
        · obtain ⟨rfl, rfl⟩ := hn (fun h => by have h1 := h.1; rw [hf] at h1; cases h1)
          have hc := Lib.hid (fun q => put_any (wk k) (IntKind.u64.wrap (p k)) (frK k) (mnK k) (wr.drewN q) (hbd.out k (by omega) (fun j hj => (hall.out j hj).1)).1 (hbd.out k (by omega) (fun j hj => (hall.out j hj).1)).2)
          rw [e1, hf] at hc
          clear hn e1 e2 hg hall hbd h0 h4 hyes hf
          generalize putV (wk k) (IntKind.u64.wrap (p k)) (frK k) (mnK k) = nx at hc
          rw [hz] at hc hxk
          generalize wk k = W4 at hc ⊢
          go_wp2_with fail
          go_quiet ((go_at_call 17; exact draws0 (hc.out _)))
          go_wp2
          go_ret2
          exact ⟨rfl, hV.out.drewN _⟩
        · have hc := Lib.hid (fun q => put_any (wk k) (IntKind.u64.wrap (p k)) (frK k) (mnK k) (wr.drewN q) (hbd.out k (by omega) (fun j hj => (hall.out j hj).1)).1 (hbd.out k (by omega) (fun j hj => (hall.out j hj).1)).2)
          have hall' := Lib.hid (show ∀ j, j < k + 1 → fits (p j) j = true ∧ (hb j = false → p j = 0) from fun j hj => (Nat.lt_succ_iff_lt_or_eq.1 hj).elim (hall.out j) (fun e => e ▸ ⟨hf, hg⟩))
          rw [e1, hf, e2 (fun j hj => (hall'.out j hj).1)] at hc
          have hnx := Lib.hid (show wk (k + 1) = wk (k + 1) from rfl)
          clear hn e1 e2 hg hall hbd h0 h4 hyes hf
          generalize hnw : wk (k + 1) = nx at hc
          replace hnw := Lib.hid hnw
          rw [hz] at hc hxk
          generalize wk k = W4 at hc ⊢
          go_wp2_with fail
          go_quiet ((go_at_call 17; exact draws0 (hc.out _)))
          go_wp2
          go_roundw
          case rel => exact ⟨k + 1, by omega, by rw [hnw.out], by go_num, Lib.hid (hU.out.drewN _), hall'⟩
          case measure => simp [intOf]; omega
      · have hz' : (p k != 0) = true := by simp [hz]
        generalize hbe : hb k = b1 at c1
        cases b1
        · obtain ⟨rfl, rfl⟩ := hn (fun h => hz (h.2 hbe))
          clear hn e1 e2 hall hbd h0 h4 hyes
          generalize p k = z at hxk hz'
          generalize wk k = W4
          go_wp2
          go_ret2
          exact ⟨rfl, hV.out⟩
        · skip
          have hg : hb k = false → p k = 0 := fun h => by rw [hbe] at h; cases h
          cases hf : fits (p k) k
          · obtain ⟨rfl, rfl⟩ := hn (fun h => by have h1 := h.1; rw [hf] at h1; cases h1)
            have hc := Lib.hid (fun q => put_any (wk k) (IntKind.u64.wrap (p k)) (frK k) (mnK k) (wr.drewN q) (hbd.out k (by omega) (fun j hj => (hall.out j hj).1)).1 (hbd.out k (by omega) (fun j hj => (hall.out j hj).1)).2)
            rw [e1, hf] at hc
            clear hn e1 e2 hg hall hbd h0 h4 hyes hf
            generalize putV (wk k) (IntKind.u64.wrap (p k)) (frK k) (mnK k) = nx at hc
            clear hbe hz; generalize p k = z at hc hxk hz'
            generalize wk k = W4 at hc ⊢
            go_wp2_with fail
            go_quiet ((go_at_call 17; exact draws0 (hc.out _)))
            go_wp2
            go_ret2
            exact ⟨rfl, hV.out.drewN _⟩
          · have hc := Lib.hid (fun q => put_any (wk k) (IntKind.u64.wrap (p k)) (frK k) (mnK k) (wr.drewN q) (hbd.out k (by omega) (fun j hj => (hall.out j hj).1)).1 (hbd.out k (by omega) (fun j hj => (hall.out j hj).1)).2)
            have hall' := Lib.hid (show ∀ j, j < k + 1 → fits (p j) j = true ∧ (hb j = false → p j = 0) from fun j hj => (Nat.lt_succ_iff_lt_or_eq.1 hj).elim (hall.out j) (fun e => e ▸ ⟨hf, hg⟩))
            rw [e1, hf, e2 (fun j hj => (hall'.out j hj).1)] at hc
            have hnx := Lib.hid (show wk (k + 1) = wk (k + 1) from rfl)
            clear hn e1 e2 hg hall hbd h0 h4 hyes hf
            generalize hnw : wk (k + 1) = nx at hc
            replace hnw := Lib.hid hnw
            clear hbe hz; generalize p k = z at hc hxk hz'
            generalize wk k = W4 at hc ⊢
            go_wp2_with fail
            go_quiet ((go_at_call 17; exact draws0 (hc.out _)))
            go_wp2
            go_roundw
            case rel => exact ⟨k + 1, by omega, by rw [hnw.out], by go_num, Lib.hid (hU.out.drewN _), hall'⟩
            case measure => simp [intOf]; omega
    · have e : k = 4 := by omega
      subst e
      obtain ⟨rfl, rfl⟩ := hyes.out hall.out
      rw [h4.out]
      have hV := Lib.hid (V2.out.trans hU.out)
      clear hx hh hput hno hyes hbd h0 h4 hall
      go_wp2
      go_ret2
      exact ⟨rfl, hV.out⟩
end Go.Proofs.YtgjppnbkklionaaDoor

/-
  The program's instructions: Of.
-/
namespace Go.Proofs.YtgjppnbkklionaaDoor
open Go.ChangeShapes Go.WideShapes Go.ChangeAt Go.RowKit

/-- four numbers in a row -/
def four (f : Nat → Int) : List Value := [.int .i64 (f 0), .int .i64 (f 1), .int .i64 (f 2), .int .i64 (f 3)]
def FourAt (w : World) (A : Nat) (f : Nat → Int) : Prop := w.heap[A]? = some (.cells (four f).toArray 38 (0, 0))
theorem FourAt.kept {S : Nat → Prop} {w w' : World} {A : Nat} {f : Nat → Int} (h : FourAt w A f) (u : Upd S w w') (hs : ¬ S A) : FourAt w' A f := u.at h hs
theorem four_at (f : Nat → Int) (k : Nat) (hk : k < 4) : (four f)[k]? = some (.int .i64 (f k)) := by
  have hd : k = 0 ∨ k = 1 ∨ k = 2 ∨ k = 3 := by omega
  rcases hd with rfl | rfl | rfl | rfl <;> rfl
theorem FourAt.cell {w : World} {A : Nat} {f : Nat → Int} (h : FourAt w A f) (k : Nat) (hk : k < 4) : w.cell? ⟨A, k, none⟩ = some (.int .i64 (f k)) := by
  rw [cell_of_row _ _ _ _ _ _ h]
  simpa using four_at f k hk
theorem FourAt.range {w : World} {A : Nat} {f : Nat → Int} (h : FourAt w A f) : w.rangeAt A 0 [.int .i64 (f 0), .int .i64 (f 1), .int .i64 (f 2), .int .i64 (f 3)] := World.rangeAt_of_block h 0 4
theorem FourAt.free {w : World} {A : Nat} {f : Nat → Int} (h : FourAt w A f) (k : Nat) : w.frozen? ⟨A, k, none⟩ = false := frozen_block h _
theorem four_set (f : Nat → Int) (k : Nat) (hk : k < 4) (z : Int) : (four f).set k (.int .i64 z) = four (fun j => if j = k then z else f j) := by
  have hd : k = 0 ∨ k = 1 ∨ k = 2 ∨ k = 3 := by omega
  rcases hd with rfl | rfl | rfl | rfl <;> rfl
theorem FourAt.set {w : World} {A : Nat} {f : Nat → Int} (h : FourAt w A f) (k : Nat) (hk : k < 4) (z : Int) : FourAt (w.setCell ⟨A, k, none⟩ (.int .i64 z)) A (fun j => if j = k then z else f j) := by
  unfold FourAt
  rw [← four_set f k hk z]
  exact heap_setCell_same h k _
theorem four_len (f : Nat → Int) : ([.int .i64 (f 0), .int .i64 (f 1), .int .i64 (f 2), .int .i64 (f 3)] : List Value).length = 4 := rfl
/-- a word's part -/
theorem getV_k (v : Int) (h0 : 0 ≤ v) (k : Nat) (hk : k < 4) : getV v (frK k) (mnK k) = (Ins.of v).p k ∧ 0 ≤ (Ins.of v).p k ∧ (Ins.of v).p k ≤ 65535 := by
  have hd : k = 0 ∨ k = 1 ∨ k = 2 ∨ k = 3 := by omega
  rcases hd with rfl | rfl | rfl | rfl
  all_goals
    rw [getV_yes (by decide)]
    unfold getI M.getN
    simp only [Ins.of, Ins.p, frK, mnK]
    obtain ⟨n, rfl⟩ := Int.eq_ofNat_of_zero_le h0
    simp only [show (2 : Nat) ^ Int.toNat 8 = 256 from rfl, show (2 : Nat) ^ Int.toNat 11 = 2048 from rfl, show (2 : Nat) ^ Int.toNat 14 = 16384 from rfl, show (2 : Nat) ^ Int.toNat 24 = 16777216 from rfl, show (2 : Nat) ^ Int.toNat 3 = 8 from rfl, show (2 : Nat) ^ Int.toNat 16 = 65536 from rfl, Int.toNat_natCast]
    omega
theorem getV_op (v : Int) (h0 : 0 ≤ v) : getV v 0 8 = (Ins.of v).op ∧ 0 ≤ (Ins.of v).op ∧ (Ins.of v).op ≤ 255 := by
  rw [getV_yes (by decide)]
  unfold getI M.getN
  simp only [Ins.of]
  obtain ⟨n, rfl⟩ := Int.eq_ofNat_of_zero_le h0
  simp only [show (2 : Nat) ^ Int.toNat 0 = 1 from rfl, show (2 : Nat) ^ Int.toNat 8 = 256 from rfl, Int.toNat_natCast]
  omega
theorem of_in (v : Int) (h0 : 0 ≤ v) : (Ins.of v).In := by
  have := (getV_op v h0).2
  have h1 := (getV_k v h0 0 (by omega)).2
  have h2 := (getV_k v h0 1 (by omega)).2
  have h3 := (getV_k v h0 2 (by omega)).2
  have h4 := (getV_k v h0 3 (by omega)).2
  simp only [Ins.p] at h1 h2 h3 h4
  exact ⟨by omega, by omega, by omega, by omega, by omega⟩
def upd4 (v : Int) (k : Nat) : Nat → Int := fun j => if j < k then (Ins.of v).p j else 0
theorem upd4_step (v : Int) (k : Nat) : (fun j => if j = k then (Ins.of v).p k else upd4 v k j) = upd4 v (k + 1) := by
  funext j
  unfold upd4
  by_cases h1 : j = k
  · subst h1; rw [if_pos rfl, if_pos (by omega)]
  · rw [if_neg h1]
    by_cases h2 : j < k
    · rw [if_pos h2, if_pos (by omega)]
    · rw [if_neg h2, if_neg (by omega)]
theorem upd4_all (v : Int) : upd4 v 4 0 = (Ins.of v).a ∧ upd4 v 4 1 = (Ins.of v).b ∧ upd4 v 4 2 = (Ins.of v).c ∧ upd4 v 4 3 = (Ins.of v).m := ⟨rfl, rfl, rfl, rfl⟩
set_option maxRecDepth 100000 in
set_option maxHeartbeats 2000000 in
theorem wof_any (v : Int) (h0 : 0 ≤ v) (h1 : v < 18446744073709551616) (w : World) (hT : Tabs w) : Calls Tryd.prog 10 #[.int .u64 v] w fun e w' => e = .returned (.tuple #[.agg #[.int .i64 (Ins.ov v).op, .int .i64 (Ins.ov v).a, .int .i64 (Ins.ov v).b, .int .i64 (Ins.ov v).c, .int .i64 (Ins.ov v).m], .int .i64 (Ins.oe v)]) ∧ Upd (fun _ => False) w w' := by
  have k0 := Lib.hid (show InsAt (w.alloc (.cells #[.int .i64 0, .int .i64 0, .int .i64 0, .int .i64 0, .int .i64 0] 23)) w.heap.size Ins.zero from heap_alloc_last w _)
  have U0 := Lib.hid ((Upd.refl (fun _ => False) w).alloc (.cells #[.int .i64 0, .int .i64 0, .int .i64 0, .int .i64 0, .int .i64 0] 23))
  have cW := Lib.hid (fun W (h : Tabs W) => wword_any (Ins.of v) (of_in v h0) W h)
  have hg := Lib.hid (fun k hk => getV_k v h0 k hk)
  have hg0 := Lib.hid (getV_op v h0)
  have cG := Lib.hid (fun f m W => get_any v f m W h0 h1)
  have hy : Hid (Ins.hit v = true → Ins.ov v = Ins.of v ∧ Ins.oe v = 0 ∧ (Ins.of v).we = 0 ∧ (Ins.of v).wv = v) := Lib.hid (fun h => by
    have h2 := h
    unfold Ins.hit at h2
    simp only [Bool.and_eq_true, decide_eq_true_eq] at h2
    refine ⟨by unfold Ins.ov; rw [h]; rfl, by unfold Ins.oe; rw [h]; rfl, by unfold Ins.we; rw [h2.1]; rfl, by unfold Ins.wv; rw [h2.1, if_pos rfl]; exact h2.2⟩)
  have hn : Hid (Ins.hit v = false → Ins.ov v = Ins.zero ∧ Ins.oe v = 11 ∧ ((Ins.of v).we = 1 ∨ ((Ins.of v).we = 0 ∧ (Ins.of v).wv ≠ v))) := Lib.hid (fun h => by
    refine ⟨by unfold Ins.ov; rw [h]; rfl, by unfold Ins.oe; rw [h]; rfl, ?_⟩
    unfold Ins.hit at h
    cases hr : (Ins.of v).right
    · exact .inl (by unfold Ins.we; rw [hr]; rfl)
    · rw [hr, Bool.true_and] at h
      exact .inr ⟨by unfold Ins.we; rw [hr]; rfl, by unfold Ins.wv; rw [hr, if_pos rfl]; exact of_decide_eq_false h⟩)
  have hs := Lib.hid (upd4_step v)
  have hl := Lib.hid (upd4_all v)
  generalize Ins.ov v = ov at hy hn ⊢
  generalize Ins.oe v = oe at hy hn ⊢
  have hz : upd4 v 0 = fun _ => 0 := by funext j; unfold upd4; rw [if_neg (by omega)]
  replace hz := Lib.hid hz
  generalize upd4 v = up at hs hl hz
  obtain ⟨u, hu⟩ : ∃ u, Ins.of v = u := ⟨_, rfl⟩
  rw [hu] at cW hg hg0 hs hl hy hn
  clear hu
  go_enter Tryd.func10, Tryd.ntmps10
  go_upto_region 1 with fail
  obtain ⟨w1, hw1⟩ : ∃ w1, w1 = w.alloc (.cells #[.int .i64 0, .int .i64 0, .int .i64 0, .int .i64 0, .int .i64 0] 23) := ⟨_, rfl⟩
  obtain ⟨N, hN⟩ : ∃ N, N = w.heap.size := ⟨_, rfl⟩
  have HN := Lib.hid (Nat.le_of_eq hN.symm)
  rw [← hw1, ← hN] at k0
  rw [← hw1] at U0 ⊢
  rw [← hN]
  clear hw1 hN
  go_wp2_with fail
  refine (cG.out _ _ _).mono ?_
  rintro e w2 ⟨rfl, n2, rfl⟩
  rw [hg0.out.1]
  have ob := hg0.out.2.1
  have ob2 := hg0.out.2.2
  go_upto_region 3 with fail
  have hA : (w1.drewN n2).heap.size = w1.heap.size := rfl
  have F3 := Lib.hid (show FourAt ((w1.drewN n2).alloc (.cells #[.int .i64 0, .int .i64 0, .int .i64 0, .int .i64 0] 38)) w1.heap.size (up 0) from by rw [hz.out]; exact heap_alloc_last (w1.drewN n2) _)
  have k3 := Lib.hid (k0.out.kept (((Upd.refl (fun _ => False) w1).drewN n2).alloc (.cells #[.int .i64 0, .int .i64 0, .int .i64 0, .int .i64 0] 38)) id)
  have V3 := Lib.hid ((U0.out.drewN n2).alloc (.cells #[.int .i64 0, .int .i64 0, .int .i64 0, .int .i64 0] 38))
  have HA := Lib.hid (show N ≠ w1.heap.size ∧ w.heap.size ≤ w1.heap.size from ⟨Nat.ne_of_lt (lt_of_heap k0.out), U0.out.size⟩)
  clear k0 U0 hA hz hg0
  generalize (w1.drewN n2).alloc (.cells #[.int .i64 0, .int .i64 0, .int .i64 0, .int .i64 0] 38) = w3 at F3 k3 V3 ⊢
  generalize w1.heap.size = A at F3 HA ⊢
  generalize fieldB 0 8 = fb0
  go_wp2_with fail
  go_loopw [18] (fun t wr => ∃ k : Nat, k ≤ 4 ∧ t = .int .i64 k ∧ Hid (Upd (fun _ => False) w wr) ∧ Hid (FourAt wr A (up k)) ∧ Hid (InsAt wr N Ins.zero)) (fun t _ => 4 - (intOf t).toNat)
  case atStart => exact ⟨0, by omega, rfl, V3, F3, k3⟩
  case round =>
    obtain ⟨k, hk, rfl, hU, hF, hI⟩ := hrel
    clear V3 F3 k3
    by_cases h4k : k < 4
    · obtain ⟨g1, g2, g3⟩ := hg.out k h4k
      obtain ⟨c2, c3, -⟩ := (hT.kept hU.out).pl k h4k
      have hc := Lib.hid (fun q => cG.out (frK k) (mnK k) (wr.drewN q))
      rw [g1] at hc
      have hst := hs.out k
      have k0 : (0 : Int) ≤ (k : Int) := by omega
      have k4 : (k : Int) < 4 := by omega
      have ce : ∀ q, (wr.drewN q).cell? ⟨A, k, none⟩ = some (.int .i64 (up k k)) := fun q => hF.out.cell k h4k
      have fz : ∀ q, (wr.drewN q).frozen? ⟨A, k, none⟩ = false := fun q => hF.out.free k
      have hF' := Lib.hid (fun q => FourAt.set (w := wr.drewN q) (A := A) (f := up k) hF.out k h4k (u.p k))
      rw [hst] at hF'
      have hI' := Lib.hid (fun q => show InsAt ((wr.drewN q).setCell ⟨A, k, none⟩ (.int .i64 (u.p k))) N Ins.zero from by
        unfold InsAt
        rw [Below.heap_setCell _ _ _ _ HA.out.1]
        exact hI.out)
      have hU' := Lib.hid (fun q => (hU.out.drewN q).setCell (p := ⟨A, k, none⟩) (.inr HA.out.2) (.int .i64 (u.p k)))
      clear hg hs hst g1 hU hF hI
      generalize u.p k = z at hc g2 g3 hF' hI' hU'
      go_wp2_with fail
      go_quiet ((go_at_call 19; exact draws0 (hc.out _)))
      go_wp2
      go_roundw
      case rel => exact ⟨k + 1, by omega, by go_num, Lib.hid (hU'.out _), Lib.hid (hF'.out _), Lib.hid (hI'.out _)⟩
      case measure => simp [intOf]; omega
    · have e : k = 4 := by omega
      subst e
      have R4 := hF.out.range
      rw [hl.out.1, hl.out.2.1, hl.out.2.2.1, hl.out.2.2.2] at R4
      clear hg hs hl hF
      have cI := Lib.hid (fun W => instr_any u.op u.a u.b u.c u.m W)
      go_wp2_with (with_reducible refine wpList_load_sz rfl 38 (.tmp 6) rfl A 0 rfl [.int .i64 u.a, .int .i64 u.b, .int .i64 u.c, .int .i64 u.m] _ R4 Tryd.underlying38 rfl 4 rfl size_i4 ?_)
      refine (cI.out _).mono ?_
      rintro e w5 ⟨rfl, u5⟩
      have k5 := Lib.hid (hI.out.kept u5 id)
      have V5 := Lib.hid (hU.out.trans u5)
      clear cI R4 hI hU u5
      go_upto_region 10 with fail
      have X6 := Lib.hid (show InsAt (w5.alloc (.cells #[.int .i64 u.op, .int .i64 u.a, .int .i64 u.b, .int .i64 u.c, .int .i64 u.m] 23)) w5.heap.size u from heap_alloc_last w5 _)
      have u6 := (Upd.refl (fun _ => False) w5).alloc (.cells #[.int .i64 u.op, .int .i64 u.a, .int .i64 u.b, .int .i64 u.c, .int .i64 u.m] 23)
      have k6 := Lib.hid (k5.out.kept u6 id)
      have V6 := Lib.hid (V5.out.trans u6)
      clear k5 V5 u6
      generalize w5.alloc (.cells #[.int .i64 u.op, .int .i64 u.a, .int .i64 u.b, .int .i64 u.c, .int .i64 u.m] 23) = w6 at X6 k6 V6 ⊢
      generalize w5.heap.size = D at X6 ⊢
      have T6 := Lib.hid (hT.kept V6.out)
      go_wp2_with (with_reducible refine wpList_load_sz rfl 23 (.tmp 10) rfl D 0 rfl [.int .i64 u.op, .int .i64 u.a, .int .i64 u.b, .int .i64 u.c, .int .i64 u.m] _ X6.out.range Tryd.underlying23 rfl 5 (ins_len _ _ _ _ _) size_ins ?_)
      refine (cW.out _ T6.out).mono ?_
      rintro e w7 ⟨rfl, u7⟩
      have X7 := Lib.hid (X6.out.kept u7 id)
      have k7 := Lib.hid (k6.out.kept u7 id)
      have V7 := Lib.hid (V6.out.trans u7)
      clear X6 k6 V6 u7 cW T6 hT
      have K := k7.out.there
      generalize u.wv = wv at hy hn ⊢
      generalize u.we = we at hy hn ⊢
      have HN' := HN.out
      cases hh : Ins.hit v
      · obtain ⟨rfl, rfl, hd⟩ := hn.out hh
        clear hy hn hh
        rcases hd with rfl | ⟨rfl, hne⟩
        · go_wp2_with (with_reducible refine wpList_store_sz rfl 23 (.tmp 2) (.tmp 55) rfl N 0 #[.int .i64 0, .int .i64 0, .int .i64 0, .int .i64 0, .int .i64 0] rfl rfl 5 (ins_sz _ _ _ _ _) K size_ins (ins_one _ _ _ _ _) [.int .i64 0, .int .i64 0, .int .i64 0, .int .i64 0, .int .i64 0] (ins_ls _ _ _ _ _) ?_)
          (try simp only [Exit.inBlock, Exit.then])
          refine bodyPost_ret (ret_ins rfl _ _ N Ins.zero rfl (k7.out.set Ins.zero)) rfl ⟨rfl, ?_⟩
          exact Upd.setCells (.inr HN') _ _ V7.out
        · have hb : (wv != v) = true := by simp [hne]
          go_wp2_with (with_reducible refine wpList_store_sz rfl 23 (.tmp 2) (.tmp 55) rfl N 0 #[.int .i64 0, .int .i64 0, .int .i64 0, .int .i64 0, .int .i64 0] rfl rfl 5 (ins_sz _ _ _ _ _) K size_ins (ins_one _ _ _ _ _) [.int .i64 0, .int .i64 0, .int .i64 0, .int .i64 0, .int .i64 0] (ins_ls _ _ _ _ _) ?_)
          (try simp only [Exit.inBlock, Exit.then])
          refine bodyPost_ret (ret_ins rfl _ _ N Ins.zero rfl (k7.out.set Ins.zero)) rfl ⟨rfl, ?_⟩
          exact Upd.setCells (.inr HN') _ _ V7.out
      · obtain ⟨rfl, rfl, rfl, rfl⟩ := hy.out hh
        clear hy hn hh
        go_wp2_with (first
          | (with_reducible refine wpList_load_sz rfl 23 (.tmp 10) rfl D 0 rfl [.int .i64 ov.op, .int .i64 ov.a, .int .i64 ov.b, .int .i64 ov.c, .int .i64 ov.m] _ X7.out.range Tryd.underlying23 rfl 5 (ins_len _ _ _ _ _) size_ins ?_)
          | (with_reducible refine wpList_store_sz rfl 23 (.tmp 2) (.tmp 56) rfl N 0 #[.int .i64 ov.op, .int .i64 ov.a, .int .i64 ov.b, .int .i64 ov.c, .int .i64 ov.m] rfl rfl 5 (ins_sz _ _ _ _ _) K size_ins (ins_one _ _ _ _ _) [.int .i64 ov.op, .int .i64 ov.a, .int .i64 ov.b, .int .i64 ov.c, .int .i64 ov.m] (ins_ls _ _ _ _ _) ?_))
        (try simp only [Exit.inBlock, Exit.then])
        refine bodyPost_ret (ret_ins rfl _ _ N ov rfl (k7.out.set ov)) rfl ⟨rfl, ?_⟩
        exact Upd.setCells (.inr HN') _ _ V7.out
end Go.Proofs.YtgjppnbkklionaaDoor

/-
  The program's instructions: Text.
-/
namespace Go.Proofs.YtgjppnbkklionaaDoor
open Go.ChangeShapes Go.WideShapes Go.ChangeAt Go.RowKit

/-- the word of its k-th part, behind its space; nothing if it is no operand -/
def Ins.pt (i : Ins) (k : Nat) : List Nat := if hasK i.op k = true then 32 :: (sgK k ++ digs (i.p k).toNat) else []
/-- the text as far as its k-th part -/
def Ins.tk (i : Ins) : Nat → List Nat
  | 0 => opName i.op.toNat
  | k + 1 => i.tk k ++ i.pt k
theorem tk_four (i : Ins) : i.tk 4 = i.text := by
  unfold Ins.text Ins.parts
  simp only [Ins.tk, Ins.pt, hasK, sgK, Ins.p]
  cases hasA i.op <;> cases hasB i.op <;> cases hasC i.op <;> cases hasM i.op <;> simp [behind]
/-- what Text answers -/
def Ins.tv (i : Ins) : ByteArray := if i.right = true then strOf (byts i.text) else strOf []
theorem tk_step_no (i : Ins) (k : Nat) (h : hasK i.op k = false) : i.tk (k + 1) = i.tk k := by
  simp [Ins.tk, Ins.pt, h]
theorem strOf_append (a b : List UInt8) : strOf a ++ strOf b = strOf (a ++ b) := by
  apply ByteArray.ext
  simp [strOf]
theorem digs_len5 (u : Nat) (h : u ≤ 65535) : (digs u).length ≤ 5 := digs_len 4 u (by omega)
theorem strSz (l : List Nat) : (strOf (byts l)).size = l.length := by rw [strOf_size]; simp [byts]
theorem tk_len (i : Ins) (ho : 0 ≤ i.op ∧ i.op ≤ 11) (hp : ∀ k, k < 4 → 0 ≤ i.p k ∧ i.p k ≤ 65535) : ∀ k, k ≤ 4 → (i.tk k).length ≤ 5 + 7 * k
  | 0, _ => by
    have : ∀ o : Nat, o < 12 → (opName o).length ≤ 5 := by decide
    exact this _ (by omega)
  | k + 1, h => by
    have := tk_len i ho hp k (by omega)
    simp only [Ins.tk, Ins.pt, List.length_append]
    split
    · have h5 := digs_len5 (i.p k).toNat (by have := hp k (by omega); omega)
      have hs : (sgK k).length ≤ 1 := by
        have hd : k = 0 ∨ k = 1 ∨ k = 2 ∨ k = 3 := by omega
        rcases hd with rfl | rfl | rfl | rfl <;> simp [sgK]
      simp only [List.length_cons, List.length_append]
      omega
    · simp; omega
/-- the three strings that a part's text is made of -/
theorem cats (i : Ins) (ho : 0 ≤ i.op ∧ i.op ≤ 11) (hp : ∀ k, k < 4 → 0 ≤ i.p k ∧ i.p k ≤ 65535) (k : Nat) (hk : k < 4) (h : hasK i.op k = true) : ∃ a b : ByteArray,
    (∀ w, (Op.stringOp .add ⟨#[32]⟩ (strOf (byts (sgK k)))).run Tryd.prog w = .ok (.string a) w) ∧ (∀ w, (Op.stringOp .add a (strOf (byts (digs (i.p k).toNat)))).run Tryd.prog w = .ok (.string b) w) ∧ (∀ w, (Op.stringOp .add (strOf (byts (i.tk k))) b).run Tryd.prog w = .ok (.string (strOf (byts (i.tk (k + 1))))) w) := by
  have hs : (sgK k).length ≤ 1 := by
    have hd : k = 0 ∨ k = 1 ∨ k = 2 ∨ k = 3 := by omega
    rcases hd with rfl | rfl | rfl | rfl <;> simp [sgK]
  have hd := digs_len5 (i.p k).toNat (by have := hp k hk; omega)
  have ht := tk_len i ho hp k (by omega)
  have e32 : (⟨#[32]⟩ : ByteArray) = strOf (byts [32]) := rfl
  refine ⟨strOf (byts ([32] ++ sgK k)), strOf (byts ([32] ++ sgK k ++ digs (i.p k).toNat)), fun w => ?_, fun w => ?_, fun w => ?_⟩
  · rw [e32, run_string_add_sum w _ _ (by rw [strSz, strSz]; simp only [List.length_cons, List.length_nil]; omega), strOf_append, ← byts_append]
  · rw [run_string_add_sum w _ _ (by rw [strSz, strSz]; simp only [List.length_append, List.length_cons, List.length_nil]; omega), strOf_append, ← byts_append]
  · rw [run_string_add_sum w _ _ (by rw [strSz, strSz]; simp only [List.length_append, List.length_cons, List.length_nil]; omega), strOf_append, ← byts_append]
    rw [show i.tk k ++ ([32] ++ sgK k ++ digs (i.p k).toNat) = i.tk (k + 1) from by simp [Ins.tk, Ins.pt, h]]
set_option maxRecDepth 100000 in
set_option maxHeartbeats 4000000 in
theorem wtext_any (i : Ins) (hi : i.In) (w : World) (hT : Tabs w) (hL : Libs w) : Calls Tryd.prog 12 #[.agg #[.int .i64 i.op, .int .i64 i.a, .int .i64 i.b, .int .i64 i.c, .int .i64 i.m]] w fun e w' => e = .returned (.tuple #[.string i.tv, .int .i64 i.we]) ∧ Upd (fun _ => False) w w' := by
  have U0 := Lib.hid ((Upd.refl (fun _ => False) w).alloc (.cells #[.int .i64 i.op, .int .i64 i.a, .int .i64 i.b, .int .i64 i.c, .int .i64 i.m] 23))
  have X := Lib.hid (show InsAt (w.alloc (.cells #[.int .i64 i.op, .int .i64 i.a, .int .i64 i.b, .int .i64 i.c, .int .i64 i.m] 23)) w.heap.size i from heap_alloc_last w _)
  have cW := Lib.hid (fun W h => wword_any i hi W h)
  have T0 := Lib.hid (hT.kept U0.out)
  have L0 := Lib.hid (hL.kept U0.out)
  cases hr : i.right
  · have h1 : i.tv = strOf [] := by unfold Ins.tv; rw [hr]; rfl
    have h2 : i.we = 1 := by unfold Ins.we; rw [hr]; rfl
    rw [h1]
    rw [h2] at cW ⊢
    clear h1 h2 hr hT hL hi L0
    generalize i.wv = wv at cW
    have R := Lib.hid (fun W (h : InsAt W w.heap.size i) => h.range)
    go_enter Tryd.func12, Tryd.ntmps12
    go_wp2_with (with_reducible refine wpList_load_sz rfl 23 (.tmp 1) rfl w.heap.size 0 rfl [.int .i64 i.op, .int .i64 i.a, .int .i64 i.b, .int .i64 i.c, .int .i64 i.m] _ (R.out _ X.out) Tryd.underlying23 rfl 5 (ins_len _ _ _ _ _) size_ins ?_)
    refine (cW.out _ T0.out).mono ?_
    rintro e w2 ⟨rfl, u2⟩
    have V2 := Lib.hid (U0.out.trans u2)
    clear U0 u2 X R cW T0
    go_wp2
    go_ret2
    exact ⟨rfl, V2.out⟩
  · have h1 : i.tv = strOf (byts i.text) := by unfold Ins.tv; rw [hr]; rfl
    have h2 : i.we = 0 := by unfold Ins.we; rw [hr]; rfl
    have ok := (Ins.right_iff i).1 hr
    rw [h1, ← tk_four]
    rw [h2] at cW ⊢
    clear h1 h2 hr hT hL hi
    generalize i.wv = wv at cW
    have hpb : Hid (∀ k, k < 4 → 0 ≤ i.p k ∧ i.p k ≤ 65535) := Lib.hid (fun k hk => by
      obtain ⟨-, a, b, c, m, -, -, -, -⟩ := ok
      have hd : k = 0 ∨ k = 1 ∨ k = 2 ∨ k = 3 := by omega
      rcases hd with rfl | rfl | rfl | rfl <;> simp only [Ins.p] <;> omega)
    have hstep := Lib.hid (fun k (hk : k < 4) => And.intro (tk_step_no i k) (cats i ok.o hpb.out k hk))
    obtain ⟨o0, o1⟩ := ok.o
    obtain ⟨on, hon⟩ := Int.eq_ofNat_of_zero_le o0
    have hon2 : on < 12 := by omega
    have hh : Hid (∀ W, Tabs W → W.cell? ⟨0, on * 5, none⟩ = some (.string (strOf (byts (opName on)))) ∧ ∀ k, k < 4 → W.cell? ⟨0, on * 5 + 1 + k, none⟩ = some (.bool (hasK on k))) := Lib.hid (fun W h => ⟨h.name on hon2, fun k hk => h.has on hon2 k hk⟩)
    have h0 := Lib.hid (show i.tk 0 = opName on from by unfold Ins.tk; rw [hon]; rfl)
    have cN := Lib.hid (fun W => numbers_any i W)
    have honb : (on : Int) ≤ 11 := by omega
    have i0 := Lib.hid (show ∀ W, InsAt W w.heap.size i → W.cell? ⟨w.heap.size, 0, none⟩ = some (.int .i64 on) from fun W h => by rw [← hon]; exact h.c.1)
    have R := Lib.hid (fun W (h : InsAt W w.heap.size i) => h.range)
    rw [hon] at hstep
    replace hon := Lib.hid hon
    replace ok := Lib.hid ok
    clear o0 o1
    go_enter Tryd.func12, Tryd.ntmps12
    go_wp2_with (with_reducible refine wpList_load_sz rfl 23 (.tmp 1) rfl w.heap.size 0 rfl [.int .i64 i.op, .int .i64 i.a, .int .i64 i.b, .int .i64 i.c, .int .i64 i.m] _ (R.out _ X.out) Tryd.underlying23 rfl 5 (ins_len _ _ _ _ _) size_ins ?_)
    refine (cW.out _ T0.out).mono ?_
    rintro e w2 ⟨rfl, u2⟩
    have V2 := Lib.hid (U0.out.trans u2)
    have T2 := Lib.hid (T0.out.kept u2)
    have L2 := Lib.hid (L0.out.kept u2)
    have X2 := Lib.hid (X.out.kept u2 id)
    clear U0 u2 X cW T0 L0
    generalize w.heap.size = XI at i0 R X2 ⊢
    have c0 := i0.out _ X2.out
    have c1 := (hh.out _ T2.out).1
    go_wp2_with (with_reducible refine wpList_load_sz rfl 23 (.tmp 1) rfl XI 0 rfl [.int .i64 i.op, .int .i64 i.a, .int .i64 i.b, .int .i64 i.c, .int .i64 i.m] _ (R.out _ X2.out) Tryd.underlying23 rfl 5 (ins_len _ _ _ _ _) size_ins ?_)
    refine (cN.out _).mono ?_
    rintro e w3 ⟨rfl, u3⟩
    have V3 := Lib.hid (V2.out.trans u3)
    have T3 := Lib.hid (T2.out.kept u3)
    have L3 := Lib.hid (L2.out.kept u3)
    have X3 := Lib.hid (X2.out.kept u3 id)
    clear u3 V2 T2 L2 X2 c0 c1 R cN
    have hx : Hid (∀ k, k < 4 → ∀ w, (Instr.index 38 (.agg #[.int .i64 (i.p 0), .int .i64 (i.p 1), .int .i64 (i.p 2), .int .i64 (i.p 3)]) (.int .i64 (k : Nat))).run Tryd.prog w = .ok (.int .i64 (i.p k)) w) := Lib.hid (fun k hk => run_index_ints (P := Tryd.prog) Tryd.underlying38 Tryd.underlying3 (by kernel_rfl) [i.p 0, i.p 1, i.p 2, i.p 3] rfl .i64 k hk (i.p k) (by
      have hd : k = 0 ∨ k = 1 ∨ k = 2 ∨ k = 3 := by omega
      rcases hd with rfl | rfl | rfl | rfl <;> rfl))
    obtain ⟨q0, e0⟩ : ∃ q, q = i.p 0 := ⟨_, rfl⟩
    obtain ⟨q1, e1⟩ : ∃ q, q = i.p 1 := ⟨_, rfl⟩
    obtain ⟨q2, e2⟩ : ∃ q, q = i.p 2 := ⟨_, rfl⟩
    obtain ⟨q3, e3⟩ : ∃ q, q = i.p 3 := ⟨_, rfl⟩
    rw [← e0, ← e1, ← e2, ← e3] at hx ⊢
    clear e0 e1 e2 e3
    go_wp2_with fail
    go_loopw [6, 24] (fun t6 t24 wr => ∃ k : Nat, k ≤ 4 ∧ t6 = .string (strOf (byts (i.tk k))) ∧ t24 = .int .i64 k ∧ Hid (Upd (fun _ => False) w3 wr)) (fun _ t24 _ => 4 - (intOf t24).toNat)
    case atStart => exact ⟨0, by omega, by rw [h0.out], rfl, Lib.hid (Upd.refl _ _)⟩
    case round =>
      obtain ⟨k, hk, rfl, rfl, hU⟩ := hrel
      by_cases h4k : k < 4
      · have hxk := hx.out k h4k
        have ha := (hh.out _ (T3.out.kept hU.out)).2 k h4k
        obtain ⟨-, -, c3⟩ := (T3.out.kept hU.out).pl k h4k
        have c0 := i0.out _ (X3.out.kept hU.out id)
        obtain ⟨s1, s2⟩ := hstep.out k h4k
        obtain ⟨p0, p1⟩ := hpb.out k h4k
        have LU := Lib.hid (L3.out.kept hU.out)
        have k0 : (0 : Int) ≤ (k : Int) := by omega
        have k4 : (k : Int) < 4 := by omega
        clear hx hh hstep hpb
        generalize hbe : hasK (on : Int) k = hb at ha s1 s2
        cases hb
        · replace s1 := Lib.hid (s1 rfl)
          clear s2 c3 p0 p1 hbe
          generalize i.p k = z at hxk
          obtain ⟨tx, htx⟩ : ∃ tx, strOf (byts (i.tk k)) = tx := ⟨_, rfl⟩
          rw [htx]
          replace htx := Lib.hid htx
          go_wp2
          go_roundw
          case rel => exact ⟨k + 1, by omega, by rw [s1.out, htx.out], by go_num, hU⟩
          case measure => simp [intOf]; omega
        · obtain ⟨sa, sb, s3, s4, s5⟩ := s2 rfl
          clear s1 s2 hbe
          obtain ⟨z, hz⟩ := Int.eq_ofNat_of_zero_le p0
          rw [hz] at hxk p1 s4
          rw [Int.toNat_natCast] at s4
          have cI := Lib.hid (fun W (h : Libs W) => itoa_any z (by omega) W h.pow)
          clear hz p0
          obtain ⟨tx, htx⟩ : ∃ tx, strOf (byts (i.tk k)) = tx := ⟨_, rfl⟩
          rw [htx] at s5 ⊢
          clear htx
          obtain ⟨ty, hty⟩ : ∃ ty, strOf (byts (i.tk (k + 1))) = ty := ⟨_, rfl⟩
          rw [hty] at s5
          replace hty := Lib.hid hty
          generalize strOf (byts (sgK k)) = sg at s3 c3
          generalize strOf (byts (digs z)) = ds at s4 cI
          go_upto_region 9 with fail
          have hS := Lib.hid (show ∀ (W' : World), Upd (fun _ => False) wr W' → W'.cell? ⟨1, k * 3 + 2, none⟩ = some (.string sg) ∧ Upd (fun _ => False) wr W' from fun W' u => ⟨u.cell c3 id, u⟩)
          go_region_held3 (fun w' => w'.cell? ⟨1, k * 3 + 2, none⟩ = some (.string sg) ∧ Upd (fun _ => False) wr w')
            (first
              | assumption
              | exact hS.out _ (Upd.refl _ _).drew
              | exact hS.out _ u7)
            (first
              | (go_at_call 21; go_split_ands; rename_i g4 g5; refine (cI.out _ (LU.out.kept g5)).mono ?_; rintro e w7 ⟨rfl, u7'⟩; have u7 := g5.trans u7'))
          have hU7 := Lib.hid (hU.out.trans u7)
          go_wp2
          go_roundw
          case rel => exact ⟨k + 1, by omega, by rw [hty.out], by go_num, hU7⟩
          case measure => simp [intOf]; omega
      · have e : k = 4 := by omega
        subst e
        clear hx hh hstep hpb
        go_wp2
        go_ret2
        exact ⟨rfl, V3.out.trans hU.out⟩
end Go.Proofs.YtgjppnbkklionaaDoor

/-
  Maps of numbers by numbers, as a plain list of pairs; kept, drawn back to their size.
-/
namespace Go.Proofs.YtgjppnbkklionaaDoor
open Go.ChangeShapes Go.WideShapes Go.ChangeAt Go.RowKit Go.Maps

/-- a frame as a key of the map -/
def kf (f : Nat) : Lit := .int .i64 f
theorem kf_inj {f g : Nat} (h : kf f = kf g) : f = g := by unfold kf at h; injection h with _ h; omega
theorem isKey (f : Nat) : WideAt.IsKeyLit (kf f) := trivial
theorem kf_same (f g : Nat) : (kf f).sameKey (kf g) = decide (f = g) := by
  by_cases h : f = g
  · subst h; rw [decide_eq_true rfl]; exact WideAt.sameKey_self trivial
  · rw [decide_eq_false h]; exact sameKey_ne fun e => h (kf_inj e)
/-- the map holds just the given blocks: by the frame the order -/
structure MapOf (D : DataW Unit) (g : List (Nat × Nat)) : Prop where
  get : ∀ x, x ∈ g → ∀ z, D.atKey (kf x.1) z = .lit (.int .i64 (x.2 : Int))
  has : ∀ kl, Maps.has D kl = true → ∃ x, x ∈ g ∧ kl = kf x.1
  sz : Maps.size D = g.length
theorem MapOf.mem {D : DataW Unit} {g : List (Nat × Nat)} (h : MapOf D g) {x : Nat × Nat} (hx : x ∈ g) : Maps.has D (kf x.1) = true := has_true_of_atKey (h.get x hx)
theorem MapOf.no {D : DataW Unit} {g : List (Nat × Nat)} (h : MapOf D g) {kl : Lit} (hx : ∀ x, x ∈ g → kl ≠ kf x.1) : Maps.has D kl = false := by
  cases hb : Maps.has D kl
  · rfl
  · obtain ⟨x, hx', e⟩ := h.has kl hb
    exact absurd e (hx x hx')
theorem mapOf_nil : MapOf (.map []) [] := ⟨fun x hx => absurd hx (List.not_mem_nil), fun kl h => by exact absurd h (by simp [has_eq]), rfl⟩
theorem MapOf.put {D : DataW Unit} {g : List (Nat × Nat)} (h : MapOf D g) (hD : Tidy D) (f o : Nat) (hf : ∀ x, x ∈ g → x.1 ≠ f) : MapOf (D.put (kf f) (.lit (.int .i64 (o : Int)))) (g ++ [(f, o)]) := by
  have hno : Maps.has D (kf f) = false := h.no fun x hx e => hf x hx (kf_inj e).symm
  refine ⟨fun x hx z => ?_, fun kl hk => ?_, ?_⟩
  · rcases List.mem_append.1 hx with hx | hx
    · rw [atKey_put_other fun e => hf x hx (kf_inj e)]; exact h.get x hx z
    · simp at hx; subst hx; exact atKey_put_same hD.isMap (isKey f) _ _
  · by_cases e : kl = kf f
    · exact ⟨(f, o), by simp, e⟩
    · rw [has_put_other e] at hk
      obtain ⟨x, hx, e2⟩ := h.has kl hk
      exact ⟨x, by simp [hx], e2⟩
  · rw [size_put hD, hno, h.sz]; simp
theorem MapOf.del {D : DataW Unit} {g : List (Nat × Nat)} (h : MapOf D g) (hD : Tidy D) {x : Nat × Nat} (hx : x ∈ g) (hn : g.Nodup) (hk : ∀ y, y ∈ g → y.1 = x.1 → y = x) : MapOf (D.del (kf x.1)) (g.erase x) := by
  refine ⟨fun y hy z => ?_, fun kl hkl => ?_, ?_⟩
  · obtain ⟨h1, h2⟩ := hn.mem_erase_iff.1 hy
    rw [atKey_del_other fun e => h1 (hk y h2 (kf_inj e))]; exact h.get y h2 z
  · by_cases e : kl = kf x.1
    · subst e; rw [has_del_same] at hkl; cases hkl
    · rw [has_del_other e] at hkl
      obtain ⟨y, hy, e2⟩ := h.has kl hkl
      exact ⟨y, hn.mem_erase_iff.2 ⟨fun e3 => e (by rw [e2, e3]), hy⟩, e2⟩
  · have := size_del (k := kf x.1) hD
    rw [h.mem hx, h.sz] at this
    rw [List.length_erase_of_mem hx]
    simp at this
    omega
theorem keyLaw : Keyed Tryd.prog 3 := int_keyed Tryd.underlying3
theorem map_kept {S : Nat → Prop} {w w' : World} {k : TypeId} {R : Value → Option (DataW Unit × List MemPlace)} {b n : Nat} {D : DataW Unit} (h : w.ownsMap Tryd.prog k R b n D) (u : Upd S w w') (hb : ¬ S b) : w'.ownsMap Tryd.prog k R b n D := by
  obtain ⟨es, clock, hx, F, hs, hD⟩ := h
  exact ⟨es, clock, u.at hx hb, F, hs, hD⟩
theorem map_tight {w : World} {k : TypeId} {R : Value → Option (DataW Unit × List MemPlace)} {b n : Nat} {D : DataW Unit} (h : w.ownsMap Tryd.prog k R b n D) (m : Nat) (hm : Maps.size D ≤ m) : w.ownsMap Tryd.prog k R b m D := by
  obtain ⟨es, clock, hx, F, hs, rfl⟩ := h
  refine ⟨es, clock, hx, F, ?_, rfl⟩
  rw [size_eq, length_sorted, List.length_map, Array.length_toList] at hm
  exact hm
theorem upd_grown {a c : World} {j : Nat} (h : a.grownBy c (some j)) : Upd (· = j) a c := ⟨h.os, h.tape, h.output, h.size, fun k hk hs => h.block k hk fun e => hs (by injection e)⟩
theorem upd_grown0 {S : Nat → Prop} {a c : World} (h : a.grownBy c none) : Upd S a c := ⟨h.os, h.tape, h.output, h.size, fun k hk _ => h.block k hk (by simp)⟩

end Go.Proofs.YtgjppnbkklionaaDoor

/-
  The program's instructions: the operations by their mnemonics.
-/
namespace Go.Proofs.YtgjppnbkklionaaDoor
open Go.ChangeShapes Go.WideShapes Go.ChangeAt Go.RowKit Go.Maps

/-- a mnemonic as a key -/
def ks (o : Nat) : Lit := .string (byts (opName o))
theorem opName_lt : ∀ o : Nat, o < 12 → ∀ x, x ∈ opName o → x < 256 := by decide
theorem ks_inj {a b : Nat} (ha : a < 12) (hb : b < 12) (h : ks a = ks b) : a = b := by
  unfold ks at h
  injection h with h
  exact opName_inj a ha b hb (byts_inj (opName_lt a ha) (opName_lt b hb) h)
theorem Upd.past {a b c : World} {B : Nat} (h : Upd (fun _ => False) a b) (u : Upd (· = B) b c) (hB : a.heap.size ≤ B) : Upd (fun _ => False) a c :=
  ⟨u.os.trans h.os, u.tape.trans h.tape, u.output.trans h.output, Nat.le_trans h.size u.size, fun k hk hs => (u.block k (Nat.lt_of_lt_of_le hk h.size) (by omega)).trans (h.block k hk hs)⟩
structure Mnem (D : DataW Unit) (n : Nat) : Prop where
  get : ∀ o, o < n → ∀ z, D.atKey (ks o) z = .lit (.int .i64 (o : Int))
  has : ∀ kl, Maps.has D kl = true → ∃ o, o < n ∧ kl = ks o
  sz : Maps.size D = n
theorem mnem_nil : Mnem (.map []) 0 := ⟨fun o ho => absurd ho (by omega), fun kl h => absurd h (by simp [has_eq]), rfl⟩
theorem Mnem.put {D : DataW Unit} {n : Nat} (h : Mnem D n) (hn : n < 12) (hD : Tidy D) : Mnem (D.put (ks n) (.lit (.int .i64 (n : Int)))) (n + 1) := by
  have hno : Maps.has D (ks n) = false := by
    cases hb : Maps.has D (ks n)
    · rfl
    · obtain ⟨o, ho, e⟩ := h.has _ hb
      have := ks_inj (by omega) (by omega) e
      omega
  refine ⟨fun o ho z => ?_, fun kl hk => ?_, ?_⟩
  · by_cases e : o = n
    · subst e; exact atKey_put_same hD.isMap (show WideAt.IsKeyLit (ks o) from trivial) _ _
    · rw [atKey_put_other fun e' => e (ks_inj (by omega) (by omega) e')]; exact h.get o (by omega) z
  · by_cases e : kl = ks n
    · exact ⟨n, by omega, e⟩
    · rw [has_put_other e] at hk
      obtain ⟨o, ho, e2⟩ := h.has kl hk
      exact ⟨o, by omega, e2⟩
  · rw [size_put hD, hno, h.sz]; simp
theorem Mnem.yes {D : DataW Unit} (h : Mnem D 12) (o : Nat) (ho : o < 12) : Maps.has D (ks o) = true := has_true_of_atKey (h.get o ho)
theorem Mnem.no {D : DataW Unit} (h : Mnem D 12) {l : List UInt8} (hl : ∀ o, o < 12 → l ≠ byts (opName o)) : Maps.has D (.string l) = false := by
  cases hb : Maps.has D (.string l)
  · rfl
  · obtain ⟨o, ho, e⟩ := h.has _ hb
    unfold ks at e
    injection e with e
    exact absurd e (hl o ho)
theorem keyLawS : Keyed Tryd.prog 9 := string_keyed Tryd.underlying9
theorem key_name (o : Nat) (ho : o < 12) : keyOf Tryd.prog 9 (.string (strOf (byts (opName o)))) = some (ks o) := by
  have hs : (strOf (byts (opName o))).size ≤ maxLen := by
    rw [strOf_size]
    have : ∀ o : Nat, o < 12 → (opName o).length ≤ 5 := by decide
    have := this o ho
    simp only [byts, List.length_map]
    unfold maxLen
    omega
  rw [WideMaps.keyOf_string_mk Tryd.underlying9 hs, strOf_toList]
  rfl
theorem wf_small {n : Nat} (h : n ≤ 256) : (Lit.int .i64 (n : Int)).wf = true := by
  show (decide (IntKind.i64.min ≤ (n : Int)) && decide ((n : Int) ≤ IntKind.i64.max)) = true
  rw [decide_eq_true (show IntKind.i64.min ≤ (n : Int) by show -9223372036854775808 ≤ (n : Int); omega), decide_eq_true (show (n : Int) ≤ IntKind.i64.max by show (n : Int) ≤ 9223372036854775807; omega)]
  rfl
set_option maxRecDepth 100000 in
set_option maxHeartbeats 2000000 in
theorem mnemonics_any (w : World) (hT : Tabs w) : Calls Tryd.prog 26 #[] w fun e w' => ∃ (b : Nat) (D : DataW Unit), e = .returned (.map (some b)) ∧ w'.ownsMap Tryd.prog 9 (plainElem Tryd.prog 3) b 256 D ∧ Mnem D 12 ∧ Upd (fun _ => False) w w' ∧ w.heap.size ≤ b := by
  have hmk := run_makeMap (P := Tryd.prog) 57 w
  have hm0 := Lib.hid (show (w.alloc (.map #[] 0)).ownsMap Tryd.prog 9 (plainElem (H := Unit) Tryd.prog 3) w.heap.size 256 (.map []) from (World.ownsMap_made w _ _ _).mono (by omega))
  have U0 := Lib.hid ((Upd.refl (fun _ => False) w).alloc (.map #[] 0))
  have HN := Lib.hid (Nat.le_refl w.heap.size)
  have hM0 := Lib.hid mnem_nil
  go_enter Tryd.func26, Tryd.ntmps26
  go_upto_region 2 with fail
  generalize w.alloc (.map #[] 0) = w1 at hm0 U0 ⊢
  obtain ⟨N, hN⟩ : ∃ N, N = w.heap.size := ⟨_, rfl⟩
  rw [← hN] at hm0 ⊢
  replace hN := Lib.hid hN
  go_wp2_with fail
  go_loopw [4] (fun t wr => ∃ k : Nat, k ≤ 12 ∧ t = .int .i64 k ∧ (∃ D : DataW Unit, Hid (wr.ownsMap Tryd.prog 9 (plainElem Tryd.prog 3) N 256 D) ∧ Hid (Mnem D k)) ∧ Hid (Upd (· = N) w1 wr)) (fun t _ => 12 - (intOf t).toNat)
  case atStart => exact ⟨0, by omega, rfl, ⟨_, hm0, hM0⟩, Lib.hid (Upd.refl _ _)⟩
  case round =>
    obtain ⟨k, hk, rfl, ⟨D, hD, hM⟩, hU⟩ := hrel
    clear hm0 hM0
    have hNs : w.heap.size ≤ N := Nat.le_of_eq hN.out.symm
    replace hNs := Lib.hid hNs
    by_cases hlt : k < 12
    · have hV := Lib.hid (U0.out.past hU.out hNs.out)
      have hc := (hT.kept hV.out).name k hlt
      have hkey := Lib.hid (key_name k hlt)
      have hput := Lib.hid (hM.out.put hlt (hD.out.tidy keyLawS))
      have hwf := Lib.hid (show (Lit.int .i64 (k : Int)).wf = true from wf_small (by omega))
      have k0 : (0 : Int) ≤ (k : Int) := by omega
      have k12 : (k : Int) < 12 := by omega
      generalize strOf (byts (opName k)) = nmv at hc hkey
      go_wp2_with ((at_mapUpdate; refine wpList_mapUpdate_own _ rfl _ _ _ 57 rfl 9 3 keyLawS Tryd.underlying57 _ N 256 D rfl hD.out (by decide) _ _ (ks k) rfl rfl hkey.out (.lit (.int .i64 k)) [] (plainElem_int Tryd.underlying3 hwf.out) ?_; intro w5 hown hgrow))
      refine ⟨⟨k + 1, by omega, by go_num, ⟨_, Lib.hid (map_tight hown 256 ?_), hput⟩, Lib.hid (hU.out.trans (upd_grown hgrow))⟩, by simp [intOf]; omega⟩
      rw [hput.out.sz]; omega
    · have e : k = 12 := by omega
      subst e
      go_wp2
      go_ret
      exact ⟨N, D, rfl, hD.out, hM.out, U0.out.past hU.out hNs.out, hNs.out⟩
end Go.Proofs.YtgjppnbkklionaaDoor

/-
  Plain: how a text is read, word by word.
-/
namespace Go.Proofs.YtgjppnbkklionaaDoor
open Go.ChangeShapes Go.WideShapes Go.ChangeAt Go.RowKit

/-- what is left of a text from its k-th part on -/
def Ins.rk (i : Ins) : Nat → List Nat
  | 0 => i.pt 0 ++ (i.pt 1 ++ (i.pt 2 ++ i.pt 3))
  | 1 => i.pt 1 ++ (i.pt 2 ++ i.pt 3)
  | 2 => i.pt 2 ++ i.pt 3
  | 3 => i.pt 3
  | _ => []
theorem rk_step (i : Ins) (k : Nat) (hk : k < 4) : i.rk k = i.pt k ++ i.rk (k + 1) := by
  have hd : k = 0 ∨ k = 1 ∨ k = 2 ∨ k = 3 := by omega
  rcases hd with rfl | rfl | rfl | rfl <;> simp [Ins.rk]
theorem text_rk (i : Ins) : i.text = opName i.op.toNat ++ i.rk 0 := by
  rw [← tk_four]
  simp [Ins.tk, Ins.rk]
theorem pt_sp (i : Ins) (k : Nat) : i.pt k = [] ∨ ∃ r, i.pt k = 32 :: r := by
  unfold Ins.pt
  split
  · exact .inr ⟨_, rfl⟩
  · exact .inl rfl
theorem rk_sp (i : Ins) (k : Nat) : i.rk k = [] ∨ ∃ r, i.rk k = 32 :: r := by
  have key : ∀ a b : List Nat, (a = [] ∨ ∃ r, a = 32 :: r) → (b = [] ∨ ∃ r, b = 32 :: r) → (a ++ b = [] ∨ ∃ r, a ++ b = 32 :: r) := by
    rintro a b (rfl | ⟨r, rfl⟩) hb
    · exact hb
    · exact .inr ⟨_, rfl⟩
  match k with
  | 0 => exact key _ _ (pt_sp i 0) (key _ _ (pt_sp i 1) (key _ _ (pt_sp i 2) (pt_sp i 3)))
  | 1 => exact key _ _ (pt_sp i 1) (key _ _ (pt_sp i 2) (pt_sp i 3))
  | 2 => exact key _ _ (pt_sp i 2) (pt_sp i 3)
  | 3 => exact pt_sp i 3
  | _ + 4 => exact .inl rfl
theorem byts_mem {l : List Nat} (h : ∀ x, x ∈ l → x < 256) (h2 : 32 ∉ l) : ∀ x, x ∈ byts l → x ≠ 32 := by
  intro x hx e
  obtain ⟨y, hy, rfl⟩ := List.mem_map.1 hx
  have hlt := h y hy
  have := congrArg UInt8.toNat e
  simp at this
  have : y = 32 := by omega
  exact h2 (this ▸ hy)
/-- a text is cut behind a word -/
theorem cutB_nat (a r : List Nat) (ha : ∀ x, x ∈ a → x < 256) (h2 : 32 ∉ a) (hr : r = [] ∨ ∃ q, r = 32 :: q) : cutB (byts (a ++ r)) = (byts a, byts (r.drop 1)) := by
  rcases hr with rfl | ⟨q, rfl⟩
  · rw [List.append_nil, cutB_word _ (byts_mem ha h2)]
    rfl
  · rw [byts_append]
    exact cutB_words _ (byts q) (byts_mem ha h2)
theorem digs_256 (n : Nat) : ∀ x, x ∈ digs n → x < 256 := fun x hx => by have := digs_mem n x hx; omega
theorem word_lt (k n : Nat) : ∀ x, x ∈ sgK k ++ digs n → x < 256 := by
  intro x hx
  rcases List.mem_append.1 hx with hx | hx
  · have : x = 114 := by
      match k with
      | 0 => simpa [sgK] using hx
      | 1 => simpa [sgK] using hx
      | 2 => simpa [sgK] using hx
      | _ + 3 => simp [sgK] at hx
    omega
  · exact digs_256 n x hx
theorem word_sp (k n : Nat) : 32 ∉ sgK k ++ digs n := by
  intro hx
  rcases List.mem_append.1 hx with hx | hx
  · match k with
    | 0 => simp [sgK] at hx
    | 1 => simp [sgK] at hx
    | 2 => simp [sgK] at hx
    | _ + 3 => simp [sgK] at hx
  · exact digs_sp n hx
theorem cut_name (i : Ins) (h : i.Ok) : cutB (byts i.text) = (byts (opName i.op.toNat), byts ((i.rk 0).drop 1)) := by
  rw [text_rk]
  exact cutB_nat _ _ (opName_lt _ (by have := h.o; omega)) (opName_sp _ (by have := h.o; omega)) (rk_sp i 0)
theorem cut_part (i : Ins) (k : Nat) (hk : k < 4) (h : hasK i.op k = true) : cutB (byts ((i.rk k).drop 1)) = (byts (sgK k ++ digs (i.p k).toNat), byts ((i.rk (k + 1)).drop 1)) := by
  rw [rk_step i k hk]
  have e : i.pt k = 32 :: (sgK k ++ digs (i.p k).toNat) := by unfold Ins.pt; rw [h]; rfl
  rw [e]
  exact cutB_nat _ _ (word_lt _ _) (word_sp _ _) (rk_sp i (k + 1))
theorem rk_none (i : Ins) (k : Nat) (hk : k < 4) (h : hasK i.op k = false) : i.rk k = i.rk (k + 1) := by
  rw [rk_step i k hk]
  unfold Ins.pt
  rw [h]
  rfl
theorem trim_part (k n : Nat) : Lib.trimPrefix (byts (sgK k ++ digs n)) (byts (sgK k)) = byts (digs n) := by
  match k with
  | 0 => simp [sgK, byts, Lib.trimPrefix, Lib.hasPrefix]
  | 1 => simp [sgK, byts, Lib.trimPrefix, Lib.hasPrefix]
  | 2 => simp [sgK, byts, Lib.trimPrefix, Lib.hasPrefix]
  | _ + 3 => simp [sgK, byts, Lib.trimPrefix, Lib.hasPrefix]
theorem trim_len (a b : List UInt8) : (Lib.trimPrefix a b).length ≤ a.length := by
  unfold Lib.trimPrefix
  split
  · simp
  · exact Nat.le_refl _
theorem text_lt (i : Ins) (h : i.Ok) : ∀ x, x ∈ i.text → x < 256 := by
  intro x hx
  unfold Ins.text at hx
  rcases List.mem_append.1 hx with hx | hx
  · exact opName_lt _ (by have := h.o; omega) x hx
  · unfold behind at hx
    obtain ⟨p, hp, hx⟩ := List.mem_flatMap.1 hx
    rcases List.mem_cons.1 hx with rfl | hx
    · omega
    · unfold Ins.parts at hp
      simp only [List.mem_append] at hp
      rcases hp with ((hp | hp) | hp) | hp
      all_goals
        split at hp
        · simp only [List.mem_singleton] at hp
          subst hp
          first
            | exact digs_256 _ x hx
            | (rcases List.mem_cons.1 hx with rfl | hx
               · omega
               · exact digs_256 _ x hx)
        · cases hp
/-- what Read answers -/
def RdIs (s : ByteArray) (i : Ins) (e : Int) : Prop := (i.Ok ∧ strOf (byts i.text) = s ∧ e = 0) ∨ ((∀ j : Ins, j.Ok → strOf (byts j.text) ≠ s) ∧ i = Ins.zero ∧ e = 11)
theorem RdIs.uniq {s : ByteArray} {i j : Ins} {e f : Int} (h : RdIs s i e) (k : RdIs s j f) : i = j ∧ e = f := by
  rcases h with ⟨h1, h2, h3⟩ | ⟨h1, h2, h3⟩ <;> rcases k with ⟨k1, k2, k3⟩ | ⟨k1, k2, k3⟩
  · exact ⟨Ins.text_inj h1 k1 (byts_inj (text_lt i h1) (text_lt j k1) (strOf_inj (h2.trans k2.symm))), by rw [h3, k3]⟩
  · exact absurd h2 (k1 i h1)
  · exact absurd k2 (h1 j k1)
  · exact ⟨by rw [h2, k2], by rw [h3, k3]⟩
/-- an instruction whose text s may be: what is read of it -/
def Hunch (s : ByteArray) (o : Nat) (k : Nat) (f : Nat → Int) (rs : ByteArray) : Prop := ∀ j : Ins, j.Ok → strOf (byts j.text) = s → j.op = o ∧ rs = strOf (byts ((j.rk k).drop 1)) ∧ ∀ x, x < k → f x = j.p x
theorem hunch_no {s : ByteArray} (h : ∀ o, o < 12 → (cutB s.data.toList).1 ≠ byts (opName o)) : RdIs s Ins.zero 11 := by
  refine .inr ⟨fun j hj e => ?_, rfl, rfl⟩
  have := cut_name j hj
  rw [← e, strOf_toList, this] at h
  exact h j.op.toNat (by have := hj.o; omega) rfl
theorem hunch_begin {s : ByteArray} {o : Nat} (ho : o < 12) (h : (cutB s.data.toList).1 = byts (opName o)) : Hunch s o 0 (fun _ => 0) (strOf (cutB s.data.toList).2) := by
  intro j hj e
  have hc := cut_name j hj
  rw [← e, strOf_toList, hc] at h ⊢
  have hlt : j.op.toNat < 12 := by have := hj.o; omega
  have := opName_inj _ hlt _ ho (byts_inj (opName_lt _ hlt) (opName_lt _ ho) h)
  exact ⟨by have := hj.o; omega, rfl, fun x hx => by omega⟩
theorem hunch_yes {s : ByteArray} {o k : Nat} {f : Nat → Int} {rs : ByteArray} (h : Hunch s o k f rs) (hk : k < 4) (hh : hasK o k = true) :
    Hunch s o (k + 1) (fun x => if x = k then atoiV (strOf (Lib.trimPrefix (cutB rs.data.toList).1 (byts (sgK k)))) else f x) (strOf (cutB rs.data.toList).2) := by
  intro j hj e
  obtain ⟨h1, h2, h3⟩ := h j hj e
  have hc := cut_part j k hk (by rw [h1]; exact hh)
  rw [h2, strOf_toList, hc]
  have hp : 0 ≤ j.p k ∧ j.p k ≤ 65535 := by
    obtain ⟨-, a, b, c, m, -, -, -, -⟩ := hj
    have hd : k = 0 ∨ k = 1 ∨ k = 2 ∨ k = 3 := by omega
    rcases hd with rfl | rfl | rfl | rfl <;> simp only [Ins.p] <;> omega
  refine ⟨h1, rfl, fun x hx => ?_⟩
  dsimp only
  by_cases ex : x = k
  · subst ex
    rw [if_pos rfl, trim_part, atoiV_digs _ (by omega)]
    omega
  · rw [if_neg ex]; exact h3 x (by omega)
theorem hunch_not {s : ByteArray} {o k : Nat} {f : Nat → Int} {rs : ByteArray} (h : Hunch s o k f rs) (hk : k < 4) (hh : hasK o k = false) (h0 : f k = 0) : Hunch s o (k + 1) f rs := by
  intro j hj e
  obtain ⟨h1, h2, h3⟩ := h j hj e
  have hb : hasK j.op k = false := by rw [h1]; exact hh
  refine ⟨h1, by rw [h2, rk_none j k hk hb], fun x hx => ?_⟩
  by_cases ex : x = k
  · subst ex
    rw [h0]
    obtain ⟨-, -, -, -, -, na, nb, nc, nm⟩ := hj
    have hd : x = 0 ∨ x = 1 ∨ x = 2 ∨ x = 3 := by omega
    rcases hd with rfl | rfl | rfl | rfl
    · exact (na hb).symm
    · exact (nb hb).symm
    · exact (nc hb).symm
    · exact (nm hb).symm
  · exact h3 x (by omega)
/-- behind the last part: it is the one, or there is none -/
theorem hunch_end {s : ByteArray} {o : Nat} {f : Nat → Int} {rs : ByteArray} (h : Hunch s o 4 f rs) : let u : Ins := ⟨o, f 0, f 1, f 2, f 3⟩; (u.we = 0 ∧ u.tv = s → RdIs s u 0) ∧ (¬ (u.we = 0 ∧ u.tv = s) → RdIs s Ins.zero 11) := by
  intro u
  have hwe : u.we = 0 → u.right = true := fun h => by
    unfold Ins.we at h
    cases hr : u.right
    · rw [hr] at h; simp at h
    · rfl
  refine ⟨fun ⟨h1, h2⟩ => .inl ⟨(Ins.right_iff u).1 (hwe h1), ?_, rfl⟩, fun hn => .inr ⟨fun j hj e => hn ?_, rfl, rfl⟩⟩
  · unfold Ins.tv at h2
    rw [hwe h1] at h2
    exact h2
  · obtain ⟨h1, -, h3⟩ := h j hj e
    have hu : u = j := by
      obtain ⟨jo, ja, jb, jc, jm⟩ := j
      simp only at h1
      have a0 := h3 0 (by omega)
      have a1 := h3 1 (by omega)
      have a2 := h3 2 (by omega)
      have a3 := h3 3 (by omega)
      simp only [Ins.p] at a0 a1 a2 a3
      show (⟨o, f 0, f 1, f 2, f 3⟩ : Ins) = _
      rw [h1, a0, a1, a2, a3]
    rw [hu]
    have hr := (Ins.right_iff j).2 hj
    refine ⟨by unfold Ins.we; rw [hr]; rfl, by unfold Ins.tv; rw [hr]; exact e⟩
end Go.Proofs.YtgjppnbkklionaaDoor
