/-
  Texts that the laws stand on, joined: Kit, Upd, BitsM, BitsA, Frame, Laid, EnA, Arr, EnM, EnB, EnC.
-/
import Derived.Below
import Derived.BigFrame
import Derived.BigQuiet
import Derived.Carry
import Derived.ChangeOld
import Derived.ChangeSame
import Derived.Deep.Fields
import Derived.Deep.MidRow
import Derived.Deep.QuietTactic
import Derived.Deep.Slices
import Derived.Deep.WholeRow
import Derived.FnData
import Derived.IntWalk
import Derived.LaidHandle
import Derived.LaidLaws
import Derived.Laws.BitsAllLaws
import Derived.Laws.CopyOwn
import Derived.Laws.ResultCell
import Derived.Laws.StructEq
import Derived.Lib.Hide
import Derived.OpenShut
import Derived.OwnWalk
import Derived.ProofKit
import Derived.StillTailTactics
import Derived.Test.YtfdnfllefednjaaDoorRows
import Derived.WalkKit

/-
  Small helpers that all of this seat's texts import: the kit's walk and row modules under one name, and quiet calls inside regions that draw.
-/
namespace Go.Proofs.YtfdnfllefednjaaDoor
open Go.RowKit

/-- a call that leaves the world alone, inside a region that draws -/
theorem still0 {P : Program} {f : FuncId} {args : Array Value} {w : World} {n : Nat} {v : Value}
    (h : Calls P f args (w.drewN n) fun e w' => e = .returned v ∧ w.drewN n = w') :
    Calls P f args (w.drewN n) fun e w'' => e = .returned v ∧ ∃ m, w'' = w.drewN m := by
  refine h.mono ?_
  rintro e w' ⟨he, hw⟩
  exact ⟨he, n, hw.symm⟩
/-- the same behind other draws -/
theorem still1 {P : Program} {f : FuncId} {args : Array Value} {w : World} {a n : Nat} {v : Value}
    (h : Calls P f args (w.drewN (a + n)) fun e w' => e = .returned v ∧ w.drewN (a + n) = w') :
    Calls P f args (w.drewN (a + n)) fun e w'' => e = .returned v ∧ ∃ m, w'' = w.drewN (a + m) := by
  refine h.mono ?_
  rintro e w' ⟨he, hw⟩
  exact ⟨he, n, hw.symm⟩
/-- a call that draws, inside a region that draws -/
theorem draws0 {P : Program} {f : FuncId} {args : Array Value} {w : World} {n : Nat} {v : Value}
    (h : Calls P f args (w.drewN n) fun e w' => e = .returned v ∧ ∃ m, w' = (w.drewN n).drewN m) :
    Calls P f args (w.drewN n) fun e w'' => e = .returned v ∧ ∃ m, w'' = w.drewN m := by
  refine h.mono ?_
  rintro e w' ⟨he, m, rfl⟩
  exact ⟨he, n + m, by rw [World.drewN_drewN]⟩
theorem draws1 {P : Program} {f : FuncId} {args : Array Value} {w : World} {a n : Nat} {v : Value}
    (h : Calls P f args (w.drewN (a + n)) fun e w' => e = .returned v ∧ ∃ m, w' = (w.drewN (a + n)).drewN m) :
    Calls P f args (w.drewN (a + n)) fun e w'' => e = .returned v ∧ ∃ m, w'' = w.drewN (a + m) := by
  refine h.mono ?_
  rintro e w' ⟨he, m, rfl⟩
  exact ⟨he, n + m, by rw [World.drewN_drewN, Nat.add_assoc]⟩
theorem below_drewN {B : Nat} {a w : World} (h : Below B a w) (n : Nat) : Below B a (w.drewN n) := ⟨h.os, h.tape, h.output, h.size, h.block⟩
end Go.Proofs.YtfdnfllefednjaaDoor

/-
  The frame word of this project's contracts: 'Upd S w w'': behind the call every block that was there and is not in S is as it was.
-/
namespace Go.Proofs.YtfdnfllefednjaaDoor
open Go.RowKit

/-- nothing that was there has turned but the blocks in S -/
structure Upd (S : Nat → Prop) (w w' : World) : Prop where
  os : w'.os = w.os
  tape : w'.tape = w.tape
  output : w'.output = w.output
  size : w.heap.size ≤ w'.heap.size
  block : ∀ k, k < w.heap.size → ¬ S k → w'.heap[k]? = w.heap[k]?

theorem Upd.refl (S : Nat → Prop) (w : World) : Upd S w w := ⟨rfl, rfl, rfl, Nat.le_refl _, fun _ _ _ => rfl⟩
theorem Upd.trans {S : Nat → Prop} {a b c : World} (h : Upd S a b) (k : Upd S b c) : Upd S a c :=
  ⟨k.os.trans h.os, k.tape.trans h.tape, k.output.trans h.output, Nat.le_trans h.size k.size, fun i hi hs => (k.block i (Nat.lt_of_lt_of_le hi h.size) hs).trans (h.block i hi hs)⟩
theorem Upd.mono {S T : Nat → Prop} {a b : World} (h : Upd S a b) (hs : ∀ k, k < a.heap.size → S k → T k) : Upd T a b :=
  ⟨h.os, h.tape, h.output, h.size, fun i hi ht => h.block i hi fun x => ht (hs i hi x)⟩
theorem Upd.drewN {S : Nat → Prop} {a b : World} (h : Upd S a b) (n : Nat) : Upd S a (b.drewN n) := ⟨h.os, h.tape, h.output, h.size, h.block⟩
theorem Upd.drew {S : Nat → Prop} {a b : World} (h : Upd S a b) : Upd S a b.drew := ⟨h.os, h.tape, h.output, h.size, h.block⟩
theorem Upd.alloc {S : Nat → Prop} {a b : World} (h : Upd S a b) (o : Obj) : Upd S a (b.alloc o) :=
  h.trans ⟨rfl, rfl, rfl, by simp, fun k hk _ => Below.heap_alloc _ _ _ hk⟩
theorem Upd.setCell {S : Nat → Prop} {a b : World} (h : Upd S a b) {p : Addr} (hp : S p.block ∨ a.heap.size ≤ p.block) (u : Value) : Upd S a (b.setCell p u) :=
  ⟨h.os, h.tape, h.output, by have := h.size; simpa [World.setCell] using this, fun k hk hs => by
    rw [Below.heap_setCell _ _ _ _ (by rintro rfl; rcases hp with hp | hp; exact hs hp; omega)]; exact h.block k hk hs⟩
theorem Upd.setCells {S : Nat → Prop} {a : World} {p : Nat} (hp : S p ∨ a.heap.size ≤ p) : ∀ (vs : List Value) (o : Nat) {b : World}, Upd S a b → Upd S a (b.setCells p o vs)
  | [], _, _, h => h
  | v :: r, o, b, h => by
    rw [World.setCells]
    exact Upd.setCells hp r (o + 1) (h.setCell (p := ⟨p, o, none⟩) hp v)
theorem Upd.below {S : Nat → Prop} {a b : World} {B : Nat} (h : Upd S a b) (hB : B ≤ a.heap.size) (hs : ∀ k, k < B → ¬ S k) : Below B a b :=
  ⟨h.os, h.tape, h.output, h.size, fun k hk => h.block k (by omega) (hs k hk)⟩
theorem Upd.of_below {S : Nat → Prop} {a b : World} (h : Below a.heap.size a b) : Upd S a b :=
  ⟨h.os, h.tape, h.output, h.size, fun k hk _ => h.block k hk⟩
theorem lt_of_heap {w : World} {k : Nat} {o : Obj} (h : w.heap[k]? = some o) : k < w.heap.size := by
  rcases Nat.lt_or_ge k w.heap.size with h1 | h1
  · exact h1
  · rw [Array.getElem?_eq_none h1] at h; cases h
theorem Upd.at {S : Nat → Prop} {a b : World} (h : Upd S a b) {k : Nat} {o : Obj} (hk : a.heap[k]? = some o) (hs : ¬ S k) : b.heap[k]? = some o := by
  rw [h.block k (lt_of_heap hk) hs]; exact hk
theorem Upd.cell {S : Nat → Prop} {a b : World} (u : Upd S a b) {p : Addr} {v : Value} (h : a.cell? p = some v) (hs : ¬ S p.block) : b.cell? p = some v := by
  rw [World.cell?_of_block (w := a) (u.block p.block (World.block_lt_of_cell? a p h) hs)]; exact h
theorem Upd.rangeAt {S : Nat → Prop} {a b : World} (u : Upd S a b) {p o : Nat} {cs : List Value} (h : a.rangeAt p o cs) (hs : ¬ S p) : b.rangeAt p o cs := fun j v hv => u.cell (h j v hv) hs
/-- a whole array stored: its number of cells named apart -/
theorem wpList_store_sz {P : Program} {ops : Array Oper} {rest : List Oper} {op : Oper} {a : Act} {w : World} {Q : Exit → Act → World → Prop} (hgd : op.guard = none) (ty : TypeId) (x y : Operand) (ho : op.op = .store ty x y)
    (b o : Nat) (cells : Array Value) (hx : a.eval x = .pointer (some ⟨b, o, none⟩)) (hy : a.eval y = .agg cells) (k : Nat) (hk : cells.size = k)
    (ht : w.there b o k) (hi : (P.info? ty).map (·.size) = some k) (h1 : cells.all (·.oneCell') = true) (cs : List Value) (hcs : cells.toList = cs)
    (h : wpList P ops Q rest (a.put op.dst undef) (w.setCells b o cs)) : wpList P ops Q (op :: rest) a w := by
  subst hk hcs
  exact wpList_store_mid hgd ty x y ho b o cells hx hy ht hi h1 h
/-- 'make([]T, n)': the very world behind it -/
theorem wpList_make_exact {P : Program} {w : World} {ops : Array Oper} {rest : List Oper} {o : Oper} {a : Act} {Q : Exit → Act → World → Prop}
    (hg : o.guard = none) (l c : Operand) (t : TypeId) (hop : o.op = Op.makeSlice t l c) (e : TypeId) (z : Value) (size bytes : Nat) (h1 : P.underlying t = some (.slice e))
    (hi : (P.info? e).map (fun i => (i.zero, i.size, i.bytes)) = some (some z, size, bytes)) (kl kc : IntKind) (n : Nat) (hl : a.eval l = .int kl n) (hc : a.eval c = .int kc n)
    (b2 : bytes * n ≤ 281474976710656) (b3 : n ≤ 9223372036854775807) (C : Array Value) (hC : madeCells z.cells (n * size) = C)
    (hK : wpList P ops Q rest (a.put o.dst (.slice (some ⟨w.heap.size, 0, none⟩) n n)) (w.alloc (.cells C e))) :
    wpList P ops Q (o :: rest) a w := by
  obtain ⟨i, hj, hz, hs, hb⟩ := info_parts hi
  subst hs hb hC
  refine wpList_plain hg fun K hK' => ?_
  have hb' : (i.bytes : Int) * (n : Int) ≤ 281474976710656 := by
    have h : ((i.bytes * n : Nat) : Int) ≤ 281474976710656 := by omega
    rwa [Int.natCast_mul] at h
  have hrun := run_make (P := P) w t e i z h1 hj hz kl kc n n (by omega) (Int.le_refl _) hb' (by omega)
  simp only [Int.toNat_natCast] at hrun
  unfold Oper.wp
  simp [execOp, hop, hl, hc, hrun, Result.andThen]
  exact hK' _ _ hK
/-- a new row of one value over and over -/
theorem madeCells_same (v : Value) (k n : Nat) (hk : 0 < k) : madeCells (List.replicate k v).toArray n = (List.replicate n v).toArray := by
  apply Array.ext
  · simp [madeCells]
  · intro i h1 h2
    have : i % k < k := Nat.mod_lt _ hk
    simp [madeCells, this]
end Go.Proofs.YtfdnfllefednjaaDoor

/-
  Plain mathematics of bit fields: no program in it.
-/
namespace Go.Proofs.YtfdnfllefednjaaDoor.M

/-- the field's number -/
def getN (x f m : Nat) : Nat := x / 2 ^ f % 2 ^ m
/-- the word with the field replaced -/
def putN (x y f m : Nat) : Nat := 2 ^ f * (2 ^ m * (x / 2 ^ (f + m)) + y) + x % 2 ^ f

theorem getN_bit (x f m i : Nat) : (getN x f m).testBit i = (decide (i < m) && x.testBit (i + f)) := by
  unfold getN
  rw [Nat.testBit_mod_two_pow, Nat.testBit_div_two_pow, Nat.add_comm]
theorem putN_bit (x y f m i : Nat) (hy : y < 2 ^ m) : (putN x y f m).testBit i = if i < f then x.testBit i else if i < f + m then y.testBit (i - f) else x.testBit i := by
  unfold putN
  rw [Nat.testBit_two_pow_mul_add _ (Nat.mod_lt _ (Nat.two_pow_pos _))]
  by_cases h : i < f
  · simp [h, Nat.testBit_mod_two_pow]
  · rw [if_neg h, if_neg h, Nat.testBit_two_pow_mul_add _ hy]
    by_cases h2 : i < f + m
    · rw [if_pos (by omega), if_pos h2]
    · rw [if_neg (by omega), if_neg h2, Nat.testBit_div_two_pow]; congr 1; omega

theorem getN_lt (x f m : Nat) : getN x f m < 2 ^ m := Nat.mod_lt _ (Nat.two_pow_pos _)
theorem pow64 : (2 : Nat) ^ 64 = 18446744073709551616 := by decide
theorem getN_lt64 (x f m : Nat) (hm : m ≤ 64) : getN x f m < 18446744073709551616 := by
  rw [← pow64]; exact Nat.lt_of_lt_of_le (getN_lt x f m) (Nat.pow_le_pow_right (by decide) hm)

theorem lt_of_bits (a k : Nat) (h : ∀ i, k ≤ i → a.testBit i = false) : a < 2 ^ k := Nat.lt_pow_two_of_testBit a h
theorem bit_of_lt (a k i : Nat) (h : a < 2 ^ k) (hi : k ≤ i) : a.testBit i = false :=
  Nat.testBit_lt_two_pow (Nat.lt_of_lt_of_le h (Nat.pow_le_pow_right (by decide) hi))

theorem putN_lt64 (x y f m : Nat) (hy : y < 2 ^ m) (hx : x < 18446744073709551616) (hfm : f + m ≤ 64) : putN x y f m < 18446744073709551616 := by
  rw [← pow64] at hx ⊢
  apply lt_of_bits
  intro i hi
  rw [putN_bit _ _ _ _ _ hy, if_neg (by omega), if_neg (by omega)]
  exact bit_of_lt x 64 i hx hi

/-- what was put is got -/
theorem get_put (x y f m : Nat) (hy : y < 2 ^ m) : getN (putN x y f m) f m = y := by
  apply Nat.eq_of_testBit_eq
  intro i
  rw [getN_bit, putN_bit _ _ _ _ _ hy]
  by_cases h : i < m
  · rw [if_neg (by omega), if_pos (by omega)]; simp [h]
  · simp [h]; exact (bit_of_lt y m i hy (by omega))
/-- put back, the word is as it was -/
theorem put_back (x y f m : Nat) (hy : y < 2 ^ m) : putN (putN x y f m) (getN x f m) f m = x := by
  apply Nat.eq_of_testBit_eq
  intro i
  rw [putN_bit _ _ _ _ _ (getN_lt x f m), putN_bit _ _ _ _ _ hy, getN_bit]
  by_cases h : i < f
  · simp [h]
  · by_cases h2 : i < f + m
    · rw [if_neg h, if_pos h2]
      have e : i - f + f = i := by omega
      have e2 : i - f < m := by omega
      simp [e, e2]
    · simp [h, h2]
/-- two fields that have no bit in common -/
theorem get_apart (x y f m g k : Nat) (hy : y < 2 ^ k) (h : g + k ≤ f ∨ f + m ≤ g) : getN (putN x y g k) f m = getN x f m := by
  apply Nat.eq_of_testBit_eq
  intro i
  rw [getN_bit, getN_bit, putN_bit _ _ _ _ _ hy]
  by_cases hi : i < m
  · congr 1
    rcases h with h | h
    · rw [if_neg (by omega), if_neg (by omega)]
    · rw [if_pos (by omega)]
  · simp [hi]
/-- a word is put together of its two parts -/
theorem whole (x c : Nat) (hx : x < 18446744073709551616) (hc : c ≤ 64) : putN (putN 0 (getN x 0 c) 0 c) (getN x c (64 - c)) c (64 - c) = x := by
  rw [← pow64] at hx
  apply Nat.eq_of_testBit_eq
  intro i
  rw [putN_bit _ _ _ _ _ (getN_lt _ _ _), putN_bit _ _ _ _ _ (getN_lt _ _ _), getN_bit, getN_bit]
  by_cases h : i < c
  · simp [h]
  · by_cases h2 : i < c + (64 - c)
    · have e : i - c + c = i := by omega
      have e2 : i - c < 64 - c := by omega
      simp [h, h2, e, e2]
    · simp [h, h2]; exact bit_of_lt x 64 i hx (by omega)

/-- the code's masks -/
theorem and_get (x f m : Nat) : x / 2 ^ f &&& (2 ^ m - 1) = getN x f m := Nat.and_two_pow_sub_one_eq_mod _ _

theorem mask_bit (f m i : Nat) (h : f + m ≤ 64) : (18446744073709551615 - (2 ^ m - 1) * 2 ^ f).testBit i = (decide (i < 64) && !(decide (f ≤ i) && decide (i < f + m))) := by
  have hlt : (2 ^ m - 1) * 2 ^ f < 2 ^ 64 := by
    apply lt_of_bits
    intro j hj
    rw [← Nat.shiftLeft_eq, Nat.testBit_shiftLeft, Nat.testBit_two_pow_sub_one]
    simp; omega
  have e : 18446744073709551615 - (2 ^ m - 1) * 2 ^ f = 2 ^ 64 - ((2 ^ m - 1) * 2 ^ f + 1) := by rw [pow64]; omega
  rw [e, Nat.testBit_two_pow_sub_succ hlt, ← Nat.shiftLeft_eq, Nat.testBit_shiftLeft, Nat.testBit_two_pow_sub_one]
  congr 2
  by_cases h1 : f ≤ i <;> simp [h1]
  omega

theorem andNot_or (x y f m : Nat) (hx : x < 18446744073709551616) (hy : y < 2 ^ m) (h : f + m ≤ 64) :
    (x &&& (18446744073709551615 - (2 ^ m - 1) * 2 ^ f)) ||| (y * 2 ^ f) = putN x y f m := by
  rw [← pow64] at hx
  apply Nat.eq_of_testBit_eq
  intro i
  rw [Nat.testBit_or, Nat.testBit_and, mask_bit f m i h, putN_bit _ _ _ _ _ hy, ← Nat.shiftLeft_eq, Nat.testBit_shiftLeft]
  by_cases h0 : i < 64
  · by_cases h1 : i < f
    · have : ¬ f ≤ i := by omega
      simp [h0, h1, this]
    · by_cases h2 : i < f + m
      · have : f ≤ i := by omega
        simp [h1, h2, this]
      · have : f ≤ i := by omega
        simp [h0, h1, h2, this]
        exact fun hh => by rw [bit_of_lt y m (i - f) hy (by omega)] at hh; cases hh
  · have h1 : ¬ i < f := by omega
    have h2 : ¬ i < f + m := by omega
    have : f ≤ i := by omega
    rw [bit_of_lt x 64 i hx (by omega), bit_of_lt y m (i - f) hy (by omega)]
    simp [h1, h2]
end Go.Proofs.YtfdnfllefednjaaDoor.M
namespace Go.Proofs.YtfdnfllefednjaaDoor.M
/-- the least k with n ≤ 2^k -/
def logN (n : Nat) : Nat := if n ≤ 1 then 0 else Nat.log2 (n - 1) + 1
theorem logN_one {n : Nat} (h : n ≤ 1) : logN n = 0 := by simp [logN, h]
theorem logN_of {n k : Nat} (h1 : n ≤ 2 ^ k) (h2 : k = 0 ∨ 2 ^ (k - 1) < n) : logN n = k := by
  unfold logN
  by_cases h : n ≤ 1
  · rw [if_pos h]
    rcases h2 with h2 | h2
    · exact h2.symm
    · have := Nat.two_pow_pos (k - 1); omega
  · rw [if_neg h]
    have hn : n - 1 ≠ 0 := by omega
    have hk : k ≠ 0 := by rintro rfl; simp at h1; omega
    rcases h2 with h2 | h2
    · exact absurd h2 hk
    · have a : (n - 1).log2 < k := (Nat.log2_lt hn).2 (by omega)
      have b : ¬ (n - 1).log2 < k - 1 := fun hlt => by have := (Nat.log2_lt hn).1 hlt; omega
      omega
theorem logN_ge (n : Nat) : n ≤ 2 ^ logN n := by
  unfold logN
  by_cases h : n ≤ 1
  · rw [if_pos h]; simpa using h
  · rw [if_neg h]
    have := (Nat.log2_lt (n := n - 1) (k := (n - 1).log2 + 1) (by omega)).1 (Nat.lt_succ_self _)
    omega
theorem logN_lt (n : Nat) : logN n = 0 ∨ 2 ^ (logN n - 1) < n := by
  unfold logN
  by_cases h : n ≤ 1
  · rw [if_pos h]; exact .inl rfl
  · rw [if_neg h]
    have := Nat.log2_self_le (n := n - 1) (by omega)
    right; simp only [Nat.add_sub_cancel]; omega
theorem logN_le {n k : Nat} (h : n ≤ 2 ^ k) : logN n ≤ k := by
  rcases logN_lt n with h2 | h2
  · omega
  · have : 2 ^ (logN n - 1) < 2 ^ k := by omega
    have := (Nat.pow_lt_pow_iff_right (a := 2) (by decide)).1 this
    omega

/-- how many of the first k bits are 1 -/
def cntTo (x : Nat) : Nat → Nat
  | 0 => 0
  | k + 1 => cntTo x k + (x.testBit k).toNat
theorem cntTo_le (x k : Nat) : cntTo x k ≤ k := by
  induction k with
  | zero => exact Nat.le_refl _
  | succ k ih => have := Bool.toNat_le (x.testBit k); simp only [cntTo]; omega
theorem bit_div (x k : Nat) : x / 2 ^ k % 2 = (x.testBit k).toNat := (Nat.toNat_testBit x k).symm
theorem cntTo_succ (x k : Nat) : cntTo x (k + 1) = cntTo x k + x / 2 ^ k % 2 := by rw [bit_div]; rfl
theorem cntTo_congr (x y k : Nat) (h : ∀ i, i < k → x.testBit i = y.testBit i) : cntTo x k = cntTo y k := by
  induction k with
  | zero => rfl
  | succ k ih => rw [cntTo, cntTo, ih (fun i hi => h i (by omega)), h k (by omega)]
theorem cntTo_zero (x k n : Nat) (h : ∀ i, k ≤ i → x.testBit i = false) : cntTo x (k + n) = cntTo x k := by
  induction n with
  | zero => rfl
  | succ n ih => rw [Nat.add_succ, cntTo, ih, h (k + n) (by omega)]; rfl
theorem cntTo_shift (x c n : Nat) : cntTo x (c + n) = cntTo x c + cntTo (x / 2 ^ c) n := by
  induction n with
  | zero => rfl
  | succ n ih => rw [Nat.add_succ, cntTo, ih, cntTo, Nat.testBit_div_two_pow, Nat.add_comm n c]; omega
/-- a word has as many bits as both its parts -/
theorem cnt_whole (x c : Nat) (hc : c ≤ 64) : cntTo (getN x 0 c) 64 + cntTo (getN x c (64 - c)) 64 = cntTo x 64 := by
  have e : 64 = c + (64 - c) := by omega
  have h1 : cntTo (getN x 0 c) 64 = cntTo x c := by
    have hb : cntTo (getN x 0 c) (c + (64 - c)) = cntTo (getN x 0 c) c := cntTo_zero _ _ _ (fun i hi => by rw [getN_bit]; simp; omega)
    rw [← e] at hb
    rw [hb]
    exact cntTo_congr _ _ _ (fun i hi => by rw [getN_bit]; simp [hi])
  have h2 : cntTo (getN x c (64 - c)) 64 = cntTo (x / 2 ^ c) (64 - c) := by
    have hb : cntTo (getN x c (64 - c)) ((64 - c) + c) = cntTo (getN x c (64 - c)) (64 - c) := cntTo_zero _ _ _ (fun i hi => by rw [getN_bit]; simp; omega)
    rw [show (64 - c) + c = 64 by omega] at hb
    rw [hb]
    exact cntTo_congr _ _ _ (fun i hi => by rw [getN_bit, Nat.testBit_div_two_pow, Nat.add_comm]; simp [hi])
  have h3 := cntTo_shift x c (64 - c)
  rw [← e] at h3
  omega
end Go.Proofs.YtfdnfllefednjaaDoor.M

/-
  Contracts of package bits' small functions: within, isField, ones, Get, Put.
-/
namespace Go.Proofs.YtfdnfllefednjaaDoor
open Go.ChangeShapes Go.WideShapes Go.ChangeAt Go.RowKit

theorem ones_val (m : Int) (h1 : 1 ≤ m) (h2 : m ≤ 64) : (18446744073709551615 : Int) / 2 ^ (64 - m).toNat = 2 ^ m.toNat - 1 := by
  obtain ⟨k, rfl⟩ := Int.eq_ofNat_of_zero_le (by omega : 0 ≤ m)
  have hk : k ≤ 64 := by omega
  clear h1 h2
  revert k
  decide +kernel

def onesI (m : Int) : Int := 2 ^ m.toNat - 1

set_option maxHeartbeats 400000 in
theorem ones_any (m : Int) (w : World) (h1 : 1 ≤ m) (h2 : m ≤ 64) :
    Calls Tryd.prog 101 #[.int .i64 m] w fun e w' => e = .returned (.int .u64 (onesI m)) ∧ w = w' := by
  have hv := Lib.hid (ones_val m h1 h2)
  go_enter Tryd.func101, Tryd.ntmps101
  go_wp2
  go_ret
  exact ⟨by rw [hv.out]; rfl, rfl⟩

def withinB (x a b : Int) : Bool := decide (a ≤ x ∧ x ≤ b)

set_option maxHeartbeats 400000 in
theorem within_int (x a b : Int) (w : World) :
    Calls Tryd.prog 105 #[.int .i64 x, .int .i64 a, .int .i64 b] w fun e w' => e = .returned (.bool (withinB x a b)) ∧ w = w' := by
  by_cases h : a ≤ x
  · have hv := Lib.hid (show decide (x ≤ b) = withinB x a b from by simp [withinB, h])
    go_enter Tryd.func105, Tryd.ntmps105
    go_wp2
    go_ret
    exact ⟨by rw [← hv.out]; rfl, rfl⟩
  · have hv := Lib.hid (show false = withinB x a b from by simp [withinB, h])
    go_enter Tryd.func105, Tryd.ntmps105
    go_wp2
    go_ret
    exact ⟨by rw [← hv.out]; rfl, rfl⟩
theorem within_u64 (x a b : Int) (w : World) :
    Calls Tryd.prog 102 #[.int .u64 x, .int .u64 a, .int .u64 b] w fun e w' => e = .returned (.bool (withinB x a b)) ∧ w = w' := by
  by_cases h : a ≤ x
  · have hv := Lib.hid (show decide (x ≤ b) = withinB x a b from by simp [withinB, h])
    go_enter Tryd.func102, Tryd.ntmps102
    go_wp2
    go_ret
    exact ⟨by rw [← hv.out]; rfl, rfl⟩
  · have hv := Lib.hid (show false = withinB x a b from by simp [withinB, h])
    go_enter Tryd.func102, Tryd.ntmps102
    go_wp2
    go_ret
    exact ⟨by rw [← hv.out]; rfl, rfl⟩

def fieldB (f m : Int) : Bool := decide (1 ≤ m ∧ m ≤ 64 ∧ 0 ≤ f ∧ f + m ≤ 64)

set_option maxHeartbeats 400000 in
theorem isField_any (f m : Int) (w : World) :
    Calls Tryd.prog 100 #[.int .i64 f, .int .i64 m] w fun e w' => e = .returned (.bool (fieldB f m)) ∧ w = w' := by
  by_cases h : 1 ≤ m ∧ m ≤ 64
  · have hb : withinB m 1 64 = true := by simp [withinB]; omega
    obtain ⟨h1, h2⟩ := h
    have hc := Lib.hid (show withinB f 0 (64 - m) = fieldB f m from by rw [Bool.eq_iff_iff]; simp [withinB, fieldB]; omega)
    go_enter Tryd.func100, Tryd.ntmps100
    go_wp2_with (go_at_call 105; refine (within_int _ _ _ _).mono ?_; rintro e w' ⟨rfl, rfl⟩)
    go_ret
    exact ⟨by rw [← hc.out]; rfl, rfl⟩
  · have hb : withinB m 1 64 = false := by simp [withinB]; omega
    have hc := Lib.hid (show false = fieldB f m from by simp [fieldB]; omega)
    go_enter Tryd.func100, Tryd.ntmps100
    go_wp2_with (go_at_call 105; refine (within_int _ _ _ _).mono ?_; rintro e w' ⟨rfl, rfl⟩)
    go_ret
    exact ⟨by rw [← hc.out]; rfl, rfl⟩

/-- Get's number, over the walk's integers -/
def getI (x f m : Int) : Int := (M.getN x.toNat f.toNat m.toNat : Int)
/-- Put's number -/
def putI (x y f m : Int) : Int := (M.putN x.toNat y.toNat f.toNat m.toNat : Int)

theorem onesI_nat (m : Int) : onesI m = ((2 ^ m.toNat - 1 : Nat) : Int) := by
  unfold onesI
  have := Nat.two_pow_pos m.toNat
  rw [Int.natCast_sub (by omega)]; simp
theorem ones_lt (m : Nat) (h : m ≤ 64) : 2 ^ m - 1 < 18446744073709551616 := by
  have := Nat.pow_le_pow_right (n := 2) (by decide) h
  rw [M.pow64] at this; omega
theorem div_nat (x f : Int) (hx0 : 0 ≤ x) : x / 2 ^ f.toNat = ((x.toNat / 2 ^ f.toNat : Nat) : Int) := by
  rw [Int.natCast_ediv, Int.toNat_of_nonneg hx0]; simp
theorem get_bits (x f m : Int) (h2 : m ≤ 64) (hx0 : 0 ≤ x) (hx : x < 18446744073709551616) :
    bits BinOp.and IntKind.u64 (x / 2 ^ f.toNat) (onesI m) = getI x f m := by
  rw [onesI_nat, div_nat x f hx0, u64_and_nat _ _ (Nat.lt_of_le_of_lt (Nat.div_le_self _ _) (by omega)) (ones_lt _ (by omega)), M.and_get]; rfl

set_option maxHeartbeats 400000 in
theorem get_yes (x f m : Int) (w : World) (h : fieldB f m = true) (hx0 : 0 ≤ x) (hx : x < 18446744073709551616) :
    Calls Tryd.prog 94 #[.int .u64 x, .int .i64 f, .int .i64 m] w fun e w' => e = .returned (.tuple #[.int .u64 (getI x f m), .bool true]) ∧ ∃ n, w' = w.drewN n := by
  obtain ⟨h1, h2, h3, h4⟩ := of_decide_eq_true h
  have hv := Lib.hid (get_bits x f m h2 hx0 hx)
  go_enter Tryd.func94, Tryd.ntmps94
  go_wp2_with (go_at_call 100; refine (isField_any _ _ _).mono ?_; rintro e w' ⟨rfl, rfl⟩)
  go_quiet ((go_at_call 101; exact still0 (ones_any _ _ h1 h2)))
  go_wp2
  go_ret2
  exact ⟨by rw [← hv.out]; rfl, _, rfl⟩
set_option maxHeartbeats 400000 in
theorem get_no (x f m : Int) (w : World) (h : fieldB f m = false) :
    Calls Tryd.prog 94 #[.int .u64 x, .int .i64 f, .int .i64 m] w fun e w' => e = .returned (.tuple #[.int .u64 0, .bool false]) ∧ w = w' := by
  go_enter Tryd.func94, Tryd.ntmps94
  go_wp2_with (go_at_call 100; refine (isField_any _ _ _).mono ?_; rintro e w' ⟨rfl, rfl⟩)
  go_ret2
  exact ⟨rfl, rfl⟩

/-- does it fit? -/
def fitsB (y m : Int) : Bool := withinB y 0 (onesI m)
set_option maxHeartbeats 400000 in
theorem put_no1 (x y f m : Int) (w : World) (h : fieldB f m = false) :
    Calls Tryd.prog 95 #[.int .u64 x, .int .u64 y, .int .i64 f, .int .i64 m] w fun e w' => e = .returned (.tuple #[.int .u64 0, .bool false]) ∧ w = w' := by
  go_enter Tryd.func95, Tryd.ntmps95
  go_wp2_with (go_at_call 100; refine (isField_any _ _ _).mono ?_; rintro e w' ⟨rfl, rfl⟩)
  go_ret2
  exact ⟨rfl, rfl⟩
set_option maxHeartbeats 400000 in
theorem put_no2 (x y f m : Int) (w : World) (h : fieldB f m = true) (hy : withinB y 0 (onesI m) = false) :
    Calls Tryd.prog 95 #[.int .u64 x, .int .u64 y, .int .i64 f, .int .i64 m] w fun e w' => e = .returned (.tuple #[.int .u64 0, .bool false]) ∧ w = w' := by
  obtain ⟨h1, h2, h3, h4⟩ := of_decide_eq_true h
  go_enter Tryd.func95, Tryd.ntmps95
  go_wp2_with (first
    | (go_at_call 100; refine (isField_any _ _ _).mono ?_; rintro e w' ⟨rfl, rfl⟩)
    | (go_at_call 101; refine (ones_any _ _ h1 h2).mono ?_; rintro e w' ⟨rfl, rfl⟩)
    | (go_at_call 102; refine (within_u64 _ _ _ _).mono ?_; rintro e w' ⟨rfl, rfl⟩))
  go_ret2
  exact ⟨rfl, rfl⟩
theorem shl_lt (a f m : Nat) (ha : a < 2 ^ m) (h : f + m ≤ 64) : a * 2 ^ f < 18446744073709551616 := by
  have h1 : a * 2 ^ f < 2 ^ m * 2 ^ f := Nat.mul_lt_mul_of_pos_right ha (Nat.two_pow_pos f)
  rw [← Nat.pow_add] at h1
  have h2 := Nat.pow_le_pow_right (n := 2) (by decide) (show m + f ≤ 64 by omega)
  rw [M.pow64] at h2; omega
theorem shl_nat (y f : Int) (m : Nat) (hy0 : 0 ≤ y) (hy : y.toNat < 2 ^ m) (h : f.toNat + m ≤ 64) : IntKind.u64.wrap (y * 2 ^ f.toNat) = ((y.toNat * 2 ^ f.toNat : Nat) : Int) := by
  have e : y * 2 ^ f.toNat = ((y.toNat * 2 ^ f.toNat : Nat) : Int) := by rw [Int.natCast_mul, Int.toNat_of_nonneg hy0]; simp
  have := shl_lt y.toNat f.toNat m hy h
  rw [e, IntKind.wrap_u64]; omega
theorem fits_lt (y m : Int) (hy : withinB y 0 (onesI m) = true) : 0 ≤ y ∧ y.toNat < 2 ^ m.toNat := by
  obtain ⟨h1, h2⟩ := of_decide_eq_true hy
  rw [onesI_nat] at h2
  have := Nat.two_pow_pos m.toNat
  omega
theorem put_bits (x y f m : Int) (h : fieldB f m = true) (hy : withinB y 0 (onesI m) = true) (hx0 : 0 ≤ x) (hx : x < 18446744073709551616) :
    bits BinOp.or IntKind.u64 (bits BinOp.andNot IntKind.u64 x (IntKind.u64.wrap (onesI m * 2 ^ f.toNat))) (IntKind.u64.wrap (y * 2 ^ f.toNat)) = putI x y f m := by
  obtain ⟨h1, h2, h3, h4⟩ := of_decide_eq_true h
  obtain ⟨y0, y1⟩ := fits_lt y m hy
  have p := Nat.two_pow_pos m.toNat
  have ho := onesI_nat m
  have e1 := shl_nat (onesI m) f m.toNat (by omega) (by rw [ho]; omega) (by omega)
  have e2 := shl_nat y f m.toNat y0 y1 (by omega)
  have l1 := shl_lt (onesI m).toNat f.toNat m.toNat (by rw [ho]; omega) (by omega)
  have l2 := shl_lt y.toNat f.toNat m.toNat y1 (by omega)
  have et : (onesI m).toNat = 2 ^ m.toNat - 1 := by rw [ho]; omega
  obtain ⟨n, rfl⟩ := Int.eq_ofNat_of_zero_le hx0
  rw [e1, e2, u64_andNot_nat n _ (by omega) l1, u64_or_nat _ _ (Nat.lt_of_le_of_lt Nat.and_le_left (by omega)) l2, et, M.andNot_or n y.toNat f.toNat m.toNat (by omega) y1 (by omega)]
  rfl
set_option maxHeartbeats 400000 in
theorem put_yes (x y f m : Int) (w : World) (h : fieldB f m = true) (hy : withinB y 0 (onesI m) = true) (hx0 : 0 ≤ x) (hx : x < 18446744073709551616) :
    Calls Tryd.prog 95 #[.int .u64 x, .int .u64 y, .int .i64 f, .int .i64 m] w fun e w' => e = .returned (.tuple #[.int .u64 (putI x y f m), .bool true]) ∧ ∃ n, w' = w.drewN n := by
  obtain ⟨h1, h2, h3, h4⟩ := of_decide_eq_true h
  have hv := Lib.hid (put_bits x y f m h hy hx0 hx)
  go_enter Tryd.func95, Tryd.ntmps95
  go_wp2_with (first
    | (go_at_call 100; refine (isField_any _ _ _).mono ?_; rintro e w' ⟨rfl, rfl⟩)
    | (go_at_call 101; refine (ones_any _ _ h1 h2).mono ?_; rintro e w' ⟨rfl, rfl⟩)
    | (go_at_call 102; refine (within_u64 _ _ _ _).mono ?_; rintro e w' ⟨rfl, rfl⟩))
  go_quiet ((go_at_call 101; exact still0 (ones_any _ _ h1 h2)))
  go_wp2
  go_ret2
  exact ⟨by rw [← hv.out]; rfl, _, rfl⟩

/-! bounds that callers want -/
theorem getI_bd (x f m : Int) (h : fieldB f m = true) : 0 ≤ getI x f m ∧ getI x f m < 18446744073709551616 := by
  obtain ⟨h1, h2, h3, h4⟩ := of_decide_eq_true h
  have := M.getN_lt64 x.toNat f.toNat m.toNat (by omega)
  unfold getI; omega
theorem putI_bd (x y f m : Int) (h : fieldB f m = true) (hy : withinB y 0 (onesI m) = true) (hx0 : 0 ≤ x) (hx : x < 18446744073709551616) : 0 ≤ putI x y f m ∧ putI x y f m < 18446744073709551616 := by
  obtain ⟨h1, h2, h3, h4⟩ := of_decide_eq_true h
  obtain ⟨y0, y1⟩ := fits_lt y m hy
  have := M.putN_lt64 x.toNat y.toNat f.toNat m.toNat y1 (by omega) (by omega)
  unfold putI; omega

end Go.Proofs.YtfdnfllefednjaaDoor

/-
  What the rows' frames want of a reading: integers, arrays of integers. Over any program.
-/
namespace Go.Proofs.YtfdnfllefednjaaDoor.Fr
open Go.ChangeShapes Go.WideShapes Go.ChangeAt Go.RowKit
variable {H : Type} {enc : TypeId × Value → H} {P : Program} {w : World} {base : Nat} {spare : Nat → Bool} {held : Bool}

/-- an array's value -/
theorem okWide_arr {r : Reach} {b0 n : Nat} {t e : TypeId} {v : Value} (ht : P.underlying t = some (.array n e)) (h : Value.okWide P w r b0 t v) : ∃ cs, v = .agg cs ∧ cs.size = P.cellsOf t := by
  simp only [Value.okWide, ht] at h
  obtain ⟨cs, h1, h2, _⟩ := h
  exact ⟨cs, h1, h2⟩

/-- an array of integers, opened: the numbers -/
theorem open_intArr {r : Reach} {b0 n : Nat} {t e : TypeId} {k : IntKind} {v : Value} {d : DataW H} {p : List MemPlace} (ht : P.underlying t = some (.array n e)) (he : P.underlying e = some (.int k))
    (hce : P.cellsOf e = 1) (hct : P.cellsOf t = n) (hv : Value.okWide P w r b0 t v) (h : DataW.Trod enc P w base spare held t v d p) :
    ∃ zs : List Int, zs.length = n ∧ v = .agg (zs.map (fun z => Value.int k z)).toArray ∧ ∀ z ∈ zs, (Lit.int k z).wf = true := by
  obtain ⟨cs, rfl, hsz⟩ := okWide_arr ht hv
  obtain ⟨fuel, hf⟩ := h
  obtain ⟨xs, m, _, _, _, hl, hrd⟩ := DataW.trod_array ht hf
  have hlen : cs.toList.length = n := by rw [Array.length_toList, hsz, hct]
  have hcell : ∀ i (hi : i < cs.toList.length), ∃ z, cs.toList[i] = .int k z ∧ (Lit.int k z).wf = true := by
    intro i hi
    have hx := hrd i (by omega)
    have hi2 : i < xs.length := by omega
    rw [List.getElem?_eq_getElem hi2] at hx
    obtain ⟨z, hz, _, hwf⟩ := DataW.trod_int he hx
    have hi3 : i < cs.size := by simpa using hi
    simp only [Value.cells, hce, Nat.mul_one] at hz
    rw [List.drop_eq_getElem_cons hi] at hz
    simp at hz
    exact ⟨z, by simpa using hz, hwf⟩
  refine ⟨cs.toList.map (fun c => match c with | .int _ q => q | _ => 0), by rw [List.length_map, hlen], ?_, ?_⟩
  · congr 1
    apply Array.ext'
    simp only [List.map_map]
    symm
    conv => rhs; rw [← List.map_id cs.toList]
    apply List.map_congr_left
    intro c hc
    obtain ⟨i, hi, rfl⟩ := List.getElem_of_mem hc
    obtain ⟨z, hz, _⟩ := hcell i hi
    simp only [Function.comp, hz, id]
  · intro z hz
    obtain ⟨c, hc, rfl⟩ := List.mem_map.1 hz
    obtain ⟨i, hi, rfl⟩ := List.getElem_of_mem hc
    obtain ⟨z', hz', hwf⟩ := hcell i hi
    simp only [hz']
    exact hwf
/-! ### whatever is made of integers and bools alone: its leaves, cell by cell -/
/-- a leaf's kind: 'some k' an integer, 'none' a bool -/
def flatFs (P : Program) (g : TypeId → Option (List (Option IntKind))) : List Field → Nat → Option (List (Option IntKind))
  | [], _ => some []
  | f :: fs, o => match g f.type, flatFs P g fs (o + P.cellsOf f.type) with
    | some l, some r => if f.offset = o ∧ l.length = P.cellsOf f.type then some (l ++ r) else none
    | _, _ => none
def flat (P : Program) : Nat → TypeId → Option (List (Option IntKind))
  | 0, _ => none
  | d + 1, t => match P.underlying t with
    | some (.int k) => some [some k]
    | some .bool => some [none]
    | some (.array n e) => match flat P d e with
      | some l => if l.length = P.cellsOf e ∧ P.cellsOf t = n * P.cellsOf e then some (List.replicate n l).flatten else none
      | none => none
    | some (.struct fs) => match flatFs P (flat P d) fs.toList 0 with
      | some l => if P.cellsOf t = l.length then some l else none
      | none => none
    | _ => none
def okLeaf : Option IntKind → Value → Prop
  | some k, v => ∃ z, v = .int k z ∧ (Lit.int k z).wf = true
  | none, v => ∃ b, v = .bool b
def okLeaves (ks : List (Option IntKind)) (cs : List Value) : Prop := cs.length = ks.length ∧ ∀ (j : Nat) (k : Option IntKind) (v : Value), ks[j]? = some k → cs[j]? = some v → okLeaf k v
theorem okLeaves_append {k1 k2 : List (Option IntKind)} {c1 c2 : List Value} (h1 : okLeaves k1 c1) (h2 : okLeaves k2 c2) : okLeaves (k1 ++ k2) (c1 ++ c2) := by
  refine ⟨by rw [List.length_append, List.length_append, h1.1, h2.1], fun j k v hk hv => ?_⟩
  have e := h1.1
  by_cases hj : j < k1.length
  · rw [List.getElem?_append_left hj] at hk
    rw [List.getElem?_append_left (by omega)] at hv
    exact h1.2 j k v hk hv
  · rw [List.getElem?_append_right (by omega)] at hk
    rw [List.getElem?_append_right (by omega), e] at hv
    exact h2.2 _ k v hk hv
theorem okLeaves_rep {l : List (Option IntKind)} : ∀ (n : Nat) (cs : List Value), cs.length = n * l.length → (∀ i, i < n → okLeaves l ((cs.drop (i * l.length)).take l.length)) → okLeaves (List.replicate n l).flatten cs
  | 0, cs, hl, _ => by
    have : cs = [] := List.eq_nil_of_length_eq_zero (by omega)
    subst this
    exact ⟨rfl, fun j k v hk => by simp at hk⟩
  | n + 1, cs, hl, h => by
    have hl' : cs.length = n * l.length + l.length := by rw [hl, Nat.succ_mul]
    rw [List.replicate_succ, List.flatten_cons, ← List.take_append_drop l.length cs]
    have h0 := h 0 (by omega)
    rw [Nat.zero_mul, List.drop_zero] at h0
    refine okLeaves_append h0 (okLeaves_rep n _ (by rw [List.length_drop]; omega) fun i hi => ?_)
    have := h (i + 1) (by omega)
    rw [Nat.succ_mul] at this
    rwa [List.drop_drop, Nat.add_comm]
theorem flatFs_ge {P : Program} {g : TypeId → Option (List (Option IntKind))} : ∀ {fs : List Field} {o : Nat} {ks : List (Option IntKind)}, flatFs P g fs o = some ks → ∀ (i : Nat) (f : Field), fs[i]? = some f → o ≤ f.offset
  | [], _, _, _, i, f, hi => by simp at hi
  | f0 :: fs, o, ks, hk, i, f, hi => by
    simp only [flatFs] at hk
    split at hk
    · rename_i l r hgl hr
      split at hk
      · rename_i hc
        cases i with
        | zero => simp only [List.getElem?_cons_zero, Option.some.injEq] at hi; subst hi; omega
        | succ i => have := flatFs_ge hr i f hi; omega
      · cases hk
    · cases hk
theorem okLeaves_fs {g : TypeId → Option (List (Option IntKind))} {n : Nat}
    (hg : ∀ t ks cs x, g t = some ks → DataW.trod enc P w base spare held n t cs = some x → okLeaves ks cs) :
    ∀ (fs : List Field) (o : Nat) (ks : List (Option IntKind)) (cs : List Value), flatFs P g fs o = some ks → cs.length = ks.length →
      (∀ (i : Nat) (f : Field), fs[i]? = some f → ∃ x, DataW.trod enc P w base spare held n f.type ((cs.drop (f.offset - o)).take (P.cellsOf f.type)) = some x) → okLeaves ks cs
  | [], o, ks, cs, hk, hl, _ => by
    simp only [flatFs, Option.some.injEq] at hk
    subst hk
    exact ⟨hl, fun j k v hk => by simp at hk⟩
  | f :: fs, o, ks, cs, hk, hl, h => by
    simp only [flatFs] at hk
    split at hk
    · rename_i l r hgl hr
      split at hk
      · rename_i hc
        obtain ⟨ho, hll⟩ := hc
        simp only [Option.some.injEq] at hk
        subst hk
        rw [List.length_append] at hl
        obtain ⟨x, hx⟩ := h 0 f rfl
        rw [ho, Nat.sub_self, List.drop_zero] at hx
        have h1 := hg _ _ _ _ hgl hx
        rw [← List.take_append_drop (P.cellsOf f.type) cs]
        refine okLeaves_append h1 (okLeaves_fs hg fs _ r _ hr (by rw [List.length_drop]; omega) fun i f' hi => ?_)
        obtain ⟨y, hy⟩ := h (i + 1) f' hi
        have hge : o + P.cellsOf f.type ≤ f'.offset := flatFs_ge hr i f' hi
        refine ⟨y, ?_⟩
        rw [List.drop_drop, show P.cellsOf f.type + (f'.offset - (o + P.cellsOf f.type)) = f'.offset - o from by omega]
        exact hy
      · cases hk
    · cases hk
theorem okLeaves_of : ∀ (d : Nat) (t : TypeId) (ks : List (Option IntKind)) (fuel : Nat) (cs : List Value) (x : DataW H × List MemPlace), flat P d t = some ks → DataW.trod enc P w base spare held fuel t cs = some x → okLeaves ks cs
  | 0, _, _, _, _, _, h, _ => by simp [flat] at h
  | d + 1, t, ks, fuel, cs, x, h, ht => by
    unfold flat at h
    split at h
    · rename_i k hu
      simp only [Option.some.injEq] at h
      subst h
      obtain ⟨z, rfl, _, hw⟩ := DataW.trod_int hu ht
      refine ⟨rfl, fun j k' v hk hv => ?_⟩
      match j, hk, hv with
      | 0, hk, hv => simp at hk hv; subst hk hv; exact ⟨z, rfl, hw⟩
      | j + 1, hk, _ => simp at hk
    · rename_i hu
      simp only [Option.some.injEq] at h
      subst h
      obtain ⟨b, rfl, _⟩ := DataW.trod_bool hu ht
      refine ⟨rfl, fun j k' v hk hv => ?_⟩
      match j, hk, hv with
      | 0, hk, hv => simp at hk hv; subst hk hv; exact ⟨b, rfl⟩
      | j + 1, hk, _ => simp at hk
    · rename_i n e hu
      split at h
      · rename_i l hl
        split at h
        · rename_i hc
          obtain ⟨c1, c2⟩ := hc
          simp only [Option.some.injEq] at h
          subst h
          obtain ⟨xs, m, _, _, hlen, hxl, hrd⟩ := DataW.trod_array hu ht
          refine okLeaves_rep n cs (by rw [hlen, c2, c1]) fun i hi => ?_
          have := hrd i hi
          have hi2 : i < xs.length := by omega
          rw [List.getElem?_eq_getElem hi2, ← c1] at this
          exact okLeaves_of d e l m _ _ hl this
        · cases h
      · cases h
    · rename_i fs hu
      split at h
      · rename_i l hl
        split at h
        · rename_i hc
          simp only [Option.some.injEq] at h
          subst h
          obtain ⟨xs, m, _, _, hlen, hxl, hrd⟩ := DataW.trod_struct hu ht
          refine okLeaves_fs (fun t' ks' cs' x' h1 h2 => okLeaves_of d t' ks' m cs' x' h1 h2) fs.toList 0 l cs hl (by rw [hlen, hc]) fun i f hi => ?_
          have hi' : fs[i]? = some f := by simpa using hi
          have hi2 : i < xs.length := by
            have := (Array.getElem?_eq_some_iff.1 hi').1
            omega
          have := hrd i f hi'
          rw [List.getElem?_eq_getElem hi2] at this
          exact ⟨_, by rw [Nat.sub_zero]; exact this⟩
        · cases h
      · cases h
    · cases h
/-- an argument that is a slice of such things -/
structure RowArg (w : World) (ao : Option Addr) (n b off : Nat) (ks : List (Option IntKind)) (E : Nat → Nat → Value) : Prop where
  place : 0 < n → ao = some ⟨b, off, none⟩
  lt : 0 < n → b < w.heap.size
  cell : ∀ i, i < n → ∀ j, j < ks.length → w.cell? ⟨b, off + (i * ks.length + j), none⟩ = some (E i j)
  ok : ∀ i, i < n → ∀ (j : Nat) (k : Option IntKind), ks[j]? = some k → okLeaf k (E i j)
  most : n ≤ 9223372036854775807
theorem RowArg.kept {w w' : World} {ao : Option Addr} {n b off : Nat} {ks : List (Option IntKind)} {E : Nat → Nat → Value} (h : RowArg w ao n b off ks E) (u : Below w.heap.size w w') : RowArg w' ao n b off ks E :=
  ⟨h.place, fun h0 => Nat.lt_of_lt_of_le (h.lt h0) u.size, fun i hi j hj => (u.cell (p := ⟨b, off + (i * ks.length + j), none⟩) (h.lt (by omega))).trans (h.cell i hi j hj), h.ok, h.most⟩
/-- a slice's value is no aggregate -/
theorem okWide_noAgg {r : Reach} {b0 : Nat} {t e : TypeId} {c : Array Value} (ht : P.underlying t = some (.slice e)) (h : Value.okWide P w r b0 t (.agg c)) : False := by
  simp [Value.okWide, Cell.okWide, Cell.ok, ht] at h
theorem open_rows {r : Reach} {b0 : Nat} {t e : TypeId} {v : Value} {dt : DataW H} {p : List MemPlace} (D : Nat) (ks : List (Option IntKind)) (ht : P.underlying t = some (.slice e)) (hf : flat P D e = some ks) (hc : P.cellsOf e = ks.length) (hpos : 0 < ks.length)
    (hw : Value.okWide P w r b0 t v) (h : DataW.Trod enc P w base spare held t v dt p) :
    ∃ (ao : Option Addr) (n cap b off : Nat) (E : Nat → Nat → Value), v = .slice ao n cap ∧ RowArg w ao n b off ks E := by
  obtain ⟨fuel, hfu⟩ := h
  rcases Deep.open_slice ht hfu with ⟨h1, _⟩ | ⟨a, len, cap, m, n, DD, Pl, h1, _, hl, hm, hmm, _, hi⟩
  · have hv : v = .slice none 0 0 := by
      cases v
      case agg c => exact (okWide_noAgg ht hw).elim
      all_goals (simp [Value.cells] at h1; try simp [h1])
    exact ⟨none, 0, 0, 0, 0, fun _ _ => .bool false, hv, ⟨fun h => absurd h (by omega), fun h => absurd h (by omega), fun i hi => absurd hi (by omega), fun i hi => absurd hi (by omega), by omega⟩⟩
  · have hv : v = .slice (some a) len cap := by
      cases v
      case agg c => exact (okWide_noAgg ht hw).elim
      all_goals (simp [Value.cells] at h1; try simp [h1])
    have hle : len ≤ m := by rw [hmm]; split <;> omega
    obtain ⟨E, hE⟩ := Deep.choose_lt (n := len) (p := fun i (f : Nat → Value) => ∀ j, j < ks.length → w.cell? (a.add (i * ks.length + j)) = some (f j) ∧ ∀ k, ks[j]? = some k → okLeaf k (f j)) (fun i hil => by
      obtain ⟨cs', hc', ht'⟩ := hi i (by omega)
      rw [hc] at hc'
      obtain ⟨_, hcl, hat⟩ := World.cells?_some hc'
      have ok := okLeaves_of D e ks n cs' _ hf ht'
      refine ⟨fun j => cs'.getD j (.bool false), fun j hj => ?_⟩
      have hjl : j < cs'.length := by rw [ok.1]; exact hj
      have hv : cs'[j]? = some (cs'.getD j (.bool false)) := by simp [List.getElem?_eq_getElem hjl]
      refine ⟨?_, fun k hk => ok.2 j k _ hk hv⟩
      rw [← Deep.add_add, hat j hj, hv])
    have hspot : 0 < len → a = ⟨a.block, a.off, none⟩ := fun h0 => by
      have := (hE 0 h0 0 hpos).1
      rw [Nat.zero_mul, Nat.add_zero] at this
      obtain ⟨ab, aoff, asp⟩ := a
      cases asp with
      | none => rfl
      | some s =>
        simp only [Addr.add, if_true, World.cell?] at this
        split at this <;> simp at this
    refine ⟨some a, len, cap, a.block, a.off, E, hv, ⟨fun h0 => by rw [← hspot h0], fun h0 => ?_, fun i hil j hj => ?_, fun i hil j k hk => ?_, by unfold maxLen at hm; omega⟩⟩
    · have := (hE 0 h0 0 hpos).1
      rw [Nat.zero_mul, Nat.add_zero] at this
      have hb := World.block_lt_of_cell? w _ this
      simpa [Addr.add] using hb
    · have := (hE i hil j hj).1
      rw [hspot (by omega), Addr.add_mid] at this
      exact this
    · have hj : j < ks.length := (List.getElem?_eq_some_iff.1 hk).1
      exact (hE i hil j hj).2 k hk
/-- a struct of such things by value: its cells -/
theorem open_flat {r : Reach} {b0 : Nat} {t : TypeId} {fs : Array Field} {v : Value} {dt : DataW H} {p : List MemPlace} (D : Nat) (ks : List (Option IntKind)) (ht : P.underlying t = some (.struct fs)) (hf : flat P D t = some ks)
    (hw : Value.okWide P w r b0 t v) (h : DataW.Trod enc P w base spare held t v dt p) : ∃ cs : List Value, v = .agg cs.toArray ∧ okLeaves ks cs := by
  obtain ⟨fuel, hfu⟩ := h
  simp only [Value.okWide, ht] at hw
  obtain ⟨cs, rfl, _⟩ := hw
  exact ⟨cs.toList, by simp, okLeaves_of D t ks fuel _ _ hf hfu⟩
theorem cells2 {cs : List Value} (h : cs.length = 2) : ∃ a b, cs = [a, b] := by
  match cs, h with
  | [a, b], _ => exact ⟨a, b, rfl⟩
theorem cells3 {cs : List Value} (h : cs.length = 3) : ∃ a b c, cs = [a, b, c] := by
  match cs, h with
  | [a, b, c], _ => exact ⟨a, b, c, rfl⟩
theorem cells4 {cs : List Value} (h : cs.length = 4) : ∃ a b c d, cs = [a, b, c, d] := by
  match cs, h with
  | [a, b, c, d], _ => exact ⟨a, b, c, d, rfl⟩
theorem cells5 {cs : List Value} (h : cs.length = 5) : ∃ a b c d e, cs = [a, b, c, d, e] := by
  match cs, h with
  | [a, b, c, d, e], _ => exact ⟨a, b, c, d, e, rfl⟩
theorem cells6 {cs : List Value} (h : cs.length = 6) : ∃ c0 c1 c2 c3 c4 c5, cs = [c0, c1, c2, c3, c4, c5] := by
  match cs, h with
  | [c0, c1, c2, c3, c4, c5], _ => exact ⟨c0, c1, c2, c3, c4, c5, rfl⟩
theorem cells7 {cs : List Value} (h : cs.length = 7) : ∃ c0 c1 c2 c3 c4 c5 c6, cs = [c0, c1, c2, c3, c4, c5, c6] := by
  match cs, h with
  | [c0, c1, c2, c3, c4, c5, c6], _ => exact ⟨c0, c1, c2, c3, c4, c5, c6, rfl⟩
theorem cells8 {cs : List Value} (h : cs.length = 8) : ∃ c0 c1 c2 c3 c4 c5 c6 c7, cs = [c0, c1, c2, c3, c4, c5, c6, c7] := by
  match cs, h with
  | [c0, c1, c2, c3, c4, c5, c6, c7], _ => exact ⟨c0, c1, c2, c3, c4, c5, c6, c7, rfl⟩
theorem cells9 {cs : List Value} (h : cs.length = 9) : ∃ c0 c1 c2 c3 c4 c5 c6 c7 c8, cs = [c0, c1, c2, c3, c4, c5, c6, c7, c8] := by
  match cs, h with
  | [c0, c1, c2, c3, c4, c5, c6, c7, c8], _ => exact ⟨c0, c1, c2, c3, c4, c5, c6, c7, c8, rfl⟩
theorem cells10 {cs : List Value} (h : cs.length = 10) : ∃ c0 c1 c2 c3 c4 c5 c6 c7 c8 c9, cs = [c0, c1, c2, c3, c4, c5, c6, c7, c8, c9] := by
  match cs, h with
  | [c0, c1, c2, c3, c4, c5, c6, c7, c8, c9], _ => exact ⟨c0, c1, c2, c3, c4, c5, c6, c7, c8, c9, rfl⟩
theorem cells11 {cs : List Value} (h : cs.length = 11) : ∃ c0 c1 c2 c3 c4 c5 c6 c7 c8 c9 c10, cs = [c0, c1, c2, c3, c4, c5, c6, c7, c8, c9, c10] := by
  match cs, h with
  | [c0, c1, c2, c3, c4, c5, c6, c7, c8, c9, c10], _ => exact ⟨c0, c1, c2, c3, c4, c5, c6, c7, c8, c9, c10, rfl⟩
theorem cells12 {cs : List Value} (h : cs.length = 12) : ∃ c0 c1 c2 c3 c4 c5 c6 c7 c8 c9 c10 c11, cs = [c0, c1, c2, c3, c4, c5, c6, c7, c8, c9, c10, c11] := by
  match cs, h with
  | [c0, c1, c2, c3, c4, c5, c6, c7, c8, c9, c10, c11], _ => exact ⟨c0, c1, c2, c3, c4, c5, c6, c7, c8, c9, c10, c11, rfl⟩
theorem len2 {zs : List Int} (h : zs.length = 2) : ∃ a b, zs = [a, b] := by
  match zs, h with
  | [a, b], _ => exact ⟨a, b, rfl⟩
theorem len3 {zs : List Int} (h : zs.length = 3) : ∃ a b c, zs = [a, b, c] := by
  match zs, h with
  | [a, b, c], _ => exact ⟨a, b, c, rfl⟩
theorem len4 {zs : List Int} (h : zs.length = 4) : ∃ a b c d, zs = [a, b, c, d] := by
  match zs, h with
  | [a, b, c, d], _ => exact ⟨a, b, c, d, rfl⟩
end Go.Proofs.YtfdnfllefednjaaDoor.Fr

/-
  Package-level variables of integers and bools that a row lists: their cells, out of the row's condition. Over any program.
-/
namespace Go.Proofs.YtfdnfllefednjaaDoor.Fr
open Go.ChangeShapes Go.WideShapes Go.ChangeAt Go.RowKit
mutual
/-- the cells of a datum made of integers and bools -/
def datCells : DataW Unit → List Value
  | .lit (.int k z) => [.int k z]
  | .lit (.bool b) => [.bool b]
  | .agg ps => datAll ps
  | _ => []
def datAll : List (DataW Unit) → List Value
  | [] => []
  | d :: r => datCells d ++ datAll r
end
/-- the variable's cells -/
def VarIs (w : World) (g : Nat) (cs : List Value) : Prop := ∀ j v, cs[j]? = some v → w.cell? ⟨g, j, none⟩ = some v
theorem datAll_rows (k : Nat) : ∀ (xs : List (DataW Unit × List MemPlace)) (cs : List Value), cs.length = xs.length * k → (∀ i (h : i < xs.length), (cs.drop (i * k)).take k = datCells (xs[i]).1) → cs = datAll (xs.map (·.1))
  | [], cs, hl, _ => by
    have : cs = [] := List.eq_nil_of_length_eq_zero (by simpa using hl)
    subst this
    rfl
  | x :: xs, cs, hl, h => by
    have hl' : cs.length = xs.length * k + k := by rw [hl, List.length_cons, Nat.succ_mul]
    have h0 := h 0 (by simp)
    rw [Nat.zero_mul, List.drop_zero] at h0
    rw [← List.take_append_drop k cs, h0]
    simp only [List.map_cons, datAll, List.getElem_cons_zero]
    congr 1
    refine datAll_rows k xs _ (by rw [List.length_drop]; omega) fun i hi => ?_
    have := h (i + 1) (by simpa using hi)
    rw [Nat.succ_mul] at this
    simpa [List.drop_drop, Nat.add_comm] using this
theorem datAll_fs {P : Program} {g : TypeId → Option (List (Option IntKind))} : ∀ (fs : List Field) (o : Nat) (ks : List (Option IntKind)) (cs : List Value) (xs : List (DataW Unit × List MemPlace)), flatFs P g fs o = some ks → cs.length = ks.length → xs.length = fs.length →
      (∀ (i : Nat) (f : Field) (x : DataW Unit × List MemPlace), fs[i]? = some f → xs[i]? = some x → (cs.drop (f.offset - o)).take (P.cellsOf f.type) = datCells x.1) → cs = datAll (xs.map (·.1))
  | [], o, ks, cs, xs, hk, hl, hx, _ => by
    simp only [flatFs, Option.some.injEq] at hk
    subst hk
    have e1 : cs = [] := List.eq_nil_of_length_eq_zero (by simpa using hl)
    have e2 : xs = [] := List.eq_nil_of_length_eq_zero (by simpa using hx)
    subst e1 e2
    rfl
  | f :: fs, o, ks, cs, [], hk, hl, hx, h => by simp at hx
  | f :: fs, o, ks, cs, x :: xs, hk, hl, hx, h => by
    simp only [flatFs] at hk
    split at hk
    · rename_i l r hgl hr
      split at hk
      · rename_i hc
        obtain ⟨ho, hll⟩ := hc
        simp only [Option.some.injEq] at hk
        subst hk
        rw [List.length_append] at hl
        have h0 := h 0 f x rfl rfl
        rw [ho, Nat.sub_self, List.drop_zero] at h0
        rw [← List.take_append_drop (P.cellsOf f.type) cs, h0]
        simp only [List.map_cons, datAll]
        congr 1
        refine datAll_fs fs _ r _ xs hr (by rw [List.length_drop]; omega) (by simpa using hx) fun i f' x' hi hi' => ?_
        have hy := h (i + 1) f' x' hi hi'
        have hge : o + P.cellsOf f.type ≤ f'.offset := flatFs_ge hr i f' hi
        rw [List.drop_drop, show P.cellsOf f.type + (f'.offset - (o + P.cellsOf f.type)) = f'.offset - o from by omega]
        exact hy
      · cases hk
    · cases hk
theorem cells_flat {P : Program} {w : World} {base : Nat} {spare : Nat → Bool} {held : Bool} : ∀ (d : Nat) (t : TypeId) (ks : List (Option IntKind)) (fuel : Nat) (cs : List Value) (x : DataW Unit × List MemPlace),
    flat P d t = some ks → DataW.trod (fun _ => ()) P w base spare held fuel t cs = some x → cs = datCells x.1
  | 0, _, _, _, _, _, h, _ => by simp [flat] at h
  | d + 1, t, ks, fuel, cs, x, h, ht => by
    have hlen0 := (okLeaves_of (d + 1) t ks fuel cs x h ht).1
    unfold flat at h
    split at h
    · rename_i k hu
      obtain ⟨z, rfl, rfl, hw⟩ := DataW.trod_int hu ht
      rfl
    · rename_i hu
      obtain ⟨b, rfl, rfl⟩ := DataW.trod_bool hu ht
      rfl
    · rename_i n e hu
      split at h
      · rename_i l hl
        split at h
        · rename_i hc
          obtain ⟨c1, c2⟩ := hc
          obtain ⟨xs, m, _, rfl, hlen, hxl, hrd⟩ := DataW.trod_array hu ht
          show cs = datAll (xs.map (·.1))
          refine datAll_rows (P.cellsOf e) xs cs (by rw [hlen, c2, hxl]) fun i hi => ?_
          have := hrd i (by omega)
          rw [List.getElem?_eq_getElem hi] at this
          exact cells_flat d e l m _ _ hl this
        · cases h
      · cases h
    · rename_i fs hu
      split at h
      · rename_i l hl
        split at h
        · rename_i hc
          simp only [Option.some.injEq] at h
          subst h
          obtain ⟨xs, m, _, rfl, hlen, hxl, hrd⟩ := DataW.trod_struct hu ht
          show cs = datAll (xs.map (·.1))
          refine datAll_fs fs.toList 0 l cs xs hl hlen0 (by rw [hxl]; simp) fun i f x hi hx => ?_
          have hi' : fs[i]? = some f := by simpa using hi
          have := hrd i f hi'
          rw [hx] at this
          rw [Nat.sub_zero]
          have hfl : ∃ l', flat P d f.type = some l' := by
            clear this hi' hx hrd hlen hxl hlen0 ht
            revert i hi
            generalize (0 : Nat) = o at hl
            generalize fs.toList = F at hl
            clear hc
            induction F generalizing o l with
            | nil => intro i hi; simp at hi
            | cons a r ih =>
              intro i hi
              simp only [flatFs] at hl
              split at hl
              · rename_i l1 r1 h1 h2
                cases i with
                | zero => simp only [List.getElem?_cons_zero, Option.some.injEq] at hi; subst hi; exact ⟨_, h1⟩
                | succ i => exact ih _ _ h2 i hi
              · cases hl
          obtain ⟨l', hl'⟩ := hfl
          exact cells_flat d f.type l' m _ _ hl' this
        · cases h
      · cases h
    · cases h
/-- a listed variable's cells -/
theorem varIs_of_vars {P : Program} {w : World} (D : Nat) : ∀ (l : List (String × DataW Unit)) (ps : List MemPlace), DataW.LaidVars P w l ps → ∀ (n : String) (d : DataW Unit), (n, d) ∈ l → ∀ (g : Nat) (t : TypeId) (ks : List (Option IntKind)),
    P.globalNamed n = some g → (P.globals[g]?).map (·.type) = some t → flat P D t = some ks → VarIs w g (datCells d)
  | [], _, _, n, d, hm, _, _, _, _, _, _ => by cases hm
  | (n0, d0) :: r, ps, h, n, d, hm, g, t, ks, hg, ht, hf => by
    obtain ⟨g0, t0, cs, fuel, p, q, hg0, ht0, hv, hd, hr, _⟩ := h
    rcases List.mem_cons.1 hm with e | hm'
    · cases e
      obtain rfl := Option.some.inj (hg.symm.trans hg0)
      obtain rfl := Option.some.inj (ht.symm.trans ht0)
      have e := cells_flat D t ks fuel cs.toList _ hf hd
      intro j v hj
      rw [World.var?_cell hg0 hv j, ← hj, ← e]
      simp
    · exact varIs_of_vars D r q hr n d hm' g t ks hg ht hf
theorem varIs_of_laid {P : Program} {w : World} {l : List (String × DataW Unit)} (D : Nat) (h : laidMet P l w) (n : String) (d : DataW Unit) (hm : (n, d) ∈ l) {g : Nat} {t : TypeId} {ks : List (Option IntKind)}
    (hg : P.globalNamed n = some g) (ht : (P.globals[g]?).map (·.type) = some t) (hf : flat P D t = some ks) : VarIs w g (datCells d) := by
  obtain ⟨ps, hl, _⟩ := h
  exact varIs_of_vars D l ps hl n d hm g t ks hg ht hf
end Go.Proofs.YtfdnfllefednjaaDoor.Fr

/-
  Contracts of package entry's small functions: get, put, flag, over the table of fields.
-/
namespace Go.Proofs.YtfdnfllefednjaaDoor
open Go.ChangeShapes Go.WideShapes Go.ChangeAt Go.RowKit

/-- the table: where each part begins, how many bits it has -/
def fFrom (p : Nat) : Int := [0, 1, 2, 8, 8, 4, 0, 4, 0].getD p 0
def fMany (p : Nat) : Int := [1, 1, 1, 8, 4, 4, 4, 12, 4].getD p 0
/-- the table lies in its variable -/
def Tab (w : World) : Prop := ∀ p, p < 9 → w.cell? ⟨0, p * 2, none⟩ = some (.int .i64 (fFrom p)) ∧ w.cell? ⟨0, p * 2 + 1, none⟩ = some (.int .i64 (fMany p))
theorem tab_of {w : World} (h : Fr.VarIs w 0 (Fr.datCells (Rows.laid_trunnion_entry_fields (H := Unit)))) : Tab w := by
  intro p hp
  refine ⟨h (p * 2) _ ?_, h (p * 2 + 1) _ ?_⟩
  all_goals
    match p, hp with
    | 0, _ => rfl
    | 1, _ => rfl
    | 2, _ => rfl
    | 3, _ => rfl
    | 4, _ => rfl
    | 5, _ => rfl
    | 6, _ => rfl
    | 7, _ => rfl
    | 8, _ => rfl
theorem Tab.kept {w w' : World} (h : Tab w) (u : Upd (fun _ => False) w w') : Tab w' := fun p hp => ⟨u.cell (h p hp).1 id, u.cell (h p hp).2 id⟩
theorem Tab.drew {w : World} (h : Tab w) (n : Nat) : Tab (w.drewN n) := h
theorem field_ok : ∀ p, p < 9 → fieldB (fFrom p) (fMany p) = true := by decide
theorem one_fits : ∀ p, p < 9 → withinB 1 0 (onesI (fMany p)) = true := by decide

def getP (x : Int) (p : Nat) : Int := getI x (fFrom p) (fMany p)
def putP (x y : Int) (p : Nat) : Int := putI x y (fFrom p) (fMany p)
def fitP (y : Int) (p : Nat) : Bool := withinB y 0 (onesI (fMany p))

set_option maxHeartbeats 400000 in
theorem eget_at (x f m : Int) (p : Nat) (w : World) (c1 : w.cell? ⟨0, p * 2, none⟩ = some (.int .i64 f)) (c2 : w.cell? ⟨0, p * 2 + 1, none⟩ = some (.int .i64 m)) (hp : p < 9) (hf : fieldB f m = true) (hx0 : 0 ≤ x) (hx : x < 18446744073709551616) :
    Calls Tryd.prog 76 #[.int .u64 x, .int .i64 p] w fun e w' => e = .returned (.int .u64 (getI x f m)) ∧ ∃ n, w' = w.drewN n := by
  have hc := Lib.hid (fun q => get_yes x f m (w.drewN q) hf hx0 hx)
  clear hx
  go_enter Tryd.func76, Tryd.ntmps76
  go_wp2_with fail
  go_quiet ((go_at_call 94; exact draws0 (hc.out _)))
  go_wp2
  go_ret
  exact ⟨rfl, _, rfl⟩
theorem eget_any (x : Int) (p : Nat) (w : World) (T : Tab w) (hp : p < 9) (hx0 : 0 ≤ x) (hx : x < 18446744073709551616) :
    Calls Tryd.prog 76 #[.int .u64 x, .int .i64 p] w fun e w' => e = .returned (.int .u64 (getP x p)) ∧ ∃ n, w' = w.drewN n :=
  eget_at x _ _ p w (T p hp).1 (T p hp).2 hp (field_ok p hp) hx0 hx
set_option maxHeartbeats 400000 in
theorem eput_no (x y f m : Int) (p : Nat) (w : World) (c1 : w.cell? ⟨0, p * 2, none⟩ = some (.int .i64 f)) (c2 : w.cell? ⟨0, p * 2 + 1, none⟩ = some (.int .i64 m)) (hp : p < 9) (hf : fieldB f m = true) (hy : withinB y 0 (onesI m) = false) :
    Calls Tryd.prog 78 #[.int .u64 x, .int .u64 y, .int .i64 p] w fun e w' => e = .returned (.tuple #[.int .u64 0, .bool false]) ∧ ∃ n, w' = w.drewN n := by
  have hc := Lib.hid (fun q => put_no2 x y f m (w.drewN q) hf hy)
  go_enter Tryd.func78, Tryd.ntmps78
  go_wp2_with fail
  go_quiet ((go_at_call 95; exact still0 (hc.out _)))
  go_wp2
  go_ret2
  exact ⟨rfl, _, rfl⟩
set_option maxHeartbeats 400000 in
theorem eput_yes (x y f m : Int) (p : Nat) (w : World) (c1 : w.cell? ⟨0, p * 2, none⟩ = some (.int .i64 f)) (c2 : w.cell? ⟨0, p * 2 + 1, none⟩ = some (.int .i64 m)) (hp : p < 9) (hf : fieldB f m = true) (hy : withinB y 0 (onesI m) = true) (hx0 : 0 ≤ x) (hx : x < 18446744073709551616) :
    Calls Tryd.prog 78 #[.int .u64 x, .int .u64 y, .int .i64 p] w fun e w' => e = .returned (.tuple #[.int .u64 (putI x y f m), .bool true]) ∧ ∃ n, w' = w.drewN n := by
  have hc := Lib.hid (fun q => put_yes x y f m (w.drewN q) hf hy hx0 hx)
  clear hx
  go_enter Tryd.func78, Tryd.ntmps78
  go_wp2_with fail
  go_quiet ((go_at_call 95; exact draws0 (hc.out _)))
  go_wp2
  go_ret2
  exact ⟨rfl, _, rfl⟩
theorem eput_any (x y : Int) (p : Nat) (w : World) (T : Tab w) (hp : p < 9) (hx0 : 0 ≤ x) (hx : x < 18446744073709551616) :
    Calls Tryd.prog 78 #[.int .u64 x, .int .u64 y, .int .i64 p] w fun e w' => e = .returned (.tuple #[.int .u64 (if fitP y p = true then putP x y p else 0), .bool (fitP y p)]) ∧ ∃ n, w' = w.drewN n := by
  cases h : fitP y p
  · rw [if_neg (by decide)]
    exact eput_no x y _ _ p w (T p hp).1 (T p hp).2 hp (field_ok p hp) h
  · rw [if_pos rfl]
    exact eput_yes x y _ _ p w (T p hp).1 (T p hp).2 hp (field_ok p hp) h hx0 hx
def flagP (x : Int) (b : Bool) (p : Nat) : Int := if b = true then putP x 1 p else x
set_option maxHeartbeats 400000 in
theorem eflag_any (x : Int) (b : Bool) (p : Nat) (w : World) (T : Tab w) (hp : p < 9) (hx0 : 0 ≤ x) (hx : x < 18446744073709551616) :
    Calls Tryd.prog 79 #[.int .u64 x, .bool b, .int .i64 p] w fun e w' => e = .returned (.int .u64 (flagP x b p)) ∧ ∃ n, w' = w.drewN n := by
  cases b
  · go_enter Tryd.func79, Tryd.ntmps79
    go_wp2
    go_ret
    exact ⟨rfl, 0, rfl⟩
  · have hc := Lib.hid (eput_yes x 1 _ _ p w (T p hp).1 (T p hp).2 hp (field_ok p hp) (one_fits p hp) hx0 hx)
    clear hx
    go_enter Tryd.func79, Tryd.ntmps79
    go_wp2_with fail
    refine hc.out.mono ?_
    rintro e w1 ⟨rfl, n1, rfl⟩
    go_wp2
    go_ret
    exact ⟨rfl, _, rfl⟩
theorem putP_bd (x y : Int) (p : Nat) (hp : p < 9) (hy : fitP y p = true) (hx0 : 0 ≤ x) (hx : x < 18446744073709551616) : 0 ≤ putP x y p ∧ putP x y p < 18446744073709551616 := putI_bd x y _ _ (field_ok p hp) hy hx0 hx
theorem flagP_bd (x : Int) (b : Bool) (p : Nat) (hp : p < 9) (hx0 : 0 ≤ x) (hx : x < 18446744073709551616) : 0 ≤ flagP x b p ∧ flagP x b p < 18446744073709551616 := by
  unfold flagP
  split
  · exact putI_bd x 1 _ _ (field_ok p hp) (one_fits p hp) hx0 hx
  · exact ⟨hx0, hx⟩
end Go.Proofs.YtfdnfllefednjaaDoor

/-
  Rows of integers: their cells, words laid over them, arrays of integers compared.
-/
namespace Go.Proofs.YtfdnfllefednjaaDoor
open Go.RowKit

/-- the cells of numbers -/
def ints (k : IntKind) (l : List Int) : List Value := l.map (Value.int k)
theorem ints_length (k : IntKind) (l : List Int) : (ints k l).length = l.length := by simp [ints]
theorem ints_getElem? (k : IntKind) (l : List Int) (i : Nat) (h : i < l.length) : (ints k l)[i]? = some (.int k (l.getD i 0)) := by
  simp [ints, List.getElem?_eq_getElem h]
theorem ints_one (k : IntKind) (l : List Int) : (ints k l).toArray.all (·.oneCell') = true := all_oneCell_toArray fun v hv => by
  obtain ⟨z, _, rfl⟩ := List.mem_map.1 hv; rfl
theorem splice_ints (k : IntKind) (ws : List Int) (o : Nat) (vs : List Int) : splice (ints k ws) o (ints k vs) = ints k (splice ws o vs) := by
  simp [splice, ints, List.map_append, List.map_take, List.map_drop]
theorem splice_splice {α : Type} (L : List α) (o : Nat) (a b : List α) (h : o + a.length + b.length ≤ L.length) : splice (splice L o a) (o + a.length) b = splice L o (a ++ b) := by
  unfold splice
  have e1 : (L.take o ++ (a ++ L.drop (o + a.length))).take (o + a.length) = L.take o ++ a := by
    rw [← List.append_assoc, List.take_append_of_le_length (by simp; omega)]
    exact List.take_of_length_le (by simp; omega)
  have e2 : (L.take o ++ (a ++ L.drop (o + a.length))).drop (o + a.length + b.length) = L.drop (o + a.length + b.length) := by
    rw [← List.append_assoc, List.drop_append, List.drop_eq_nil_of_le (by simp; omega), List.nil_append, List.drop_drop]
    congr 1
    simp; omega
  rw [e1, e2]
  simp [Nat.add_assoc]
theorem heap_setCells_other (b : Nat) : ∀ (vs : List Value) (o : Nat) (w : World) (k : Nat), k ≠ b → (w.setCells b o vs).heap[k]? = w.heap[k]?
  | [], _, _, _, _ => rfl
  | v :: r, o, w, k, h => by
    rw [World.setCells, heap_setCells_other b r (o + 1) _ k h, Below.heap_setCell _ _ _ _ h]
theorem heap_setCell_same {w : World} {b : Nat} {C : List Value} {t : TypeId} (h : w.heap[b]? = some (.cells C.toArray t (0, 0))) (o : Nat) (v : Value) :
    (w.setCell ⟨b, o, none⟩ v).heap[b]? = some (.cells (C.set o v).toArray t (0, 0)) := by
  simp only [World.setCell, Array.getElem?_modify, if_true, h, Option.map_some]
  simp
theorem heap_setCells_same (b t : Nat) : ∀ (vs : List Value) (o : Nat) (w : World) (C : List Value), w.heap[b]? = some (.cells C.toArray t (0, 0)) → o + vs.length ≤ C.length →
    (w.setCells b o vs).heap[b]? = some (.cells (splice C o vs).toArray t (0, 0))
  | [], o, w, C, h, _ => by simpa [World.setCells, splice] using h
  | v :: r, o, w, C, h, hl => by
    rw [World.setCells, heap_setCells_same b t r (o + 1) _ _ (heap_setCell_same h o v) (by simp at hl ⊢; omega)]
    simp only [Option.some.injEq, Obj.cells.injEq, and_true, Array.mk.injEq]
    simp at hl
    unfold splice
    rw [List.take_set, List.drop_set, if_pos (by omega)]
    rw [List.take_add_one, List.getElem?_eq_getElem (by omega)]
    rw [List.set_append]
    simp
    rw [show min o C.length = o from by omega]
    simp
    omega
/-- a block that is known whole -/
theorem rangeAt_block {w : World} {b t : Nat} {k : IntKind} {l : List Int} (h : w.heap[b]? = some (.cells (ints k l).toArray t (0, 0))) : w.rangeAt b 0 (ints k l) := by
  have := World.rangeAt_of_block h 0 l.length
  have e : ((ints k l).toArray.extract 0 (0 + l.length)).toList = ints k l := by
    simp [List.extract, List.take_of_length_le, ints_length]
  rwa [e] at this
theorem frozen_block {w : World} {b t : Nat} {c : Array Value} (h : w.heap[b]? = some (.cells c t (0, 0))) (i : Nat) : w.frozen? ⟨b, i, none⟩ = false := by
  unfold World.frozen?
  rw [h]
  simp
theorem there_block {w : World} {b t : Nat} {k : IntKind} {l : List Int} (h : w.heap[b]? = some (.cells (ints k l).toArray t (0, 0))) (o n : Nat) (hn : o + n ≤ l.length) : w.there b o n := fun j hj =>
  ⟨by rw [cell_of_row w b _ _ _ _ h, List.getElem?_toArray, ints_getElem? _ _ _ (by omega)]; rfl, frozen_block h _⟩
theorem splice_all {α : Type} (l vs : List α) (h : vs.length = l.length) : splice l 0 vs = vs := by
  unfold splice
  rw [List.drop_eq_nil_of_le (by omega)]
  simp
theorem cell_block {w : World} {b t : Nat} {k : IntKind} {l : List Int} (h : w.heap[b]? = some (.cells (ints k l).toArray t (0, 0))) (i : Nat) (hi : i < l.length) : w.cell? ⟨b, i, none⟩ = some (.int k (l.getD i 0)) := by
  rw [cell_of_row w b _ _ _ _ h, List.getElem?_toArray, ints_getElem? _ _ _ hi]
/-! arrays of integers compared -/
theorem run_part_ints {P : Program} {w : World} {e : TypeId} {k : IntKind} (he : P.underlying e = some (.int k)) (l : List Int) (i : Nat) (h : i < l.length) :
    (part e (ints k l).toArray i).run P w = .ok (.int k (l.getD i 0)) w := by
  have hagg : (isAgg e).run P w = .ok false w := by
    unfold isAgg
    rw [Sem.run_bind, run_underlying he w]
    rfl
  unfold part
  rw [Sem.run_bind, hagg]
  simp only [Result.andThen_ok, Bool.false_eq_true, if_false, List.getElem?_toArray, ints_getElem? _ _ _ h]
  rfl
theorem run_eq_from {P : Program} {w : World} {e : TypeId} {k : IntKind} (d : Nat) (he : P.underlying e = some (.int k)) (l l' : List Int) :
    ∀ (m i : Nat), i + m ≤ l.length → i + m ≤ l'.length →
      (forIn (m := Sem) (List.range' i m) ((none, ()) : Option Bool × Unit) fun j _ => do
        if !(← Op.equalIn (d + 1) e (← part e (ints k l).toArray (j * 1)) (← part e (ints k l').toArray (j * 1))) then pure (.done (some false, ())) else pure (.yield (none, ()))).run P w
      = .ok (if (l.drop i).take m = (l'.drop i).take m then (none, ()) else (some false, ())) w
  | 0, i, _, _ => by simp
  | m + 1, i, h1, h2 => by
    have ih := run_eq_from (w := w) d he l l' m (i + 1) (by omega) (by omega)
    rw [List.range'_succ, List.forIn_cons]
    simp only [Nat.mul_one] at ih ⊢
    simp only [Sem.run_bind, run_part_ints he l i (by omega), run_part_ints he l' i (by omega), Result.andThen_ok, run_equalIn_int w d e k k _ _ he]
    rw [List.drop_eq_getElem_cons (by omega : i < l.length), List.drop_eq_getElem_cons (by omega : i < l'.length), List.take_succ_cons, List.take_succ_cons]
    by_cases hq : l[i] = l'[i]
    · simp only [List.getD_eq_getElem?_getD, List.getElem?_eq_getElem (by omega : i < l.length), List.getElem?_eq_getElem (by omega : i < l'.length), Option.getD_some, hq, beq_self_eq_true, Bool.not_true, Bool.false_eq_true, if_false, Sem.run_pure, Result.andThen_ok]
      rw [ih]
      simp
    · simp only [List.getD_eq_getElem?_getD, List.getElem?_eq_getElem (by omega : i < l.length), List.getElem?_eq_getElem (by omega : i < l'.length), Option.getD_some, beq_eq_false_iff_ne.2 hq, Bool.not_false, if_true, Sem.run_pure, Result.andThen_ok]
      rw [if_neg (by simp [hq])]
theorem run_equalIn_ints {P : Program} {w : World} {t e : TypeId} {k : IntKind} {n : Nat} (d : Nat) (ht : P.underlying t = some (.array n e)) (he : P.underlying e = some (.int k)) (hs : (P.info? e).map (·.size) = some 1)
    (l l' : List Int) (h : l.length = n) (h' : l'.length = n) :
    (Op.equalIn (d + 2) t (.agg (ints k l).toArray) (.agg (ints k l').toArray)).run P w = .ok (decide (l = l')) w := by
  have hz : (sizeOf e).run P w = .ok 1 w := by
    cases hq : P.info? e with
    | none => simp [hq] at hs
    | some i => simp [hq] at hs; simp [sizeOf, typeInfo, hq, hs]
  have hf := run_eq_from (w := w) d he l l' n 0 (by omega) (by omega)
  have e1 : l.take n = l := List.take_of_length_le (by omega)
  have e2 : l'.take n = l' := List.take_of_length_le (by omega)
  simp only [List.drop_zero, e1, e2] at hf
  rw [Op.equalIn, Sem.run_bind, run_underlying ht, Result.andThen_ok]
  simp only [Sem.run_bind, hz, Result.andThen_ok]
  simp only [Std.Legacy.Range.forIn_eq_forIn_range', Std.Legacy.Range.size, Nat.sub_zero, Nat.add_sub_cancel, Nat.div_one]
  rw [hf]
  by_cases hq : l = l'
  · simp [hq]
  · simp [hq]
/-- the same as the walk spells it -/
theorem run_equal_ints {P : Program} {t e : TypeId} {k : IntKind} {n : Nat} (ht : P.underlying t = some (.array n e)) (he : P.underlying e = some (.int k)) (hs : (P.info? e).map (·.size) = some 1)
    (l l' : List Int) (h : l.length = n) (h' : l'.length = n) (b : Bool) (hb : decide (l = l') = b) (w : World) :
    (Op.equalIn 10000 t (.agg (ints k l).toArray) (.agg (ints k l').toArray)).run P w = .ok b w := by
  subst hb
  exact run_equalIn_ints (w := w) 9998 ht he hs l l' h h'
/-- 'a[i]' of an array of integers by value -/
theorem run_index_ints {P : Program} {t e : TypeId} {k : IntKind} {n : Nat} (ht : P.underlying t = some (.array n e)) (he : P.underlying e = some (.int k)) (hs : (P.info? e).map (·.size) = some 1)
    (l : List Int) (h : l.length = n) (kk : IntKind) (i : Nat) (hi : i < n) (x : Int) (hx : l.getD i 0 = x) (w : World) :
    (Instr.index t (.agg (ints k l).toArray) (.int kk i)).run P w = .ok (.int k x) w := by
  subst hx
  have hz : (sizeOf e).run P w = .ok 1 w := by
    cases hq : P.info? e with
    | none => simp [hq] at hs
    | some i => simp [hq] at hs; simp [sizeOf, typeInfo, hq, hs]
  unfold Instr.index
  rw [Sem.run_bind, show (asIntOf (.int kk (i : Int))).run P w = .ok (kk, (i : Int)) w from rfl, Result.andThen_ok]
  simp only [Sem.run_bind, run_underlying ht, Result.andThen_ok]
  rw [if_pos (by omega)]
  simp only [Sem.run_bind, hz, Result.andThen_ok, Int.toNat_natCast, Nat.mul_one]
  exact run_part_ints he l i (by omega)
theorem run_eqGuard_agg {P : Program} {w : World} {t : TypeId} (hg : P.eqGuardType P.depth t = false) (op : BinOp) (x y : Operand) (a b : Array Value) :
    (eqGuard op t x y (.agg a) (.agg b)).run P w = .ok () w := by
  unfold eqGuard
  split <;> simp [Sem.run_bind, run_program, hg]
theorem run_eql_ints {P : Program} {w : World} {t e : TypeId} {k : IntKind} {n : Nat} (ht : P.underlying t = some (.array n e)) (he : P.underlying e = some (.int k)) (hs : (P.info? e).map (·.size) = some 1)
    (hg : P.eqGuardType P.depth t = false) (x y : Operand) (l l' : List Int) (h : l.length = n) (h' : l'.length = n) :
    (do eqGuard .eql t x y (.agg (ints k l).toArray) (.agg (ints k l').toArray); binOp .eql t (.agg (ints k l).toArray) (.agg (ints k l').toArray) : Sem Value).run P w = .ok (.bool (decide (l = l'))) w := by
  rw [Sem.run_bind, run_eqGuard_agg hg, Result.andThen_ok]
  show (do pure (.bool (← Op.equal t (.agg (ints k l).toArray) (.agg (ints k l').toArray))) : Sem Value).run P w = _
  unfold Op.equal
  rw [Sem.run_bind, show Op.maxDepth = 9998 + 2 from rfl, run_equalIn_ints _ ht he hs l l' h h']
  rfl
/-- '==' of two arrays of integers -/
theorem wpList_eql_ints {P : Program} {ops : Array Oper} {Q : Exit → Act → World → Prop} {a : Act} {w : World} {rest : List Oper} {o : Oper} (hw : Region.wanted o (yielded ops a.tmps) = true)
    (t t' : TypeId) (x y : Operand) (ho : o.op = .binOp .eql t x y t') (k : IntKind) (l l' : List Int) (X Y : Array Value) (hx : a.eval x = .agg X) (hy : a.eval y = .agg Y) (eX : X = (ints k l).toArray) (eY : Y = (ints k l').toArray) (n : Nat) (e : TypeId)
    (ht : P.underlying t = some (.array n e)) (he : P.underlying e = some (.int k)) (hs : (P.info? e).map (·.size) = some 1) (hg : P.eqGuardType P.depth t = false) (h1 : l.length = n) (h2 : l'.length = n)
    (b : Bool) (hb : decide (l = l') = b) (h : wpList P ops Q rest (a.put o.dst (.bool b)) w) : wpList P ops Q (o :: rest) a w := by
  subst hb eX eY
  refine BigFrame.wpList_want hw fun K hK => ?_
  have hr := run_eql_ints (P := P) (w := w) ht he hs hg x y l l' h1 h2
  unfold Oper.wp
  simp only [execOp, ho, hx, hy]
  rw [Sem.run_bind, hr]
  exact hK _ _ h
theorem run_neq_ints {P : Program} {w : World} {t e : TypeId} {k : IntKind} {n : Nat} (ht : P.underlying t = some (.array n e)) (he : P.underlying e = some (.int k)) (hs : (P.info? e).map (·.size) = some 1)
    (hg : P.eqGuardType P.depth t = false) (x y : Operand) (l l' : List Int) (h : l.length = n) (h' : l'.length = n) :
    (do eqGuard .neq t x y (.agg (ints k l).toArray) (.agg (ints k l').toArray); binOp .neq t (.agg (ints k l).toArray) (.agg (ints k l').toArray) : Sem Value).run P w = .ok (.bool (!decide (l = l'))) w := by
  rw [Sem.run_bind, run_eqGuard_agg hg, Result.andThen_ok]
  show (do pure (.bool (!(← Op.equal t (.agg (ints k l).toArray) (.agg (ints k l').toArray)))) : Sem Value).run P w = _
  unfold Op.equal
  rw [Sem.run_bind, show Op.maxDepth = 9998 + 2 from rfl, run_equalIn_ints _ ht he hs l l' h h']
  rfl
/-- '!=' of two arrays of integers -/
theorem wpList_neq_ints {P : Program} {ops : Array Oper} {Q : Exit → Act → World → Prop} {a : Act} {w : World} {rest : List Oper} {o : Oper} (hw : Region.wanted o (yielded ops a.tmps) = true)
    (t t' : TypeId) (x y : Operand) (ho : o.op = .binOp .neq t x y t') (k : IntKind) (l l' : List Int) (X Y : Array Value) (hx : a.eval x = .agg X) (hy : a.eval y = .agg Y) (eX : X = (ints k l).toArray) (eY : Y = (ints k l').toArray) (n : Nat) (e : TypeId)
    (ht : P.underlying t = some (.array n e)) (he : P.underlying e = some (.int k)) (hs : (P.info? e).map (·.size) = some 1) (hg : P.eqGuardType P.depth t = false) (h1 : l.length = n) (h2 : l'.length = n)
    (b : Bool) (hb : (!decide (l = l')) = b) (h : wpList P ops Q rest (a.put o.dst (.bool b)) w) : wpList P ops Q (o :: rest) a w := by
  subst hb eX eY
  refine BigFrame.wpList_want hw fun K hK => ?_
  have hr := run_neq_ints (P := P) (w := w) ht he hs hg x y l l' h1 h2
  unfold Oper.wp
  simp only [execOp, ho, hx, hy]
  rw [Sem.run_bind, hr]
  exact hK _ _ h
/-- '!=' of two arrays of integers, as a step of a region that draws -/
theorem step_neq_ints {P : Program} {ops : Array Oper} {o : Oper} {a : Act} {w : World} {K : Act → World → Prop} {Q : Exit → Act → World → Prop} {E : Prop} (hw : Region.wanted o (yielded ops a.tmps) = true)
    (t t' : TypeId) (x y : Operand) (ho : o.op = .binOp .neq t x y t') (k : IntKind) (l l' : List Int) (X Y : Array Value) (hx : a.eval x = .agg X) (hy : a.eval y = .agg Y) (eX : X = (ints k l).toArray) (eY : Y = (ints k l').toArray) (n : Nat) (e : TypeId)
    (ht : P.underlying t = some (.array n e)) (he : P.underlying e = some (.int k)) (hs : (P.info? e).map (·.size) = some 1) (hg : P.eqGuardType P.depth t = false) (h1 : l.length = n) (h2 : l'.length = n)
    (b : Bool) (hb : (!decide (l = l')) = b) (h : K (a.put o.dst (.bool b)) w) : if Region.wanted o (yielded ops a.tmps) = true then Oper.wp P o a w K Q else E := by
  subst hb eX eY
  rw [if_pos hw]
  have hr := run_neq_ints (P := P) (w := w) ht he hs hg x y l l' h1 h2
  unfold Oper.wp
  simp only [execOp, ho, hx, hy]
  rw [Sem.run_bind, hr]
  exact h
/-- a new block into which a row is laid at once -/
theorem alloc_store (w : World) (k : IntKind) (Z L : List Int) (t : TypeId) (h : L.length = Z.length) :
    ((w.alloc (.cells (ints k Z).toArray t)).setCells w.heap.size 0 (ints k L)).heap[w.heap.size]? = some (.cells (ints k L).toArray t (0, 0)) ∧
    Upd (fun _ => False) w ((w.alloc (.cells (ints k Z).toArray t)).setCells w.heap.size 0 (ints k L)) ∧ (w.alloc (.cells (ints k Z).toArray t)).there w.heap.size 0 L.length := by
  have h0 := heap_alloc_last w (.cells (ints k Z).toArray t)
  refine ⟨?_, Upd.setCells (by right; exact Nat.le_refl _) _ _ ((Upd.refl _ _).alloc _), there_block h0 0 L.length (by omega)⟩
  rw [heap_setCells_same _ _ (ints k L) 0 _ (ints k Z) h0 (by rw [ints_length, ints_length, h]; omega), splice_ints, splice_all _ _ h]
/-- 'copy' over a whole block of integers -/
theorem wpList_copy_ints {P : Program} {w : World} {ops : Array Oper} {rest : List Oper} {o : Oper} {a : Act} {Q : Exit → Act → World → Prop} (hgd : o.guard = none) (d s : Operand) (dT sT : TypeId)
    (ho : o.op = .call { callee := .builtin .copy, args := #[d, s], argTypes := #[dT, sT] }) (elem : TypeId) (hu : P.underlying dT = some (.slice elem)) (hsz : (P.info? elem).map (·.size) = some 1)
    (g dLen dCap b off sLen sCap : Nat) (hd : a.eval d = .slice (some ⟨g, 0, none⟩) dLen dCap) (hs : a.eval s = .slice (some ⟨b, off, none⟩) sLen sCap)
    (k : IntKind) (cur l : List Int) (t : TypeId) (hg : w.heap[g]? = some (.cells (ints k cur).toArray t (0, 0))) (hc : cur.length = dLen) (hl : l.length = dLen) (hsl : sLen = dLen)
    (hsrc : w.rangeAt b off (ints k l))
    (h : ∀ w', Hid (w'.heap[g]? = some (.cells (ints k l).toArray t (0, 0))) → Upd (· = g) w w' → wpList P ops Q rest (a.put o.dst (goInt dLen)) w') : wpList P ops Q (o :: rest) a w := by
  subst hsl
  refine wpList_copy_own hgd d s dT sT ho elem hu hsz g 0 _ dCap ⟨b, off, none⟩ _ sCap hd hs (ints k cur).toArray t hg (ints k l) (by rw [ints_length, hl]; simp) (fun j v hv => by rw [Addr.add_mid]; exact hsrc j v hv) (by simp [ints_length]; omega)
    (fun v hv => by obtain ⟨z, _, rfl⟩ := List.mem_map.1 hv; rfl) ?_
  rw [ints_length, hl]
  refine h _ (show _ = _ from ?_) ⟨rfl, rfl, rfl, by simp [World.setRow], fun i _ hi => setRow_other w g i _ hi⟩
  rw [setRow_heap w g _ _ t _ hg]
  simp [ints_length, hc, List.drop_eq_nil_of_le]
/-- a region that draws, of which all but a tail in one order only reads: the world behind the draw under a name -/
theorem wp_region_tail {P : Program} {id : Nat} {Q : Exit → Act → World → Prop} {a : Act} {w : World} {l : List Oper} (n : Nat) (hm : P.follows .mixedOrders = true) (hB : Region.lexTailB .any l.toArray n = true)
    (h : ∀ w2, w2 = w.drew → wpStill P l.toArray w2 (fun a' => wpList P l.toArray Q (l.drop n) a' w2) (l.take n) a) : (Code.region id l.toArray true).wp P Q a w :=
  wp_region_still_tail n hm hB (h _ rfl)
/-- a whole array loaded in a region that draws, ahead of its tail -/
theorem wpStill_load_sz {P : Program} {ops : Array Oper} {rest : List Oper} {op : Oper} {a : Act} {w : World} {Q : Act → Prop} (hw : Region.wanted op (yielded ops a.tmps) = true) (ty : TypeId) (x : Operand) (ho : op.op = .load ty x)
    (b o : Nat) (hx : a.eval x = .pointer (some ⟨b, o, none⟩)) (cs : List Value) (d : TypeDesc) (hc : w.rangeAt b o cs)
    (hu : P.underlying ty = some d) (hd : d.isRow = true) (k : Nat) (hk : cs.length = k) (hi : (P.info? ty).map (·.size) = some k)
    (h : wpStill P ops w Q rest (a.put op.dst (.agg cs.toArray))) : wpStill P ops w Q (op :: rest) a := by
  subst hk
  refine wpStill_step fun K hK => ?_
  rw [if_pos hw]
  unfold Oper.still execOp
  simp only [ho, hx, Instr.loadAt, Instr.sureAddr, Sem.run_bind, Sem.run_pure, Result.andThen_ok, run_loadVar_mid w b o ty cs d hc hu hd hi]
  exact ⟨rfl, hK _ h⟩
/-- a whole array loaded, guarded or not -/
theorem wpList_load_sz {P : Program} {ops : Array Oper} {rest : List Oper} {op : Oper} {a : Act} {w : World} {Q : Exit → Act → World → Prop} (hw : Region.wanted op (yielded ops a.tmps) = true) (ty : TypeId) (x : Operand) (ho : op.op = .load ty x)
    (b o : Nat) (hx : a.eval x = .pointer (some ⟨b, o, none⟩)) (cs : List Value) (d : TypeDesc) (hc : w.rangeAt b o cs)
    (hu : P.underlying ty = some d) (hd : d.isRow = true) (k : Nat) (hk : cs.length = k) (hi : (P.info? ty).map (·.size) = some k)
    (h : wpList P ops Q rest (a.put op.dst (.agg cs.toArray)) w) : wpList P ops Q (op :: rest) a w := by
  subst hk
  exact BigFrame.wpList_want hw fun _ hK => wp_load_mid ty x ho b o hx cs d hc hu hd hi (hK _ _ h)
end Go.Proofs.YtfdnfllefednjaaDoor

/-
  Plain mathematics of entries, places and addresses; what package entry's small functions answer, in numbers.
-/
namespace Go.Proofs.YtfdnfllefednjaaDoor
open Go.ChangeShapes Go.WideShapes Go.ChangeAt Go.RowKit

/-- may an entry be? -/
def rightB (v r t : Bool) (f : Int) : Bool := if v = true then decide (0 ≤ f ∧ f ≤ 255) && !(r && t) else !r && !t && decide (f = 0)
def bI (b : Bool) (k : Int) : Int := if b = true then k else 0
/-- an entry's word -/
def wordI (v r t : Bool) (f : Int) : Int := if rightB v r t f = true then (if v = true then 1 + 256 * f + bI r 2 + bI t 4 else 0) else 0
def errB (b : Bool) : Int := if b = true then 0 else 1
def wordE (v r t : Bool) (f : Int) : Int := errB (rightB v r t f)
/-- the parts of a word -/
def pV (x : Int) : Bool := decide (x % 2 = 1)
def pR (x : Int) : Bool := decide (x / 2 % 2 = 1)
def pT (x : Int) : Bool := decide (x / 4 % 2 = 1)
def pF (x : Int) : Int := x / 256 % 256
/-- is it an entry's word? -/
def ofB (x : Int) : Bool := rightB (pV x) (pR x) (pT x) (pF x) && decide (wordI (pV x) (pR x) (pT x) (pF x) = x)
def ofV (x : Int) : Bool := ofB x && pV x
def ofR (x : Int) : Bool := ofB x && pR x
def ofT (x : Int) : Bool := ofB x && pT x
def ofF (x : Int) : Int := if ofB x = true then pF x else 0
/-- a page's place at a level -/
def idxB (p l : Int) : Bool := decide (0 ≤ p ∧ p ≤ 4095 ∧ 0 ≤ l ∧ l ≤ 2)
def idxI (p l : Int) : Int := if idxB p l = true then (if l = 0 then p / 256 else if l = 1 then p / 16 % 16 else p % 16) else 0
/-- the page of three places -/
def pgB (a b c : Int) : Bool := decide (0 ≤ a ∧ a ≤ 15 ∧ 0 ≤ b ∧ b ≤ 15 ∧ 0 ≤ c ∧ c ≤ 15)
def pgI (a b c : Int) : Int := if pgB a b c = true then 256 * a + 16 * b + c else 0
/-- an address, split -/
def spB (a : Int) : Bool := decide (0 ≤ a ∧ a ≤ 65535)
def spP (a : Int) : Int := if spB a = true then a / 16 else 0
def spO (a : Int) : Int := if spB a = true then a % 16 else 0

theorem getP0 (x : Int) (h : 0 ≤ x) : getP x 0 = x % 2 := by
  obtain ⟨n, rfl⟩ := Int.eq_ofNat_of_zero_le h
  simp [getP, getI, fFrom, fMany, M.getN]
theorem getP1 (x : Int) (h : 0 ≤ x) : getP x 1 = x / 2 % 2 := by
  obtain ⟨n, rfl⟩ := Int.eq_ofNat_of_zero_le h
  simp [getP, getI, fFrom, fMany, M.getN]
theorem getP2 (x : Int) (h : 0 ≤ x) : getP x 2 = x / 4 % 2 := by
  obtain ⟨n, rfl⟩ := Int.eq_ofNat_of_zero_le h
  simp [getP, getI, fFrom, fMany, M.getN]
theorem getP3 (x : Int) (h : 0 ≤ x) : getP x 3 = x / 256 % 256 := by
  obtain ⟨n, rfl⟩ := Int.eq_ofNat_of_zero_le h
  simp [getP, getI, fFrom, fMany, M.getN]
theorem getP4 (x : Int) (h : 0 ≤ x) : getP x 4 = x / 256 % 16 := by
  obtain ⟨n, rfl⟩ := Int.eq_ofNat_of_zero_le h
  simp [getP, getI, fFrom, fMany, M.getN]
theorem getP5 (x : Int) (h : 0 ≤ x) : getP x 5 = x / 16 % 16 := by
  obtain ⟨n, rfl⟩ := Int.eq_ofNat_of_zero_le h
  simp [getP, getI, fFrom, fMany, M.getN]
theorem getP6 (x : Int) (h : 0 ≤ x) : getP x 6 = x % 16 := by
  obtain ⟨n, rfl⟩ := Int.eq_ofNat_of_zero_le h
  simp [getP, getI, fFrom, fMany, M.getN]
theorem getP7 (x : Int) (h : 0 ≤ x) : getP x 7 = x / 16 % 4096 := by
  obtain ⟨n, rfl⟩ := Int.eq_ofNat_of_zero_le h
  simp [getP, getI, fFrom, fMany, M.getN]
theorem getP8 (x : Int) (h : 0 ≤ x) : getP x 8 = x % 16 := by
  obtain ⟨n, rfl⟩ := Int.eq_ofNat_of_zero_le h
  simp [getP, getI, fFrom, fMany, M.getN]
theorem putP_val (x y : Int) (p f m : Nat) (hf : (fFrom p).toNat = f) (hm : (fMany p).toNat = m) (hx : 0 ≤ x) (hy : 0 ≤ y) : putP x y p = 2 ^ f * (2 ^ m * (x / 2 ^ (f + m)) + y) + x % 2 ^ f := by
  subst hf hm
  obtain ⟨a, rfl⟩ := Int.eq_ofNat_of_zero_le hx
  obtain ⟨b, rfl⟩ := Int.eq_ofNat_of_zero_le hy
  simp [putP, putI, M.putN]
theorem fit3 (y : Int) : fitP y 3 = decide (0 ≤ y ∧ y ≤ 255) := rfl
theorem fit456 (y : Int) (p : Nat) (h : p = 4 ∨ p = 5 ∨ p = 6) : fitP y p = decide (0 ≤ y ∧ y ≤ 15) := by
  rcases h with rfl | rfl | rfl <;> rfl
/-- a number that becomes a uint64 -/
theorem wrap_fits (f k : Int) (hk0 : 0 ≤ k) (hk : k ≤ 9223372036854775807) (h1 : -9223372036854775808 ≤ f) (h2 : f ≤ 9223372036854775807) : (0 ≤ IntKind.u64.wrap f ∧ IntKind.u64.wrap f ≤ k) ↔ (0 ≤ f ∧ f ≤ k) := by
  rw [IntKind.wrap_u64]; omega
theorem wrap_same (f : Int) (h1 : 0 ≤ f) (h2 : f ≤ 9223372036854775807) : IntKind.u64.wrap f = f := by
  rw [IntKind.wrap_u64]; omega

theorem mk_i64 {n : Int} (h1 : -9223372036854775808 ≤ n) (h2 : n ≤ 9223372036854775807) : (Lit.int .i64 n).wf = true := by
  simp [Lit.wf, IntKind.min, IntKind.max, IntKind.signed, IntKind.bits]
  omega

theorem two_blocks (w : World) (n : Nat) (o1 o2 : Obj) : (((w.alloc o1).drewN n).alloc o2).heap[w.heap.size]? = some o1 ∧ (((w.alloc o1).drewN n).alloc o2).heap[w.heap.size + 1]? = some o2 := by
  have e : ((w.alloc o1).drewN n).heap.size = w.heap.size + 1 := World.size_alloc w o1
  refine ⟨?_, ?_⟩
  · rw [Below.heap_alloc _ _ _ (by omega)]
    exact heap_alloc_last w o1
  · rw [← e]
    exact heap_alloc_last _ o2
/-! an entry in memory -/
abbrev entV (v r t : Bool) (f : Int) : Value := .agg #[.bool v, .bool r, .bool t, .int .i64 f]
abbrev entL (v r t : Bool) (f : Int) : List Value := [.bool v, .bool r, .bool t, .int .i64 f]
def EntAt (w : World) (b : Nat) (v r t : Bool) (f : Int) : Prop := w.heap[b]? = some (.cells (entL v r t f).toArray 34 (0, 0))
theorem ent_sz (v r t : Bool) (f : Int) : (#[.bool v, .bool r, .bool t, .int .i64 f] : Array Value).size = 4 := rfl
theorem ent_one (v r t : Bool) (f : Int) : (#[.bool v, .bool r, .bool t, .int .i64 f] : Array Value).all (·.oneCell') = true := by simp [Value.oneCell']
theorem ent_ls (v r t : Bool) (f : Int) : (#[.bool v, .bool r, .bool t, .int .i64 f] : Array Value).toList = [.bool v, .bool r, .bool t, .int .i64 f] := rfl
theorem ent_len (v r t : Bool) (f : Int) : ([.bool v, .bool r, .bool t, .int .i64 f] : List Value).length = 4 := rfl
theorem size_ent : (Tryd.prog.info? 34).map (·.size) = some 4 := by kernel_rfl
theorem EntAt.range {w : World} {b : Nat} {v r t : Bool} {f : Int} (h : EntAt w b v r t f) : w.rangeAt b 0 (entL v r t f) := World.rangeAt_of_block h 0 4
theorem EntAt.there {w : World} {b : Nat} {v r t : Bool} {f : Int} (h : EntAt w b v r t f) : w.there b 0 4 := fun j hj => by
  refine ⟨?_, frozen_block h _⟩
  match j, hj with
  | 0, _ => rw [h.range 0 _ rfl]; rfl
  | 1, _ => rw [h.range 1 _ rfl]; rfl
  | 2, _ => rw [h.range 2 _ rfl]; rfl
  | 3, _ => rw [h.range 3 _ rfl]; rfl
theorem EntAt.set {w : World} {b : Nat} {v r t : Bool} {f : Int} (h : EntAt w b v r t f) (v' r' t' : Bool) (f' : Int) : EntAt (w.setCells b 0 (entL v' r' t' f')) b v' r' t' f' := by
  unfold EntAt
  rw [heap_setCells_same b _ (entL v' r' t' f') 0 w _ h (by simp), splice_all _ _ (by simp)]
theorem EntAt.kept {S : Nat → Prop} {w w' : World} {b : Nat} {v r t : Bool} {f : Int} (h : EntAt w b v r t f) (u : Upd S w w') (hs : ¬ S b) : EntAt w' b v r t f := u.at h hs
/-- a result that lies in a cell -/
theorem ret_ent {fn : Func} {p u : Tmp} (h : fn.results = #[.cell p 34, .tmp u]) (tmps : Array Value) (w : World) (b : Nat) (v r t : Bool) (f : Int) (hp : tmps.getD p undef = .pointer (some ⟨b, 0, none⟩)) (he : EntAt w b v r t f) :
    (results fn tmps).run Tryd.prog w = .ok (.tuple #[entV v r t f, tmps.getD u undef]) w := by
  rw [results_cell_tmp h, hp]
  have := run_loadVar_mid w b 0 34 (entL v r t f) _ he.range Tryd.underlying34 rfl size_ent
  simp only [asAddr, Sem.run_pure, Result.andThen_ok]
  rw [this]
  rfl
/-- two entries compared -/
theorem run_eqEd (d : Nat) (v r t : Bool) (f : Int) (v' r' t' : Bool) (f' : Int) (w : World) :
    (Op.equalIn (d + 2) 34 (.agg #[.bool v, .bool r, .bool t, .int .i64 f]) (.agg #[.bool v', .bool r', .bool t', .int .i64 f'])).run Tryd.prog w = .ok (decide (v = v' ∧ r = r' ∧ t = t' ∧ f = f')) w := by
  have hF : (Tryd.prog.fieldsOf 34).toList.map (fun f => (f.name == "_", f.type, f.offset)) = [(false, 4, 0), (false, 4, 1), (false, 4, 2), (false, 3, 3)] := by kernel_rfl
  rw [run_equalIn_struct w (d + 1) _ _ _ (by kernel_rfl) (by kernel_rfl)]
  have hag : ∀ (e : TypeId) (d : TypeDesc), Tryd.prog.underlying e = some d → d.isRow = false → (isAgg e).run Tryd.prog w = .ok false w := by
    intro e d he hd
    unfold isAgg
    rw [Sem.run_bind, run_underlying he w]
    cases d <;> first | rfl | cases hd
  have hpart : ∀ (e : TypeId) (d : TypeDesc), Tryd.prog.underlying e = some d → d.isRow = false → ∀ (cs : Array Value) (i : Nat) (x : Value), cs[i]? = some x → (part e cs i).run Tryd.prog w = .ok x w := by
    intro e d he hd cs i x hx
    unfold part
    rw [Sem.run_bind, hag e d he hd]
    simp only [Result.andThen_ok, Bool.false_eq_true, if_false, hx]
    rfl
  have hlen := congrArg List.length hF
  rw [List.length_map] at hlen
  generalize (Tryd.prog.fieldsOf 34).toList = L at hF hlen ⊢
  match L, hlen with
  | [g0, g1, g2, g3], _ =>
    simp only [List.map_cons, List.map_nil, List.cons.injEq, Prod.mk.injEq, and_true] at hF
    obtain ⟨⟨n0, t0, o0⟩, ⟨n1, t1, o1⟩, ⟨n2, t2, o2⟩, ⟨n3, t3, o3⟩⟩ := hF
    have n0 : g0.name ≠ "_" := by simpa using n0
    have n1 : g1.name ≠ "_" := by simpa using n1
    have n2 : g2.name ≠ "_" := by simpa using n2
    have n3 : g3.name ≠ "_" := by simpa using n3
    have ub := Tryd.underlying4
    have ui := Tryd.underlying3
    have step : ∀ (X Y : Array Value) (g : Field) (fs : List Field) (x y : Value) (q : Bool), g.name ≠ "_" → (part g.type X g.offset).run Tryd.prog w = .ok x w → (part g.type Y g.offset).run Tryd.prog w = .ok y w →
        (Op.equalIn (d + 1) g.type x y).run Tryd.prog w = .ok q w → (Op.eqFields (d + 1) X Y (g :: fs)).run Tryd.prog w = if q = true then (Op.eqFields (d + 1) X Y fs).run Tryd.prog w else .ok false w := by
      intro X Y g fs x y q hn hx hy hq
      rw [Op.eqFields, if_pos hn, Sem.run_bind, hx, Result.andThen_ok, Sem.run_bind, hy, Result.andThen_ok, Sem.run_bind, hq, Result.andThen_ok]
      cases q
      · rfl
      · rfl
    rw [step _ _ g0 _ (.bool v) (.bool v') (v == v') n0 (by rw [t0, o0]; exact hpart _ _ ub rfl _ _ _ rfl) (by rw [t0, o0]; exact hpart _ _ ub rfl _ _ _ rfl) (by rw [t0]; exact run_equalIn_bool' w d _ _ _ ub),
      step _ _ g1 _ (.bool r) (.bool r') (r == r') n1 (by rw [t1, o1]; exact hpart _ _ ub rfl _ _ _ rfl) (by rw [t1, o1]; exact hpart _ _ ub rfl _ _ _ rfl) (by rw [t1]; exact run_equalIn_bool' w d _ _ _ ub),
      step _ _ g2 _ (.bool t) (.bool t') (t == t') n2 (by rw [t2, o2]; exact hpart _ _ ub rfl _ _ _ rfl) (by rw [t2, o2]; exact hpart _ _ ub rfl _ _ _ rfl) (by rw [t2]; exact run_equalIn_bool' w d _ _ _ ub),
      step _ _ g3 _ (.int .i64 f) (.int .i64 f') (f == f') n3 (by rw [t3, o3]; exact hpart _ _ ui rfl _ _ _ rfl) (by rw [t3, o3]; exact hpart _ _ ui rfl _ _ _ rfl) (by rw [t3]; exact run_equalIn_int w d _ .i64 .i64 _ _ ui)]
    by_cases e1 : v = v'
    · by_cases e2 : r = r'
      · by_cases e3 : t = t'
        · by_cases e4 : f = f'
          · simp [e1, e2, e3, e4, Op.eqFields]
          · simp [e1, e2, e3, e4]
        · simp [e1, e2, e3]
      · simp [e1, e2]
    · simp [e1]
theorem run_eqE (v r t : Bool) (f : Int) (v' r' t' : Bool) (f' : Int) (b : Bool) (hb : decide (v = v' ∧ r = r' ∧ t = t' ∧ f = f') = b) (w : World) :
    (Op.equalIn 10000 34 (.agg #[.bool v, .bool r, .bool t, .int .i64 f]) (.agg #[.bool v', .bool r', .bool t', .int .i64 f'])).run Tryd.prog w = .ok b w := by
  subst hb
  exact run_eqEd 9998 v r t f v' r' t' f' w
end Go.Proofs.YtfdnfllefednjaaDoor

/-
  Contracts of package entry: Index, Split, Word, Of, Page.
-/
namespace Go.Proofs.YtfdnfllefednjaaDoor
open Go.ChangeShapes Go.WideShapes Go.ChangeAt Go.RowKit

theorem i64_u64 (x : Int) (h1 : 0 ≤ x) (h2 : x ≤ 9223372036854775807) : IntKind.i64.wrap x = x := IntWalk.i64_in _ (by omega)
set_option maxHeartbeats 400000 in
theorem eindex_yes (q l : Int) (p : Nat) (v : Int) (w : World) (T : Tab w) (hl : l = (p : Int) - 4) (hp : p = 4 ∨ p = 5 ∨ p = 6) (h1 : 0 ≤ q) (h2 : q ≤ 4095) (hv : getP q p = v) (hv0 : 0 ≤ v) (hv1 : v ≤ 15) :
    Calls Tryd.prog 90 #[.int .i64 q, .int .i64 l] w fun e w' => e = .returned (.tuple #[.int .i64 v, .int .i64 0]) ∧ ∃ n, w' = w.drewN n := by
  have hc := Lib.hid (eget_any q p w T (by omega) h1 (by omega))
  rw [hv] at hc
  clear hv T
  rcases hp with rfl | rfl | rfl
  all_goals
    subst hl
    go_enter Tryd.func90, Tryd.ntmps90
    go_wp2_with fail
    refine hc.out.mono ?_
    rintro e w1 ⟨rfl, n1, rfl⟩
    go_wp2
    go_ret2
    exact ⟨rfl, _, rfl⟩
set_option maxHeartbeats 400000 in
theorem eindex_no (q l : Int) (w : World) (h : idxB q l = false) :
    Calls Tryd.prog 90 #[.int .i64 q, .int .i64 l] w fun e w' => e = .returned (.tuple #[.int .i64 0, .int .i64 1]) ∧ ∃ n, w' = w.drewN n := by
  have h := of_decide_eq_false h
  by_cases h1 : q < 0
  · clear h
    go_enter Tryd.func90, Tryd.ntmps90
    go_wp2
    go_ret2
    exact ⟨rfl, 0, rfl⟩
  · by_cases h2 : 4096 ≤ q
    · clear h
      go_enter Tryd.func90, Tryd.ntmps90
      go_wp2
      go_ret2
      exact ⟨rfl, 0, rfl⟩
    · by_cases h3 : l < 0
      · clear h
        go_enter Tryd.func90, Tryd.ntmps90
        go_wp2
        go_ret2
        exact ⟨rfl, 0, rfl⟩
      · have h4 : 3 ≤ l := by omega
        clear h
        go_enter Tryd.func90, Tryd.ntmps90
        go_wp2
        go_ret2
        exact ⟨rfl, 0, rfl⟩
theorem eindex_any (q l : Int) (w : World) (T : Tab w) :
    Calls Tryd.prog 90 #[.int .i64 q, .int .i64 l] w fun e w' => e = .returned (.tuple #[.int .i64 (idxI q l), .int .i64 (errB (idxB q l))]) ∧ ∃ n, w' = w.drewN n := by
  cases h : idxB q l
  · have e : idxI q l = 0 := by unfold idxI; rw [if_neg (by rw [h]; decide)]
    rw [e]
    exact eindex_no q l w h
  · obtain ⟨h1, h2, h3, h4⟩ := of_decide_eq_true h
    have e : idxI q l = (if l = 0 then q / 256 else if l = 1 then q / 16 % 16 else q % 16) := by unfold idxI; rw [if_pos h]
    rw [e]
    by_cases l0 : l = 0
    · rw [if_pos l0]
      exact eindex_yes q l 4 _ w T (by omega) (.inl rfl) h1 h2 (by rw [getP4 q h1]; omega) (by omega) (by omega)
    · rw [if_neg l0]
      by_cases l1 : l = 1
      · rw [if_pos l1]
        exact eindex_yes q l 5 _ w T (by omega) (.inr (.inl rfl)) h1 h2 (by rw [getP5 q h1]) (by omega) (by omega)
      · rw [if_neg l1]
        exact eindex_yes q l 6 _ w T (by omega) (.inr (.inr rfl)) h1 h2 (by rw [getP6 q h1]) (by omega) (by omega)
set_option maxHeartbeats 400000 in
theorem esplit_any (a : Int) (w : World) (T : Tab w) :
    Calls Tryd.prog 59 #[.int .i64 a] w fun e w' => e = .returned (.tuple #[.int .i64 (spP a), .int .i64 (spO a), .int .i64 (errB (spB a))]) ∧ ∃ n, w' = w.drewN n := by
  cases h : spB a
  · have e1 : spP a = 0 := by unfold spP; rw [if_neg (by rw [h]; decide)]
    have e2 : spO a = 0 := by unfold spO; rw [if_neg (by rw [h]; decide)]
    rw [e1, e2, show errB false = 1 from rfl]
    have h := of_decide_eq_false h
    by_cases h1 : a < 0
    · clear h e1 e2
      go_enter Tryd.func59, Tryd.ntmps59
      go_wp2
      go_ret3
      exact ⟨rfl, 0, rfl⟩
    · have h2 : 65536 ≤ a := by omega
      clear h e1 e2
      go_enter Tryd.func59, Tryd.ntmps59
      go_wp2
      go_ret3
      exact ⟨rfl, 0, rfl⟩
  · have e1 : spP a = a / 16 := by unfold spP; rw [if_pos h]
    have e2 : spO a = a % 16 := by unfold spO; rw [if_pos h]
    rw [e1, e2, show errB true = 0 from rfl]
    obtain ⟨h1, h2⟩ := of_decide_eq_true h
    have v1 : getP a 7 = a / 16 := by rw [getP7 a h1]; omega
    have c1 := Lib.hid (eget_any a 7 w T (by omega) h1 (by omega))
    have c2 := Lib.hid (fun n => eget_any a 8 (w.drewN n) (T.drew n) (by omega) h1 (by omega))
    rw [v1] at c1
    have c3 : Hid (∀ n, _) := Lib.hid (fun n => (getP8 a h1) ▸ c2.out n)
    clear e1 e2 v1 h c2 T
    obtain ⟨p, hp⟩ : ∃ p, p = a / 16 := ⟨_, rfl⟩
    obtain ⟨o, ho⟩ : ∃ o, o = a % 16 := ⟨_, rfl⟩
    have b1 : 0 ≤ p := by omega
    have b2 : p ≤ 4095 := by omega
    have b3 : 0 ≤ o := by omega
    have b4 : o ≤ 15 := by omega
    rw [← hp] at c1 ⊢
    rw [← ho] at c3 ⊢
    clear hp ho
    go_enter Tryd.func59, Tryd.ntmps59
    go_wp2_with fail
    refine c1.out.mono ?_
    rintro e w1 ⟨rfl, n1, rfl⟩
    go_wp2_with fail
    refine (c3.out n1).mono ?_
    rintro e w1 ⟨rfl, n2, rfl⟩
    go_wp2
    go_ret3
    exact ⟨rfl, _, rfl⟩
end Go.Proofs.YtfdnfllefednjaaDoor

/-
  Contracts of package entry: Word, Of, Page.
-/
namespace Go.Proofs.YtfdnfllefednjaaDoor
open Go.ChangeShapes Go.WideShapes Go.ChangeAt Go.RowKit

set_option maxHeartbeats 400000 in
theorem eword_zero (w : World) :
    Calls Tryd.prog 51 #[entV false false false 0] w fun e w' => e = .returned (.tuple #[.int .u64 0, .int .i64 0]) ∧ Upd (fun _ => False) w w' := by
  have he := run_eqE false false false 0 false false false 0 true (by decide)
  go_enter Tryd.func51, Tryd.ntmps51
  go_wp2
  go_ret2
  exact ⟨rfl, (Upd.refl _ _).alloc _⟩
set_option maxHeartbeats 400000 in
theorem eword_bad0 (r t : Bool) (f : Int) (w : World) (h : rightB false r t f = false) :
    Calls Tryd.prog 51 #[entV false r t f] w fun e w' => e = .returned (.tuple #[.int .u64 0, .int .i64 1]) ∧ Upd (fun _ => False) w w' := by
  have he := run_eqE false r t f false false false 0 false (by simp [rightB] at h; simp; exact h)
  clear h
  go_enter Tryd.func51, Tryd.ntmps51
  go_wp2
  go_ret2
  exact ⟨rfl, (Upd.refl _ _).alloc _⟩
set_option maxHeartbeats 400000 in
theorem eword_bad1 (f : Int) (w : World) :
    Calls Tryd.prog 51 #[entV true true true f] w fun e w' => e = .returned (.tuple #[.int .u64 0, .int .i64 1]) ∧ Upd (fun _ => False) w w' := by
  have he := run_eqE true true true f false false false 0 false (by simp)
  go_enter Tryd.func51, Tryd.ntmps51
  go_wp2
  go_ret2
  exact ⟨rfl, (Upd.refl _ _).alloc _⟩
set_option maxHeartbeats 400000 in
theorem eword_bad2 (r t : Bool) (f y : Int) (w : World) (T : Tab w) (hrt : (r && t) = false) (hy : IntKind.u64.wrap f = y) (hf : fitP y 3 = false) :
    Calls Tryd.prog 51 #[entV true r t f] w fun e w' => e = .returned (.tuple #[.int .u64 0, .int .i64 1]) ∧ Upd (fun _ => False) w w' := by
  have he := run_eqE true r t f false false false 0 false (by simp)
  have hc := Lib.hid (fun W (T : Tab W) => eput_any 0 y 3 W T (by omega) (by omega) (by omega))
  rw [hf] at hc
  have hu := Lib.hid hy
  clear hy
  cases r
  · go_enter Tryd.func51, Tryd.ntmps51
    go_wp2_with fail
    rw [hu.out]
    refine (hc.out _ (T.kept ((Upd.refl _ _).alloc _))).mono ?_
    rintro e w1 ⟨rfl, n1, rfl⟩
    go_wp2
    go_ret2
    exact ⟨rfl, ((Upd.refl _ _).alloc _).drewN _⟩
  · obtain rfl : t = false := by simpa using hrt
    go_enter Tryd.func51, Tryd.ntmps51
    go_wp2_with fail
    rw [hu.out]
    refine (hc.out _ (T.kept ((Upd.refl _ _).alloc _))).mono ?_
    rintro e w1 ⟨rfl, n1, rfl⟩
    go_wp2
    go_ret2
    exact ⟨rfl, ((Upd.refl _ _).alloc _).drewN _⟩
theorem put3 (f : Int) (h0 : 0 ≤ f) : putP 0 f 3 = 256 * f := by rw [putP_val 0 f 3 8 8 rfl rfl (by omega) h0]; simp
theorem flag0 (f : Int) (h0 : 0 ≤ f) : flagP (256 * f) true 0 = 256 * f + 1 := by
  unfold flagP; rw [if_pos rfl, putP_val _ 1 0 0 1 rfl rfl (by omega) (by omega)]; simp; omega
theorem flag1 (f : Int) (r : Bool) (h0 : 0 ≤ f) : flagP (256 * f + 1) r 1 = 256 * f + 1 + bI r 2 := by
  unfold flagP bI
  cases r
  · simp
  · rw [if_pos rfl, if_pos rfl, putP_val _ 1 1 1 1 rfl rfl (by omega) (by omega)]; simp; omega
theorem flag2 (f : Int) (r t : Bool) (h0 : 0 ≤ f) : flagP (256 * f + 1 + bI r 2) t 2 = 256 * f + 1 + bI r 2 + bI t 4 := by
  unfold flagP
  have hb : 0 ≤ bI r 2 ∧ bI r 2 ≤ 2 := by unfold bI; split <;> omega
  cases t
  · simp [bI]
  · rw [if_pos rfl, putP_val _ 1 2 2 1 rfl rfl (by omega) (by omega), show bI true 4 = 4 from rfl]; simp; omega
theorem bI_bd (b : Bool) (k : Int) (h : 0 ≤ k) : 0 ≤ bI b k ∧ bI b k ≤ k := by unfold bI; split <;> omega
set_option maxHeartbeats 1000000 in
theorem eword_yes (r t : Bool) (f : Int) (w : World) (T : Tab w) (hrt : (r && t) = false) (h0 : 0 ≤ f) (h1 : f ≤ 255) :
    Calls Tryd.prog 51 #[entV true r t f] w fun e w' => e = .returned (.tuple #[.int .u64 (256 * f + 1 + bI r 2 + bI t 4), .int .i64 0]) ∧ Upd (fun _ => False) w w' := by
  have he := run_eqE true r t f false false false 0 false (by simp)
  have b1 := bI_bd r 2 (by omega)
  have b2 := bI_bd t 4 (by omega)
  have hc := Lib.hid (fun W (T : Tab W) => eput_any 0 f 3 W T (by omega) (by omega) (by omega))
  have hfit : fitP f 3 = true := by rw [fit3]; simp; omega
  rw [hfit, if_pos rfl, put3 f h0] at hc
  have f0 := Lib.hid (fun W (T : Tab W) => eflag_any (256 * f) true 0 W T (by omega) (by omega) (by omega))
  have f1 := Lib.hid (fun W (T : Tab W) => eflag_any (256 * f + 1) r 1 W T (by omega) (by omega) (by omega))
  have f2 := Lib.hid (fun W (T : Tab W) => eflag_any (256 * f + 1 + bI r 2) t 2 W T (by omega) (by omega) (by omega))
  rw [flag0 f h0] at f0
  rw [flag1 f r h0] at f1
  rw [flag2 f r t h0] at f2
  have hu := Lib.hid (wrap_same f h0 (by omega))
  obtain ⟨x0, e0⟩ : ∃ x, x = 256 * f := ⟨_, rfl⟩
  obtain ⟨x1, e1⟩ : ∃ x, x = 256 * f + 1 := ⟨_, rfl⟩
  obtain ⟨x2, e2⟩ : ∃ x, x = 256 * f + 1 + bI r 2 := ⟨_, rfl⟩
  obtain ⟨x3, e3⟩ : ∃ x, x = 256 * f + 1 + bI r 2 + bI t 4 := ⟨_, rfl⟩
  rw [← e3] at f2 ⊢
  rw [← e2] at f1 f2
  rw [← e1] at f0 f1
  rw [← e0] at hc f0
  clear e0 e1 e2 e3 b1 b2 hfit h0 h1
  cases r
  · go_enter Tryd.func51, Tryd.ntmps51
    go_wp2_with fail
    rw [hu.out]
    refine (hc.out _ (T.kept ((Upd.refl _ _).alloc _))).mono ?_
    rintro e w1 ⟨rfl, n1, rfl⟩
    go_wp2_with fail
    refine (f0.out _ (T.kept (((Upd.refl _ _).alloc _).drewN _))).mono ?_
    rintro e w1 ⟨rfl, n2, rfl⟩
    go_wp2_with fail
    refine (f1.out _ (T.kept (((Upd.refl _ _).alloc _).drewN _))).mono ?_
    rintro e w1 ⟨rfl, n3, rfl⟩
    go_wp2_with fail
    refine (f2.out _ (T.kept (((Upd.refl _ _).alloc _).drewN _))).mono ?_
    rintro e w1 ⟨rfl, n4, rfl⟩
    go_wp2
    go_ret2
    exact ⟨rfl, ((Upd.refl _ _).alloc _).drewN _⟩
  · obtain rfl : t = false := by simpa using hrt
    go_enter Tryd.func51, Tryd.ntmps51
    go_wp2_with fail
    rw [hu.out]
    refine (hc.out _ (T.kept ((Upd.refl _ _).alloc _))).mono ?_
    rintro e w1 ⟨rfl, n1, rfl⟩
    go_wp2_with fail
    refine (f0.out _ (T.kept (((Upd.refl _ _).alloc _).drewN _))).mono ?_
    rintro e w1 ⟨rfl, n2, rfl⟩
    go_wp2_with fail
    refine (f1.out _ (T.kept (((Upd.refl _ _).alloc _).drewN _))).mono ?_
    rintro e w1 ⟨rfl, n3, rfl⟩
    go_wp2_with fail
    refine (f2.out _ (T.kept (((Upd.refl _ _).alloc _).drewN _))).mono ?_
    rintro e w1 ⟨rfl, n4, rfl⟩
    go_wp2
    go_ret2
    exact ⟨rfl, ((Upd.refl _ _).alloc _).drewN _⟩
theorem wordI_no {v r t : Bool} {f : Int} (h : rightB v r t f = false) : wordI v r t f = 0 := by unfold wordI; rw [if_neg (by rw [h]; decide)]
theorem wordI_yes {r t : Bool} {f : Int} (h : rightB true r t f = true) : wordI true r t f = 256 * f + 1 + bI r 2 + bI t 4 := by unfold wordI; rw [if_pos h, if_pos rfl]; omega
theorem eword_any (v r t : Bool) (f : Int) (w : World) (T : Tab w) (hw : (Lit.int .i64 f).wf = true) :
    Calls Tryd.prog 51 #[entV v r t f] w fun e w' => e = .returned (.tuple #[.int .u64 (wordI v r t f), .int .i64 (wordE v r t f)]) ∧ Upd (fun _ => False) w w' := by
  have hb := bounds_i64 hw
  cases h : rightB v r t f
  · rw [wordI_no h, show wordE v r t f = 1 from by unfold wordE; rw [h]; rfl]
    cases v
    · exact eword_bad0 r t f w h
    · cases hrt : r && t
      · refine eword_bad2 r t f _ w T hrt rfl ?_
        rw [fit3]
        have := wrap_fits f 255 (by omega) (by omega) hb.1 hb.2
        simp only [this, decide_eq_false_iff_not]
        simpa [rightB, hrt] using h
      · obtain ⟨rfl, rfl⟩ : r = true ∧ t = true := by simpa using hrt
        exact eword_bad1 f w
  · rw [show wordE v r t f = 0 from by unfold wordE; rw [h]; rfl]
    cases v
    · obtain ⟨⟨rfl, rfl⟩, rfl⟩ : (r = false ∧ t = false) ∧ f = 0 := by simpa [rightB] using h
      exact eword_zero w
    · rw [wordI_yes h]
      have h' : (0 ≤ f ∧ f ≤ 255) ∧ (r && t) = false := by revert h; cases r <;> cases t <;> simp [rightB]
      exact eword_yes r t f w T h'.2 h'.1.1 h'.1.2
end Go.Proofs.YtfdnfllefednjaaDoor
