/-
  What the laws do with an allocator: an Alloc of whatever order, a Free of a block that is given; the operations' cells.
-/
import Derived.Test.YtmobhojblclmjaaBgI
import Derived.Test.YtmobhojblclmjaaFrame
import Derived.Deep.DeepCutAuto
import Derived.Deep.CutBlock
import Derived.Deep.RegionHeld3
namespace Go.Proofs.Ytmobhojblclmjaa
open Go.ChangeShapes Go.WideShapes Go.ChangeAt Go.RowKit Go.Maps

theorem below_none {w w' : World} (h : Upd (fun _ => False) w w') : Below w.heap.size w w' := h.below (Nat.le_refl _) (fun _ _ e => e)
/-- an operation's four cells -/
theorem op_cells {w : World} {ao : Option Addr} {n b off : Nat} {E : Nat → Nat → Value} (R : Fr.RowArg w ao n b off [some .i64, some .i64, some .i64, some .u64] E) (i : Nat) (hi : i < n) :
    ∃ d N o W : Int, w.cell? ⟨b, off + i * 4, none⟩ = some (.int .i64 d) ∧ w.cell? ⟨b, off + i * 4 + 1, none⟩ = some (.int .i64 N) ∧ w.cell? ⟨b, off + i * 4 + 2, none⟩ = some (.int .i64 o) ∧ w.cell? ⟨b, off + i * 4 + 3, none⟩ = some (.int .u64 W) ∧
      (Lit.int .i64 d).wf = true ∧ (Lit.int .i64 N).wf = true ∧ (Lit.int .i64 o).wf = true ∧ (Lit.int .u64 W).wf = true := by
  obtain ⟨d, e0, w0⟩ := R.ok i hi 0 _ rfl
  obtain ⟨N, e1, w1⟩ := R.ok i hi 1 _ rfl
  obtain ⟨o, e2, w2⟩ := R.ok i hi 2 _ rfl
  obtain ⟨W, e3, w3⟩ := R.ok i hi 3 _ rfl
  refine ⟨d, N, o, W, ?_, ?_, ?_, ?_, w0, w1, w2, w3⟩
  · have := R.cell i hi 0 (by decide); rw [e0] at this; simpa [Nat.add_assoc] using this
  · have := R.cell i hi 1 (by decide); rw [e1] at this; simpa [Nat.add_assoc] using this
  · have := R.cell i hi 2 (by decide); rw [e2] at this; simpa [Nat.add_assoc] using this
  · have := R.cell i hi 3 (by decide); rw [e3] at this; simpa [Nat.add_assoc] using this
theorem Duo.ne {w : World} {A MA GB : Nat} {m : Mem} {b : Bud} (h : Duo w A MA GB m b) : A ≠ GB ∧ A ≠ MA ∧ A ≠ m.B ∧ GB ≠ MA ∧ GB ≠ m.B ∧ MA ≠ m.B := by
  obtain ⟨a1, a2, a3, a4⟩ := h.B.apart h.M
  exact ⟨h.B.ne, a1, a2, a3, a4, h.M.ne⟩
theorem Duo.gb {w w' : World} {A MA GB : Nat} {m : Mem} {b b' : Bud} (h : Duo w A MA GB m b) (B : BudAt w' A MA GB b') (u : Upd (· = GB) w w') (hn : b'.n = b.n) : Duo w' A MA GB m b' :=
  ⟨B, h.M.kept u (fun e => h.ne.2.2.2.1 e.symm) (fun e => h.ne.2.2.2.2.1 e.symm), by rw [hn]; exact h.n⟩
/-- an Alloc of whatever order -/
theorem balloc_all (A MA GB : Nat) (m : Mem) (b : Bud) (o : Int) (w : World) (h : Duo w A MA GB m b) :
    Calls Try.prog 15 #[.pointer (some ⟨A, 0, none⟩), .int .i64 o] w fun e w' => ∃ (x y : Int) (b' : Bud), e = .returned (.tuple #[.int .i64 x, .int .i64 y]) ∧ Duo w' A MA GB m b' ∧ b'.n = b.n ∧ b'.res = b.res ∧ Upd (· = GB) w w' := by
  by_cases ho : 0 ≤ o ∧ o ≤ 8
  · obtain ⟨k, rfl⟩ := Int.eq_ofNat_of_zero_le ho.1
    refine (bAlloc_any A MA GB m b k w h.B h.M h.n (by omega)).mono ?_
    rintro e w' (⟨_, rfl, U⟩ | ⟨x, _, rfl, B, U⟩)
    · exact ⟨_, _, b, rfl, h.still U, rfl, rfl, U.mono fun _ _ h => h.elim⟩
    · exact ⟨_, _, _, rfl, h.gb B U rfl, rfl, rfl, U⟩
  · refine (bAlloc_bad A o w (by omega)).mono ?_
    rintro e w' ⟨rfl, rfl⟩
    exact ⟨_, _, b, rfl, h, rfl, rfl, Upd.refl _ _⟩
/-- a Free of a block that is given -/
theorem bfree_yes (A MA GB : Nat) (m : Mem) (b : Bud) (x : Nat × Nat) (w : World) (h : Duo w A MA GB m b) (hx : x ∈ b.gave) :
    Calls Try.prog 17 #[.pointer (some ⟨A, 0, none⟩), .int .i64 x.1, .int .i64 x.2] w fun e w' => e = .returned (.int .i64 0) ∧ Duo w' A MA GB (m.scrub x.1 ((2 ^ x.2 : Nat) : Int)) (b.take x) ∧ Upd (fun k => k = GB ∨ k = m.B) w w' := by
  obtain ⟨x8, xal, xr, xn⟩ := h.B.ok.blk x hx
  have hhi := h.B.ok.hi
  refine (bFree_any A MA GB m b x.1 x.2 w h.B h.M (wf_frame (by have := Nat.two_pow_pos x.2; omega))).mono ?_
  rintro e w' (⟨hno, _⟩ | ⟨y, hy, e1, e2, rfl, B, M, U⟩)
  · have := hno x hx
    simp [isB] at this
  · obtain rfl : y = x := Prod.ext (by omega) (by omega)
    exact ⟨rfl, ⟨B, M, by rw [Mem.scrub_n]; exact h.n⟩, U⟩
theorem Since.kept {B A MA GB : Nat} {m m' : Mem} (h : Since B A MA GB m) (e : m'.B = m.B) : Since B A MA GB m' := ⟨h.a, h.ma, h.gb, by rw [e]; exact h.mb⟩
theorem Upd.since {S : Nat → Prop} {a c d : World} (h : Upd (fun _ => False) a c) (k : Upd S c d) (hs : ∀ j, S j → a.heap.size ≤ j) : Upd (fun _ => False) a d :=
  ⟨k.os.trans h.os, k.tape.trans h.tape, k.output.trans h.output, Nat.le_trans h.size k.size, fun i hi hf => (k.block i (Nat.lt_of_lt_of_le hi h.size) fun hj => by have := hs i hj; omega).trans (h.block i hi hf)⟩
/-- 1 << k at a step of a region that draws -/
theorem step_shl1 {P : Program} {ops : Array Oper} {o : Oper} {a : Act} {w : World} {K : Act → World → Prop} {Q : Exit → Act → World → Prop} {E : Prop} (hw : Region.wanted o (yielded ops a.tmps) = true) (t u : TypeId) (x y : Operand) (ho : o.op = .binOp .shl t x y u)
    (hx : a.eval x = .int .i64 1) (k : Nat) (hk : k ≤ 8) (hy : a.eval y = .int .i64 k) (h : K (a.put o.dst (.int .i64 (pw k))) w) :
    if Region.wanted o (yielded ops a.tmps) = true then Oper.wp P o a w K Q else E := by
  rw [if_pos hw]
  unfold Oper.wp execOp
  simp only [ho, hx, hy, eqGuard_shl, binOp_shl, shift_shl_any _ _ _ _ (Int.natCast_nonneg k), Sem.run_bind, Sem.run_pure, Result.andThen_ok, shl_pw k hk]
  exact h
theorem shl_pw2 (k : Nat) (hk : k ≤ 8) : IntKind.i64.wrap ((2 : Int) ^ k) = pw k := by
  unfold pw
  match k, hk with
  | 0, _ | 1, _ | 2, _ | 3, _ | 4, _ | 5, _ | 6, _ | 7, _ | 8, _ => rfl
theorem and7 (n : Int) : bits .and .i64 n 7 = n % 8 := by
  have h : (BitVec.ofInt 64 7).toNat = 2 ^ 3 - 1 := by decide
  have key : (BitVec.ofInt 64 n &&& BitVec.ofInt 64 7).toNat = (n % ((2 ^ 64 : Nat) : Int)).toNat % 2 ^ 3 := by
    rw [BitVec.toNat_and, BitVec.toNat_ofInt, h, Nat.and_two_pow_sub_one_eq_mod]
  show IntKind.i64.wrap ((BitVec.ofInt 64 n &&& BitVec.ofInt 64 7).toNat : Nat) = n % 8
  rw [key, IntKind.wrap_i64]
  omega
theorem and15 (n : Int) : bits .and .i64 n 15 = n % 16 := by
  have h : (BitVec.ofInt 64 15).toNat = 2 ^ 4 - 1 := by decide
  have key : (BitVec.ofInt 64 n &&& BitVec.ofInt 64 15).toNat = (n % ((2 ^ 64 : Nat) : Int)).toNat % 2 ^ 4 := by
    rw [BitVec.toNat_and, BitVec.toNat_ofInt, h, Nat.and_two_pow_sub_one_eq_mod]
  show IntKind.i64.wrap ((BitVec.ofInt 64 n &&& BitVec.ofInt 64 15).toNat : Nat) = n % 16
  rw [key, IntKind.wrap_i64]
  omega
/-- x == y at a step of a region that draws, its answer known -/
theorem step_eql {P : Program} {ops : Array Oper} {o : Oper} {a : Act} {w : World} {K : Act → World → Prop} {Q : Exit → Act → World → Prop} {E : Prop} (hw : Region.wanted o (yielded ops a.tmps) = true) (t u : TypeId) (x y : Operand) (ho : o.op = .binOp .eql t x y u)
    (k : IntKind) (p q : Int) (hx : a.eval x = .int k p) (hy : a.eval y = .int k q) (r : Bool) (hr : (p == q) = r) (h : K (a.put o.dst (.bool r)) w) :
    if Region.wanted o (yielded ops a.tmps) = true then Oper.wp P o a w K Q else E := by
  subst hr
  rw [if_pos hw]
  unfold Oper.wp execOp
  simp only [ho, hx, hy, eqGuard_at_int, binOp_eql, Sem.run_bind, Sem.run_pure, Result.andThen_ok]
  exact h
end Go.Proofs.Ytmobhojblclmjaa
