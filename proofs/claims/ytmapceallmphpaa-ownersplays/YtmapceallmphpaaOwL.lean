/-
  What the laws of layer 5 ask of package owners, as one bundle of contracts, and the laws' awake over it.
-/
import Derived.Test.YtmapceallmphpaaOwM
import Derived.Test.YtmapceallmphpaaFrame
namespace Go.Proofs.Ytmapceallmphpaa
open Go.ChangeShapes Go.WideShapes Go.ChangeAt Go.RowKit

/-- a number that an int64 can be -/
def in64 (x : Int) : Prop := -9223372036854775808 ≤ x ∧ x ≤ 9223372036854775807
theorem in64_small {x : Int} (h1 : -1000 ≤ x) (h2 : x ≤ 1000) : in64 x := ⟨by omega, by omega⟩
/-- package owners keeps to its document: OAt w A S o: the owners o lie at A, in the blocks S -/
structure OwC (OAt : World → Nat → (Nat → Prop) → Ow → Prop) : Prop where
  kept : ∀ {T S : Nat → Prop} {w w' : World} {A : Nat} {o : Ow}, OAt w A S o → Upd T w w' → (∀ k, S k → ¬ T k) → OAt w' A S o
  ok : ∀ {S : Nat → Prop} {w : World} {A : Nat} {o : Ow}, OAt w A S o → o.Ok
  lt : ∀ {S : Nat → Prop} {w : World} {A : Nat} {o : Ow}, OAt w A S o → ∀ k, S k → k < w.heap.size
  new_no : ∀ (n : Int) (w : World), n < 1 ∨ 256 < n → Calls Try.prog 8 #[.int .i64 n] w fun e w' => e = .returned (.tuple #[.pointer none, .int .i64 1]) ∧ Upd (fun _ => False) w w'
  new_yes : ∀ (n : Nat) (w : World), 1 ≤ n → n ≤ 256 → Calls Try.prog 8 #[.int .i64 n] w fun e w' => ∃ (A : Nat) (S : Nat → Prop), e = .returned (.tuple #[.pointer (some ⟨A, 0, none⟩), .int .i64 0]) ∧ OAt w' A S (ow0 n) ∧ (∀ k, S k → w.heap.size ≤ k) ∧ Upd (fun _ => False) w w'
  give : ∀ {S : Nat → Prop} {w : World} {A : Nat} {o : Ow} (f k v : Int), OAt w A S o → in64 f → in64 k → in64 v → Calls Try.prog 10 #[.pointer (some ⟨A, 0, none⟩), .int .i64 f, .int .i64 k, .int .i64 v] w fun e w' => e = .returned (.int .i64 (o.giveE f k v)) ∧ OAt w' A S (o.give f k v) ∧ Upd S w w'
  take : ∀ {S : Nat → Prop} {w : World} {A : Nat} {o : Ow} (f k v : Int), OAt w A S o → in64 f → in64 k → in64 v → Calls Try.prog 12 #[.pointer (some ⟨A, 0, none⟩), .int .i64 f, .int .i64 k, .int .i64 v] w fun e w' => e = .returned (.int .i64 (o.takeE f k v)) ∧ OAt w' A S (o.take f k v) ∧ Upd S w w'
  quota : ∀ {S : Nat → Prop} {w : World} {A : Nat} {o : Ow} (v m : Int), OAt w A S o → in64 v → in64 m → Calls Try.prog 14 #[.pointer (some ⟨A, 0, none⟩), .int .i64 v, .int .i64 m] w fun e w' => e = .returned (.int .i64 (o.quotaE v m)) ∧ OAt w' A S (o.quota v m) ∧ Upd S w w'
  of_ : ∀ {S : Nat → Prop} {w : World} {A : Nat} {o : Ow} (f : Int), OAt w A S o → Calls Try.prog 16 #[.pointer (some ⟨A, 0, none⟩), .int .i64 f] w fun e w' => e = .returned (.int .i64 (o.of f)) ∧ w = w'
  count_ : ∀ {S : Nat → Prop} {w : World} {A : Nat} {o : Ow} (v : Int), OAt w A S o → Calls Try.prog 18 #[.pointer (some ⟨A, 0, none⟩), .int .i64 v] w fun e w' => e = .returned (.int .i64 (o.count v)) ∧ w = w'
section
variable {OAt : World → Nat → (Nat → Prop) → Ow → Prop}
theorem OwC.still (K : OwC OAt) {S : Nat → Prop} {w w' : World} {A : Nat} {o : Ow} (h : OAt w A S o) (u : Upd (fun _ => False) w w') : OAt w' A S o := K.kept h u fun _ _ h => h
theorem OwC.of (K : OwC OAt) {S : Nat → Prop} {w : World} {A : Nat} {o : Ow} (f : Int) (h : OAt w A S o) (_ : in64 f) : Calls Try.prog 16 #[.pointer (some ⟨A, 0, none⟩), .int .i64 f] w fun e w' => e = .returned (.int .i64 (o.of f)) ∧ Upd (fun _ => False) w w' := (K.of_ f h).mono fun _ _ ⟨he, hw⟩ => ⟨he, hw ▸ Upd.refl _ _⟩
theorem OwC.count (K : OwC OAt) {S : Nat → Prop} {w : World} {A : Nat} {o : Ow} (v : Int) (h : OAt w A S o) (_ : in64 v) : Calls Try.prog 18 #[.pointer (some ⟨A, 0, none⟩), .int .i64 v] w fun e w' => e = .returned (.int .i64 (o.count v)) ∧ Upd (fun _ => False) w w' := (K.count_ v h).mono fun _ _ ⟨he, hw⟩ => ⟨he, hw ▸ Upd.refl _ _⟩
theorem Upd.newer {S : Nat → Prop} {a c d : World} (h : Upd (fun _ => False) a c) (k : Upd S c d) (hs : ∀ j, S j → a.heap.size ≤ j) : Upd (fun _ => False) a d :=
  ⟨k.os.trans h.os, k.tape.trans h.tape, k.output.trans h.output, Nat.le_trans h.size k.size, fun i hi hf => (k.block i (Nat.lt_of_lt_of_le hi h.size) fun hj => by have := hs i hj; omega).trans (h.block i hi hf)⟩
end
theorem aw_a : (ow0 8).quotaE 2 3 = 0 := by decide
theorem aw_b : ((ow0 8).quota 2 3).giveE 0 4 2 = 12 := by decide
theorem aw_c : ((ow0 8).quota 2 3).giveE 0 3 2 = 0 := by decide
theorem aw_d : (((ow0 8).quota 2 3).give 0 3 2).giveE 2 1 1 = 4 := by decide
theorem aw_e : (((ow0 8).quota 2 3).give 0 3 2).count 2 = 3 := by decide
theorem aw_f : (((ow0 8).quota 2 3).give 0 3 2).of 2 = 2 := by decide
theorem aw_g : (((ow0 8).quota 2 3).give 0 3 2).of 3 = -1 := by decide
set_option maxHeartbeats 1000000 in
theorem awake_any {OAt : World → Nat → (Nat → Prop) → Ow → Prop} (K : OwC OAt) (w : World) : Calls Try.prog 7 #[] w fun e w' => e = .returned (.bool true) ∧ Upd (fun _ => False) w w' := by
  go_enter Try.func7, Try.ntmps7
  go_wp2_with fail
  refine (K.new_yes 8 _ (by omega) (by omega)).mono ?_
  rintro e w1 ⟨A, S, rfl, O1, hS, U1⟩
  go_wp2_with fail
  refine (K.quota 2 3 O1 (in64_small (by omega) (by omega)) (in64_small (by omega) (by omega))).mono ?_
  rintro e w2 ⟨rfl, O2, U2⟩
  rw [aw_a]
  have V2 := U1.newer U2 hS
  clear O1 U1 U2
  go_wp2_with fail
  refine (K.give 0 4 2 O2 (in64_small (by omega) (by omega)) (in64_small (by omega) (by omega)) (in64_small (by omega) (by omega))).mono ?_
  rintro e w3 ⟨rfl, O3, U3⟩
  rw [give_no (by rw [aw_b]; decide)] at O3
  rw [aw_b]
  have V3 := V2.newer U3 hS
  clear O2 V2 U3
  go_wp2_with fail
  refine (K.give 0 3 2 O3 (in64_small (by omega) (by omega)) (in64_small (by omega) (by omega)) (in64_small (by omega) (by omega))).mono ?_
  rintro e w4 ⟨rfl, O4, U4⟩
  rw [aw_c]
  have V4 := V3.newer U4 hS
  clear O3 V3 U4
  go_wp2_with fail
  refine (K.give 2 1 1 O4 (in64_small (by omega) (by omega)) (in64_small (by omega) (by omega)) (in64_small (by omega) (by omega))).mono ?_
  rintro e w5 ⟨rfl, O5, U5⟩
  rw [give_no (by rw [aw_d]; decide)] at O5
  rw [aw_d]
  have V5 := V4.newer U5 hS
  clear O4 V4 U5
  go_wp2_with fail
  refine (K.count 2 O5 (in64_small (by omega) (by omega))).mono ?_
  rintro e w6 ⟨rfl, U6⟩
  rw [aw_e]
  have O6 := K.still O5 U6
  have V6 := V5.trans U6
  clear O5 V5 U6
  go_wp2_with fail
  refine (K.of 2 O6 (in64_small (by omega) (by omega))).mono ?_
  rintro e w7 ⟨rfl, U7⟩
  rw [aw_f]
  have O7 := K.still O6 U7
  have V7 := V6.trans U7
  clear O6 V6 U7
  go_wp2_with fail
  refine (K.of 3 O7 (in64_small (by omega) (by omega))).mono ?_
  rintro e w8 ⟨rfl, U8⟩
  rw [aw_g]
  go_wp2
  go_ret
  exact ⟨rfl, V7.trans U8⟩
end Go.Proofs.Ytmapceallmphpaa
