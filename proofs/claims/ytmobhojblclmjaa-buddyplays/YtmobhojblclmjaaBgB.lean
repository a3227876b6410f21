/-
  Package buddy: New and Left.
-/
import Derived.Test.YtmobhojblclmjaaBgA
namespace Go.Proofs.Ytmobhojblclmjaa
open Go.ChangeShapes Go.WideShapes Go.ChangeAt Go.RowKit Go.Maps

set_option maxHeartbeats 400000 in
theorem bNew_nil (r : Int) (w : World) :
    Calls Try.prog 13 #[.pointer none, .int .i64 r] w fun e w' => e = .returned (.tuple #[.pointer none, .int .i64 1]) ∧ w = w' := by
  go_enter Try.func13, Try.ntmps13
  go_wp2
  go_ret2
  exact ⟨rfl, rfl⟩
set_option maxHeartbeats 400000 in
theorem bNew_no (MA : Nat) (m : Mem) (r : Int) (w : World) (h : MemAt w MA m) (hr : r < 0 ∨ (m.n : Int) < r) :
    Calls Try.prog 13 #[.pointer (some ⟨MA, 0, none⟩), .int .i64 r] w fun e w' => e = .returned (.tuple #[.pointer none, .int .i64 1]) ∧ w = w' := by
  by_cases h0 : r < 0
  · clear hr
    go_enter Try.func13, Try.ntmps13
    go_wp2
    go_ret2
    exact ⟨rfl, rfl⟩
  · have h1 : (m.n : Int) < r := by omega
    clear hr
    go_enter Try.func13, Try.ntmps13
    go_wp2_with fail
    refine (frames_any MA m _ h).mono ?_
    rintro e w' ⟨rfl, rfl⟩
    go_wp2
    go_ret2
    exact ⟨rfl, rfl⟩
set_option maxHeartbeats 400000 in
theorem bNew_yes (MA : Nat) (m : Mem) (r : Nat) (w : World) (h : MemAt w MA m) (hr : r ≤ m.n) :
    Calls Try.prog 13 #[.pointer (some ⟨MA, 0, none⟩), .int .i64 r] w fun e w' => e = .returned (.tuple #[.pointer (some ⟨w.heap.size + 1, 0, none⟩), .int .i64 0]) ∧ BudAt w' (w.heap.size + 1) MA w.heap.size (bud0 m.n r) ∧ Upd (fun _ => False) w w' ∧ w'.heap.size = w.heap.size + 2 := by
  have hmk := run_makeMap (P := Try.prog) 73 w
  go_enter Try.func13, Try.ntmps13
  go_wp2_with fail
  refine (frames_any MA m _ h).mono ?_
  rintro e w' ⟨rfl, rfl⟩
  go_wp2
  go_ret2
  have hm0 : (w.alloc (.map #[] 0)).ownsMap Try.prog 3 (plainElem (H := Unit) Try.prog 3) w.heap.size 0 (.map []) := World.ownsMap_made w _ _ _
  refine ⟨rfl, ⟨?_, ⟨_, (hm0.alloc _).mono (by omega), mapOf_nil⟩, bud0_ok h.lo h.hi hr⟩, ((Upd.refl _ _).alloc _).alloc _, by simp⟩
  have := heap_alloc_last (w.alloc (.map #[] 0)) (.cells #[.pointer (some ⟨MA, 0, none⟩), .int .i64 r, .map (some w.heap.size)] 75)
  rw [show (w.alloc (.map #[] 0)).heap.size = w.heap.size + 1 from by simp] at this
  exact this

theorem left_sum {b : Bud} (h : b.Ok) : b.left + (b.gave.map fun x => 2 ^ x.2).sum = b.n - b.res := by
  obtain ⟨L, hL⟩ : ∃ L, b.gave.length = L := ⟨_, rfl⟩
  induction L generalizing b with
  | zero =>
    have hg : b.gave = [] := List.length_eq_zero_iff.1 hL
    have key : ∀ n, n ≤ b.n → cnt b.F n = n - b.res := by
      intro n
      induction n with
      | zero => intro _; simp [cnt]
      | succ n ih =>
        intro hn
        rw [cnt_succ, ih (by omega)]
        by_cases h1 : b.res ≤ n
        · rw [(h.fr n).2 ⟨h1, by omega, fun x hx => by rw [hg] at hx; cases hx⟩]
          simp; omega
        · have : b.F n = false := by
            cases hF : b.F n
            · rfl
            · have := ((h.fr n).1 hF).1; omega
          rw [this]; simp; omega
    rw [hg]
    have := key b.n (Nat.le_refl _)
    simp [Bud.left, this]
  | succ L ih =>
    cases hg : b.gave with
    | nil => rw [hg] at hL; cases hL
    | cons x r =>
      have hx : x ∈ b.gave := by rw [hg]; simp
      have e : (b.take x).gave = r := by show b.gave.erase x = r; rw [hg]; simp
      have h1 := ih (h.take hx) (by rw [e]; rw [hg] at hL; simpa using hL)
      rw [left_take h hx, e] at h1
      have h2 : (b.take x).n = b.n ∧ (b.take x).res = b.res := ⟨rfl, rfl⟩
      rw [h2.1, h2.2] at h1
      simp only [List.map_cons, List.sum_cons]
      omega
/-- how many frames the blocks have that the loop has met -/
def metSum (g : List (Nat × Nat)) (left : Lit → Bool) : Nat := (g.map fun x => cond (left (kf x.1)) 0 (2 ^ x.2)).sum
theorem metSum_none {g : List (Nat × Nat)} {left : Lit → Bool} (h : ∀ x, x ∈ g → left (kf x.1) = true) : metSum g left = 0 := by
  unfold metSum
  induction g with
  | nil => rfl
  | cons x r ih => rw [List.map_cons, List.sum_cons, h x (by simp), ih fun y hy => h y (by simp [hy])]; simp
theorem metSum_all {g : List (Nat × Nat)} {left : Lit → Bool} (h : ∀ kl, left kl = false) : metSum g left = (g.map fun x => 2 ^ x.2).sum := by
  unfold metSum
  simp [h]
theorem metSum_step {g : List (Nat × Nat)} (left : Lit → Bool) {x : Nat × Nat} (hn : g.Nodup) (hk : ∀ y, y ∈ g → y.1 = x.1 → y = x) (hx : x ∈ g) (hl : left (kf x.1) = true) : metSum g (fun z => left z && !z.sameKey (kf x.1)) = metSum g left + 2 ^ x.2 := by
  have other : ∀ y, y ≠ x → (∀ z, z ∈ g → z.1 = x.1 → z = x) → y ∈ g → (left (kf y.1) && !(kf y.1).sameKey (kf x.1)) = left (kf y.1) := by
    intro y hy hk hyg
    rw [kf_same, decide_eq_false fun e => hy (hk y hyg e)]
    simp
  unfold metSum
  induction g with
  | nil => cases hx
  | cons y r ih =>
    rw [List.nodup_cons] at hn
    simp only [List.map_cons, List.sum_cons]
    rcases List.mem_cons.1 hx with e | hx'
    · subst e
      have e1 : (left (kf x.1) && !(kf x.1).sameKey (kf x.1)) = false := by rw [kf_same]; simp
      rw [e1, hl]
      have e2 : (r.map fun y => cond (left (kf y.1) && !(kf y.1).sameKey (kf x.1)) 0 (2 ^ y.2)) = r.map fun y => cond (left (kf y.1)) 0 (2 ^ y.2) := by
        refine List.map_congr_left fun z hz => ?_
        rw [other z (fun e => hn.1 (e ▸ hz)) hk (by simp [hz])]
      rw [e2]; simp; omega
    · have hne : y ≠ x := fun e => hn.1 (e ▸ hx')
      rw [other y hne hk (by simp), ih hn.2 (fun z hz => hk z (by simp [hz])) hx' (fun z hz hk' hzg => other z hz hk (by simp [hzg]))]
      omega
theorem metSum_le {b : Bud} (h : b.Ok) (left : Lit → Bool) : metSum b.gave left ≤ b.n - b.res := by
  have h1 := left_sum h
  have h2 : ∀ g : List (Nat × Nat), metSum g left ≤ (g.map fun x => 2 ^ x.2).sum := by
    intro g
    unfold metSum
    induction g with
    | nil => simp
    | cons x r ih => simp only [List.map_cons, List.sum_cons]; have := Nat.two_pow_pos x.2; cases left (kf x.1) <;> simp only [cond_true, cond_false] <;> omega
  have := h2 b.gave
  omega
theorem MapOf.entry {D : DataW Unit} {g : List (Nat × Nat)} (h : MapOf D g) {x c : Int} (hat : ∀ zd, D.atKey (.int .i64 x) zd = .lit (.int .i64 c)) : ∃ y, y ∈ g ∧ x = y.1 ∧ c = y.2 := by
  obtain ⟨y, hy, e⟩ := h.has _ (has_true_of_atKey hat)
  have e1 := h.get y hy (.lit (.int .i64 0))
  rw [← e, hat] at e1
  unfold kf at e
  injection e with _ e
  injection e1 with e1
  injection e1 with _ e1
  exact ⟨y, hy, e, e1⟩
set_option maxRecDepth 100000 in
set_option maxHeartbeats 1000000 in
theorem bLeft_any (A MA GB : Nat) (m : Mem) (b : Bud) (w : World) (h : BudAt w A MA GB b) (hm : MemAt w MA m) (hn : m.n = b.n) :
    Calls Try.prog 28 #[.pointer (some ⟨A, 0, none⟩)] w fun e w' => e = .returned (.int .i64 b.left) ∧ Upd (fun _ => False) w w' := by
  have hc0 := h.c0
  have hc1 := h.c1
  have hc2 := h.c2
  obtain ⟨D, hD, hM⟩ := h.mp
  have hF := Lib.hid (show ∀ q, Calls Try.prog 31 #[.pointer (some ⟨MA, 0, none⟩)] (w.drewN q) fun e w'' => e = .returned (.int .i64 m.n) ∧ ∃ p, w'' = w.drewN p from fun q => still0 (frames_any _ _ _ (hm.kept ((Upd.refl (fun _ => False) _).drewN q) (fun h => h) (fun h => h))))
  rw [hn] at hF
  have h1 := h.ok.rs
  have h2 := h.ok.hi
  have hok := Lib.hid h.ok
  have hGB := hD.lt
  obtain ⟨N, hN⟩ : ∃ N, w.heap.size = N := ⟨_, rfl⟩
  go_enter Try.func28, Try.ntmps28
  go_wp2
  go_quiet ((go_at_call 31; exact hF.out _))
  have hD2 : ∀ q, (w.drewN q).ownsMap Try.prog 3 (plainElem Try.prog 3) GB 256 D := fun q => map_kept hD ((Upd.refl (fun _ => False) w).drewN q) (fun h => h)
  go_wp2_with (first
    | (at_range; refine wpList_range_own _ rfl _ 73 rfl 3 3 keyLaw Try.underlying73 _ GB 256 D rfl (hD2 _) ?_; intro w0 hrg0 hg0 hs0)
    | go_in)
  go_frame
  rw [show (w.drewN nq).heap.size = N from hN]
  have hU0 : Upd (fun _ => False) w w0 := (((Upd.refl (fun _ => False) w).drewN _).trans (upd_grown0 hg0))
  have hs0' : w0.heap.size = N + 1 := by rw [hs0, ← hN]; rfl
  have hrg0' : w0.ranges Try.prog 3 (plainElem Try.prog 3) GB N 256 D (Maps.has D) (Maps.size D) := by rw [← hN]; exact hrg0
  clear hrg0 hg0 hs0 hD2
  go_loopw [3, 5] (fun t _ wr => ∃ (left : Lit → Bool) (cnt : Nat), t = .int .i64 ((b.n - b.res - metSum b.gave left : Nat) : Int) ∧ wr.ranges Try.prog 3 (plainElem Try.prog 3) GB N 256 D left cnt ∧ Upd (fun _ => False) w wr) (fun _ _ wr => wr.rangeLeft GB N)
  case atStart => exact ⟨_, _, by rw [metSum_none fun x hx => hM.mem hx]; congr 1; omega, hrg0', hU0⟩
  case round =>
    obtain ⟨left, cnt, rfl, hrg, hU⟩ := hrel
    go_wp2_with (first
      | (at_next; refine wpList_next_ranges_ii _ rfl _ rfl 3 3 .i64 .i64 keyLaw Try.underlying3 Try.underlying3 GB N 256 _ _ _ rfl hrg ?_ ?_)
      | go_in)
    · intro _ hl0
      have hv := Lib.hid (show b.n - b.res - metSum b.gave left = b.left from by rw [metSum_all hl0]; have := left_sum hok.out; omega)
      rw [hv.out]
      go_wp2
      go_ret
      exact ⟨rfl, hU⟩
    · intro x c w1 cnt1 hwx hwc hlx hat hrg1 hlt hg1 hs1 hen
      obtain ⟨y, hy, rfl, rfl⟩ := hM.entry hat
      have hy8 := (hok.out.blk y hy).1
      have hst := Lib.hid (metSum_step left hok.out.nodup (fun z hz e => hok.out.key hz hy e) hy hlx)
      have hle := metSum_le hok.out (fun z => left z && !z.sameKey (kf y.1))
      have hpw := Lib.hid (show pw y.2 = ((2 ^ y.2 : Nat) : Int) from rfl)
      have hbd := pw_bd y.2 hy8
      have hU1 : Upd (fun _ => False) w w1 := ⟨hg1.os.trans hU.os, hg1.tape.trans hU.tape, hg1.output.trans hU.output, Nat.le_trans hU.size hg1.size, fun k hk hs => (hg1.block k (Nat.lt_of_lt_of_le hk hU.size) (by intro e; injection e with e; omega)).trans (hU.block k hk hs)⟩
      have Hrg1 := Lib.hid hrg1
      clear hrg1 hwx hwc hlx hat hg1 hs1
      rw [hst.out] at hle
      have hle' : (b.n - b.res - metSum b.gave left : Nat) ≥ 0 := Nat.zero_le _
      have e1 := Lib.hid (show (((b.n - b.res - metSum b.gave left : Nat) : Int) - pw y.2) = ((b.n - b.res - metSum b.gave (fun z => left z && !z.sameKey (kf y.1)) : Nat) : Int) from by rw [hst.out, hpw.out]; have hp := Nat.two_pow_pos y.2; generalize 2 ^ y.2 = p at hp hle ⊢; omega)
      have hbd2 : b.n - b.res - metSum b.gave left ≤ 256 := by omega
      clear hle hle' hst hpw
      generalize b.n - b.res - metSum b.gave left = S at e1 hbd2 ⊢
      go_wp2_with (first
        | (with_reducible refine wpList_shl1 rfl _ _ _ _ rfl rfl y.2 hy8 rfl ?_)
        | go_in)
      exact ⟨⟨fun z => left z && !z.sameKey (kf y.1), cnt1, by rw [e1.out], Hrg1.out, hU1⟩, by rw [Hrg1.out.left_eq, hrg.left_eq]; exact hlt⟩
end Go.Proofs.Ytmobhojblclmjaa
