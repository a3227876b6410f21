/-
  Package owners, in plain numbers: whose each frame is (-1: no one's), how many each may have.
-/
import Derived.Test.YtmapceallmphpaaArr
namespace Go.Proofs.Ytmapceallmphpaa

/-- how many frames there are, whose each is, how many each owner may have -/
structure Ow where
  n : Nat
  f : Nat → Int
  most : Nat → Int
def ow0 (n : Nat) : Ow := ⟨n, fun _ => -1, fun _ => 256⟩
structure Ow.Ok (o : Ow) : Prop where
  lo : 1 ≤ o.n
  hi : o.n ≤ 256
  fr : ∀ j, -1 ≤ o.f j ∧ o.f j ≤ 8
  ms : ∀ w, 0 ≤ o.most w ∧ o.most w ≤ 256
theorem ow0_ok {n : Nat} (h1 : 1 ≤ n) (h2 : n ≤ 256) : (ow0 n).Ok := ⟨h1, h2, fun _ => by simp [ow0], fun _ => by simp [ow0]⟩
/-- how many of the first k are one's -/
def cnto (f : Nat → Int) (w : Int) : Nat → Nat
  | 0 => 0
  | k + 1 => cnto f w k + (if f k = w then 1 else 0)
theorem cnto_le (f : Nat → Int) (w : Int) : ∀ k, cnto f w k ≤ k
  | 0 => Nat.le_refl _
  | k + 1 => by
    have := cnto_le f w k
    rw [cnto]
    split <;> omega
def Ow.count (o : Ow) (w : Int) : Nat := if 0 ≤ w then cnto o.f w o.n else 0
theorem Ow.count_le (o : Ow) (w : Int) : o.count w ≤ o.n := by
  unfold Ow.count
  split
  · exact cnto_le _ _ _
  · exact Nat.zero_le _
def Ow.of (o : Ow) (j : Int) : Int := if 0 ≤ j ∧ j < o.n then o.f j.toNat else -1
/-- is the range there? -/
def Ow.are (o : Ow) (f k : Int) : Bool := decide (1 ≤ k ∧ k ≤ o.n ∧ 0 ≤ f ∧ f ≤ o.n - k)
def who9 (w : Int) : Bool := decide (0 ≤ w ∧ w ≤ 8)
theorem are_iff {o : Ow} {f k : Int} : o.are f k = true ↔ 1 ≤ k ∧ k ≤ o.n ∧ 0 ≤ f ∧ f ≤ o.n - k := by unfold Ow.are; rw [decide_eq_true_iff]
/-- are all frames of the range w's? -/
def Ow.all (o : Ow) (f k : Nat) (w : Int) : Bool := (List.range k).all fun j => decide (o.f (f + j) = w)
theorem all_iff {o : Ow} {f k : Nat} {w : Int} : o.all f k w = true ↔ ∀ j, f ≤ j → j < f + k → o.f j = w := by
  unfold Ow.all
  rw [List.all_eq_true]
  constructor
  · intro h j h1 h2
    have := h (j - f) (by simp; omega)
    rw [show f + (j - f) = j from by omega] at this
    exact of_decide_eq_true this
  · intro h j hj
    simp at hj
    exact decide_eq_true (h (f + j) (by omega) (by omega))
/-- the range set to one's -/
def setR (g : Nat → Int) (f k : Nat) (w : Int) : Nat → Int := fun j => if f ≤ j ∧ j < f + k then w else g j
theorem setR_zero (g : Nat → Int) (f : Nat) (w : Int) : setR g f 0 w = g := by funext j; unfold setR; rw [if_neg (by omega)]
theorem cnto_set (g : Nat → Int) (f k : Nat) (w v : Int) : ∀ n, f + k ≤ n → (∀ j, f ≤ j → j < f + k → g j ≠ v) → cnto (setR g f k w) v n = cnto g v n + (if w = v then k else 0) := by
  have key : ∀ n, (∀ j, f ≤ j → j < f + k → g j ≠ v) → cnto (setR g f k w) v n = cnto g v n + (if w = v then min n (f + k) - min n f else 0) := by
    intro n hne
    induction n with
    | zero => simp [cnto]
    | succ n ih =>
      rw [cnto, cnto, ih]
      unfold setR
      by_cases h : f ≤ n ∧ n < f + k
      · rw [if_pos h, if_neg (hne n h.1 h.2)]
        by_cases hw : w = v
        · simp only [hw, if_true]; omega
        · simp only [hw, if_false]
      · rw [if_neg h]
        by_cases hw : w = v
        · simp only [hw, if_true]; omega
        · simp only [hw, if_false]; omega
  intro n hn hne
  rw [key n hne]
  by_cases hw : w = v
  · simp only [hw, if_true]; omega
  · simp only [hw, if_false]
theorem cnto_unset (g : Nat → Int) (f k : Nat) (w v : Int) (hv : v ≠ w) : ∀ n, f + k ≤ n → (∀ j, f ≤ j → j < f + k → g j = w) → cnto (setR g f k v) w n + k = cnto g w n := by
  have key : ∀ n, (∀ j, f ≤ j → j < f + k → g j = w) → cnto (setR g f k v) w n + (min n (f + k) - min n f) = cnto g w n := by
    intro n hall
    induction n with
    | zero => simp [cnto]
    | succ n ih =>
      rw [cnto, cnto]
      unfold setR at ih ⊢
      by_cases h : f ≤ n ∧ n < f + k
      · simp only [if_pos h, hall n h.1 h.2, if_true, if_neg hv]
        omega
      · simp only [if_neg h]
        split <;> omega
  intro n hn hall
  have := key n hall
  rw [Nat.min_eq_right hn, Nat.min_eq_right (by omega)] at this
  omega
/-- Give -/
def Ow.giveE (o : Ow) (f k w : Int) : Int := if o.are f k && who9 w then (if o.all f.toNat k.toNat (-1) then (if (o.count w : Int) + k ≤ o.most w.toNat then 0 else 12) else 4) else 1
def Ow.give (o : Ow) (f k w : Int) : Ow := if o.giveE f k w = 0 then { o with f := setR o.f f.toNat k.toNat w } else o
/-- Take -/
def Ow.takeE (o : Ow) (f k w : Int) : Int := if o.are f k && who9 w then (if o.all f.toNat k.toNat w then 0 else 2) else 1
def Ow.take (o : Ow) (f k w : Int) : Ow := if o.takeE f k w = 0 then { o with f := setR o.f f.toNat k.toNat (-1) } else o
/-- Quota -/
def Ow.quotaE (o : Ow) (w m : Int) : Int := if who9 w && decide (0 ≤ m ∧ m ≤ 256) then (if (o.count w : Int) ≤ m then 0 else 12) else 1
def Ow.quota (o : Ow) (w m : Int) : Ow := if o.quotaE w m = 0 then { o with most := fun j => if j = w.toNat then m else o.most j } else o
theorem who9_iff {w : Int} : who9 w = true ↔ 0 ≤ w ∧ w ≤ 8 := by unfold who9; rw [decide_eq_true_iff]
theorem giveE_ok {o : Ow} {f k w : Int} (h : o.giveE f k w = 0) : o.are f k = true ∧ who9 w = true ∧ o.all f.toNat k.toNat (-1) = true ∧ (o.count w : Int) + k ≤ o.most w.toNat := by
  unfold Ow.giveE at h
  by_cases h1 : (o.are f k && who9 w) = true
  · rw [if_pos h1] at h
    rw [Bool.and_eq_true] at h1
    by_cases h2 : o.all f.toNat k.toNat (-1) = true
    · rw [if_pos h2] at h
      by_cases h3 : (o.count w : Int) + k ≤ o.most w.toNat
      · exact ⟨h1.1, h1.2, h2, h3⟩
      · rw [if_neg h3] at h; cases h
    · rw [if_neg h2] at h; cases h
  · rw [if_neg h1] at h; cases h
theorem takeE_ok {o : Ow} {f k w : Int} (h : o.takeE f k w = 0) : o.are f k = true ∧ who9 w = true ∧ o.all f.toNat k.toNat w = true := by
  unfold Ow.takeE at h
  by_cases h1 : (o.are f k && who9 w) = true
  · rw [if_pos h1] at h
    rw [Bool.and_eq_true] at h1
    by_cases h2 : o.all f.toNat k.toNat w = true
    · exact ⟨h1.1, h1.2, h2⟩
    · rw [if_neg h2] at h; cases h
  · rw [if_neg h1] at h; cases h
theorem quotaE_ok {o : Ow} {w m : Int} (h : o.quotaE w m = 0) : who9 w = true ∧ 0 ≤ m ∧ m ≤ 256 ∧ (o.count w : Int) ≤ m := by
  unfold Ow.quotaE at h
  by_cases h1 : (who9 w && decide (0 ≤ m ∧ m ≤ 256)) = true
  · rw [if_pos h1] at h
    rw [Bool.and_eq_true, decide_eq_true_iff] at h1
    by_cases h2 : (o.count w : Int) ≤ m
    · exact ⟨h1.1, h1.2.1, h1.2.2, h2⟩
    · rw [if_neg h2] at h; cases h
  · rw [if_neg h1] at h; cases h
theorem Ow.Ok.give {o : Ow} (h : o.Ok) (f k w : Int) : (o.give f k w).Ok := by
  unfold Ow.give
  by_cases he : o.giveE f k w = 0
  · rw [if_pos he]
    have hw := who9_iff.1 (giveE_ok he).2.1
    refine ⟨h.lo, h.hi, fun j => ?_, h.ms⟩
    show -1 ≤ setR o.f _ _ w j ∧ setR o.f _ _ w j ≤ 8
    unfold setR
    split
    · omega
    · exact h.fr j
  · rw [if_neg he]; exact h
theorem Ow.Ok.take {o : Ow} (h : o.Ok) (f k w : Int) : (o.take f k w).Ok := by
  unfold Ow.take
  by_cases he : o.takeE f k w = 0
  · rw [if_pos he]
    refine ⟨h.lo, h.hi, fun j => ?_, h.ms⟩
    show -1 ≤ setR o.f _ _ (-1) j ∧ setR o.f _ _ (-1) j ≤ 8
    unfold setR
    split
    · omega
    · exact h.fr j
  · rw [if_neg he]; exact h
theorem Ow.Ok.quota {o : Ow} (h : o.Ok) (w m : Int) : (o.quota w m).Ok := by
  unfold Ow.quota
  by_cases he : o.quotaE w m = 0
  · rw [if_pos he]
    have hq := quotaE_ok he
    refine ⟨h.lo, h.hi, h.fr, fun j => ?_⟩
    show 0 ≤ (if j = w.toNat then m else o.most j) ∧ (if j = w.toNat then m else o.most j) ≤ 256
    split
    · omega
    · exact h.ms j
  · rw [if_neg he]; exact h
/-- each frame is one's at most: the counts of all owners come to the frames that are someone's -/
def sumC (f : Nat → Int) (n : Nat) : Nat → Nat
  | 0 => 0
  | w + 1 => sumC f n w + cnto f (w : Int) n
def ownd (f : Nat → Int) : Nat → Nat
  | 0 => 0
  | k + 1 => ownd f k + (if 0 ≤ f k then 1 else 0)
theorem sumC_succ (f : Nat → Int) (n : Nat) : ∀ w, sumC f (n + 1) w = sumC f n w + (if 0 ≤ f n ∧ f n < (w : Int) then 1 else 0)
  | 0 => by rw [sumC, sumC, if_neg (by omega)]
  | w + 1 => by
    rw [sumC, sumC, sumC_succ f n w, cnto]
    by_cases h : f n = (w : Int)
    · rw [if_pos h, if_neg (by omega), if_pos (by omega)]; omega
    · rw [if_neg h]
      by_cases h2 : 0 ≤ f n ∧ f n < (w : Int)
      · rw [if_pos h2, if_pos (by omega)]; omega
      · rw [if_neg h2, if_neg (by omega)]; omega
theorem sum_ownd (f : Nat → Int) (hf : ∀ j, f j ≤ 8) : ∀ n, sumC f n 9 = ownd f n
  | 0 => by simp [sumC, ownd, cnto]
  | n + 1 => by
    rw [sumC_succ, sum_ownd f hf n, ownd]
    by_cases h : 0 ≤ f n
    · rw [if_pos h, if_pos ⟨h, by have := hf n; omega⟩]
    · rw [if_neg h, if_neg (fun e => h e.1)]
/-- no one has more than it may -/
def Ow.Fits (o : Ow) : Prop := ∀ w : Nat, w ≤ 8 → (o.count (w : Int) : Int) ≤ o.most w
theorem fits0 (n : Nat) (hn : n ≤ 256) : (ow0 n).Fits := fun w _ => by
  have := (ow0 n).count_le (w : Int)
  show ((ow0 n).count (w : Int) : Int) ≤ 256
  have e : (ow0 n).n = n := rfl
  omega
theorem count_nat (o : Ow) (w : Nat) : o.count (w : Int) = cnto o.f (w : Int) o.n := by unfold Ow.count; rw [if_pos (by omega)]
/-- what a Give does to the counts -/
theorem give_count {o : Ow} {f k w : Int} (he : o.giveE f k w = 0) (v : Nat) : ((o.give f k w).count (v : Int) : Int) = (o.count (v : Int) : Int) + (if w = (v : Int) then k else 0) := by
  obtain ⟨h1, h2, h3, h4⟩ := giveE_ok he
  obtain ⟨a1, a2, a3, a4⟩ := are_iff.1 h1
  rw [count_nat, count_nat]
  unfold Ow.give
  rw [if_pos he]
  show ((cnto (setR o.f f.toNat k.toNat w) (v : Int) o.n : Nat) : Int) = _
  rw [cnto_set o.f f.toNat k.toNat w (v : Int) o.n (by omega) (fun j hj1 hj2 e => by
    have := all_iff.1 h3 j hj1 hj2
    omega)]
  by_cases hw : w = (v : Int)
  · rw [if_pos hw, if_pos hw]; omega
  · rw [if_neg hw, if_neg hw]; omega
/-- what a Take does to the counts -/
theorem take_count {o : Ow} {f k w : Int} (he : o.takeE f k w = 0) (v : Nat) : ((o.take f k w).count (v : Int) : Int) + (if w = (v : Int) then k else 0) = (o.count (v : Int) : Int) := by
  obtain ⟨h1, h2, h3⟩ := takeE_ok he
  obtain ⟨a1, a2, a3, a4⟩ := are_iff.1 h1
  rw [count_nat, count_nat]
  unfold Ow.take
  rw [if_pos he]
  show ((cnto (setR o.f f.toNat k.toNat (-1)) (v : Int) o.n : Nat) : Int) + _ = _
  by_cases hw : w = (v : Int)
  · rw [if_pos hw]
    have := cnto_unset o.f f.toNat k.toNat (v : Int) (-1) (by omega) o.n (by omega) (fun j hj1 hj2 => by rw [← hw]; exact all_iff.1 h3 j hj1 hj2)
    omega
  · rw [if_neg hw, cnto_set o.f f.toNat k.toNat (-1) (v : Int) o.n (by omega) (fun j hj1 hj2 e => by
      have := all_iff.1 h3 j hj1 hj2
      omega), if_neg (by omega)]
    omega
theorem give_no {o : Ow} {f k w : Int} (he : o.giveE f k w ≠ 0) : o.give f k w = o := by unfold Ow.give; rw [if_neg he]
theorem take_no {o : Ow} {f k w : Int} (he : o.takeE f k w ≠ 0) : o.take f k w = o := by unfold Ow.take; rw [if_neg he]
theorem quota_no {o : Ow} {w m : Int} (he : o.quotaE w m ≠ 0) : o.quota w m = o := by unfold Ow.quota; rw [if_neg he]
theorem Ow.Fits.give {o : Ow} (h : o.Fits) (f k w : Int) : (o.give f k w).Fits := by
  by_cases he : o.giveE f k w = 0
  · obtain ⟨h1, h2, h3, h4⟩ := giveE_ok he
    have hw := who9_iff.1 h2
    intro v hv
    rw [give_count he v]
    have hm : (o.give f k w).most v = o.most v := by unfold Ow.give; rw [if_pos he]
    rw [hm]
    by_cases e : w = (v : Int)
    · rw [if_pos e]
      have : w.toNat = v := by omega
      rw [this, e] at h4
      exact h4
    · rw [if_neg e]
      have := h v hv
      omega
  · rw [give_no he]; exact h
theorem Ow.Fits.take {o : Ow} (h : o.Fits) (f k w : Int) : (o.take f k w).Fits := by
  by_cases he : o.takeE f k w = 0
  · obtain ⟨h1, h2, h3⟩ := takeE_ok he
    obtain ⟨a1, a2, a3, a4⟩ := are_iff.1 h1
    intro v hv
    have hc := take_count he v
    have hm : (o.take f k w).most v = o.most v := by unfold Ow.take; rw [if_pos he]
    rw [hm]
    have := h v hv
    by_cases e : w = (v : Int)
    · rw [if_pos e] at hc; omega
    · rw [if_neg e] at hc; omega
  · rw [take_no he]; exact h
theorem Ow.Fits.quota {o : Ow} (h : o.Fits) (w m : Int) : (o.quota w m).Fits := by
  by_cases he : o.quotaE w m = 0
  · obtain ⟨h1, h2, h3, h4⟩ := quotaE_ok he
    have hw := who9_iff.1 h1
    intro v hv
    unfold Ow.quota
    rw [if_pos he]
    show (o.count (v : Int) : Int) ≤ (if v = w.toNat then m else o.most v)
    by_cases e : v = w.toNat
    · rw [if_pos e, e]
      have : ((w.toNat : Nat) : Int) = w := by omega
      rw [this]
      exact h4
    · rw [if_neg e]; exact h v hv
  · rw [quota_no he]; exact h
end Go.Proofs.Ytmapceallmphpaa
