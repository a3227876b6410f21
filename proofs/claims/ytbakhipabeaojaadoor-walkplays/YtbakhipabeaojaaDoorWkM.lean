/-
  Plain mathematics of walks: entries at the places of tables, what is got and put there.
-/
import Derived.Test.YtbakhipabeaojaaDoorEnL
import Derived.Test.YtbakhipabeaojaaDoorMemR
import Derived.Test.YtbakhipabeaojaaDoorApp
namespace Go.Proofs.YtbakhipabeaojaaDoor
open Go.ChangeShapes Go.WideShapes Go.ChangeAt Go.RowKit

/-- an entry -/
structure En where
  v : Bool
  r : Bool
  t : Bool
  f : Int
def En.zero : En := ⟨false, false, false, 0⟩
abbrev En.val (e : En) : Value := entV e.v e.r e.t e.f
def En.ok (e : En) : Bool := rightB e.v e.r e.t e.f
def En.word (e : En) : Int := wordI e.v e.r e.t e.f
/-- the entry of a word -/
def enOf (x : Int) : En := ⟨ofV x, ofR x, ofT x, ofF x⟩
theorem enOf_no {x : Int} (h : ofB x = false) : enOf x = En.zero := by
  unfold enOf ofV ofR ofT ofF En.zero
  rw [h]
  simp
theorem enOf_yes {x : Int} (h : ofB x = true) : enOf x = ⟨pV x, pR x, pT x, pF x⟩ := by
  unfold enOf ofV ofR ofT ofF
  rw [h]
  simp
/-- all words are words -/
def Mem.good (m : Mem) : Prop := ∀ i, 0 ≤ m.at i ∧ m.at i < 18446744073709551616
def plB (p : Int) : Bool := decide (0 ≤ p ∧ p ≤ 15)
/-- is there such a place? -/
def Mem.slot (m : Mem) (f p : Int) : Bool := m.ex f 1 && plB p
def Mem.word (m : Mem) (f p : Int) : Int := m.at (f * 16 + p).toNat
def Mem.getE (m : Mem) (f p : Int) : En := if m.slot f p = true then enOf (m.word f p) else En.zero
def Mem.getX (m : Mem) (f p : Int) : Int := if m.slot f p = true then (if ofB (m.word f p) = true then 0 else 11) else 1
def Mem.putB (m : Mem) (f p : Int) (e : En) : Bool := m.slot f p && e.ok
def Mem.put (m : Mem) (f p : Int) (e : En) : Mem := if m.putB f p e = true then m.wr (f * 16 + p) e.word else m

theorem Mem.slot_iff (m : Mem) (f p : Int) : m.slot f p = true ↔ (0 ≤ f ∧ f < m.n) ∧ 0 ≤ p ∧ p ≤ 15 := by
  simp [Mem.slot, Mem.ex, plB]; omega
theorem Mem.slot_has (m : Mem) (f p : Int) (h : m.slot f p = true) : m.has (f * 16 + p) = true := by
  rw [Mem.slot_iff] at h
  exact decide_eq_true (by omega)
theorem Mem.slot_rd (m : Mem) (f p : Int) (h : m.slot f p = true) : m.rd (f * 16 + p) = m.word f p := by
  unfold Mem.rd
  rw [if_pos (m.slot_has f p h)]
  rfl
theorem Mem.put_B (m : Mem) (f p : Int) (e : En) : (m.put f p e).B = m.B := by unfold Mem.put; split; exact Mem.wr_B ..; rfl
theorem Mem.put_n (m : Mem) (f p : Int) (e : En) : (m.put f p e).n = m.n := by unfold Mem.put; split; exact Mem.wr_n ..; rfl
theorem Mem.put_ok (m : Mem) (h : m.ok) (f p : Int) (e : En) : (m.put f p e).ok := by unfold Mem.put; split; exact Mem.wr_ok _ h _ _; exact h
theorem Mem.put_slot (m : Mem) (f p : Int) (e : En) (g q : Int) : (m.put f p e).slot g q = m.slot g q := by
  unfold Mem.slot Mem.ex
  rw [Mem.put_n]
theorem Mem.at_lay1 (m : Mem) (o i : Nat) (v : Int) (h : o < m.ws.length) : (m.lay o [v]).at i = if i = o then v else m.at i := by
  unfold Mem.at Mem.lay
  show (splice m.ws o [v]).getD i 0 = _
  rw [getD_splice m.ws o [v] (by simp; omega) i 0]
  by_cases e : i = o
  · subst e
    simp
  · rw [if_neg (by simp; omega), if_neg e]
theorem Mem.at_wr (m : Mem) (hk : m.ok) (a v : Int) (h : m.has a = true) (i : Nat) : (m.wr a v).at i = if i = a.toNat then v else m.at i := by
  have h' := of_decide_eq_true h
  unfold Mem.wr
  rw [if_pos h]
  unfold Mem.ok at hk
  exact m.at_lay1 _ _ _ (by omega)
theorem bI_lo (b : Bool) (k : Int) (h : 0 ≤ k) : 0 ≤ bI b k ∧ bI b k ≤ k := by unfold bI; split <;> omega
theorem En.word_bd (e : En) : 0 ≤ e.word ∧ e.word < 65536 := by
  unfold En.word
  cases h : rightB e.v e.r e.t e.f
  · rw [wordI_no h]; omega
  · cases hv : e.v
    · unfold wordI; rw [hv] at h; rw [if_pos h]; simp
    · rw [hv] at h
      rw [wordI_yes h]
      have b1 := bI_lo e.r 2 (by omega)
      have b2 := bI_lo e.t 4 (by omega)
      have : 0 ≤ e.f ∧ e.f ≤ 255 := by revert h; simp [rightB]; omega
      omega
theorem Mem.wr_good (m : Mem) (hk : m.ok) (h : m.good) (a v : Int) (h0 : 0 ≤ v) (h1 : v < 18446744073709551616) : (m.wr a v).good := by
  intro i
  cases ha : m.has a
  · rw [Mem.wr_no m a v ha]; exact h i
  · rw [m.at_wr hk a v ha i]
    split
    · exact ⟨h0, h1⟩
    · exact h i
theorem Mem.put_good (m : Mem) (hk : m.ok) (h : m.good) (f p : Int) (e : En) : (m.put f p e).good := by
  unfold Mem.put
  split
  · have := e.word_bd
    exact m.wr_good hk h _ _ this.1 (by omega)
  · exact h
theorem Mem.new_good (B n : Nat) : (memNew B n).good := by
  intro i
  have : (memNew B n).at i = 0 := getD_replicate0 _ _
  rw [this]; omega
theorem Mem.word_wr (m : Mem) (hk : m.ok) (f p g q v : Int) (h : m.slot f p = true) (h' : m.slot g q = true) : (m.wr (f * 16 + p) v).word g q = if g = f ∧ q = p then v else m.word g q := by
  unfold Mem.word
  rw [m.at_wr hk _ _ (m.slot_has f p h)]
  rw [Mem.slot_iff] at h h'
  by_cases e : g = f ∧ q = p
  · rw [if_pos e, e.1, e.2, if_pos rfl]
  · rw [if_neg e, if_neg (by omega)]
/-- what was put is got -/
theorem of_word (e : En) (h : e.ok = true) : ofB e.word = true ∧ enOf e.word = e := by
  have hp : pV e.word = e.v ∧ pR e.word = e.r ∧ pT e.word = e.t ∧ pF e.word = e.f := by
    unfold En.word
    unfold En.ok at h
    obtain ⟨v, r, t, f⟩ := e
    simp only at h ⊢
    cases v
    · obtain ⟨⟨rfl, rfl⟩, rfl⟩ : (r = false ∧ t = false) ∧ f = 0 := by simpa [rightB] using h
      decide
    · rw [wordI_yes h]
      have h' : (0 ≤ f ∧ f ≤ 255) ∧ (r && t) = false := by revert h; cases r <;> cases t <;> simp [rightB]
      obtain ⟨⟨h0, h1⟩, hrt⟩ := h'
      unfold pV pR pT pF
      cases r <;> cases t
      · simp [bI]; omega
      · simp [bI]; omega
      · simp [bI]; omega
      · simp at hrt
  have hb : ofB e.word = true := by
    unfold ofB
    rw [hp.1, hp.2.1, hp.2.2.1, hp.2.2.2]
    unfold En.ok at h
    rw [h]
    simp [En.word]
  refine ⟨hb, ?_⟩
  rw [enOf_yes hb, hp.1, hp.2.1, hp.2.2.1, hp.2.2.2]
theorem Mem.put_getX (m : Mem) (hk : m.ok) (f p : Int) (e : En) (g q : Int) : (m.put f p e).getX g q = if m.putB f p e = true ∧ g = f ∧ q = p then 0 else m.getX g q := by
  unfold Mem.getX
  rw [Mem.put_slot]
  unfold Mem.put
  cases hb : m.putB f p e
  · simp
  · have hs : m.slot f p = true ∧ e.ok = true := by simpa [Mem.putB] using hb
    simp only [if_true, true_and]
    cases hq : m.slot g q
    · have : ¬ (g = f ∧ q = p) := by rintro ⟨rfl, rfl⟩; rw [hs.1] at hq; cases hq
      simp [this]
    · simp only [if_true]
      rw [m.word_wr hk f p g q _ hs.1 hq]
      by_cases e' : g = f ∧ q = p
      · rw [if_pos e', if_pos e', (of_word e hs.2).1]; rfl
      · rw [if_neg e', if_neg e']
theorem Mem.put_getE (m : Mem) (hk : m.ok) (f p : Int) (e : En) (g q : Int) : (m.put f p e).getE g q = if m.putB f p e = true ∧ g = f ∧ q = p then e else m.getE g q := by
  unfold Mem.getE
  rw [Mem.put_slot]
  unfold Mem.put
  cases hb : m.putB f p e
  · simp
  · have hs : m.slot f p = true ∧ e.ok = true := by simpa [Mem.putB] using hb
    simp only [if_true, true_and]
    cases hq : m.slot g q
    · have : ¬ (g = f ∧ q = p) := by rintro ⟨rfl, rfl⟩; rw [hs.1] at hq; cases hq
      simp [this]
    · simp only [if_true]
      rw [m.word_wr hk f p g q _ hs.1 hq]
      by_cases e' : g = f ∧ q = p
      · rw [if_pos e', if_pos e', (of_word e hs.2).2]
      · rw [if_neg e', if_neg e']
/-- the table of fields is not the memory's words -/
theorem Tab.apart {w : World} {A : Nat} {m : Mem} (T : Tab w) (h : MemAt w A m) : ¬ 0 = m.B := by
  intro e
  have h1 := (T 0 (by omega)).1
  have h2 := h.cellB 0 (by have := h.lo; omega)
  rw [← e] at h2
  rw [Nat.zero_mul, h2] at h1
  simp at h1
theorem Tab.apartR {w : World} {A : Nat} {m : Mem} (T : Tab w) (h : RefAt w A m) : ¬ 0 = m.B := by
  intro e
  have h1 := (T 0 (by omega)).1
  have h2 := h.cellB 0 (by have := h.lo; omega)
  rw [← e] at h2
  rw [Nat.zero_mul, h2] at h1
  simp at h1
theorem Tab.keptS {S : Nat → Prop} {w w' : World} (h : Tab w) (u : Upd S w w') (hs : ¬ S 0) : Tab w' := fun p hp => ⟨u.cell (h p hp).1 hs, u.cell (h p hp).2 hs⟩
end Go.Proofs.YtbakhipabeaojaaDoor
