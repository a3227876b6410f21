/-
  Plain facts on memories: what is read behind a write, a scrub, a fill.
-/
import Derived.Test.YtbakhipabeaojaaDoorMemE
namespace Go.Proofs.YtbakhipabeaojaaDoor
open Go.RowKit

theorem getD_splice {α : Type} (L : List α) (o : Nat) (vs : List α) (h : o + vs.length ≤ L.length) (i : Nat) (d : α) : (splice L o vs).getD i d = if o ≤ i ∧ i < o + vs.length then vs.getD (i - o) d else L.getD i d := by
  unfold splice
  simp only [List.getD_eq_getElem?_getD, List.getElem?_append, List.length_take, List.getElem?_take, List.getElem?_drop]
  rw [show min o L.length = o from by omega]
  by_cases h1 : i < o
  · simp [h1]; intro h2; omega
  · by_cases h2 : i < o + vs.length
    · have h3 : i - o < vs.length := by omega
      have h4 : o ≤ i ∧ i < o + vs.length := ⟨by omega, h2⟩
      simp [h1, h3, h4]
    · have h3 : ¬ i - o < vs.length := by omega
      have h4 : ¬ (o ≤ i ∧ i < o + vs.length) := by omega
      simp only [h1, h3, h4, if_false]
      rw [show o + vs.length + (i - o - vs.length) = i from by omega]
def Mem.ok (m : Mem) : Prop := m.ws.length = 16 * m.n
theorem MemAt.okm {w : World} {A : Nat} {m : Mem} (h : MemAt w A m) : m.ok := h.len
theorem Mem.wr_has (m : Mem) (a v b : Int) : (m.wr a v).has b = m.has b := by unfold Mem.has; rw [Mem.wr_n]
theorem Mem.wr_ex (m : Mem) (a v f k : Int) : (m.wr a v).ex f k = m.ex f k := by unfold Mem.ex; rw [Mem.wr_n]
theorem Mem.wr_rd (m : Mem) (h : m.ok) (a v b : Int) (ha : m.has a = true) : (m.wr a v).rd b = if b = a then v else m.rd b := by
  unfold Mem.rd
  rw [Mem.wr_has]
  cases hb : m.has b
  · simp only [Bool.false_eq_true, if_false]
    rw [if_neg (by intro e; rw [e, ha] at hb; cases hb)]
  · simp only [if_true]
    unfold Mem.wr
    rw [ha, if_pos rfl]
    obtain ⟨a1, a2⟩ := of_decide_eq_true ha
    obtain ⟨b1, b2⟩ := of_decide_eq_true hb
    unfold Mem.lay Mem.at
    unfold Mem.ok at h
    rw [getD_splice _ _ _ (by simp; omega)]
    by_cases e : b = a
    · subst e; simp
    · rw [if_neg e, if_neg (by simp; omega)]
theorem Mem.scrub_has (m : Mem) (f k b : Int) : (m.scrub f k).has b = m.has b := by unfold Mem.has Mem.scrub; split <;> rfl
theorem Mem.scrub_ex (m : Mem) (f k b c : Int) : (m.scrub f k).ex b c = m.ex b c := by unfold Mem.ex Mem.scrub; split <;> rfl
theorem Mem.fill_has (m : Mem) (f b : Int) (vs : List Int) : (m.fill f vs).has b = m.has b := by unfold Mem.has Mem.fill; split <;> rfl
theorem Mem.fill_ex (m : Mem) (f b c : Int) (vs : List Int) : (m.fill f vs).ex b c = m.ex b c := by unfold Mem.ex Mem.fill; split <;> rfl
theorem Mem.fill_B (m : Mem) (f : Int) (vs : List Int) : (m.fill f vs).B = m.B := by unfold Mem.fill; split <;> rfl
theorem Mem.scrub_B (m : Mem) (f k : Int) : (m.scrub f k).B = m.B := by unfold Mem.scrub; split <;> rfl
theorem Mem.fill_n (m : Mem) (f : Int) (vs : List Int) : (m.fill f vs).n = m.n := by unfold Mem.fill; split <;> rfl
theorem Mem.scrub_n (m : Mem) (f k : Int) : (m.scrub f k).n = m.n := by unfold Mem.scrub; split <;> rfl
theorem getD_replicate0 (k i : Nat) : (List.replicate k (0 : Int)).getD i 0 = 0 := by
  simp only [List.getD_eq_getElem?_getD, List.getElem?_replicate]
  split <;> rfl
theorem Mem.scrub_rd (m : Mem) (h : m.ok) (f k b : Int) (hf : m.ex f k = true) (hb : m.has b = true) : (m.scrub f k).rd b = if f ≤ b / 16 ∧ b / 16 < f + k then 0 else m.rd b := by
  unfold Mem.rd
  rw [Mem.scrub_has, hb]
  simp only [if_true]
  unfold Mem.scrub
  rw [hf, if_pos rfl]
  obtain ⟨a1, a2, a3⟩ := of_decide_eq_true hf
  obtain ⟨b1, b2⟩ := of_decide_eq_true hb
  unfold Mem.scrubN Mem.lay Mem.at
  unfold Mem.ok at h
  rw [getD_splice _ _ _ (by simp; omega), getD_replicate0]
  simp only [List.length_replicate]
  by_cases e : f ≤ b / 16 ∧ b / 16 < f + k
  · rw [if_pos e, if_pos (by omega)]
  · rw [if_neg e, if_neg (by omega)]
theorem Mem.fr_getD (m : Mem) (f i : Nat) (hi : i < 16) : (m.fr f).getD i 0 = m.at (f * 16 + i) := by
  unfold Mem.fr Mem.at
  simp [hi]
theorem list16 {l l' : List Int} (h : l.length = 16) (h' : l'.length = 16) (e : ∀ i, i < 16 → l.getD i 0 = l'.getD i 0) : l = l' := by
  apply List.ext_getElem (by omega)
  intro i h1 h2
  have := e i (by omega)
  simpa [List.getD_eq_getElem?_getD, List.getElem?_eq_getElem h1, List.getElem?_eq_getElem h2] using this
theorem Mem.fr_len (m : Mem) (h : m.ok) (f : Nat) (hf : f < m.n) : (m.fr f).length = 16 := by
  unfold Mem.ok at h
  simp [Mem.fr]; omega
theorem Mem.zero_of (m : Mem) (h : m.ok) (f : Int) (hf : m.ex f 1 = true) (hz : ∀ i : Nat, i < 16 → m.at (f.toNat * 16 + i) = 0) : m.zero f = true := by
  unfold Mem.zero
  rw [hf, Bool.true_and, decide_eq_true_eq]
  obtain ⟨a1, a2, a3⟩ := of_decide_eq_true hf
  refine list16 (m.fr_len h _ (by omega)) rfl fun i hi => ?_
  rw [Mem.fr_getD _ _ _ hi, hz i hi]
  exact (getD_replicate0 16 i).symm
theorem Mem.scrub_zero (m : Mem) (h : m.ok) (f k g : Int) (hf : m.ex f k = true) (h1 : f ≤ g) (h2 : g < f + k) : (m.scrub f k).zero g = true := by
  obtain ⟨a1, a2, a3⟩ := of_decide_eq_true hf
  have hl := h
  unfold Mem.ok at hl
  have hx : m.ex g 1 = true := decide_eq_true (by omega)
  have ok2 : (m.scrub f k).ok := by
    unfold Mem.scrub Mem.scrubN Mem.lay Mem.ok
    rw [hf, if_pos rfl]
    show (splice _ _ _).length = _
    rw [length_splice _ _ _ (by simp; omega)]; exact hl
  refine (m.scrub f k).zero_of ok2 g (by rw [Mem.scrub_ex]; exact hx) fun i hi => ?_
  unfold Mem.scrub Mem.scrubN Mem.lay Mem.at
  rw [hf, if_pos rfl]
  show (splice _ _ _).getD _ 0 = 0
  rw [getD_splice _ _ _ (by simp; omega), getD_replicate0, if_pos (by simp; omega)]
theorem Mem.new_ok (B n : Nat) : (memNew B n).ok := by simp [memNew, Mem.ok]
theorem Mem.wr_ok (m : Mem) (h : m.ok) (a v : Int) : (m.wr a v).ok := by
  unfold Mem.wr
  split
  · rename_i ha
    obtain ⟨a1, a2⟩ := of_decide_eq_true ha
    unfold Mem.ok at h
    unfold Mem.lay Mem.ok
    show (splice _ _ _).length = _
    rw [length_splice _ _ _ (by simp; omega)]; exact h
  · exact h
theorem Mem.wr_no (m : Mem) (a v : Int) (h : m.has a = false) : m.wr a v = m := by unfold Mem.wr; rw [h]; rfl
theorem one_a (m : Mem) (hok : m.ok) (a b x y : Int) (h : m.has a = true) (hne : a ≠ b) : ((m.wr a x).wr b y).rd a = x := by
  cases hb : m.has b
  · rw [Mem.wr_no (m.wr a x) b y (by rw [Mem.wr_has]; exact hb), Mem.wr_rd _ hok _ _ _ h, if_pos rfl]
  · rw [Mem.wr_rd _ (Mem.wr_ok _ hok _ _) _ _ _ (by rw [Mem.wr_has]; exact hb), if_neg hne, Mem.wr_rd _ hok _ _ _ h, if_pos rfl]
theorem one_b (m : Mem) (hok : m.ok) (a b x y : Int) (h : m.has b = true) : ((m.wr a x).wr b y).rd b = y := by
  rw [Mem.wr_rd _ (Mem.wr_ok _ hok _ _) _ _ _ (by rw [Mem.wr_has]; exact h), if_pos rfl]
theorem has_ex (m : Mem) (a : Int) (h : m.has a = true) : m.ex (a / 16) 1 = true ∧ 0 ≤ a ∧ a < 4096 ∨ 256 < m.n := by
  obtain ⟨a1, a2⟩ := of_decide_eq_true h
  by_cases hn : 256 < m.n
  · exact Or.inr hn
  · exact Or.inl ⟨decide_eq_true (by omega), a1, by omega⟩
theorem Mem.ok_lay (m : Mem) (h : m.ok) (o : Nat) (vs : List Int) (hf : o + vs.length ≤ 16 * m.n) : (m.lay o vs).ok := by
  unfold Mem.ok at *
  show (splice _ _ _).length = _
  rw [length_splice _ _ _ (by omega)]; exact h
theorem Mem.fr_lay_apart (m : Mem) (h : m.ok) (o : Nat) (vs : List Int) (hf : o + vs.length ≤ 16 * m.n) (i : Nat) (hi : i < m.n) (ha : i * 16 + 16 ≤ o ∨ o + vs.length ≤ i * 16) : (m.lay o vs).fr i = m.fr i := by
  refine list16 ((m.lay o vs).fr_len (m.ok_lay h o vs hf) i hi) (m.fr_len h i hi) fun j hj => ?_
  rw [Mem.fr_getD _ _ _ hj, Mem.fr_getD _ _ _ hj]
  unfold Mem.ok at h
  show (splice _ _ _).getD _ 0 = m.ws.getD _ 0
  rw [getD_splice _ _ _ (by omega), if_neg (by omega)]
theorem Mem.fr_lay_same (m : Mem) (h : m.ok) (vs : List Int) (hv : vs.length = 16) (i : Nat) (hi : i < m.n) : (m.lay (i * 16) vs).fr i = vs := by
  refine list16 ((m.lay _ vs).fr_len (m.ok_lay h _ vs (by omega)) i hi) hv fun j hj => ?_
  rw [Mem.fr_getD _ _ _ hj]
  unfold Mem.ok at h
  show (splice _ _ _).getD _ 0 = _
  rw [getD_splice _ _ _ (by omega), if_pos (by omega), show i * 16 + j - i * 16 = j from by omega]
theorem Mem.scrub_fr (m : Mem) (h : m.ok) (f k : Int) (i : Nat) (hi : i < m.n) (ha : (i : Int) < f ∨ f + k ≤ i) : (m.scrub f k).fr i = m.fr i := by
  unfold Mem.scrub
  split
  · rename_i hf
    obtain ⟨a1, a2, a3⟩ := of_decide_eq_true hf
    exact m.fr_lay_apart h _ _ (by simp; omega) i hi (by simp; omega)
  · rfl
theorem Mem.ok_scrub (m : Mem) (h : m.ok) (f k : Int) : (m.scrub f k).ok := by
  unfold Mem.scrub
  split
  · rename_i hf
    obtain ⟨a1, a2, a3⟩ := of_decide_eq_true hf
    exact m.ok_lay h _ _ (by simp; omega)
  · exact h
theorem Mem.ok_fill (m : Mem) (h : m.ok) (f : Int) (vs : List Int) (hv : vs.length = 16) : (m.fill f vs).ok := by
  unfold Mem.fill
  split
  · rename_i hf
    obtain ⟨a1, a2, a3⟩ := of_decide_eq_true hf
    exact m.ok_lay h _ _ (by omega)
  · exact h
/-- a variable that is laid anew for 16 words -/
theorem alloc16 (w : World) (L : List Int) (t : TypeId) (h : L.length = 16) :
    ((w.alloc (.cells #[.int .u64 0, .int .u64 0, .int .u64 0, .int .u64 0, .int .u64 0, .int .u64 0, .int .u64 0, .int .u64 0, .int .u64 0, .int .u64 0, .int .u64 0, .int .u64 0, .int .u64 0, .int .u64 0, .int .u64 0, .int .u64 0] t)).setCells w.heap.size 0 (ints .u64 L)).heap[w.heap.size]? = some (.cells (ints .u64 L).toArray t (0, 0)) ∧
    Upd (fun _ => False) w ((w.alloc (.cells #[.int .u64 0, .int .u64 0, .int .u64 0, .int .u64 0, .int .u64 0, .int .u64 0, .int .u64 0, .int .u64 0, .int .u64 0, .int .u64 0, .int .u64 0, .int .u64 0, .int .u64 0, .int .u64 0, .int .u64 0, .int .u64 0] t)).setCells w.heap.size 0 (ints .u64 L)) ∧ (w.alloc (.cells #[.int .u64 0, .int .u64 0, .int .u64 0, .int .u64 0, .int .u64 0, .int .u64 0, .int .u64 0, .int .u64 0, .int .u64 0, .int .u64 0, .int .u64 0, .int .u64 0, .int .u64 0, .int .u64 0, .int .u64 0, .int .u64 0] t)).there w.heap.size 0 16 := by
  obtain ⟨g1, g2, g3⟩ := alloc_store w .u64 noughts L t h
  rw [h] at g3
  exact ⟨g1, g2, g3⟩
/-! a box of two cells -/
theorem box2 {w : World} {b t : Nat} {x y : Value} (h : w.heap[b]? = some (.cells #[x, y] t (0, 0))) : w.cell? ⟨b, 0, none⟩ = some x ∧ w.cell? ⟨b, 1, none⟩ = some y := by
  constructor <;> (rw [cell_of_row w b _ _ _ _ h]; rfl)
end Go.Proofs.YtbakhipabeaojaaDoor
