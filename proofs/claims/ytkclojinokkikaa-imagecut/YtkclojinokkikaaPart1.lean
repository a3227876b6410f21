/-
  Texts that the laws stand on, joined: ImM, ImN, Kit, Upd, Arr, App, Row, Frame, FrameA, FrameP, ImA, ImS, ImP, ImT.
-/
import Derived.Below
import Derived.BigFrame
import Derived.BigQuiet
import Derived.Carry
import Derived.ChangeOld
import Derived.ChangeSame
import Derived.Deep.CutBlock
import Derived.Deep.DeepCutAuto
import Derived.Deep.Fields
import Derived.Deep.MidRow
import Derived.Deep.QuietTactic
import Derived.Deep.RegionHeld3
import Derived.Deep.Slices
import Derived.Deep.Strs
import Derived.Deep.WholeRow
import Derived.Laws.BytesString
import Derived.Laws.Cells
import Derived.Laws.CopyOwn
import Derived.Laws.OwnMore
import Derived.Laws.StructEq
import Derived.Lib.Hide
import Derived.Maps.AppendAt
import Derived.OpenShut
import Derived.OwnWalk
import Derived.ProofKit
import Derived.RangeFuncBox
import Derived.StillTailTactics
import Derived.Test.YtkclojinokkikaaRows
import Derived.WalkKit

/-
  Plain: parts, which are right, their bytes; bytes tell their parts.
-/
namespace Go.Proofs.Ytkclojinokkikaa

/-- a part -/
structure Pt where
  page : Int
  wr : Bool
  ws : List Int
deriving DecidableEq
def Pt.zero : Pt := ⟨0, false, []⟩
instance : Inhabited Pt := ⟨Pt.zero⟩
/-- is part number i as it should be? -/
def goodAt (L : List Pt) (i : Nat) : Bool :=
  decide (0 ≤ (L.getD i Pt.zero).page) && decide ((L.getD i Pt.zero).page ≤ 4095) && decide (1 ≤ (L.getD i Pt.zero).ws.length) && decide ((L.getD i Pt.zero).ws.length ≤ 16) && (decide (i = 0) || decide ((L.getD (i - 1) Pt.zero).page < (L.getD i Pt.zero).page))
def goods (L : List Pt) (k : Nat) : Bool := (List.range k).all (goodAt L)
def rightB (L : List Pt) : Bool := goods L L.length && decide (1 ≤ L.length) && decide (L.length ≤ 16)
theorem goods_succ (L : List Pt) (k : Nat) : goods L (k + 1) = (goods L k && goodAt L k) := by simp [goods, List.range_succ]
theorem goods_at {L : List Pt} {k i : Nat} (h : goods L k = true) (hi : i < k) : goodAt L i = true := by
  unfold goods at h
  rw [List.all_eq_true] at h
  exact h i (List.mem_range.2 hi)
/-- words within bounds -/
def PIn (L : List Pt) : Prop := ∀ p, p ∈ L → ∀ x, x ∈ p.ws → 0 ≤ x ∧ x < 18446744073709551616
/-! bytes -/
def wb (x : Int) (j : Nat) : Int := x / 2 ^ (8 * j) % 256
def wbytes (x : Int) : List Int := [wb x 7, wb x 6, wb x 5, wb x 4, wb x 3, wb x 2, wb x 1, wb x 0]
def wrB (b : Bool) : Int := if b = true then 1 else 0
def phead (p : Pt) : List Int := [p.page / 256 % 256, p.page % 256, wrB p.wr, (p.ws.length : Int) % 256]
def pbytes (p : Pt) : List Int := phead p ++ p.ws.flatMap wbytes
def ibytes (L : List Pt) : List Int := ((L.length : Int) % 256) :: L.flatMap pbytes
theorem wbytes_len (x : Int) : (wbytes x).length = 8 := rfl
theorem wsb_len : ∀ ws : List Int, (ws.flatMap wbytes).length = 8 * ws.length
  | [] => rfl
  | x :: l => by rw [List.flatMap_cons, List.length_append, wbytes_len, wsb_len l, List.length_cons]; omega
theorem pbytes_len (p : Pt) : (pbytes p).length = 4 + 8 * p.ws.length := by
  unfold pbytes
  rw [List.length_append, wsb_len]
  rfl
/-- eight bytes as a word -/
def w8 (a b c d e f g h : Int) : Int := ((((((a * 256 + b) * 256 + c) * 256 + d) * 256 + e) * 256 + f) * 256 + g) * 256 + h
theorem w8_wb {x : Int} (h0 : 0 ≤ x) (h1 : x < 18446744073709551616) : w8 (wb x 7) (wb x 6) (wb x 5) (wb x 4) (wb x 3) (wb x 2) (wb x 1) (wb x 0) = x := by
  unfold w8 wb
  simp only [show (2 : Int) ^ (8 * 7) = 72057594037927936 from rfl, show (2 : Int) ^ (8 * 6) = 281474976710656 from rfl, show (2 : Int) ^ (8 * 5) = 1099511627776 from rfl, show (2 : Int) ^ (8 * 4) = 4294967296 from rfl, show (2 : Int) ^ (8 * 3) = 16777216 from rfl, show (2 : Int) ^ (8 * 2) = 65536 from rfl, show (2 : Int) ^ (8 * 1) = 256 from rfl, show (2 : Int) ^ (8 * 0) = 1 from rfl]
  omega
theorem wb_bd (x : Int) (j : Nat) : 0 ≤ wb x j ∧ wb x j < 256 := by unfold wb; omega
theorem wbytes_inj {x y : Int} {s t : List Int} (hx : 0 ≤ x ∧ x < 18446744073709551616) (hy : 0 ≤ y ∧ y < 18446744073709551616) (h : wbytes x ++ s = wbytes y ++ t) : x = y ∧ s = t := by
  obtain ⟨h1, h2⟩ := List.append_inj h rfl
  refine ⟨?_, h2⟩
  unfold wbytes at h1
  simp only [List.cons.injEq, and_true] at h1
  obtain ⟨e7, e6, e5, e4, e3, e2, e1, e0⟩ := h1
  rw [← w8_wb hx.1 hx.2, ← w8_wb hy.1 hy.2, e7, e6, e5, e4, e3, e2, e1, e0]
theorem words_inj : ∀ (ws vs : List Int) (s t : List Int), ws.length = vs.length → (∀ x, x ∈ ws → 0 ≤ x ∧ x < 18446744073709551616) → (∀ x, x ∈ vs → 0 ≤ x ∧ x < 18446744073709551616) → ws.flatMap wbytes ++ s = vs.flatMap wbytes ++ t → ws = vs ∧ s = t
  | [], [], s, t, _, _, _, h => ⟨rfl, by simpa using h⟩
  | x :: l, y :: m, s, t, hl, hx, hy, h => by
    rw [List.flatMap_cons, List.flatMap_cons, List.append_assoc, List.append_assoc] at h
    obtain ⟨e1, e2⟩ := wbytes_inj (hx x (by simp)) (hy y (by simp)) h
    obtain ⟨e3, e4⟩ := words_inj l m s t (by simpa using hl) (fun z hz => hx z (by simp [hz])) (fun z hz => hy z (by simp [hz])) e2
    exact ⟨by rw [e1, e3], e4⟩
/-- a part as it should be, by itself -/
structure POk (p : Pt) : Prop where
  p0 : 0 ≤ p.page
  p1 : p.page ≤ 4095
  l0 : 1 ≤ p.ws.length
  l1 : p.ws.length ≤ 16
theorem wrB_inj {a b : Bool} (h : wrB a = wrB b) : a = b := by cases a <;> cases b <;> first | rfl | (exact absurd h (by decide))
theorem pbytes_inj {p q : Pt} {s t : List Int} (hp : POk p) (hq : POk q) (ip : ∀ x, x ∈ p.ws → 0 ≤ x ∧ x < 18446744073709551616) (iq : ∀ x, x ∈ q.ws → 0 ≤ x ∧ x < 18446744073709551616) (h : pbytes p ++ s = pbytes q ++ t) : p = q ∧ s = t := by
  unfold pbytes at h
  rw [List.append_assoc, List.append_assoc] at h
  obtain ⟨h1, h2⟩ := List.append_inj h rfl
  unfold phead at h1
  simp only [List.cons.injEq, and_true] at h1
  obtain ⟨e1, e2, e3, e4⟩ := h1
  have a1 := hp.p0
  have a2 := hp.p1
  have a3 := hp.l1
  have b1 := hq.p0
  have b2 := hq.p1
  have b3 := hq.l1
  obtain ⟨e5, e6⟩ := words_inj p.ws q.ws s t (by omega) ip iq h2
  refine ⟨?_, e6⟩
  have e7 : p.page = q.page := by omega
  have e8 := wrB_inj e3
  cases p; cases q
  simp only at e5 e7 e8
  rw [e5, e7, e8]
theorem parts_inj : ∀ (L M : List Pt) (s t : List Int), L.length = M.length → (∀ p, p ∈ L → POk p) → (∀ p, p ∈ M → POk p) → PIn L → PIn M → L.flatMap pbytes ++ s = M.flatMap pbytes ++ t → L = M ∧ s = t
  | [], [], s, t, _, _, _, _, _, h => ⟨rfl, by simpa using h⟩
  | p :: L, q :: M, s, t, hl, hp, hq, ip, iq, h => by
    rw [List.flatMap_cons, List.flatMap_cons, List.append_assoc, List.append_assoc] at h
    obtain ⟨e1, e2⟩ := pbytes_inj (hp p (by simp)) (hq q (by simp)) (ip p (by simp)) (iq q (by simp)) h
    obtain ⟨e3, e4⟩ := parts_inj L M s t (by simpa using hl) (fun z hz => hp z (by simp [hz])) (fun z hz => hq z (by simp [hz])) (fun z hz => ip z (by simp [hz])) (fun z hz => iq z (by simp [hz])) e2
    exact ⟨by rw [e1, e3], e4⟩
/-- parts that may be, with words that are words -/
structure Rt (L : List Pt) : Prop where
  r : rightB L = true
  i : PIn L
theorem right_len {L : List Pt} (h : rightB L = true) : 1 ≤ L.length ∧ L.length ≤ 16 := by
  unfold rightB at h
  simp only [Bool.and_eq_true, decide_eq_true_eq] at h
  exact ⟨h.1.2, h.2⟩
theorem good_ok {L : List Pt} {i : Nat} {p : Pt} (h : goodAt L i = true) (hi : L[i]? = some p) : POk p := by
  unfold goodAt at h
  rw [List.getD_eq_getElem?_getD, hi] at h
  simp only [Option.getD_some, Bool.and_eq_true, decide_eq_true_eq] at h
  exact ⟨h.1.1.1.1, h.1.1.1.2, h.1.1.2, h.1.2⟩
theorem right_ok {L : List Pt} (h : rightB L = true) : ∀ p, p ∈ L → POk p := by
  intro p hp
  obtain ⟨i, hi, e⟩ := List.getElem_of_mem hp
  unfold rightB at h
  simp only [Bool.and_eq_true] at h
  exact good_ok (goods_at h.1.1 hi) (by rw [List.getElem?_eq_getElem hi, e])
/-- bytes tell their parts, whatever stands behind -/
theorem ib_inj {L M : List Pt} {s t : List Int} (hL : Rt L) (hM : Rt M) (h : ibytes L ++ s = ibytes M ++ t) : L = M ∧ s = t := by
  unfold ibytes at h
  rw [List.cons_append, List.cons_append, List.cons.injEq] at h
  have a := right_len hL.r
  have b := right_len hM.r
  exact parts_inj L M s t (by omega) (right_ok hL.r) (right_ok hM.r) hL.i hM.i h.2
theorem ib_len (L : List Pt) : (ibytes L).length = 1 + (L.map fun p => 4 + 8 * p.ws.length).sum := by
  unfold ibytes
  rw [List.length_cons, List.length_flatMap]
  have : (L.map fun p => (pbytes p).length) = L.map fun p => 4 + 8 * p.ws.length := List.map_congr_left fun p _ => pbytes_len p
  rw [this]
  omega
/-- what Read answers -/
def RdP (b : List Int) (L : List Pt) (e : Int) : Prop := (e = 0 ∧ Rt L ∧ ibytes L = b) ∨ (e = 11 ∧ L = [] ∧ ∀ M, Rt M → ibytes M ≠ b)
theorem RdP.uniq {b : List Int} {L M : List Pt} {e f : Int} (h : RdP b L e) (k : RdP b M f) : L = M ∧ e = f := by
  rcases h with ⟨rfl, h1, h2⟩ | ⟨rfl, rfl, h3⟩ <;> rcases k with ⟨rfl, k1, k2⟩ | ⟨rfl, rfl, k3⟩
  · exact ⟨(ib_inj (s := []) (t := []) h1 k1 (by rw [h2, k2])).1, rfl⟩
  · exact absurd h2 (k3 _ h1)
  · exact absurd k2 (h3 _ k1)
  · exact ⟨rfl, rfl⟩
/-- what Bytes answers -/
def byV (L : List Pt) : List Int := if rightB L = true then ibytes L else []
def byE (L : List Pt) : Int := if rightB L = true then 0 else 1
/-- a beginning is none, and with more behind there is none -/
theorem cut_no {L M : List Pt} {k : Nat} (hL : Rt L) (hk : k < (ibytes L).length) (hM : Rt M) : ibytes M ≠ (ibytes L).take k := by
  intro h
  have e : ibytes M ++ (ibytes L).drop k = ibytes L ++ [] := by rw [h, List.take_append_drop, List.append_nil]
  have h2 := (ib_inj hM hL e).2
  have h3 := congrArg List.length h2
  rw [List.length_drop] at h3
  simp at h3
  omega
theorem more_no {L M : List Pt} {x : Int} (hL : Rt L) (hM : Rt M) : ibytes M ≠ ibytes L ++ [x] := by
  intro h
  have e : ibytes M ++ [] = ibytes L ++ [x] := by rw [h, List.append_nil]
  have h2 := (ib_inj hM hL e).2
  exact absurd h2 (by simp)
end Go.Proofs.Ytkclojinokkikaa

/-
  Plain: how the document reads bytes: parts are taken for what they may be, and their bytes must be these.
-/
namespace Go.Proofs.Ytkclojinokkikaa

def bAt (b : List Int) (k : Nat) : Int := b.getD k 0
/-- k bytes on, as a number -/
def wPart (b : List Int) (at_ : Nat) : Nat → Int
  | 0 => 0
  | k + 1 => wPart b at_ k * 256 + bAt b (at_ + k)
def wAt (b : List Int) (a : Nat) : Int := wPart b a 8
/-- the words from a on, n of them -/
def wsAt (b : List Int) (a n : Nat) : List Int := (List.range n).map fun i => wAt b (a + 8 * i)
theorem wsAt_succ (b : List Int) (a n : Nat) : wsAt b a (n + 1) = wsAt b a n ++ [wAt b (a + 8 * n)] := by simp [wsAt, List.range_succ]
theorem wsAt_len (b : List Int) (a n : Nat) : (wsAt b a n).length = n := by simp [wsAt]
/-- how many words are there of those that a part says -/
def nW (b : List Int) (a : Nat) : Nat := min (bAt b (a + 3)).toNat ((b.length - (a + 4)) / 8)
def ptAt (b : List Int) (a : Nat) : Pt := ⟨bAt b a * 256 + bAt b (a + 1), decide (bAt b (a + 2) = 1), wsAt b (a + 4) (nW b a)⟩
/-- k rounds: what is read, and where it stands -/
def rdK (b : List Int) : Nat → List Pt × Nat
  | 0 => ([], 1)
  | k + 1 => if (rdK b k).2 + 3 < b.length then ((rdK b k).1 ++ [ptAt b (rdK b k).2], (rdK b k).2 + 4 + 8 * nW b (rdK b k).2) else rdK b k
def rdL (b : List Int) : List Pt := (rdK b 17).1
theorem rdK_yes {b : List Int} {k : Nat} (h : (rdK b k).2 + 3 < b.length) : rdK b (k + 1) = ((rdK b k).1 ++ [ptAt b (rdK b k).2], (rdK b k).2 + 4 + 8 * nW b (rdK b k).2) := by rw [rdK, if_pos h]
theorem rdK_no {b : List Int} {k : Nat} (h : ¬ (rdK b k).2 + 3 < b.length) : ∀ d, rdK b (k + d) = rdK b k
  | 0 => rfl
  | d + 1 => by
    have e := rdK_no h d
    rw [show k + (d + 1) = (k + d) + 1 from rfl, rdK, e, if_neg h]
theorem rdK_len (b : List Int) : ∀ k, (rdK b k).1.length ≤ k
  | 0 => by simp [rdK]
  | k + 1 => by
    have := rdK_len b k
    rw [rdK]
    split
    · simp; omega
    · omega
theorem nW_le (b : List Int) (a : Nat) : nW b a ≤ (bAt b (a + 3)).toNat ∧ 8 * nW b a ≤ b.length - (a + 4) := by unfold nW; omega
theorem rdK_at (b : List Int) : ∀ k, 1 ≤ (rdK b k).2 ∧ ((rdK b k).2 ≤ b.length ∨ (rdK b k).2 = 1)
  | 0 => by simp [rdK]
  | k + 1 => by
    have h := rdK_at b k
    rw [rdK]
    split
    · have := (nW_le b (rdK b k).2).2
      simp only
      omega
    · exact h
/-! bytes that are a serialization's -/
theorem bAt_app {s t : List Int} (k : Nat) : bAt (s ++ t) (s.length + k) = bAt t k := by
  unfold bAt
  rw [List.getD_eq_getElem?_getD, List.getD_eq_getElem?_getD, List.getElem?_append_right (by omega), Nat.add_sub_cancel_left]
theorem wAt_app (s t : List Int) (k : Nat) : wAt (s ++ t) (s.length + k) = wAt t k := by
  unfold wAt
  simp only [wPart, Nat.add_assoc, bAt_app]
theorem wAt_wb {x : Int} (h0 : 0 ≤ x) (h1 : x < 18446744073709551616) (t : List Int) : wAt (wbytes x ++ t) 0 = x := by
  have e := w8_wb h0 h1
  unfold w8 at e
  unfold wAt wPart wPart wPart wPart wPart wPart wPart wPart wPart
  simp only [wbytes, bAt, List.cons_append, List.nil_append, List.getD_eq_getElem?_getD, List.getElem?_cons_zero, List.getElem?_cons_succ, Option.getD_some, Nat.zero_add, Int.zero_mul, Int.zero_add]
  exact e
theorem wsAt_app (s t : List Int) (n : Nat) : wsAt (s ++ t) s.length n = wsAt t 0 n := by
  unfold wsAt
  refine List.map_congr_left fun i _ => ?_
  rw [wAt_app, Nat.zero_add]
theorem wsAt_words : ∀ (ws t : List Int), (∀ x, x ∈ ws → 0 ≤ x ∧ x < 18446744073709551616) → wsAt (ws.flatMap wbytes ++ t) 0 ws.length = ws
  | [], _, _ => rfl
  | x :: l, t, h => by
    have hx := h x (by simp)
    have ih := wsAt_words l t (fun z hz => h z (by simp [hz]))
    unfold wsAt at ih ⊢
    rw [List.flatMap_cons, List.append_assoc, List.length_cons, List.range_succ_eq_map, List.map_cons, List.map_map, Nat.mul_zero, wAt_wb hx.1 hx.2]
    congr 1
theorem ptAt_one {p : Pt} {s t : List Int} (hp : POk p) (ip : ∀ x, x ∈ p.ws → 0 ≤ x ∧ x < 18446744073709551616) : ptAt (s ++ (pbytes p ++ t)) s.length = p ∧ nW (s ++ (pbytes p ++ t)) s.length = p.ws.length := by
  have a1 := hp.p0
  have a2 := hp.p1
  have a3 := hp.l1
  have q : ∀ k, bAt (s ++ (pbytes p ++ t)) (s.length + k) = bAt (pbytes p ++ t) k := fun k => bAt_app k
  have q0 : bAt (pbytes p ++ t) 0 = p.page / 256 % 256 := rfl
  have q1 : bAt (pbytes p ++ t) 1 = p.page % 256 := rfl
  have q2 : bAt (pbytes p ++ t) 2 = wrB p.wr := rfl
  have q3 : bAt (pbytes p ++ t) 3 = (p.ws.length : Int) % 256 := rfl
  have hn : nW (s ++ (pbytes p ++ t)) s.length = p.ws.length := by
    unfold nW
    rw [q 3, q3, List.length_append, List.length_append, pbytes_len]
    omega
  refine ⟨?_, hn⟩
  unfold ptAt
  rw [hn, q 1, q1, q 2, q2, show bAt (s ++ (pbytes p ++ t)) s.length = p.page / 256 % 256 from by have := q 0; rw [Nat.add_zero] at this; rw [this, q0]]
  have e : s ++ (pbytes p ++ t) = (s ++ phead p) ++ (p.ws.flatMap wbytes ++ t) := by unfold pbytes; simp
  have hl : (s ++ phead p).length = s.length + 4 := by rw [List.length_append]; rfl
  rw [e, ← hl, wsAt_app, wsAt_words _ _ ip]
  cases hw : p.wr
  · have h1 : decide (wrB false = 1) = false := by decide
    have h2 : p.page / 256 % 256 * 256 + p.page % 256 = p.page := by omega
    rw [h1, h2, ← hw]
  · have h1 : decide (wrB true = 1) = true := by decide
    have h2 : p.page / 256 % 256 * 256 + p.page % 256 = p.page := by omega
    rw [h1, h2, ← hw]
theorem rdK_take {M : List Pt} (h : Rt M) : ∀ k, k ≤ M.length → rdK (ibytes M) k = (M.take k, 1 + ((M.take k).flatMap pbytes).length)
  | 0, _ => rfl
  | k + 1, hk => by
    have ih := rdK_take h k (by omega)
    have hk' : k < M.length := hk
    have hp := right_ok h.r M[k] (List.getElem_mem hk')
    have ip := h.i M[k] (List.getElem_mem hk')
    have e : ibytes M = (((M.length : Int) % 256) :: (M.take k).flatMap pbytes) ++ (pbytes M[k] ++ (M.drop (k + 1)).flatMap pbytes) := by
      unfold ibytes
      rw [List.cons_append]
      congr 1
      conv => lhs; rw [← List.take_append_drop k M, List.flatMap_append, List.drop_eq_getElem_cons hk', List.flatMap_cons]
    have hl : (((M.length : Int) % 256) :: (M.take k).flatMap pbytes).length = 1 + ((M.take k).flatMap pbytes).length := by rw [List.length_cons]; omega
    have q := ptAt_one (s := ((M.length : Int) % 256) :: (M.take k).flatMap pbytes) (t := (M.drop (k + 1)).flatMap pbytes) hp ip
    rw [← e, hl] at q
    have hlen : (rdK (ibytes M) k).2 + 3 < (ibytes M).length := by
      rw [ih, e, List.length_append, hl, List.length_append, pbytes_len]
      simp only
      omega
    rw [rdK_yes hlen, ih]
    simp only
    rw [q.1, q.2, List.take_succ_eq_append_getElem hk', List.flatMap_append, List.length_append]
    simp only [List.flatMap_cons, List.flatMap_nil, List.append_nil, pbytes_len, Prod.mk.injEq, true_and]
    omega
theorem rdL_ib {M : List Pt} (h : Rt M) : rdL (ibytes M) = M := by
  have e := rdK_take h M.length (Nat.le_refl _)
  rw [List.take_length] at e
  have hl := (right_len h.r).2
  have hno : ¬ (rdK (ibytes M) M.length).2 + 3 < (ibytes M).length := by
    rw [e]
    unfold ibytes
    rw [List.length_cons]
    simp only
    omega
  have e2 := rdK_no hno (17 - M.length)
  rw [show M.length + (17 - M.length) = 17 from by omega] at e2
  unfold rdL
  rw [e2, e]
/-- words that are read are words -/
theorem wPart_bd {b : List Int} (hb : ∀ x, x ∈ b → 0 ≤ x ∧ x < 256) (a : Nat) : ∀ k, 0 ≤ wPart b a k ∧ wPart b a k < 256 ^ k
  | 0 => by simp [wPart]
  | k + 1 => by
    have ih := wPart_bd hb a k
    have hx : 0 ≤ bAt b (a + k) ∧ bAt b (a + k) < 256 := by
      unfold bAt
      rw [List.getD_eq_getElem?_getD]
      rcases h : b[a + k]? with _ | x
      · simp
      · exact hb x (List.mem_of_getElem? h)
    rw [wPart, Int.pow_succ]
    omega
theorem wAt_bd {b : List Int} (hb : ∀ x, x ∈ b → 0 ≤ x ∧ x < 256) (a : Nat) : 0 ≤ wAt b a ∧ wAt b a < 18446744073709551616 := wPart_bd hb a 8
theorem rdK_in {b : List Int} (hb : ∀ x, x ∈ b → 0 ≤ x ∧ x < 256) : ∀ k, PIn (rdK b k).1
  | 0 => fun p hp => by cases hp
  | k + 1 => by
    have ih := rdK_in hb k
    rw [rdK]
    split
    · intro p hp
      rcases List.mem_append.1 hp with h | h
      · exact ih p h
      · simp only [List.mem_singleton] at h
        subst h
        intro x hx
        obtain ⟨i, _, rfl⟩ := List.mem_map.1 hx
        exact wAt_bd hb _
    · exact ih
/-- what the document's Read answers -/
def rdV (b : List Int) : List Pt := if rightB (rdL b) = true ∧ ibytes (rdL b) = b then rdL b else []
def rdE (b : List Int) : Int := if rightB (rdL b) = true ∧ ibytes (rdL b) = b then 0 else 11
theorem rd_is {b : List Int} (hb : ∀ x, x ∈ b → 0 ≤ x ∧ x < 256) : RdP b (rdV b) (rdE b) := by
  unfold rdV rdE
  by_cases h : rightB (rdL b) = true ∧ ibytes (rdL b) = b
  · rw [if_pos h, if_pos h]
    exact .inl ⟨rfl, ⟨h.1, rdK_in hb 17⟩, h.2⟩
  · rw [if_neg h, if_neg h]
    refine .inr ⟨rfl, rfl, fun M hM e => h ?_⟩
    rw [← e, rdL_ib hM]
    exact ⟨hM.r, rfl⟩
end Go.Proofs.Ytkclojinokkikaa

/-
  Small helpers that all of this seat's texts import: the kit's walk and row modules under one name, and quiet calls inside regions that draw.
-/
namespace Go.Proofs.Ytkclojinokkikaa
open Go.RowKit

/-- a call that leaves the world alone, inside a region that draws -/
theorem still0 {P : Program} {f : FuncId} {args : Array Value} {w : World} {n : Nat} {v : Value}
    (h : Calls P f args (w.drewN n) fun e w' => e = .returned v ∧ w.drewN n = w') :
    Calls P f args (w.drewN n) fun e w'' => e = .returned v ∧ ∃ m, w'' = w.drewN m := by
  refine h.mono ?_
  rintro e w' ⟨he, hw⟩
  exact ⟨he, n, hw.symm⟩
/-- the same behind other draws -/
theorem still1 {P : Program} {f : FuncId} {args : Array Value} {w : World} {a n : Nat} {v : Value}
    (h : Calls P f args (w.drewN (a + n)) fun e w' => e = .returned v ∧ w.drewN (a + n) = w') :
    Calls P f args (w.drewN (a + n)) fun e w'' => e = .returned v ∧ ∃ m, w'' = w.drewN (a + m) := by
  refine h.mono ?_
  rintro e w' ⟨he, hw⟩
  exact ⟨he, n, hw.symm⟩
/-- a call that draws, inside a region that draws -/
theorem draws0 {P : Program} {f : FuncId} {args : Array Value} {w : World} {n : Nat} {v : Value}
    (h : Calls P f args (w.drewN n) fun e w' => e = .returned v ∧ ∃ m, w' = (w.drewN n).drewN m) :
    Calls P f args (w.drewN n) fun e w'' => e = .returned v ∧ ∃ m, w'' = w.drewN m := by
  refine h.mono ?_
  rintro e w' ⟨he, m, rfl⟩
  exact ⟨he, n + m, by rw [World.drewN_drewN]⟩
theorem draws1 {P : Program} {f : FuncId} {args : Array Value} {w : World} {a n : Nat} {v : Value}
    (h : Calls P f args (w.drewN (a + n)) fun e w' => e = .returned v ∧ ∃ m, w' = (w.drewN (a + n)).drewN m) :
    Calls P f args (w.drewN (a + n)) fun e w'' => e = .returned v ∧ ∃ m, w'' = w.drewN (a + m) := by
  refine h.mono ?_
  rintro e w' ⟨he, m, rfl⟩
  exact ⟨he, n + m, by rw [World.drewN_drewN, Nat.add_assoc]⟩
theorem below_drewN {B : Nat} {a w : World} (h : Below B a w) (n : Nat) : Below B a (w.drewN n) := ⟨h.os, h.tape, h.output, h.size, h.block⟩
end Go.Proofs.Ytkclojinokkikaa

/-
  The frame word of this project's contracts: 'Upd S w w'': behind the call every block that was there and is not in S is as it was.
-/
namespace Go.Proofs.Ytkclojinokkikaa
open Go.RowKit

/-- nothing that was there has turned but the blocks in S -/
structure Upd (S : Nat → Prop) (w w' : World) : Prop where
  os : w'.os = w.os
  tape : w'.tape = w.tape
  output : w'.output = w.output
  size : w.heap.size ≤ w'.heap.size
  block : ∀ k, k < w.heap.size → ¬ S k → w'.heap[k]? = w.heap[k]?

theorem Upd.refl (S : Nat → Prop) (w : World) : Upd S w w := ⟨rfl, rfl, rfl, Nat.le_refl _, fun _ _ _ => rfl⟩
theorem Upd.trans {S : Nat → Prop} {a b c : World} (h : Upd S a b) (k : Upd S b c) : Upd S a c :=
  ⟨k.os.trans h.os, k.tape.trans h.tape, k.output.trans h.output, Nat.le_trans h.size k.size, fun i hi hs => (k.block i (Nat.lt_of_lt_of_le hi h.size) hs).trans (h.block i hi hs)⟩
theorem Upd.mono {S T : Nat → Prop} {a b : World} (h : Upd S a b) (hs : ∀ k, k < a.heap.size → S k → T k) : Upd T a b :=
  ⟨h.os, h.tape, h.output, h.size, fun i hi ht => h.block i hi fun x => ht (hs i hi x)⟩
theorem Upd.drewN {S : Nat → Prop} {a b : World} (h : Upd S a b) (n : Nat) : Upd S a (b.drewN n) := ⟨h.os, h.tape, h.output, h.size, h.block⟩
theorem Upd.drew {S : Nat → Prop} {a b : World} (h : Upd S a b) : Upd S a b.drew := ⟨h.os, h.tape, h.output, h.size, h.block⟩
theorem Upd.alloc {S : Nat → Prop} {a b : World} (h : Upd S a b) (o : Obj) : Upd S a (b.alloc o) :=
  h.trans ⟨rfl, rfl, rfl, by simp, fun k hk _ => Below.heap_alloc _ _ _ hk⟩
theorem Upd.setCell {S : Nat → Prop} {a b : World} (h : Upd S a b) {p : Addr} (hp : S p.block ∨ a.heap.size ≤ p.block) (u : Value) : Upd S a (b.setCell p u) :=
  ⟨h.os, h.tape, h.output, by have := h.size; simpa [World.setCell] using this, fun k hk hs => by
    rw [Below.heap_setCell _ _ _ _ (by rintro rfl; rcases hp with hp | hp; exact hs hp; omega)]; exact h.block k hk hs⟩
theorem Upd.setCells {S : Nat → Prop} {a : World} {p : Nat} (hp : S p ∨ a.heap.size ≤ p) : ∀ (vs : List Value) (o : Nat) {b : World}, Upd S a b → Upd S a (b.setCells p o vs)
  | [], _, _, h => h
  | v :: r, o, b, h => by
    rw [World.setCells]
    exact Upd.setCells hp r (o + 1) (h.setCell (p := ⟨p, o, none⟩) hp v)
theorem Upd.below {S : Nat → Prop} {a b : World} {B : Nat} (h : Upd S a b) (hB : B ≤ a.heap.size) (hs : ∀ k, k < B → ¬ S k) : Below B a b :=
  ⟨h.os, h.tape, h.output, h.size, fun k hk => h.block k (by omega) (hs k hk)⟩
theorem Upd.of_below {S : Nat → Prop} {a b : World} (h : Below a.heap.size a b) : Upd S a b :=
  ⟨h.os, h.tape, h.output, h.size, fun k hk _ => h.block k hk⟩
theorem lt_of_heap {w : World} {k : Nat} {o : Obj} (h : w.heap[k]? = some o) : k < w.heap.size := by
  rcases Nat.lt_or_ge k w.heap.size with h1 | h1
  · exact h1
  · rw [Array.getElem?_eq_none h1] at h; cases h
theorem Upd.at {S : Nat → Prop} {a b : World} (h : Upd S a b) {k : Nat} {o : Obj} (hk : a.heap[k]? = some o) (hs : ¬ S k) : b.heap[k]? = some o := by
  rw [h.block k (lt_of_heap hk) hs]; exact hk
theorem Upd.cell {S : Nat → Prop} {a b : World} (u : Upd S a b) {p : Addr} {v : Value} (h : a.cell? p = some v) (hs : ¬ S p.block) : b.cell? p = some v := by
  rw [World.cell?_of_block (w := a) (u.block p.block (World.block_lt_of_cell? a p h) hs)]; exact h
theorem Upd.rangeAt {S : Nat → Prop} {a b : World} (u : Upd S a b) {p o : Nat} {cs : List Value} (h : a.rangeAt p o cs) (hs : ¬ S p) : b.rangeAt p o cs := fun j v hv => u.cell (h j v hv) hs
/-- a whole array stored: its number of cells named apart -/
theorem wpList_store_sz {P : Program} {ops : Array Oper} {rest : List Oper} {op : Oper} {a : Act} {w : World} {Q : Exit → Act → World → Prop} (hgd : op.guard = none) (ty : TypeId) (x y : Operand) (ho : op.op = .store ty x y)
    (b o : Nat) (cells : Array Value) (hx : a.eval x = .pointer (some ⟨b, o, none⟩)) (hy : a.eval y = .agg cells) (k : Nat) (hk : cells.size = k)
    (ht : w.there b o k) (hi : (P.info? ty).map (·.size) = some k) (h1 : cells.all (·.oneCell') = true) (cs : List Value) (hcs : cells.toList = cs)
    (h : wpList P ops Q rest (a.put op.dst undef) (w.setCells b o cs)) : wpList P ops Q (op :: rest) a w := by
  subst hk hcs
  exact wpList_store_mid hgd ty x y ho b o cells hx hy ht hi h1 h
/-- 'make([]T, n)': the very world behind it -/
theorem wpList_make_exact {P : Program} {w : World} {ops : Array Oper} {rest : List Oper} {o : Oper} {a : Act} {Q : Exit → Act → World → Prop}
    (hg : o.guard = none) (l c : Operand) (t : TypeId) (hop : o.op = Op.makeSlice t l c) (e : TypeId) (z : Value) (size bytes : Nat) (h1 : P.underlying t = some (.slice e))
    (hi : (P.info? e).map (fun i => (i.zero, i.size, i.bytes)) = some (some z, size, bytes)) (kl kc : IntKind) (n : Nat) (hl : a.eval l = .int kl n) (hc : a.eval c = .int kc n)
    (b2 : bytes * n ≤ 281474976710656) (b3 : n ≤ 9223372036854775807) (C : Array Value) (hC : madeCells z.cells (n * size) = C)
    (hK : wpList P ops Q rest (a.put o.dst (.slice (some ⟨w.heap.size, 0, none⟩) n n)) (w.alloc (.cells C e))) :
    wpList P ops Q (o :: rest) a w := by
  obtain ⟨i, hj, hz, hs, hb⟩ := info_parts hi
  subst hs hb hC
  refine wpList_plain hg fun K hK' => ?_
  have hb' : (i.bytes : Int) * (n : Int) ≤ 281474976710656 := by
    have h : ((i.bytes * n : Nat) : Int) ≤ 281474976710656 := by omega
    rwa [Int.natCast_mul] at h
  have hrun := run_make (P := P) w t e i z h1 hj hz kl kc n n (by omega) (Int.le_refl _) hb' (by omega)
  simp only [Int.toNat_natCast] at hrun
  unfold Oper.wp
  simp [execOp, hop, hl, hc, hrun, Result.andThen]
  exact hK' _ _ hK
/-- a new row of one value over and over -/
theorem madeCells_same (v : Value) (k n : Nat) (hk : 0 < k) : madeCells (List.replicate k v).toArray n = (List.replicate n v).toArray := by
  apply Array.ext
  · simp [madeCells]
  · intro i h1 h2
    have : i % k < k := Nat.mod_lt _ hk
    simp [madeCells, this]
end Go.Proofs.Ytkclojinokkikaa

/-
  Rows of integers: their cells, words laid over them, arrays of integers compared.
-/
namespace Go.Proofs.Ytkclojinokkikaa
open Go.RowKit

/-- the cells of numbers -/
def ints (k : IntKind) (l : List Int) : List Value := l.map (Value.int k)
theorem ints_length (k : IntKind) (l : List Int) : (ints k l).length = l.length := by simp [ints]
theorem ints_getElem? (k : IntKind) (l : List Int) (i : Nat) (h : i < l.length) : (ints k l)[i]? = some (.int k (l.getD i 0)) := by
  simp [ints, List.getElem?_eq_getElem h]
theorem ints_one (k : IntKind) (l : List Int) : (ints k l).toArray.all (·.oneCell') = true := all_oneCell_toArray fun v hv => by
  obtain ⟨z, _, rfl⟩ := List.mem_map.1 hv; rfl
theorem splice_ints (k : IntKind) (ws : List Int) (o : Nat) (vs : List Int) : splice (ints k ws) o (ints k vs) = ints k (splice ws o vs) := by
  simp [splice, ints, List.map_append, List.map_take, List.map_drop]
theorem splice_splice {α : Type} (L : List α) (o : Nat) (a b : List α) (h : o + a.length + b.length ≤ L.length) : splice (splice L o a) (o + a.length) b = splice L o (a ++ b) := by
  unfold splice
  have e1 : (L.take o ++ (a ++ L.drop (o + a.length))).take (o + a.length) = L.take o ++ a := by
    rw [← List.append_assoc, List.take_append_of_le_length (by simp; omega)]
    exact List.take_of_length_le (by simp; omega)
  have e2 : (L.take o ++ (a ++ L.drop (o + a.length))).drop (o + a.length + b.length) = L.drop (o + a.length + b.length) := by
    rw [← List.append_assoc, List.drop_append, List.drop_eq_nil_of_le (by simp; omega), List.nil_append, List.drop_drop]
    congr 1
    simp; omega
  rw [e1, e2]
  simp [Nat.add_assoc]
theorem heap_setCells_other (b : Nat) : ∀ (vs : List Value) (o : Nat) (w : World) (k : Nat), k ≠ b → (w.setCells b o vs).heap[k]? = w.heap[k]?
  | [], _, _, _, _ => rfl
  | v :: r, o, w, k, h => by
    rw [World.setCells, heap_setCells_other b r (o + 1) _ k h, Below.heap_setCell _ _ _ _ h]
theorem heap_setCell_same {w : World} {b : Nat} {C : List Value} {t : TypeId} (h : w.heap[b]? = some (.cells C.toArray t (0, 0))) (o : Nat) (v : Value) :
    (w.setCell ⟨b, o, none⟩ v).heap[b]? = some (.cells (C.set o v).toArray t (0, 0)) := by
  simp only [World.setCell, Array.getElem?_modify, if_true, h, Option.map_some]
  simp
theorem heap_setCells_same (b t : Nat) : ∀ (vs : List Value) (o : Nat) (w : World) (C : List Value), w.heap[b]? = some (.cells C.toArray t (0, 0)) → o + vs.length ≤ C.length →
    (w.setCells b o vs).heap[b]? = some (.cells (splice C o vs).toArray t (0, 0))
  | [], o, w, C, h, _ => by simpa [World.setCells, splice] using h
  | v :: r, o, w, C, h, hl => by
    rw [World.setCells, heap_setCells_same b t r (o + 1) _ _ (heap_setCell_same h o v) (by simp at hl ⊢; omega)]
    simp only [Option.some.injEq, Obj.cells.injEq, and_true, Array.mk.injEq]
    simp at hl
    unfold splice
    rw [List.take_set, List.drop_set, if_pos (by omega)]
    rw [List.take_add_one, List.getElem?_eq_getElem (by omega)]
    rw [List.set_append]
    simp
    rw [show min o C.length = o from by omega]
    simp
    omega
/-- a block that is known whole -/
theorem rangeAt_block {w : World} {b t : Nat} {k : IntKind} {l : List Int} (h : w.heap[b]? = some (.cells (ints k l).toArray t (0, 0))) : w.rangeAt b 0 (ints k l) := by
  have := World.rangeAt_of_block h 0 l.length
  have e : ((ints k l).toArray.extract 0 (0 + l.length)).toList = ints k l := by
    simp [List.extract, List.take_of_length_le, ints_length]
  rwa [e] at this
theorem frozen_block {w : World} {b t : Nat} {c : Array Value} (h : w.heap[b]? = some (.cells c t (0, 0))) (i : Nat) : w.frozen? ⟨b, i, none⟩ = false := by
  unfold World.frozen?
  rw [h]
  simp
theorem there_block {w : World} {b t : Nat} {k : IntKind} {l : List Int} (h : w.heap[b]? = some (.cells (ints k l).toArray t (0, 0))) (o n : Nat) (hn : o + n ≤ l.length) : w.there b o n := fun j hj =>
  ⟨by rw [cell_of_row w b _ _ _ _ h, List.getElem?_toArray, ints_getElem? _ _ _ (by omega)]; rfl, frozen_block h _⟩
theorem splice_all {α : Type} (l vs : List α) (h : vs.length = l.length) : splice l 0 vs = vs := by
  unfold splice
  rw [List.drop_eq_nil_of_le (by omega)]
  simp
theorem cell_block {w : World} {b t : Nat} {k : IntKind} {l : List Int} (h : w.heap[b]? = some (.cells (ints k l).toArray t (0, 0))) (i : Nat) (hi : i < l.length) : w.cell? ⟨b, i, none⟩ = some (.int k (l.getD i 0)) := by
  rw [cell_of_row w b _ _ _ _ h, List.getElem?_toArray, ints_getElem? _ _ _ hi]
/-! arrays of integers compared -/
theorem run_part_ints {P : Program} {w : World} {e : TypeId} {k : IntKind} (he : P.underlying e = some (.int k)) (l : List Int) (i : Nat) (h : i < l.length) :
    (part e (ints k l).toArray i).run P w = .ok (.int k (l.getD i 0)) w := by
  have hagg : (isAgg e).run P w = .ok false w := by
    unfold isAgg
    rw [Sem.run_bind, run_underlying he w]
    rfl
  unfold part
  rw [Sem.run_bind, hagg]
  simp only [Result.andThen_ok, Bool.false_eq_true, if_false, List.getElem?_toArray, ints_getElem? _ _ _ h]
  rfl
theorem run_eq_from {P : Program} {w : World} {e : TypeId} {k : IntKind} (d : Nat) (he : P.underlying e = some (.int k)) (l l' : List Int) :
    ∀ (m i : Nat), i + m ≤ l.length → i + m ≤ l'.length →
      (forIn (m := Sem) (List.range' i m) ((none, ()) : Option Bool × Unit) fun j _ => do
        if !(← Op.equalIn (d + 1) e (← part e (ints k l).toArray (j * 1)) (← part e (ints k l').toArray (j * 1))) then pure (.done (some false, ())) else pure (.yield (none, ()))).run P w
      = .ok (if (l.drop i).take m = (l'.drop i).take m then (none, ()) else (some false, ())) w
  | 0, i, _, _ => by simp
  | m + 1, i, h1, h2 => by
    have ih := run_eq_from (w := w) d he l l' m (i + 1) (by omega) (by omega)
    rw [List.range'_succ, List.forIn_cons]
    simp only [Nat.mul_one] at ih ⊢
    simp only [Sem.run_bind, run_part_ints he l i (by omega), run_part_ints he l' i (by omega), Result.andThen_ok, run_equalIn_int w d e k k _ _ he]
    rw [List.drop_eq_getElem_cons (by omega : i < l.length), List.drop_eq_getElem_cons (by omega : i < l'.length), List.take_succ_cons, List.take_succ_cons]
    by_cases hq : l[i] = l'[i]
    · simp only [List.getD_eq_getElem?_getD, List.getElem?_eq_getElem (by omega : i < l.length), List.getElem?_eq_getElem (by omega : i < l'.length), Option.getD_some, hq, beq_self_eq_true, Bool.not_true, Bool.false_eq_true, if_false, Sem.run_pure, Result.andThen_ok]
      rw [ih]
      simp
    · simp only [List.getD_eq_getElem?_getD, List.getElem?_eq_getElem (by omega : i < l.length), List.getElem?_eq_getElem (by omega : i < l'.length), Option.getD_some, beq_eq_false_iff_ne.2 hq, Bool.not_false, if_true, Sem.run_pure, Result.andThen_ok]
      rw [if_neg (by simp [hq])]
theorem run_equalIn_ints {P : Program} {w : World} {t e : TypeId} {k : IntKind} {n : Nat} (d : Nat) (ht : P.underlying t = some (.array n e)) (he : P.underlying e = some (.int k)) (hs : (P.info? e).map (·.size) = some 1)
    (l l' : List Int) (h : l.length = n) (h' : l'.length = n) :
    (Op.equalIn (d + 2) t (.agg (ints k l).toArray) (.agg (ints k l').toArray)).run P w = .ok (decide (l = l')) w := by
  have hz : (sizeOf e).run P w = .ok 1 w := by
    cases hq : P.info? e with
    | none => simp [hq] at hs
    | some i => simp [hq] at hs; simp [sizeOf, typeInfo, hq, hs]
  have hf := run_eq_from (w := w) d he l l' n 0 (by omega) (by omega)
  have e1 : l.take n = l := List.take_of_length_le (by omega)
  have e2 : l'.take n = l' := List.take_of_length_le (by omega)
  simp only [List.drop_zero, e1, e2] at hf
  rw [Op.equalIn, Sem.run_bind, run_underlying ht, Result.andThen_ok]
  simp only [Sem.run_bind, hz, Result.andThen_ok]
  simp only [Std.Legacy.Range.forIn_eq_forIn_range', Std.Legacy.Range.size, Nat.sub_zero, Nat.add_sub_cancel, Nat.div_one]
  rw [hf]
  by_cases hq : l = l'
  · simp [hq]
  · simp [hq]
/-- the same as the walk spells it -/
theorem run_equal_ints {P : Program} {t e : TypeId} {k : IntKind} {n : Nat} (ht : P.underlying t = some (.array n e)) (he : P.underlying e = some (.int k)) (hs : (P.info? e).map (·.size) = some 1)
    (l l' : List Int) (h : l.length = n) (h' : l'.length = n) (b : Bool) (hb : decide (l = l') = b) (w : World) :
    (Op.equalIn 10000 t (.agg (ints k l).toArray) (.agg (ints k l').toArray)).run P w = .ok b w := by
  subst hb
  exact run_equalIn_ints (w := w) 9998 ht he hs l l' h h'
/-- 'a[i]' of an array of integers by value -/
theorem run_index_ints {P : Program} {t e : TypeId} {k : IntKind} {n : Nat} (ht : P.underlying t = some (.array n e)) (he : P.underlying e = some (.int k)) (hs : (P.info? e).map (·.size) = some 1)
    (l : List Int) (h : l.length = n) (kk : IntKind) (i : Nat) (hi : i < n) (x : Int) (hx : l.getD i 0 = x) (w : World) :
    (Instr.index t (.agg (ints k l).toArray) (.int kk i)).run P w = .ok (.int k x) w := by
  subst hx
  have hz : (sizeOf e).run P w = .ok 1 w := by
    cases hq : P.info? e with
    | none => simp [hq] at hs
    | some i => simp [hq] at hs; simp [sizeOf, typeInfo, hq, hs]
  unfold Instr.index
  rw [Sem.run_bind, show (asIntOf (.int kk (i : Int))).run P w = .ok (kk, (i : Int)) w from rfl, Result.andThen_ok]
  simp only [Sem.run_bind, run_underlying ht, Result.andThen_ok]
  rw [if_pos (by omega)]
  simp only [Sem.run_bind, hz, Result.andThen_ok, Int.toNat_natCast, Nat.mul_one]
  exact run_part_ints he l i (by omega)
theorem run_eqGuard_agg {P : Program} {w : World} {t : TypeId} (hg : P.eqGuardType P.depth t = false) (op : BinOp) (x y : Operand) (a b : Array Value) :
    (eqGuard op t x y (.agg a) (.agg b)).run P w = .ok () w := by
  unfold eqGuard
  split <;> simp [Sem.run_bind, run_program, hg]
theorem run_eql_ints {P : Program} {w : World} {t e : TypeId} {k : IntKind} {n : Nat} (ht : P.underlying t = some (.array n e)) (he : P.underlying e = some (.int k)) (hs : (P.info? e).map (·.size) = some 1)
    (hg : P.eqGuardType P.depth t = false) (x y : Operand) (l l' : List Int) (h : l.length = n) (h' : l'.length = n) :
    (do eqGuard .eql t x y (.agg (ints k l).toArray) (.agg (ints k l').toArray); binOp .eql t (.agg (ints k l).toArray) (.agg (ints k l').toArray) : Sem Value).run P w = .ok (.bool (decide (l = l'))) w := by
  rw [Sem.run_bind, run_eqGuard_agg hg, Result.andThen_ok]
  show (do pure (.bool (← Op.equal t (.agg (ints k l).toArray) (.agg (ints k l').toArray))) : Sem Value).run P w = _
  unfold Op.equal
  rw [Sem.run_bind, show Op.maxDepth = 9998 + 2 from rfl, run_equalIn_ints _ ht he hs l l' h h']
  rfl
/-- '==' of two arrays of integers -/
theorem wpList_eql_ints {P : Program} {ops : Array Oper} {Q : Exit → Act → World → Prop} {a : Act} {w : World} {rest : List Oper} {o : Oper} (hw : Region.wanted o (yielded ops a.tmps) = true)
    (t t' : TypeId) (x y : Operand) (ho : o.op = .binOp .eql t x y t') (k : IntKind) (l l' : List Int) (X Y : Array Value) (hx : a.eval x = .agg X) (hy : a.eval y = .agg Y) (eX : X = (ints k l).toArray) (eY : Y = (ints k l').toArray) (n : Nat) (e : TypeId)
    (ht : P.underlying t = some (.array n e)) (he : P.underlying e = some (.int k)) (hs : (P.info? e).map (·.size) = some 1) (hg : P.eqGuardType P.depth t = false) (h1 : l.length = n) (h2 : l'.length = n)
    (b : Bool) (hb : decide (l = l') = b) (h : wpList P ops Q rest (a.put o.dst (.bool b)) w) : wpList P ops Q (o :: rest) a w := by
  subst hb eX eY
  refine BigFrame.wpList_want hw fun K hK => ?_
  have hr := run_eql_ints (P := P) (w := w) ht he hs hg x y l l' h1 h2
  unfold Oper.wp
  simp only [execOp, ho, hx, hy]
  rw [Sem.run_bind, hr]
  exact hK _ _ h
theorem run_neq_ints {P : Program} {w : World} {t e : TypeId} {k : IntKind} {n : Nat} (ht : P.underlying t = some (.array n e)) (he : P.underlying e = some (.int k)) (hs : (P.info? e).map (·.size) = some 1)
    (hg : P.eqGuardType P.depth t = false) (x y : Operand) (l l' : List Int) (h : l.length = n) (h' : l'.length = n) :
    (do eqGuard .neq t x y (.agg (ints k l).toArray) (.agg (ints k l').toArray); binOp .neq t (.agg (ints k l).toArray) (.agg (ints k l').toArray) : Sem Value).run P w = .ok (.bool (!decide (l = l'))) w := by
  rw [Sem.run_bind, run_eqGuard_agg hg, Result.andThen_ok]
  show (do pure (.bool (!(← Op.equal t (.agg (ints k l).toArray) (.agg (ints k l').toArray)))) : Sem Value).run P w = _
  unfold Op.equal
  rw [Sem.run_bind, show Op.maxDepth = 9998 + 2 from rfl, run_equalIn_ints _ ht he hs l l' h h']
  rfl
/-- '!=' of two arrays of integers -/
theorem wpList_neq_ints {P : Program} {ops : Array Oper} {Q : Exit → Act → World → Prop} {a : Act} {w : World} {rest : List Oper} {o : Oper} (hw : Region.wanted o (yielded ops a.tmps) = true)
    (t t' : TypeId) (x y : Operand) (ho : o.op = .binOp .neq t x y t') (k : IntKind) (l l' : List Int) (X Y : Array Value) (hx : a.eval x = .agg X) (hy : a.eval y = .agg Y) (eX : X = (ints k l).toArray) (eY : Y = (ints k l').toArray) (n : Nat) (e : TypeId)
    (ht : P.underlying t = some (.array n e)) (he : P.underlying e = some (.int k)) (hs : (P.info? e).map (·.size) = some 1) (hg : P.eqGuardType P.depth t = false) (h1 : l.length = n) (h2 : l'.length = n)
    (b : Bool) (hb : (!decide (l = l')) = b) (h : wpList P ops Q rest (a.put o.dst (.bool b)) w) : wpList P ops Q (o :: rest) a w := by
  subst hb eX eY
  refine BigFrame.wpList_want hw fun K hK => ?_
  have hr := run_neq_ints (P := P) (w := w) ht he hs hg x y l l' h1 h2
  unfold Oper.wp
  simp only [execOp, ho, hx, hy]
  rw [Sem.run_bind, hr]
  exact hK _ _ h
/-- '!=' of two arrays of integers, as a step of a region that draws -/
theorem step_neq_ints {P : Program} {ops : Array Oper} {o : Oper} {a : Act} {w : World} {K : Act → World → Prop} {Q : Exit → Act → World → Prop} {E : Prop} (hw : Region.wanted o (yielded ops a.tmps) = true)
    (t t' : TypeId) (x y : Operand) (ho : o.op = .binOp .neq t x y t') (k : IntKind) (l l' : List Int) (X Y : Array Value) (hx : a.eval x = .agg X) (hy : a.eval y = .agg Y) (eX : X = (ints k l).toArray) (eY : Y = (ints k l').toArray) (n : Nat) (e : TypeId)
    (ht : P.underlying t = some (.array n e)) (he : P.underlying e = some (.int k)) (hs : (P.info? e).map (·.size) = some 1) (hg : P.eqGuardType P.depth t = false) (h1 : l.length = n) (h2 : l'.length = n)
    (b : Bool) (hb : (!decide (l = l')) = b) (h : K (a.put o.dst (.bool b)) w) : if Region.wanted o (yielded ops a.tmps) = true then Oper.wp P o a w K Q else E := by
  subst hb eX eY
  rw [if_pos hw]
  have hr := run_neq_ints (P := P) (w := w) ht he hs hg x y l l' h1 h2
  unfold Oper.wp
  simp only [execOp, ho, hx, hy]
  rw [Sem.run_bind, hr]
  exact h
/-- a new block into which a row is laid at once -/
theorem alloc_store (w : World) (k : IntKind) (Z L : List Int) (t : TypeId) (h : L.length = Z.length) :
    ((w.alloc (.cells (ints k Z).toArray t)).setCells w.heap.size 0 (ints k L)).heap[w.heap.size]? = some (.cells (ints k L).toArray t (0, 0)) ∧
    Upd (fun _ => False) w ((w.alloc (.cells (ints k Z).toArray t)).setCells w.heap.size 0 (ints k L)) ∧ (w.alloc (.cells (ints k Z).toArray t)).there w.heap.size 0 L.length := by
  have h0 := heap_alloc_last w (.cells (ints k Z).toArray t)
  refine ⟨?_, Upd.setCells (by right; exact Nat.le_refl _) _ _ ((Upd.refl _ _).alloc _), there_block h0 0 L.length (by omega)⟩
  rw [heap_setCells_same _ _ (ints k L) 0 _ (ints k Z) h0 (by rw [ints_length, ints_length, h]; omega), splice_ints, splice_all _ _ h]
/-- 'copy' over a whole block of integers -/
theorem wpList_copy_ints {P : Program} {w : World} {ops : Array Oper} {rest : List Oper} {o : Oper} {a : Act} {Q : Exit → Act → World → Prop} (hgd : o.guard = none) (d s : Operand) (dT sT : TypeId)
    (ho : o.op = .call { callee := .builtin .copy, args := #[d, s], argTypes := #[dT, sT] }) (elem : TypeId) (hu : P.underlying dT = some (.slice elem)) (hsz : (P.info? elem).map (·.size) = some 1)
    (g dLen dCap b off sLen sCap : Nat) (hd : a.eval d = .slice (some ⟨g, 0, none⟩) dLen dCap) (hs : a.eval s = .slice (some ⟨b, off, none⟩) sLen sCap)
    (k : IntKind) (cur l : List Int) (t : TypeId) (hg : w.heap[g]? = some (.cells (ints k cur).toArray t (0, 0))) (hc : cur.length = dLen) (hl : l.length = dLen) (hsl : sLen = dLen)
    (hsrc : w.rangeAt b off (ints k l))
    (h : ∀ w', Hid (w'.heap[g]? = some (.cells (ints k l).toArray t (0, 0))) → Upd (· = g) w w' → wpList P ops Q rest (a.put o.dst (goInt dLen)) w') : wpList P ops Q (o :: rest) a w := by
  subst hsl
  refine wpList_copy_own hgd d s dT sT ho elem hu hsz g 0 _ dCap ⟨b, off, none⟩ _ sCap hd hs (ints k cur).toArray t hg (ints k l) (by rw [ints_length, hl]; simp) (fun j v hv => by rw [Addr.add_mid]; exact hsrc j v hv) (by simp [ints_length]; omega)
    (fun v hv => by obtain ⟨z, _, rfl⟩ := List.mem_map.1 hv; rfl) ?_
  rw [ints_length, hl]
  refine h _ (show _ = _ from ?_) ⟨rfl, rfl, rfl, by simp [World.setRow], fun i _ hi => setRow_other w g i _ hi⟩
  rw [setRow_heap w g _ _ t _ hg]
  simp [ints_length, hc, List.drop_eq_nil_of_le]
/-- a region that draws, of which all but a tail in one order only reads: the world behind the draw under a name -/
theorem wp_region_tail {P : Program} {id : Nat} {Q : Exit → Act → World → Prop} {a : Act} {w : World} {l : List Oper} (n : Nat) (hm : P.follows .mixedOrders = true) (hB : Region.lexTailB .any l.toArray n = true)
    (h : ∀ w2, w2 = w.drew → wpStill P l.toArray w2 (fun a' => wpList P l.toArray Q (l.drop n) a' w2) (l.take n) a) : (Code.region id l.toArray true).wp P Q a w :=
  wp_region_still_tail n hm hB (h _ rfl)
/-- a whole array loaded in a region that draws, ahead of its tail -/
theorem wpStill_load_sz {P : Program} {ops : Array Oper} {rest : List Oper} {op : Oper} {a : Act} {w : World} {Q : Act → Prop} (hw : Region.wanted op (yielded ops a.tmps) = true) (ty : TypeId) (x : Operand) (ho : op.op = .load ty x)
    (b o : Nat) (hx : a.eval x = .pointer (some ⟨b, o, none⟩)) (cs : List Value) (d : TypeDesc) (hc : w.rangeAt b o cs)
    (hu : P.underlying ty = some d) (hd : d.isRow = true) (k : Nat) (hk : cs.length = k) (hi : (P.info? ty).map (·.size) = some k)
    (h : wpStill P ops w Q rest (a.put op.dst (.agg cs.toArray))) : wpStill P ops w Q (op :: rest) a := by
  subst hk
  refine wpStill_step fun K hK => ?_
  rw [if_pos hw]
  unfold Oper.still execOp
  simp only [ho, hx, Instr.loadAt, Instr.sureAddr, Sem.run_bind, Sem.run_pure, Result.andThen_ok, run_loadVar_mid w b o ty cs d hc hu hd hi]
  exact ⟨rfl, hK _ h⟩
/-- a whole array loaded, guarded or not -/
theorem wpList_load_sz {P : Program} {ops : Array Oper} {rest : List Oper} {op : Oper} {a : Act} {w : World} {Q : Exit → Act → World → Prop} (hw : Region.wanted op (yielded ops a.tmps) = true) (ty : TypeId) (x : Operand) (ho : op.op = .load ty x)
    (b o : Nat) (hx : a.eval x = .pointer (some ⟨b, o, none⟩)) (cs : List Value) (d : TypeDesc) (hc : w.rangeAt b o cs)
    (hu : P.underlying ty = some d) (hd : d.isRow = true) (k : Nat) (hk : cs.length = k) (hi : (P.info? ty).map (·.size) = some k)
    (h : wpList P ops Q rest (a.put op.dst (.agg cs.toArray)) w) : wpList P ops Q (op :: rest) a w := by
  subst hk
  exact BigFrame.wpList_want hw fun _ hK => wp_load_mid ty x ho b o hx cs d hc hu hd hi (hK _ _ h)
end Go.Proofs.Ytkclojinokkikaa

/-
  append onto one's own slice of whatever slice, nil and empty ones too: in plain regions and in ones that draw.
-/
namespace Go.Proofs.Ytkclojinokkikaa
open Go.RowKit

/-- a slice of m elements whose cells are news -/
def Src (w : World) (x : Value) (m size : Nat) (news : List Value) : Prop :=
  (x = .slice none 0 0 ∧ m = 0 ∧ news = []) ∨ ∃ b off c, x = .slice (some ⟨b, off, none⟩) m c ∧ news.length = m * size ∧ (∀ j u, news[j]? = some u → w.cell? ⟨b, off + j, none⟩ = some u)
theorem add_mid0 (b off j : Nat) : (⟨b, off, none⟩ : Addr).add j = ⟨b, off + j, none⟩ := by unfold Addr.add; split <;> simp_all
theorem Src.of_row {w : World} {base m size : Nat} {e : TypeId} {v : Value} {xs : List Value} (h : w.ownsRow base e size v m xs) : Src w v m size xs := by
  rcases h.2 with ⟨rfl, rfl⟩ | ⟨g, cap, cur, rfl, _⟩
  · exact .inl ⟨rfl, rfl, List.length_eq_zero_iff.1 (by have := h.1; omega)⟩
  · exact .inr ⟨g, 0, cap, rfl, h.1, fun j u hu => by have := h.cells (g := g) rfl j u hu; rwa [add_mid0] at this⟩
theorem Src.kept {w w' : World} {x : Value} {m size : Nat} {news : List Value} (h : Src w x m size news) (hg : ∀ b : Nat, x.ownBlock = some b → w'.heap[b]? = w.heap[b]?) : Src w' x m size news := by
  rcases h with h | ⟨b, off, c, rfl, h1, h2⟩
  · exact .inl h
  · refine .inr ⟨b, off, c, rfl, h1, fun j u hu => ?_⟩
    rw [World.cell?_of_block (w := w) (hg b rfl)]
    exact h2 j u hu
theorem run_append_src {P : Program} (w : World) (base : Nat) (t ty e : TypeId) (i : TypeInfo) (z : Value) (size bytes : Nat) (ht : P.underlying t = some (.slice e)) (hi : P.info? e = some i) (hz : i.zero = some z)
    (hsize : i.size = size) (hby : i.bytes = bytes) (hzs : z.cells.size = size) (hsz : 0 < size)
    (v : Value) (n : Nat) (xs : List Value) (hown : w.ownsRow base e size v n xs) (x : Value) (m : Nat) (news : List Value) (hx : Src w x m size news) (h1 : ∀ u ∈ news, u.oneCell' = true)
    (h63 : n + m ≤ maxLen) (hbytes : (n + m) * bytes ≤ 140737488355328) (hbase : base ≤ w.heap.size) :
    ∃ v' w', (Builtin.append_ #[t, t] ty #[v, x]).run P w = .ok v' w' ∧ w'.ownsRow base e size v' (n + m) (xs ++ news) ∧ w.grownBy w' v.ownBlock := by
  rcases hx with ⟨rfl, rfl, rfl⟩ | ⟨b, off, c, rfl, h2, h3⟩
  · exact ⟨v, w, run_append_owned_none w base t ty e i size ht hi v n xs hown, by simpa using hown, ⟨rfl, rfl, rfl, Nat.le_refl _, fun _ _ _ => rfl⟩⟩
  · obtain ⟨v', w', hr, r1, r2, _⟩ := run_append_own (P := P) w base t ty e i z size bytes ht hi hz hsize hby hzs hsz v n xs hown ⟨b, off, none⟩ m c news h2 (fun j u hu => by rw [add_mid0]; exact h3 j u hu) h1 h63 hbytes hbase
    exact ⟨v', w', hr, r1, r2⟩
theorem wp_append_src {P : Program} (w : World) {o : Oper} {a : Act} {K : Act → World → Prop} {Q : Exit → Act → World → Prop} (s x : Operand) (t : TypeId)
    (ho : o.op = .call { callee := .builtin .append, args := #[s, x], argTypes := #[t, t] })
    (base : Nat) (e : TypeId) (i : TypeInfo) (z : Value) (size bytes : Nat) (ht : P.underlying t = some (.slice e)) (hi : P.info? e = some i) (hz : i.zero = some z)
    (hsize : i.size = size) (hby : i.bytes = bytes) (hzs : z.cells.size = size) (hsz : 0 < size)
    (v : Value) (n : Nat) (xs : List Value) (hs : a.eval s = v) (hown : w.ownsRow base e size v n xs) (y : Value) (m : Nat) (news : List Value) (hy : a.eval x = y) (hx : Src w y m size news) (h1 : ∀ u ∈ news, u.oneCell' = true)
    (h63 : n + m ≤ maxLen) (hbytes : (n + m) * bytes ≤ 140737488355328) (hbase : base ≤ w.heap.size)
    (h : ∀ v' w', w'.ownsRow base e size v' (n + m) (xs ++ news) → w.grownBy w' v.ownBlock → K (a.put o.dst v') w') : o.wp P a w K Q := by
  obtain ⟨v', w', hr, h2, h3⟩ := run_append_src (P := P) w base t o.type e i z size bytes ht hi hz hsize hby hzs hsz v n xs hown y m news hx h1 h63 hbytes hbase
  unfold Oper.wp execOp
  simp only [ho, resolve, invoke, builtin, Sem.run_bind, Sem.run_pure, Result.andThen_ok, List.map_toArray, List.map_cons, List.map_nil, hs, hy, hr]
  exact h v' w' h2 h3
/-- in a plain region -/
theorem wpList_append_src {P : Program} (w : World) {ops : Array Oper} {rest : List Oper} {o : Oper} {a : Act} {Q : Exit → Act → World → Prop} (hgd : o.guard = none) (s x : Operand) (t : TypeId)
    (ho : o.op = .call { callee := .builtin .append, args := #[s, x], argTypes := #[t, t] })
    (base : Nat) (e : TypeId) (i : TypeInfo) (z : Value) (size bytes : Nat) (ht : P.underlying t = some (.slice e)) (hi : P.info? e = some i) (hz : i.zero = some z)
    (hsize : i.size = size) (hby : i.bytes = bytes) (hzs : z.cells.size = size) (hsz : 0 < size)
    (v : Value) (n : Nat) (xs : List Value) (hs : a.eval s = v) (hown : w.ownsRow base e size v n xs) (y : Value) (m : Nat) (news : List Value) (hy : a.eval x = y) (hx : Src w y m size news) (h1 : ∀ u ∈ news, u.oneCell' = true)
    (h63 : n + m ≤ maxLen) (hbytes : (n + m) * bytes ≤ 140737488355328) (hbase : base ≤ w.heap.size)
    (h : ∀ v' w', w'.ownsRow base e size v' (n + m) (xs ++ news) → w.grownBy w' v.ownBlock → wpList P ops Q rest (a.put o.dst v') w') : wpList P ops Q (o :: rest) a w :=
  wpList_plain hgd fun _ hK => wp_append_src w s x t ho base e i z size bytes ht hi hz hsize hby hzs hsz v n xs hs hown y m news hy hx h1 h63 hbytes hbase fun v' w' h2 h3 => hK _ _ (h v' w' h2 h3)
/-- at a step of a region that draws -/
theorem step_append_src {P : Program} (w : World) {ops : Array Oper} {o : Oper} {a : Act} {K : Act → World → Prop} {Q : Exit → Act → World → Prop} {E : Prop} (hgd : o.guard = none) (s x : Operand) (t : TypeId)
    (ho : o.op = .call { callee := .builtin .append, args := #[s, x], argTypes := #[t, t] })
    (base : Nat) (e : TypeId) (i : TypeInfo) (z : Value) (size bytes : Nat) (ht : P.underlying t = some (.slice e)) (hi : P.info? e = some i) (hz : i.zero = some z)
    (hsize : i.size = size) (hby : i.bytes = bytes) (hzs : z.cells.size = size) (hsz : 0 < size)
    (v : Value) (n : Nat) (xs : List Value) (hs : a.eval s = v) (hown : w.ownsRow base e size v n xs) (y : Value) (m : Nat) (news : List Value) (hy : a.eval x = y) (hx : Src w y m size news) (h1 : ∀ u ∈ news, u.oneCell' = true)
    (h63 : n + m ≤ maxLen) (hbytes : (n + m) * bytes ≤ 140737488355328) (hbase : base ≤ w.heap.size)
    (h : ∀ v' w', w'.ownsRow base e size v' (n + m) (xs ++ news) → w.grownBy w' v.ownBlock → K (a.put o.dst v') w') :
    if Region.wanted o (yielded ops a.tmps) = true then Oper.wp P o a w K Q else E := by
  have hw : Region.wanted o (yielded ops a.tmps) = true := by simp [Region.wanted, hgd]
  rw [if_pos hw]
  exact wp_append_src w s x t ho base e i z size bytes ht hi hz hsize hby hzs hsz v n xs hs hown y m news hy hx h1 h63 hbytes hbase h
end Go.Proofs.Ytkclojinokkikaa

/-
  Rows of the call's own: kept, as a slice, grown by append.
-/
namespace Go.Proofs.Ytkclojinokkikaa
open Go.RowKit

theorem rows_kept {S : Nat → Prop} {w w' : World} {base sz k : Nat} {e : TypeId} {v : Value} {xs : List Value} (h : w.ownsRow base e sz v k xs) (u : Upd S w w') (hg : ∀ j, v.ownBlock = some j → ¬ S j) : w'.ownsRow base e sz v k xs := by
  refine ⟨h.1, ?_⟩
  rcases h.2 with hn | ⟨g, cap, cur, rfl, hb, hgg, rest⟩
  · exact .inl hn
  · exact .inr ⟨g, cap, cur, rfl, hb, u.at hgg (hg g rfl), rest⟩
theorem rows_still {w w' : World} {base sz k : Nat} {e : TypeId} {v : Value} {xs : List Value} (h : w.ownsRow base e sz v k xs) (u : Upd (fun _ => False) w w') : w'.ownsRow base e sz v k xs := rows_kept h u fun _ _ => id
/-- blocks of before are not the row's -/
theorem rows_under {S : Nat → Prop} {w w' : World} {base sz k : Nat} {e : TypeId} {v : Value} {xs : List Value} (h : w.ownsRow base e sz v k xs) (u : Upd S w w') (hS : ∀ j, S j → j < base) : w'.ownsRow base e sz v k xs :=
  rows_kept h u fun j hj s => by have := (h.lt j hj).1; have := hS j s; omega
theorem rows_slice {w : World} {base sz : Nat} {e : TypeId} {v : Value} {k : Nat} {xs : List Value} (h : w.ownsRow base e sz v k xs) : ∃ o cap, v = .slice o k cap := by
  rcases h.2 with ⟨rfl, rfl⟩ | ⟨g, cap, cur, rfl, _⟩
  · exact ⟨none, 0, rfl⟩
  · exact ⟨_, _, rfl⟩
theorem rows_new (w : World) (base sz : Nat) (e : TypeId) : w.ownsRow base e sz (.slice none 0 0) 0 [] := ⟨by simp, .inl ⟨rfl, rfl⟩⟩
theorem rows_src (w : World) (c : List Value) (t : TypeId) : ∀ (j : Nat) (u : Value), c[j]? = some u → (w.alloc (.cells c.toArray t)).cell? ((⟨w.heap.size, 0, none⟩ : Addr).add j) = some u := by
  intro j u hj
  rw [add_mid0, cell_of_row _ _ _ _ _ _ (heap_alloc_last w (.cells c.toArray t))]
  simpa using hj
theorem rows_grown {w wr w4 : World} {N sz n : Nat} {e : TypeId} {v : Value} {xs : List Value} {o : Obj} {S : Nat → Prop} (hrow : wr.ownsRow N e sz v n xs) (hgr : (wr.alloc o).grownBy w4 v.ownBlock) (hU : Upd S w wr) (hN : w.heap.size ≤ N) : Upd S w w4 := by
  have hs := hU.size
  refine ⟨hgr.os.trans hU.os, hgr.tape.trans hU.tape, hgr.output.trans hU.output, by have := hgr.size; simp at this; omega, fun k hk hS => ?_⟩
  rw [hgr.block k (by simp; omega) (fun e => by have := (hrow.lt k e.symm).1; omega), Below.heap_alloc _ _ _ (by omega)]
  exact hU.block k hk hS
/-- the cells of a row of the call's own -/
theorem rows_at {w : World} {base sz k cap : Nat} {e : TypeId} {o : Option Addr} {xs : List Value} (h : w.ownsRow base e sz (.slice o k cap) k xs) (hk : 0 < k) : ∃ g, o = some ⟨g, 0, none⟩ ∧ ∀ (j : Nat) (u : Value), xs[j]? = some u → w.cell? ⟨g, j, none⟩ = some u := by
  rcases h.2 with ⟨e1, e2⟩ | ⟨g, cap', cur, e1, rest⟩
  · omega
  · simp only [Value.slice.injEq] at e1
    obtain ⟨rfl, _, rfl⟩ := e1
    refine ⟨g, rfl, fun j u hu => ?_⟩
    have := h.cells (g := g) rfl j u hu
    rwa [add_mid0, Nat.zero_add] at this
/-! guarded operations whose guard is decided, in a region that draws and only reads -/
theorem still_off {P : Program} {ops : Array Oper} {w : World} {Q : Act → Prop} {a : Act} {o : Oper} {rest : List Oper} (hw : Region.wanted o (yielded ops a.tmps) = false) (h : wpStill P ops w Q rest (a.put o.dst undef)) : wpStill P ops w Q (o :: rest) a :=
  wpStill_step fun K hK => by rw [hw]; exact hK _ h
theorem still_on {P : Program} {ops : Array Oper} {w : World} {Q : Act → Prop} {a : Act} {o : Oper} {rest : List Oper} (hw : Region.wanted o (yielded ops a.tmps) = true) (h : wpStill P ops w Q ({ o with guard := none } :: rest) a) : wpStill P ops w Q (o :: rest) a := by
  unfold wpStill at h ⊢
  rw [if_pos hw]
  exact h
end Go.Proofs.Ytkclojinokkikaa

/-
  What the rows' frames want of a reading: integers, arrays of integers. Over any program.
-/
namespace Go.Proofs.Ytkclojinokkikaa.Fr
open Go.ChangeShapes Go.WideShapes Go.ChangeAt Go.RowKit
variable {H : Type} {enc : TypeId × Value → H} {P : Program} {w : World} {base : Nat} {spare : Nat → Bool} {held : Bool}

/-- an array's value -/
theorem okWide_arr {r : Reach} {b0 n : Nat} {t e : TypeId} {v : Value} (ht : P.underlying t = some (.array n e)) (h : Value.okWide P w r b0 t v) : ∃ cs, v = .agg cs ∧ cs.size = P.cellsOf t := by
  simp only [Value.okWide, ht] at h
  obtain ⟨cs, h1, h2, _⟩ := h
  exact ⟨cs, h1, h2⟩

/-- an array of integers, opened: the numbers -/
theorem open_intArr {r : Reach} {b0 n : Nat} {t e : TypeId} {k : IntKind} {v : Value} {d : DataW H} {p : List MemPlace} (ht : P.underlying t = some (.array n e)) (he : P.underlying e = some (.int k))
    (hce : P.cellsOf e = 1) (hct : P.cellsOf t = n) (hv : Value.okWide P w r b0 t v) (h : DataW.Trod enc P w base spare held t v d p) :
    ∃ zs : List Int, zs.length = n ∧ v = .agg (zs.map (fun z => Value.int k z)).toArray ∧ ∀ z ∈ zs, (Lit.int k z).wf = true := by
  obtain ⟨cs, rfl, hsz⟩ := okWide_arr ht hv
  obtain ⟨fuel, hf⟩ := h
  obtain ⟨xs, m, _, _, _, hl, hrd⟩ := DataW.trod_array ht hf
  have hlen : cs.toList.length = n := by rw [Array.length_toList, hsz, hct]
  have hcell : ∀ i (hi : i < cs.toList.length), ∃ z, cs.toList[i] = .int k z ∧ (Lit.int k z).wf = true := by
    intro i hi
    have hx := hrd i (by omega)
    have hi2 : i < xs.length := by omega
    rw [List.getElem?_eq_getElem hi2] at hx
    obtain ⟨z, hz, _, hwf⟩ := DataW.trod_int he hx
    have hi3 : i < cs.size := by simpa using hi
    simp only [Value.cells, hce, Nat.mul_one] at hz
    rw [List.drop_eq_getElem_cons hi] at hz
    simp at hz
    exact ⟨z, by simpa using hz, hwf⟩
  refine ⟨cs.toList.map (fun c => match c with | .int _ q => q | _ => 0), by rw [List.length_map, hlen], ?_, ?_⟩
  · congr 1
    apply Array.ext'
    simp only [List.map_map]
    symm
    conv => rhs; rw [← List.map_id cs.toList]
    apply List.map_congr_left
    intro c hc
    obtain ⟨i, hi, rfl⟩ := List.getElem_of_mem hc
    obtain ⟨z, hz, _⟩ := hcell i hi
    simp only [Function.comp, hz, id]
  · intro z hz
    obtain ⟨c, hc, rfl⟩ := List.mem_map.1 hz
    obtain ⟨i, hi, rfl⟩ := List.getElem_of_mem hc
    obtain ⟨z', hz', hwf⟩ := hcell i hi
    simp only [hz']
    exact hwf
/-! ### whatever is made of integers and bools alone: its leaves, cell by cell -/
/-- a leaf's kind: 'some k' an integer, 'none' a bool -/
def flatFs (P : Program) (g : TypeId → Option (List (Option IntKind))) : List Field → Nat → Option (List (Option IntKind))
  | [], _ => some []
  | f :: fs, o => match g f.type, flatFs P g fs (o + P.cellsOf f.type) with
    | some l, some r => if f.offset = o ∧ l.length = P.cellsOf f.type then some (l ++ r) else none
    | _, _ => none
def flat (P : Program) : Nat → TypeId → Option (List (Option IntKind))
  | 0, _ => none
  | d + 1, t => match P.underlying t with
    | some (.int k) => some [some k]
    | some .bool => some [none]
    | some (.array n e) => match flat P d e with
      | some l => if l.length = P.cellsOf e ∧ P.cellsOf t = n * P.cellsOf e then some (List.replicate n l).flatten else none
      | none => none
    | some (.struct fs) => match flatFs P (flat P d) fs.toList 0 with
      | some l => if P.cellsOf t = l.length then some l else none
      | none => none
    | _ => none
def okLeaf : Option IntKind → Value → Prop
  | some k, v => ∃ z, v = .int k z ∧ (Lit.int k z).wf = true
  | none, v => ∃ b, v = .bool b
def okLeaves (ks : List (Option IntKind)) (cs : List Value) : Prop := cs.length = ks.length ∧ ∀ (j : Nat) (k : Option IntKind) (v : Value), ks[j]? = some k → cs[j]? = some v → okLeaf k v
theorem okLeaves_append {k1 k2 : List (Option IntKind)} {c1 c2 : List Value} (h1 : okLeaves k1 c1) (h2 : okLeaves k2 c2) : okLeaves (k1 ++ k2) (c1 ++ c2) := by
  refine ⟨by rw [List.length_append, List.length_append, h1.1, h2.1], fun j k v hk hv => ?_⟩
  have e := h1.1
  by_cases hj : j < k1.length
  · rw [List.getElem?_append_left hj] at hk
    rw [List.getElem?_append_left (by omega)] at hv
    exact h1.2 j k v hk hv
  · rw [List.getElem?_append_right (by omega)] at hk
    rw [List.getElem?_append_right (by omega), e] at hv
    exact h2.2 _ k v hk hv
theorem okLeaves_rep {l : List (Option IntKind)} : ∀ (n : Nat) (cs : List Value), cs.length = n * l.length → (∀ i, i < n → okLeaves l ((cs.drop (i * l.length)).take l.length)) → okLeaves (List.replicate n l).flatten cs
  | 0, cs, hl, _ => by
    have : cs = [] := List.eq_nil_of_length_eq_zero (by omega)
    subst this
    exact ⟨rfl, fun j k v hk => by simp at hk⟩
  | n + 1, cs, hl, h => by
    have hl' : cs.length = n * l.length + l.length := by rw [hl, Nat.succ_mul]
    rw [List.replicate_succ, List.flatten_cons, ← List.take_append_drop l.length cs]
    have h0 := h 0 (by omega)
    rw [Nat.zero_mul, List.drop_zero] at h0
    refine okLeaves_append h0 (okLeaves_rep n _ (by rw [List.length_drop]; omega) fun i hi => ?_)
    have := h (i + 1) (by omega)
    rw [Nat.succ_mul] at this
    rwa [List.drop_drop, Nat.add_comm]
theorem flatFs_ge {P : Program} {g : TypeId → Option (List (Option IntKind))} : ∀ {fs : List Field} {o : Nat} {ks : List (Option IntKind)}, flatFs P g fs o = some ks → ∀ (i : Nat) (f : Field), fs[i]? = some f → o ≤ f.offset
  | [], _, _, _, i, f, hi => by simp at hi
  | f0 :: fs, o, ks, hk, i, f, hi => by
    simp only [flatFs] at hk
    split at hk
    · rename_i l r hgl hr
      split at hk
      · rename_i hc
        cases i with
        | zero => simp only [List.getElem?_cons_zero, Option.some.injEq] at hi; subst hi; omega
        | succ i => have := flatFs_ge hr i f hi; omega
      · cases hk
    · cases hk
theorem okLeaves_fs {g : TypeId → Option (List (Option IntKind))} {n : Nat}
    (hg : ∀ t ks cs x, g t = some ks → DataW.trod enc P w base spare held n t cs = some x → okLeaves ks cs) :
    ∀ (fs : List Field) (o : Nat) (ks : List (Option IntKind)) (cs : List Value), flatFs P g fs o = some ks → cs.length = ks.length →
      (∀ (i : Nat) (f : Field), fs[i]? = some f → ∃ x, DataW.trod enc P w base spare held n f.type ((cs.drop (f.offset - o)).take (P.cellsOf f.type)) = some x) → okLeaves ks cs
  | [], o, ks, cs, hk, hl, _ => by
    simp only [flatFs, Option.some.injEq] at hk
    subst hk
    exact ⟨hl, fun j k v hk => by simp at hk⟩
  | f :: fs, o, ks, cs, hk, hl, h => by
    simp only [flatFs] at hk
    split at hk
    · rename_i l r hgl hr
      split at hk
      · rename_i hc
        obtain ⟨ho, hll⟩ := hc
        simp only [Option.some.injEq] at hk
        subst hk
        rw [List.length_append] at hl
        obtain ⟨x, hx⟩ := h 0 f rfl
        rw [ho, Nat.sub_self, List.drop_zero] at hx
        have h1 := hg _ _ _ _ hgl hx
        rw [← List.take_append_drop (P.cellsOf f.type) cs]
        refine okLeaves_append h1 (okLeaves_fs hg fs _ r _ hr (by rw [List.length_drop]; omega) fun i f' hi => ?_)
        obtain ⟨y, hy⟩ := h (i + 1) f' hi
        have hge : o + P.cellsOf f.type ≤ f'.offset := flatFs_ge hr i f' hi
        refine ⟨y, ?_⟩
        rw [List.drop_drop, show P.cellsOf f.type + (f'.offset - (o + P.cellsOf f.type)) = f'.offset - o from by omega]
        exact hy
      · cases hk
    · cases hk
theorem okLeaves_of : ∀ (d : Nat) (t : TypeId) (ks : List (Option IntKind)) (fuel : Nat) (cs : List Value) (x : DataW H × List MemPlace), flat P d t = some ks → DataW.trod enc P w base spare held fuel t cs = some x → okLeaves ks cs
  | 0, _, _, _, _, _, h, _ => by simp [flat] at h
  | d + 1, t, ks, fuel, cs, x, h, ht => by
    unfold flat at h
    split at h
    · rename_i k hu
      simp only [Option.some.injEq] at h
      subst h
      obtain ⟨z, rfl, _, hw⟩ := DataW.trod_int hu ht
      refine ⟨rfl, fun j k' v hk hv => ?_⟩
      match j, hk, hv with
      | 0, hk, hv => simp at hk hv; subst hk hv; exact ⟨z, rfl, hw⟩
      | j + 1, hk, _ => simp at hk
    · rename_i hu
      simp only [Option.some.injEq] at h
      subst h
      obtain ⟨b, rfl, _⟩ := DataW.trod_bool hu ht
      refine ⟨rfl, fun j k' v hk hv => ?_⟩
      match j, hk, hv with
      | 0, hk, hv => simp at hk hv; subst hk hv; exact ⟨b, rfl⟩
      | j + 1, hk, _ => simp at hk
    · rename_i n e hu
      split at h
      · rename_i l hl
        split at h
        · rename_i hc
          obtain ⟨c1, c2⟩ := hc
          simp only [Option.some.injEq] at h
          subst h
          obtain ⟨xs, m, _, _, hlen, hxl, hrd⟩ := DataW.trod_array hu ht
          refine okLeaves_rep n cs (by rw [hlen, c2, c1]) fun i hi => ?_
          have := hrd i hi
          have hi2 : i < xs.length := by omega
          rw [List.getElem?_eq_getElem hi2, ← c1] at this
          exact okLeaves_of d e l m _ _ hl this
        · cases h
      · cases h
    · rename_i fs hu
      split at h
      · rename_i l hl
        split at h
        · rename_i hc
          simp only [Option.some.injEq] at h
          subst h
          obtain ⟨xs, m, _, _, hlen, hxl, hrd⟩ := DataW.trod_struct hu ht
          refine okLeaves_fs (fun t' ks' cs' x' h1 h2 => okLeaves_of d t' ks' m cs' x' h1 h2) fs.toList 0 l cs hl (by rw [hlen, hc]) fun i f hi => ?_
          have hi' : fs[i]? = some f := by simpa using hi
          have hi2 : i < xs.length := by
            have := (Array.getElem?_eq_some_iff.1 hi').1
            omega
          have := hrd i f hi'
          rw [List.getElem?_eq_getElem hi2] at this
          exact ⟨_, by rw [Nat.sub_zero]; exact this⟩
        · cases h
      · cases h
    · cases h
/-- an argument that is a slice of such things -/
structure RowArg (w : World) (ao : Option Addr) (n b off : Nat) (ks : List (Option IntKind)) (E : Nat → Nat → Value) : Prop where
  place : 0 < n → ao = some ⟨b, off, none⟩
  lt : 0 < n → b < w.heap.size
  cell : ∀ i, i < n → ∀ j, j < ks.length → w.cell? ⟨b, off + (i * ks.length + j), none⟩ = some (E i j)
  ok : ∀ i, i < n → ∀ (j : Nat) (k : Option IntKind), ks[j]? = some k → okLeaf k (E i j)
  most : n ≤ 9223372036854775807
theorem RowArg.kept {w w' : World} {ao : Option Addr} {n b off : Nat} {ks : List (Option IntKind)} {E : Nat → Nat → Value} (h : RowArg w ao n b off ks E) (u : Below w.heap.size w w') : RowArg w' ao n b off ks E :=
  ⟨h.place, fun h0 => Nat.lt_of_lt_of_le (h.lt h0) u.size, fun i hi j hj => (u.cell (p := ⟨b, off + (i * ks.length + j), none⟩) (h.lt (by omega))).trans (h.cell i hi j hj), h.ok, h.most⟩
/-- a slice's value is no aggregate -/
theorem okWide_noAgg {r : Reach} {b0 : Nat} {t e : TypeId} {c : Array Value} (ht : P.underlying t = some (.slice e)) (h : Value.okWide P w r b0 t (.agg c)) : False := by
  simp [Value.okWide, Cell.okWide, Cell.ok, ht] at h
theorem open_rows {r : Reach} {b0 : Nat} {t e : TypeId} {v : Value} {dt : DataW H} {p : List MemPlace} (D : Nat) (ks : List (Option IntKind)) (ht : P.underlying t = some (.slice e)) (hf : flat P D e = some ks) (hc : P.cellsOf e = ks.length) (hpos : 0 < ks.length)
    (hw : Value.okWide P w r b0 t v) (h : DataW.Trod enc P w base spare held t v dt p) :
    ∃ (ao : Option Addr) (n cap b off : Nat) (E : Nat → Nat → Value), v = .slice ao n cap ∧ RowArg w ao n b off ks E := by
  obtain ⟨fuel, hfu⟩ := h
  rcases Deep.open_slice ht hfu with ⟨h1, _⟩ | ⟨a, len, cap, m, n, DD, Pl, h1, _, hl, hm, hmm, _, hi⟩
  · have hv : v = .slice none 0 0 := by
      cases v
      case agg c => exact (okWide_noAgg ht hw).elim
      all_goals (simp [Value.cells] at h1; try simp [h1])
    exact ⟨none, 0, 0, 0, 0, fun _ _ => .bool false, hv, ⟨fun h => absurd h (by omega), fun h => absurd h (by omega), fun i hi => absurd hi (by omega), fun i hi => absurd hi (by omega), by omega⟩⟩
  · have hv : v = .slice (some a) len cap := by
      cases v
      case agg c => exact (okWide_noAgg ht hw).elim
      all_goals (simp [Value.cells] at h1; try simp [h1])
    have hle : len ≤ m := by rw [hmm]; split <;> omega
    obtain ⟨E, hE⟩ := Deep.choose_lt (n := len) (p := fun i (f : Nat → Value) => ∀ j, j < ks.length → w.cell? (a.add (i * ks.length + j)) = some (f j) ∧ ∀ k, ks[j]? = some k → okLeaf k (f j)) (fun i hil => by
      obtain ⟨cs', hc', ht'⟩ := hi i (by omega)
      rw [hc] at hc'
      obtain ⟨_, hcl, hat⟩ := World.cells?_some hc'
      have ok := okLeaves_of D e ks n cs' _ hf ht'
      refine ⟨fun j => cs'.getD j (.bool false), fun j hj => ?_⟩
      have hjl : j < cs'.length := by rw [ok.1]; exact hj
      have hv : cs'[j]? = some (cs'.getD j (.bool false)) := by simp [List.getElem?_eq_getElem hjl]
      refine ⟨?_, fun k hk => ok.2 j k _ hk hv⟩
      rw [← Deep.add_add, hat j hj, hv])
    have hspot : 0 < len → a = ⟨a.block, a.off, none⟩ := fun h0 => by
      have := (hE 0 h0 0 hpos).1
      rw [Nat.zero_mul, Nat.add_zero] at this
      obtain ⟨ab, aoff, asp⟩ := a
      cases asp with
      | none => rfl
      | some s =>
        simp only [Addr.add, if_true, World.cell?] at this
        split at this <;> simp at this
    refine ⟨some a, len, cap, a.block, a.off, E, hv, ⟨fun h0 => by rw [← hspot h0], fun h0 => ?_, fun i hil j hj => ?_, fun i hil j k hk => ?_, by unfold maxLen at hm; omega⟩⟩
    · have := (hE 0 h0 0 hpos).1
      rw [Nat.zero_mul, Nat.add_zero] at this
      have hb := World.block_lt_of_cell? w _ this
      simpa [Addr.add] using hb
    · have := (hE i hil j hj).1
      rw [hspot (by omega), Addr.add_mid] at this
      exact this
    · have hj : j < ks.length := (List.getElem?_eq_some_iff.1 hk).1
      exact (hE i hil j hj).2 k hk
/-- a struct of such things by value: its cells -/
theorem open_flat {r : Reach} {b0 : Nat} {t : TypeId} {fs : Array Field} {v : Value} {dt : DataW H} {p : List MemPlace} (D : Nat) (ks : List (Option IntKind)) (ht : P.underlying t = some (.struct fs)) (hf : flat P D t = some ks)
    (hw : Value.okWide P w r b0 t v) (h : DataW.Trod enc P w base spare held t v dt p) : ∃ cs : List Value, v = .agg cs.toArray ∧ okLeaves ks cs := by
  obtain ⟨fuel, hfu⟩ := h
  simp only [Value.okWide, ht] at hw
  obtain ⟨cs, rfl, _⟩ := hw
  exact ⟨cs.toList, by simp, okLeaves_of D t ks fuel _ _ hf hfu⟩
theorem cells2 {cs : List Value} (h : cs.length = 2) : ∃ a b, cs = [a, b] := by
  match cs, h with
  | [a, b], _ => exact ⟨a, b, rfl⟩
theorem cells3 {cs : List Value} (h : cs.length = 3) : ∃ a b c, cs = [a, b, c] := by
  match cs, h with
  | [a, b, c], _ => exact ⟨a, b, c, rfl⟩
theorem cells4 {cs : List Value} (h : cs.length = 4) : ∃ a b c d, cs = [a, b, c, d] := by
  match cs, h with
  | [a, b, c, d], _ => exact ⟨a, b, c, d, rfl⟩
theorem cells5 {cs : List Value} (h : cs.length = 5) : ∃ a b c d e, cs = [a, b, c, d, e] := by
  match cs, h with
  | [a, b, c, d, e], _ => exact ⟨a, b, c, d, e, rfl⟩
theorem cells6 {cs : List Value} (h : cs.length = 6) : ∃ c0 c1 c2 c3 c4 c5, cs = [c0, c1, c2, c3, c4, c5] := by
  match cs, h with
  | [c0, c1, c2, c3, c4, c5], _ => exact ⟨c0, c1, c2, c3, c4, c5, rfl⟩
theorem cells7 {cs : List Value} (h : cs.length = 7) : ∃ c0 c1 c2 c3 c4 c5 c6, cs = [c0, c1, c2, c3, c4, c5, c6] := by
  match cs, h with
  | [c0, c1, c2, c3, c4, c5, c6], _ => exact ⟨c0, c1, c2, c3, c4, c5, c6, rfl⟩
theorem cells8 {cs : List Value} (h : cs.length = 8) : ∃ c0 c1 c2 c3 c4 c5 c6 c7, cs = [c0, c1, c2, c3, c4, c5, c6, c7] := by
  match cs, h with
  | [c0, c1, c2, c3, c4, c5, c6, c7], _ => exact ⟨c0, c1, c2, c3, c4, c5, c6, c7, rfl⟩
theorem cells9 {cs : List Value} (h : cs.length = 9) : ∃ c0 c1 c2 c3 c4 c5 c6 c7 c8, cs = [c0, c1, c2, c3, c4, c5, c6, c7, c8] := by
  match cs, h with
  | [c0, c1, c2, c3, c4, c5, c6, c7, c8], _ => exact ⟨c0, c1, c2, c3, c4, c5, c6, c7, c8, rfl⟩
theorem cells10 {cs : List Value} (h : cs.length = 10) : ∃ c0 c1 c2 c3 c4 c5 c6 c7 c8 c9, cs = [c0, c1, c2, c3, c4, c5, c6, c7, c8, c9] := by
  match cs, h with
  | [c0, c1, c2, c3, c4, c5, c6, c7, c8, c9], _ => exact ⟨c0, c1, c2, c3, c4, c5, c6, c7, c8, c9, rfl⟩
theorem cells11 {cs : List Value} (h : cs.length = 11) : ∃ c0 c1 c2 c3 c4 c5 c6 c7 c8 c9 c10, cs = [c0, c1, c2, c3, c4, c5, c6, c7, c8, c9, c10] := by
  match cs, h with
  | [c0, c1, c2, c3, c4, c5, c6, c7, c8, c9, c10], _ => exact ⟨c0, c1, c2, c3, c4, c5, c6, c7, c8, c9, c10, rfl⟩
theorem cells12 {cs : List Value} (h : cs.length = 12) : ∃ c0 c1 c2 c3 c4 c5 c6 c7 c8 c9 c10 c11, cs = [c0, c1, c2, c3, c4, c5, c6, c7, c8, c9, c10, c11] := by
  match cs, h with
  | [c0, c1, c2, c3, c4, c5, c6, c7, c8, c9, c10, c11], _ => exact ⟨c0, c1, c2, c3, c4, c5, c6, c7, c8, c9, c10, c11, rfl⟩
theorem len2 {zs : List Int} (h : zs.length = 2) : ∃ a b, zs = [a, b] := by
  match zs, h with
  | [a, b], _ => exact ⟨a, b, rfl⟩
theorem len3 {zs : List Int} (h : zs.length = 3) : ∃ a b c, zs = [a, b, c] := by
  match zs, h with
  | [a, b, c], _ => exact ⟨a, b, c, rfl⟩
theorem len4 {zs : List Int} (h : zs.length = 4) : ∃ a b c d, zs = [a, b, c, d] := by
  match zs, h with
  | [a, b, c, d], _ => exact ⟨a, b, c, d, rfl⟩
end Go.Proofs.Ytkclojinokkikaa.Fr

/-
  The row's frame for a parameter that is an array of two slices.
-/
namespace Go.Proofs.Ytkclojinokkikaa.Fr
open Go.ChangeShapes Go.WideShapes Go.ChangeAt Go.RowKit
variable {H : Type} {enc : TypeId × Value → H} {P : Program} {w : World} {base : Nat} {spare : Nat → Bool} {held : Bool}

/-- a slice's one cell, opened -/
theorem open_rows_cells {fuel : Nat} {t e : TypeId} {cs : List Value} {x : DataW H × List MemPlace} (D : Nat) (ks : List (Option IntKind)) (ht : P.underlying t = some (.slice e)) (hf : flat P D e = some ks) (hc : P.cellsOf e = ks.length) (hpos : 0 < ks.length)
    (hfu : DataW.trod enc P w base spare held fuel t cs = some x) :
    ∃ (ao : Option Addr) (n cap b off : Nat) (E : Nat → Nat → Value), cs = [.slice ao n cap] ∧ RowArg w ao n b off ks E := by
  rcases Deep.open_slice ht hfu with ⟨h1, _⟩ | ⟨a, len, cap, m, n, DD, Pl, h1, _, hl, hm, hmm, _, hi⟩
  · exact ⟨none, 0, 0, 0, 0, fun _ _ => .bool false, h1, ⟨fun h => absurd h (by omega), fun h => absurd h (by omega), fun i hi => absurd hi (by omega), fun i hi => absurd hi (by omega), by omega⟩⟩
  · have hle : len ≤ m := by rw [hmm]; split <;> omega
    obtain ⟨E, hE⟩ := Deep.choose_lt (n := len) (p := fun i (f : Nat → Value) => ∀ j, j < ks.length → w.cell? (a.add (i * ks.length + j)) = some (f j) ∧ ∀ k, ks[j]? = some k → okLeaf k (f j)) (fun i hil => by
      obtain ⟨cs', hc', ht'⟩ := hi i (by omega)
      rw [hc] at hc'
      obtain ⟨_, hcl, hat⟩ := World.cells?_some hc'
      have ok := okLeaves_of D e ks n cs' _ hf ht'
      refine ⟨fun j => cs'.getD j (.bool false), fun j hj => ?_⟩
      have hjl : j < cs'.length := by rw [ok.1]; exact hj
      have hv : cs'[j]? = some (cs'.getD j (.bool false)) := by simp [List.getElem?_eq_getElem hjl]
      refine ⟨?_, fun k hk => ok.2 j k _ hk hv⟩
      rw [← Deep.add_add, hat j hj, hv])
    have hspot : 0 < len → a = ⟨a.block, a.off, none⟩ := fun h0 => by
      have := (hE 0 h0 0 hpos).1
      rw [Nat.zero_mul, Nat.add_zero] at this
      obtain ⟨ab, aoff, asp⟩ := a
      cases asp with
      | none => rfl
      | some s =>
        simp only [Addr.add, if_true, World.cell?] at this
        split at this <;> simp at this
    refine ⟨some a, len, cap, a.block, a.off, E, h1, ⟨fun h0 => by rw [← hspot h0], fun h0 => ?_, fun i hil j hj => ?_, fun i hil j k hk => ?_, by unfold maxLen at hm; omega⟩⟩
    · have := (hE 0 h0 0 hpos).1
      rw [Nat.zero_mul, Nat.add_zero] at this
      have hb := World.block_lt_of_cell? w _ this
      simpa [Addr.add] using hb
    · have := (hE i hil j hj).1
      rw [hspot (by omega), Addr.add_mid] at this
      exact this
    · have hj : j < ks.length := (List.getElem?_eq_some_iff.1 hk).1
      exact (hE i hil j hj).2 k hk
theorem list2 {α : Type} {l : List α} {a b : α} (hl : l.length = 2) (h0 : (l.drop 0).take 1 = [a]) (h1 : (l.drop 1).take 1 = [b]) : l = [a, b] := by
  match l, hl with
  | [x, y], _ => simp at h0 h1; rw [h0, h1]
/-- an array of two slices, opened -/
theorem open_rows2 {r : Reach} {b0 : Nat} {t u e : TypeId} {v : Value} {dt : DataW H} {p : List MemPlace} (D : Nat) (ks : List (Option IntKind)) (ht : P.underlying t = some (.array 2 u)) (hu : P.underlying u = some (.slice e)) (hcu : P.cellsOf u = 1) (hct : P.cellsOf t = 2) (hf : flat P D e = some ks) (hc : P.cellsOf e = ks.length) (hpos : 0 < ks.length)
    (hw : Value.okWide P w r b0 t v) (h : DataW.Trod enc P w base spare held t v dt p) :
    ∃ (ao : Option Addr) (n cap b off : Nat) (E : Nat → Nat → Value) (ao' : Option Addr) (n' cap' b' off' : Nat) (E' : Nat → Nat → Value), v = .agg #[.slice ao n cap, .slice ao' n' cap'] ∧ RowArg w ao n b off ks E ∧ RowArg w ao' n' b' off' ks E' := by
  obtain ⟨cs, rfl, hsz⟩ := okWide_arr ht hw
  obtain ⟨fuel, hfu⟩ := h
  obtain ⟨xs, m, _, _, _, hl, hrd⟩ := DataW.trod_array ht hfu
  have h0 := hrd 0 (by omega)
  have h1 := hrd 1 (by omega)
  rw [List.getElem?_eq_getElem (by omega)] at h0 h1
  simp only [Value.cells, hcu, Nat.mul_one] at h0 h1
  obtain ⟨ao, n, cap, b, off, E, e0, R0⟩ := open_rows_cells D ks hu hf hc hpos h0
  obtain ⟨ao', n', cap', b', off', E', e1, R1⟩ := open_rows_cells D ks hu hf hc hpos h1
  refine ⟨ao, n, cap, b, off, E, ao', n', cap', b', off', E', ?_, R0, R1⟩
  have hlen : cs.toList.length = 2 := by rw [Array.length_toList, hsz, hct]
  have := list2 hlen e0 e1
  congr 1
  apply Array.ext'
  exact this
end Go.Proofs.Ytkclojinokkikaa.Fr

/-
  The row's frame for a parameter that is a slice of structs of an integer, a bool and a slice of integers.
-/
namespace Go.Proofs.Ytkclojinokkikaa.Fr
open Go.ChangeShapes Go.WideShapes Go.ChangeAt Go.RowKit
variable {H : Type} {enc : TypeId × Value → H} {P : Program} {w : World} {base : Nat} {spare : Nat → Bool} {held : Bool}

/-- such a slice: of each struct its three cells, and the inner slice's own cells -/
structure PartsArg (w : World) (k1 k2 : IntKind) (ao : Option Addr) (n : Nat) : Prop where
  most : n ≤ 9223372036854775807
  at_ : 0 < n → ∃ b off, ao = some ⟨b, off, none⟩ ∧ b < w.heap.size ∧ ∀ i, i < n → ∃ (z : Int) (x : Bool) (ao' : Option Addr) (n' cap' b' off' : Nat) (E' : Nat → Nat → Value),
    w.cell? ⟨b, off + i * 3, none⟩ = some (.int k1 z) ∧ w.cell? ⟨b, off + i * 3 + 1, none⟩ = some (.bool x) ∧ w.cell? ⟨b, off + i * 3 + 2, none⟩ = some (.slice ao' n' cap') ∧ (Lit.int k1 z).wf = true ∧ RowArg w ao' n' b' off' [some k2] E'
theorem list3 {α : Type} {l : List α} {a b c : α} (hl : l.length = 3) (h0 : (l.drop 0).take 1 = [a]) (h1 : (l.drop 1).take 1 = [b]) (h2 : (l.drop 2).take 1 = [c]) : l = [a, b, c] := by
  match l, hl with
  | [x, y, z], _ => simp at h0 h1 h2; rw [h0, h1, h2]
theorem open_part {fuel : Nat} {e u : TypeId} {f0 f1 f2 : Field} {k1 k2 : IntKind} {cs : List Value} {x : DataW H × List MemPlace} (he : P.underlying e = some (.struct #[f0, f1, f2])) (o0 : f0.offset = 0) (o1 : f1.offset = 1) (o2 : f2.offset = 2)
    (h0 : P.underlying f0.type = some (.int k1)) (h1 : P.underlying f1.type = some .bool) (h2 : P.underlying f2.type = some (.slice u)) (c0 : P.cellsOf f0.type = 1) (c1 : P.cellsOf f1.type = 1) (c2 : P.cellsOf f2.type = 1) (c3 : P.cellsOf e = 3)
    (hf : flat P 12 u = some [some k2]) (hc : P.cellsOf u = 1) (hfu : DataW.trod enc P w base spare held fuel e cs = some x) :
    ∃ (z : Int) (x : Bool) (ao' : Option Addr) (n' cap' b' off' : Nat) (E' : Nat → Nat → Value), cs = [.int k1 z, .bool x, .slice ao' n' cap'] ∧ (Lit.int k1 z).wf = true ∧ RowArg w ao' n' b' off' [some k2] E' := by
  obtain ⟨y0, y1, y2, n, _, hl, t0, t1, t2⟩ := Deep.trod_struct3 he hfu
  rw [o0, c0] at t0
  rw [o1, c1] at t1
  rw [o2, c2] at t2
  obtain ⟨z, e0, _, hw⟩ := DataW.trod_int h0 t0
  obtain ⟨b, e1, _⟩ := DataW.trod_bool h1 t1
  obtain ⟨ao, n', cap, b', off, E, e2, R⟩ := open_rows_cells 12 [some k2] h2 hf hc (Nat.succ_pos 0) t2
  exact ⟨z, b, ao, n', cap, b', off, E, list3 (by rw [hl, c3]) e0 e1 e2, hw, R⟩
theorem open_parts {r : Reach} {b0 : Nat} {t e u : TypeId} {f0 f1 f2 : Field} {k1 k2 : IntKind} {v : Value} {dt : DataW H} {p : List MemPlace} (ht : P.underlying t = some (.slice e)) (he : P.underlying e = some (.struct #[f0, f1, f2])) (o0 : f0.offset = 0) (o1 : f1.offset = 1) (o2 : f2.offset = 2)
    (h0 : P.underlying f0.type = some (.int k1)) (h1 : P.underlying f1.type = some .bool) (h2 : P.underlying f2.type = some (.slice u)) (c0 : P.cellsOf f0.type = 1) (c1 : P.cellsOf f1.type = 1) (c2 : P.cellsOf f2.type = 1) (c3 : P.cellsOf e = 3)
    (hf : flat P 12 u = some [some k2]) (hc : P.cellsOf u = 1) (hw : Value.okWide P w r b0 t v) (h : DataW.Trod enc P w base spare held t v dt p) :
    ∃ (ao : Option Addr) (n cap : Nat), v = .slice ao n cap ∧ PartsArg w k1 k2 ao n := by
  obtain ⟨fuel, hfu⟩ := h
  rcases Deep.open_slice ht hfu with ⟨h1, _⟩ | ⟨a, len, cap, m, n, DD, Pl, g1, _, hl, hm, hmm, _, hi⟩
  · have hv : v = .slice none 0 0 := by
      cases v
      case agg c => exact (okWide_noAgg ht hw).elim
      all_goals (simp [Value.cells] at h1; try simp [h1])
    exact ⟨none, 0, 0, hv, ⟨by omega, fun h => absurd h (by omega)⟩⟩
  · have hv : v = .slice (some a) len cap := by
      cases v
      case agg c => exact (okWide_noAgg ht hw).elim
      all_goals (simp [Value.cells] at g1; try simp [g1])
    have hle : len ≤ m := by rw [hmm]; split <;> omega
    have hE : ∀ i, i < len → ∃ (z : Int) (x : Bool) (ao' : Option Addr) (n' cap' b' off' : Nat) (E' : Nat → Nat → Value),
        w.cell? (a.add (i * 3)) = some (.int k1 z) ∧ w.cell? (a.add (i * 3 + 1)) = some (.bool x) ∧ w.cell? (a.add (i * 3 + 2)) = some (.slice ao' n' cap') ∧ (Lit.int k1 z).wf = true ∧ RowArg w ao' n' b' off' [some k2] E' := fun i hil => by
      obtain ⟨cs', hc', ht'⟩ := hi i (by omega)
      obtain ⟨_, hcl, hat⟩ := World.cells?_some hc'
      obtain ⟨z, x, ao', n', cap', b', off', E', rfl, hwf, R⟩ := open_part he o0 o1 o2 h0 h1 h2 c0 c1 c2 c3 hf hc ht'
      rw [c3] at hat
      have q0 := hat 0 (by decide)
      have q1 := hat 1 (by decide)
      have q2 := hat 2 (by decide)
      rw [Deep.add_add] at q0 q1 q2
      exact ⟨z, x, ao', n', cap', b', off', E', q0, q1, q2, hwf, R⟩
    refine ⟨some a, len, cap, hv, ⟨by unfold maxLen at hm; omega, fun h0 => ?_⟩⟩
    have hspot : a = ⟨a.block, a.off, none⟩ := by
      obtain ⟨z, x, ao', n', cap', b', off', E', this, -⟩ := hE 0 h0
      obtain ⟨ab, aoff, asp⟩ := a
      cases asp with
      | none => rfl
      | some s =>
        rw [Nat.zero_mul] at this
        simp only [Addr.add, if_true, World.cell?] at this
        split at this <;> simp at this
    refine ⟨a.block, a.off, by rw [← hspot], ?_, fun i hil => ?_⟩
    · obtain ⟨z, x, ao', n', cap', b', off', E', this, -⟩ := hE 0 h0
      have hb := World.block_lt_of_cell? w _ this
      simpa [Addr.add] using hb
    · obtain ⟨z, x, ao', n', cap', b', off', E', g0, g1, g2, hwf, R⟩ := hE i hil
      rw [hspot, Addr.add_mid] at g0 g1 g2
      exact ⟨z, x, ao', n', cap', b', off', E', g0, g1, g2, hwf, R⟩
/-- an argument's length is within its room -/
theorem rows_room {t e : TypeId} {ao : Option Addr} {n cap : Nat} {dt : DataW H} {p : List MemPlace} (ht : P.underlying t = some (.slice e)) (h : DataW.Trod enc P w base spare held t (.slice ao n cap) dt p) : n ≤ cap := by
  obtain ⟨fuel, hfu⟩ := h
  rcases Deep.open_slice ht hfu with ⟨h1, _⟩ | ⟨a, len, cap', m, nn, DD, Pl, h1, _, hl, _⟩
  · simp [Value.cells] at h1
    omega
  · simp [Value.cells] at h1
    omega
end Go.Proofs.Ytkclojinokkikaa.Fr

/-
  Rows of numbers and of parts in memory.
-/
namespace Go.Proofs.Ytkclojinokkikaa
open Go.ChangeShapes Go.WideShapes Go.ChangeAt Go.RowKit

/-- a row of numbers, empty or not -/
def RowIn (k : IntKind) (w : World) (x : Value) (W : List Int) : Prop := 0 < W.length → Src w x W.length 1 (ints k W) ∧ ∀ b, x.ownBlock = some b → b < w.heap.size
theorem RowIn.kept {k : IntKind} {w w' : World} {x : Value} {W : List Int} (h : RowIn k w x W) (u : Upd (fun _ => False) w w') : RowIn k w' x W := fun h0 =>
  ⟨(h h0).1.kept fun b hb => u.block b ((h h0).2 b hb) id, fun b hb => Nat.lt_of_lt_of_le ((h h0).2 b hb) u.size⟩
theorem RowIn.nil {k : IntKind} {w : World} {x : Value} : RowIn k w x [] := fun h => absurd h (Nat.lt_irrefl 0)
/-- a number of it -/
theorem RowIn.at {k : IntKind} {w : World} {o : Option Addr} {n cap : Nat} {W : List Int} (h : RowIn k w (.slice o n cap) W) (j : Nat) (hj : j < W.length) : ∃ b off, o = some ⟨b, off, none⟩ ∧ b < w.heap.size ∧ ∀ i, i < W.length → w.cell? ⟨b, off + i, none⟩ = some (.int k (W.getD i 0)) := by
  have h' := h (by omega)
  rcases h'.1 with ⟨_, q, _⟩ | ⟨b, off, c, e, _, d⟩
  · omega
  simp only [Value.slice.injEq] at e
  obtain ⟨rfl, -, -⟩ := e
  exact ⟨b, off, rfl, h'.2 b rfl, fun i hi => d i _ (ints_getElem? k W i hi)⟩
/-- a part at its place -/
def PartAt (w : World) (b o : Nat) (p : Pt) : Prop := ∃ ao cap, w.cell? ⟨b, o, none⟩ = some (.int .i64 p.page) ∧ w.cell? ⟨b, o + 1, none⟩ = some (.bool p.wr) ∧ w.cell? ⟨b, o + 2, none⟩ = some (.slice ao p.ws.length cap) ∧ RowIn .u64 w (.slice ao p.ws.length cap) p.ws
theorem PartAt.kept {w w' : World} {b o : Nat} {p : Pt} (h : PartAt w b o p) (u : Upd (fun _ => False) w w') : PartAt w' b o p := by
  obtain ⟨ao, cap, h0, h1, h2, h3⟩ := h
  exact ⟨ao, cap, u.cell h0 id, u.cell h1 id, u.cell h2 id, h3.kept u⟩
/-- parts in a row -/
def PartsIn (w : World) (ao : Option Addr) (L : List Pt) : Prop := 0 < L.length → ∃ b off, ao = some ⟨b, off, none⟩ ∧ b < w.heap.size ∧ ∀ i p, L[i]? = some p → PartAt w b (off + i * 3) p
theorem PartsIn.kept {w w' : World} {ao : Option Addr} {L : List Pt} (h : PartsIn w ao L) (u : Upd (fun _ => False) w w') : PartsIn w' ao L := fun h0 => by
  obtain ⟨b, off, e, hb, hp⟩ := h h0
  exact ⟨b, off, e, Nat.lt_of_lt_of_le hb u.size, fun i p hi => (hp i p hi).kept u⟩
/-- numbers that an argument's row holds -/
theorem row_of {k : IntKind} {w : World} {ao : Option Addr} {n b off : Nat} {E : Nat → Nat → Value} (R : Fr.RowArg w ao n b off [some k] E) (cap : Nat) : ∃ W : List Int, W.length = n ∧ RowIn k w (.slice ao n cap) W ∧ ∀ x, x ∈ W → (Lit.int k x).wf = true := by
  obtain ⟨f, hf⟩ : ∃ f : Nat → Int, ∀ i, i < n → E i 0 = .int k (f i) ∧ (Lit.int k (f i)).wf = true := Deep.choose_lt fun i hi => R.ok i hi 0 _ rfl
  refine ⟨(List.range n).map f, by simp, fun h0 => ?_, fun x hx => ?_⟩
  · rw [List.length_map, List.length_range] at h0 ⊢
    refine ⟨.inr ⟨b, off, cap, by rw [R.place h0], by simp [ints], fun j u hj => ?_⟩, fun c hc => ?_⟩
    · have hj' : j < n := by have := (List.getElem?_eq_some_iff.1 hj).1; simpa [ints] using this
      have hc := R.cell j hj' 0 (Nat.succ_pos 0)
      rw [(hf j hj').1] at hc
      have e : u = .int k (f j) := by
        simp [ints, hj'] at hj
        exact hj.symm
      rw [e]
      simpa using hc
    · rw [R.place h0] at hc
      obtain rfl : b = c := by injection hc
      exact R.lt h0
  · obtain ⟨i, hi, rfl⟩ := List.mem_map.1 hx
    exact (hf i (List.mem_range.1 hi)).2
/-- parts that an argument holds -/
theorem parts_of {w : World} {ao : Option Addr} {n : Nat} (R : Fr.PartsArg w .i64 .u64 ao n) : ∃ L : List Pt, L.length = n ∧ PartsIn w ao L ∧ PIn L ∧ ∀ p, p ∈ L → -9223372036854775808 ≤ p.page ∧ p.page < 9223372036854775808 := by
  by_cases h0 : 0 < n
  · obtain ⟨b, off, e, hb, hp⟩ := R.at_ h0
    obtain ⟨f, hf⟩ : ∃ f : Nat → Pt, ∀ i, i < n → PartAt w b (off + i * 3) (f i) ∧ (∀ x, x ∈ (f i).ws → 0 ≤ x ∧ x < 18446744073709551616) ∧ -9223372036854775808 ≤ (f i).page ∧ (f i).page < 9223372036854775808 := Deep.choose_lt (p := fun i (q : Pt) => PartAt w b (off + i * 3) q ∧ (∀ x, x ∈ q.ws → 0 ≤ x ∧ x < 18446744073709551616) ∧ -9223372036854775808 ≤ q.page ∧ q.page < 9223372036854775808) fun i hi => by
      obtain ⟨z, x, ao', n', cap', b', off', E', g0, g1, g2, hw, R'⟩ := hp i hi
      obtain ⟨W, rfl, hW, hwf⟩ := row_of R' cap'
      refine ⟨⟨z, x, W⟩, ⟨ao', cap', g0, g1, g2, hW⟩, fun y hy => by have := bounds_u64 (hwf y hy); omega, ?_⟩
      have := bounds_i64 hw
      show -9223372036854775808 ≤ z ∧ z < 9223372036854775808
      omega
    refine ⟨(List.range n).map f, by simp, fun _ => ⟨b, off, e, hb, fun i p hi => ?_⟩, fun p hp x hx => ?_, fun p hp => ?_⟩
    · have hi' : i < n := by have := (List.getElem?_eq_some_iff.1 hi).1; simpa using this
      have : p = f i := by
        simp [hi'] at hi
        exact hi.symm
      rw [this]
      exact (hf i hi').1
    · obtain ⟨i, hi, rfl⟩ := List.mem_map.1 hp
      exact (hf i (List.mem_range.1 hi)).2.1 x hx
    · obtain ⟨i, hi, rfl⟩ := List.mem_map.1 hp
      exact (hf i (List.mem_range.1 hi)).2.2
  · obtain rfl : n = 0 := by omega
    exact ⟨[], rfl, fun h => absurd h (Nat.lt_irrefl 0), fun p hp => (by cases hp), fun p hp => (by cases hp)⟩
end Go.Proofs.Ytkclojinokkikaa

/-
  A row of bytes as a string; what a law may go through.
-/
namespace Go.Proofs.Ytkclojinokkikaa
open Go.ChangeShapes Go.WideShapes Go.ChangeAt Go.RowKit

def strB (B : List Int) : ByteArray := B.foldl (fun r n => r.push (UInt8.ofNat n.toNat)) ByteArray.empty
theorem run_strB {P : Program} (w : World) (src dst e : TypeId) (ao : Option Addr) (cap : Nat) (B : List Int) (h : RowIn .u8 w (.slice ao B.length cap) B) (hs : P.underlying src = some (.slice e)) (he : P.underlying e = some (.int .u8)) (hd : P.underlying dst = some .string) :
    (convert src dst (.slice ao B.length cap)).run P w = .ok (.string (strB B)) w := by
  rw [run_convert_bytes_string w src dst e ao B.length cap hs he hd]
  by_cases h0 : 0 < B.length
  · obtain ⟨b, off, rfl, _, hc⟩ := h.at 0 h0
    refine run_bytesToString w ⟨b, off, none⟩ B.length cap B ?_
    have := run_loadCells_list (P := P) (w := w) ⟨b, off, none⟩ (ints .u8 B) (fun j v hj => by
      have hj' : j < B.length := by have := (List.getElem?_eq_some_iff.1 hj).1; simpa [ints] using this
      rw [ints_getElem? .u8 B j hj'] at hj
      injection hj with hj
      rw [add_mid0, ← hj]
      exact hc j hj')
    rw [show (ints .u8 B).length = B.length from by simp [ints]] at this
    exact this
  · have e0 : B = [] := List.length_eq_zero_iff.1 (by omega)
    subst e0
    cases ao with
    | none => rfl
    | some a =>
      have := run_bytesToString (P := P) w a 0 cap [] (by
        have := run_loadCells_list (P := P) (w := w) a [] (fun j v hj => by simp at hj)
        exact this)
      exact this
/-- string(bytes), guarded or not -/
theorem wpList_strB {P : Program} {ops : Array Oper} {rest : List Oper} {o : Oper} {a : Act} {w : World} {Q : Exit → Act → World → Prop} (hw : Region.wanted o (yielded ops a.tmps) = true) (src dst : TypeId) (x : Operand) (ho : o.op = .convert src dst x) (e : TypeId)
    (ao : Option Addr) (n cap : Nat) (B : List Int) (hx : a.eval x = .slice ao n cap) (hn : n = B.length) (hB : RowIn .u8 w (.slice ao n cap) B) (hs : P.underlying src = some (.slice e)) (he : P.underlying e = some (.int .u8)) (hd : P.underlying dst = some .string)
    (S : ByteArray) (hS : strB B = S) (h : wpList P ops Q rest (a.put o.dst (.string S)) w) : wpList P ops Q (o :: rest) a w := by
  subst hn hS
  refine BigFrame.wpList_want hw fun K hK => ?_
  have hr := run_strB w src dst e ao cap B hB hs he hd
  unfold Oper.wp
  simp only [execOp, ho, hx]
  rw [Sem.run_bind, hr]
  exact hK _ _ h
theorem strB_len : ∀ (B : List Int) (r : ByteArray), (B.foldl (fun r n => r.push (UInt8.ofNat n.toNat)) r).data.toList = r.data.toList ++ B.map fun n => UInt8.ofNat n.toNat
  | [], r => by simp
  | x :: l, r => by
    rw [List.foldl_cons, strB_len l]
    simp [ByteArray.push]
theorem strB_inj {B C : List Int} (hB : ∀ x, x ∈ B → 0 ≤ x ∧ x < 256) (hC : ∀ x, x ∈ C → 0 ≤ x ∧ x < 256) (h : strB B = strB C) : B = C := by
  have h1 : (strB B).data.toList = (strB C).data.toList := by rw [h]
  unfold strB at h1
  rw [strB_len, strB_len] at h1
  simp only [ByteArray.empty, ByteArray.emptyWithCapacity, List.nil_append] at h1
  have h2 : B.map (fun n => UInt8.ofNat n.toNat) = C.map fun n => UInt8.ofNat n.toNat := by simpa using h1
  clear h h1
  induction B generalizing C with
  | nil => cases C with
    | nil => rfl
    | cons y m => simp at h2
  | cons x l ih => cases C with
    | nil => simp at h2
    | cons y m =>
      simp only [List.map_cons, List.cons.injEq] at h2
      have hx := hB x (by simp)
      have hy := hC y (by simp)
      have e := congrArg UInt8.toNat h2.1
      simp only [UInt8.toNat_ofNat'] at e
      rw [ih (fun z hz => hB z (by simp [hz])) (fun z hz => hC z (by simp [hz])) h2.2, show x = y from by omega]
theorem wb_in {L : List Pt} (h : rightB L = true) : ∀ x, x ∈ ibytes L → 0 ≤ x ∧ x < 256 := by
  intro x hx
  unfold ibytes at hx
  rcases List.mem_cons.1 hx with rfl | hx
  · omega
  · obtain ⟨p, hp, hx⟩ := List.mem_flatMap.1 hx
    have ok := right_ok h p hp
    unfold pbytes phead at hx
    rcases List.mem_append.1 hx with hx | hx
    · simp only [List.mem_cons, List.not_mem_nil, or_false] at hx
      rcases hx with rfl | rfl | rfl | rfl
      · omega
      · omega
      · unfold wrB; split <;> omega
      · omega
    · obtain ⟨y, _, hx⟩ := List.mem_flatMap.1 hx
      unfold wbytes at hx
      simp only [List.mem_cons, List.not_mem_nil, or_false] at hx
      rcases hx with rfl | rfl | rfl | rfl | rfl | rfl | rfl | rfl <;> exact wb_bd _ _
/-- may parts be gone through? the first k of them -/
def lightK (L : List Pt) (k : Nat) : Bool := (List.range k).all fun i => decide ((L.getD i Pt.zero).ws.length ≤ 40)
def lightB (L : List Pt) : Bool := lightK L (min L.length 40) && decide (L.length ≤ 30)
theorem lightK_succ (L : List Pt) (k : Nat) : lightK L (k + 1) = (lightK L k && decide ((L.getD k Pt.zero).ws.length ≤ 40)) := by simp [lightK, List.range_succ]
theorem lightK_no {L : List Pt} {k : Nat} (hk : k < L.length) (h40 : k < 40) (h : 40 < (L.getD k Pt.zero).ws.length) : lightB L = false := by
  unfold lightB lightK
  rw [Bool.and_eq_false_iff]
  left
  rw [List.all_eq_false]
  exact ⟨k, List.mem_range.2 (by omega), by simp only [decide_eq_true_eq]; omega⟩
theorem right_no {L : List Pt} {k : Nat} (hk : k < L.length) (h : goodAt L k = false) : rightB L = false := by
  unfold rightB
  rw [show goods L L.length = false from by
    unfold goods
    rw [List.all_eq_false]
    exact ⟨k, List.mem_range.2 hk, by rw [h]; decide⟩]
  rfl
theorem light_len {L : List Pt} (h : lightB L = true) : L.length ≤ 30 := by
  unfold lightB at h
  simp only [Bool.and_eq_true, decide_eq_true_eq] at h
  exact h.2
theorem light_ws {L : List Pt} (h : lightB L = true) {p : Pt} (hp : p ∈ L) : p.ws.length ≤ 40 := by
  have hl := light_len h
  unfold lightB lightK at h
  simp only [Bool.and_eq_true, List.all_eq_true, List.mem_range, decide_eq_true_eq] at h
  obtain ⟨i, hi, rfl⟩ := List.getElem_of_mem hp
  have := h.1 i (by omega)
  rw [List.getD_eq_getElem?_getD, List.getElem?_eq_getElem hi] at this
  exact this
/-- eight bytes, one after the other -/
theorem wbytes_step (x : Int) (t : Nat) (h : t < 8) : (wbytes x).take (t + 1) = (wbytes x).take t ++ [wb x (7 - t)] := by
  have hd : t = 0 ∨ t = 1 ∨ t = 2 ∨ t = 3 ∨ t = 4 ∨ t = 5 ∨ t = 6 ∨ t = 7 := by omega
  rcases hd with rfl | rfl | rfl | rfl | rfl | rfl | rfl | rfl <;> rfl
theorem wbytes_all (x : Int) : (wbytes x).take 8 = wbytes x := rfl
end Go.Proofs.Ytkclojinokkikaa

/-
  Parts in a row of the call's own.
-/
namespace Go.Proofs.Ytkclojinokkikaa
open Go.ChangeShapes Go.WideShapes Go.ChangeAt Go.RowKit

def ptC (p : Pt) (ao : Option Addr) (cap : Nat) : List Value := [.int .i64 p.page, .bool p.wr, .slice ao p.ws.length cap]
/-- the cells of parts in a row -/
def PCs (w : World) (L : List Pt) (C : List Value) : Prop := C.length = L.length * 3 ∧ ∀ i p, L[i]? = some p → ∃ ao cap, (∀ j u, (ptC p ao cap)[j]? = some u → C[i * 3 + j]? = some u) ∧ RowIn .u64 w (.slice ao p.ws.length cap) p.ws
theorem PCs.nil (w : World) : PCs w [] [] := ⟨rfl, fun i p h => by simp at h⟩
theorem PCs.kept {w w' : World} {L : List Pt} {C : List Value} (h : PCs w L C) (u : Upd (fun _ => False) w w') : PCs w' L C := ⟨h.1, fun i p hi => by
  obtain ⟨ao, cap, h1, h2⟩ := h.2 i p hi
  exact ⟨ao, cap, h1, h2.kept u⟩⟩
theorem PCs.snoc {w : World} {L : List Pt} {C : List Value} (h : PCs w L C) {p : Pt} {ao : Option Addr} {cap : Nat} (hr : RowIn .u64 w (.slice ao p.ws.length cap) p.ws) : PCs w (L ++ [p]) (C ++ ptC p ao cap) := by
  refine ⟨by rw [List.length_append, h.1, List.length_append]; show L.length * 3 + 3 = (L.length + 1) * 3; omega, fun i q hi => ?_⟩
  by_cases e : i < L.length
  · rw [List.getElem?_append_left e] at hi
    obtain ⟨ao', cap', h1, h2⟩ := h.2 i q hi
    refine ⟨ao', cap', fun j u hj => ?_, h2⟩
    have := h1 j u hj
    rw [List.getElem?_append_left (List.getElem?_eq_some_iff.1 this).1]
    exact this
  · rw [List.getElem?_append_right (by omega)] at hi
    have hi0 : i - L.length = 0 := by
      have := (List.getElem?_eq_some_iff.1 hi).1
      simp at this
      omega
    rw [hi0] at hi
    have hq : p = q := by simpa using hi
    subst hq
    refine ⟨ao, cap, fun j u hj => ?_, hr⟩
    rw [List.getElem?_append_right (by rw [h.1]; omega), h.1, show i * 3 + j - L.length * 3 = j from by omega]
    exact hj
theorem PCs.in_ {w : World} {L : List Pt} {C : List Value} (h : PCs w L C) {base n cap : Nat} {e : TypeId} {o : Option Addr} (hn : L.length = n) (hrow : w.ownsRow base e 3 (.slice o n cap) n C) : PartsIn w o L := fun h0 => by
  obtain ⟨g, rfl, hc⟩ := rows_at hrow (by omega)
  refine ⟨g, 0, rfl, (hrow.lt g rfl).2, fun i p hi => ?_⟩
  obtain ⟨ao, cp, h1, h2⟩ := h.2 i p hi
  refine ⟨ao, cp, ?_, ?_, ?_, h2⟩
  · rw [Nat.zero_add]; exact hc _ _ (h1 0 _ rfl)
  · rw [Nat.zero_add]; exact hc _ _ (h1 1 _ rfl)
  · rw [Nat.zero_add]; exact hc _ _ (h1 2 _ rfl)
theorem PartsIn.nil {w : World} {o : Option Addr} : PartsIn w o [] := fun h => absurd h (Nat.lt_irrefl 0)
/-- part number k -/
theorem PartsIn.at {w : World} {ao : Option Addr} {L : List Pt} (h : PartsIn w ao L) {k : Nat} (hk : k < L.length) : ∃ b off, ao = some ⟨b, off, none⟩ ∧ b < w.heap.size ∧ PartAt w b (off + k * 3) (L.getD k Pt.zero) := by
  obtain ⟨b, off, e, hb, hp⟩ := h (by omega)
  refine ⟨b, off, e, hb, hp k _ ?_⟩
  rw [List.getD_eq_getElem?_getD, List.getElem?_eq_getElem hk]
  rfl
theorem take_getD (L : List Pt) {k : Nat} (hk : k < L.length) : L.take (k + 1) = L.take k ++ [L.getD k Pt.zero] := by
  rw [List.take_succ_eq_append_getElem hk, List.getD_eq_getElem?_getD, List.getElem?_eq_getElem hk]
  rfl
end Go.Proofs.Ytkclojinokkikaa

/-
  The laws' to: parts for the document.
-/
namespace Go.Proofs.Ytkclojinokkikaa
open Go.ChangeShapes Go.WideShapes Go.ChangeAt Go.RowKit

theorem info_rpart : (Try.prog.info? 46).map (fun i => (i.zero, i.size, i.bytes)) = some (some (.agg #[.int .i64 0, .bool false, .slice none 0 0]), 3, 40) := by kernel_rfl
theorem rows_grown_drew {w wr w4 : World} {N sz n : Nat} {e : TypeId} {v : Value} {xs : List Value} {o : Obj} {S : Nat → Prop} (hrow : wr.ownsRow N e sz v n xs) (hgr : (wr.alloc o).drew.grownBy w4 v.ownBlock) (hU : Upd S w wr) (hN : w.heap.size ≤ N) : Upd S w w4 := by
  have hs := hU.size
  refine ⟨hgr.os.trans hU.os, hgr.tape.trans hU.tape, hgr.output.trans hU.output, by have := hgr.size; simp at this; omega, fun k hk hS => ?_⟩
  rw [hgr.block k (by simp; omega) (fun e => by have := (hrow.lt k e.symm).1; omega)]
  show (wr.alloc o).heap[k]? = _
  rw [Below.heap_alloc _ _ _ (by omega)]
  exact hU.block k hk hS
theorem src_row (w : World) (c : List Value) (t : TypeId) (sz : Nat) (h : c.length = sz) : Src (w.alloc (.cells c.toArray t)).drew (.slice (some ⟨w.heap.size, 0, none⟩) 1 1) 1 sz c :=
  .inr ⟨_, 0, 1, rfl, by omega, fun j u hu => by have := rows_src w c t j u hu; rw [add_mid0] at this; exact this⟩
theorem ptC_one (z : Int) (x : Bool) (v : Value) (hv : v.oneCell' = true := by rfl) : ∀ u ∈ [Value.int .i64 z, .bool x, v], u.oneCell' = true := by
  intro u hu
  simp only [List.mem_cons, List.not_mem_nil, or_false] at hu
  rcases hu with rfl | rfl | rfl
  · rfl
  · rfl
  · exact hv
set_option maxRecDepth 100000 in
set_option maxHeartbeats 4000000 in
theorem to_any (ao : Option Addr) (cap : Nat) (L : List Pt) (w : World) (hL : PartsIn w ao L) (hn : L.length ≤ 100000) :
    Calls Try.prog 11 #[.slice ao L.length cap] w fun e w' => ∃ o c, e = .returned (.slice o L.length c) ∧ PartsIn w' o L ∧ Upd (fun _ => False) w w' := by
  obtain ⟨i0, hi0, hz0, hz1, hz2⟩ := info_parts info_rpart
  have h0 := Lib.hid (show w.ownsRow w.heap.size 46 3 (.slice none 0 0) 0 [] from rows_new w _ _ _)
  have HL := Lib.hid hL
  generalize hn' : L.length = n at hn ⊢
  replace hn' := Lib.hid hn'
  clear hL
  go_enter Try.func11, Try.ntmps11
  go_wp2_with fail
  go_loopw [4, 3] (fun t u wr => ∃ (k : Nat) (C : List Value), k ≤ n ∧ t = .int .i64 k ∧ Hid (wr.ownsRow w.heap.size 46 3 u k C) ∧ Hid (PCs w (L.take k) C) ∧ Hid (Upd (fun _ => False) w wr)) (fun t _ _ => n - (intOf t).toNat)
  case atStart => exact ⟨0, [], by omega, rfl, h0, Lib.hid (PCs.nil w), Lib.hid (Upd.refl _ _)⟩
  case round =>
    obtain ⟨k, C, hk, rfl, hrow, hC, hU⟩ := hrel
    by_cases hlt : k < n
    · obtain ⟨b, off, rfl, hb, a1, c1, d0, d1, d2, d3⟩ := HL.out.at (by rw [hn'.out]; exact hlt)
      have ht := Lib.hid (take_getD L (by rw [hn'.out]; exact hlt))
      obtain ⟨o, c5, rfl⟩ := rows_slice hrow.out
      have hus := hU.out.size
      have D3 := Lib.hid d3
      have hS := Lib.hid (show ∀ W', Upd (fun _ => False) w W' → W'.cell? ⟨b, off + k * 3, none⟩ = some (.int .i64 (L.getD k Pt.zero).page) ∧ W'.cell? ⟨b, off + k * 3 + 1, none⟩ = some (.bool (L.getD k Pt.zero).wr) ∧ W'.cell? ⟨b, off + k * 3 + 2, none⟩ = some (.slice a1 (L.getD k Pt.zero).ws.length c1) ∧ Upd (fun _ => False) w W' from fun W' u => ⟨u.cell d0 id, u.cell d1 id, u.cell d2 id, u⟩)
      clear d0 d1 d2 d3 hb
      generalize L.getD k Pt.zero = p at ht hS D3
      generalize hN : w.heap.size = N at hrow hus
      replace hN := Lib.hid hN
      have k0 : (0 : Int) ≤ (k : Int) := by omega
      have k1 : (k : Int) < (n : Int) := by omega
      go_wp2_with fail
      go_region_held3 (fun w' => w'.cell? ⟨b, off + k * 3, none⟩ = some (.int .i64 p.page) ∧ w'.cell? ⟨b, off + k * 3 + 1, none⟩ = some (.bool p.wr) ∧ w'.cell? ⟨b, off + k * 3 + 2, none⟩ = some (.slice a1 p.ws.length c1) ∧ Upd (fun _ => False) w w')
        (first
          | assumption
          | exact hS.out _ hU.out.drew
          | exact hS.out _ (hU.out.alloc _).drew
          | exact hS.out _ (hU.out.drew.alloc _)
          | exact hS.out _ u7)
        ((refine step_append_src _ (by rfl) (.tmp 11) (.tmp 28) 30 (by rfl) N 46 i0 (.agg #[.int .i64 0, .bool false, .slice none 0 0]) 3 40 Try.underlying30 hi0 hz0 hz1 hz2 rfl (by decide) (.slice o k c5) k C (by rfl) (rows_still hrow.out ((Upd.refl _ _).alloc _).drew) (.slice (some ⟨wr.heap.size, 0, none⟩) 1 1) 1 [.int .i64 p.page, .bool p.wr, .slice a1 p.ws.length c1] (by rfl) (src_row _ _ _ _ rfl) (ptC_one _ _ _) (by simp [maxLen]; omega) (by omega) (by simp; omega) ?_; intro v' w4 hown' hgrow; have u7 := rows_grown_drew hrow.out hgrow hU.out (Nat.le_of_eq hN.out)))
      have U4 := Lib.hid u7
      have R4 := Lib.hid hown'
      have C4 := Lib.hid (hC.out.snoc D3.out)
      rw [← ht.out] at C4
      clear hown' hgrow u7 hC hU hrow
      go_wp2
      refine ⟨⟨k + 1, _, by omega, by go_num, ?_, C4, U4⟩, by simp [intOf]; omega⟩
      exact R4
    · obtain rfl : k = n := by omega
      obtain ⟨o, c5, rfl⟩ := rows_slice hrow.out
      have HC := hC.out.kept hU.out
      rw [List.take_of_length_le (by rw [hn'.out]; exact Nat.le_refl _)] at HC
      have hin := Lib.hid (HC.in_ hn'.out hrow.out)
      clear HC
      go_wp2
      go_ret
      exact ⟨_, _, rfl, hin.out, hU.out⟩
end Go.Proofs.Ytkclojinokkikaa
