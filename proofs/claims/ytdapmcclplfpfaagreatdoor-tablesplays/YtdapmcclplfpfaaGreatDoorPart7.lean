/-
  Texts that the laws stand on, joined: TbS, TbT, TbV, TbW, TbX, TlM, TrA, TrB, TrC, WkR.
-/
import Derived.Test.YtdapmcclplfpfaaGreatDoorPart6

/-
  Package tables, in plain numbers: what Protect, Unmap, New and Close do to a space.
-/
namespace Go.Proofs.YtdapmcclplfpfaaGreatDoor

/-- what a walk tells of a whole space -/
theorem SpInv.wX {s : Sp} {m : Mem} {b : Bud} {Y : Nat × Nat → Prop} (h : SpInv s m b Y) (q : Int) : m.wX s.root q = if 0 ≤ q ∧ q ≤ 4095 then (if (s.E 3 q.toNat).v = true then 0 else 10) else 1 := by
  by_cases hq : 0 ≤ q ∧ q ≤ 4095
  · obtain ⟨j, rfl⟩ := Int.eq_ofNat_of_zero_le hq.1
    rw [if_pos hq, Int.toNat_natCast]
    exact (Sp.walk h.i h.ok h.hn (by omega)).2.1
  · rw [if_neg hq]
    refine (m.walk_no s.root q ?_).2.1
    unfold Mem.wB
    rw [show pageB q = false from decide_eq_false (by omega), Bool.and_false]
theorem SpInv.wE {s : Sp} {m : Mem} {b : Bud} {Y : Nat × Nat → Prop} (h : SpInv s m b Y) (q : Int) : m.wE s.root q = if 0 ≤ q ∧ q ≤ 4095 then s.E 3 q.toNat else En.zero := by
  by_cases hq : 0 ≤ q ∧ q ≤ 4095
  · obtain ⟨j, rfl⟩ := Int.eq_ofNat_of_zero_le hq.1
    rw [if_pos hq, Int.toNat_natCast]
    exact (Sp.walk h.i h.ok h.hn (by omega)).2.2.1
  · rw [if_neg hq]
    refine (m.walk_no s.root q ?_).2.2
    unfold Mem.wB
    rw [show pageB q = false from decide_eq_false (by omega), Bool.and_false]
theorem SpInv.found {s : Sp} {m : Mem} {b : Bud} {Y : Nat × Nat → Prop} (h : SpInv s m b Y) {q : Int} (hx : m.wX s.root q = 0) :
    ∃ qn : Nat, q = qn ∧ qn < 4096 ∧ (s.E 3 qn).v = true ∧ m.wE s.root q = s.E 3 qn ∧ (∀ k, k < 3 → m.wF s.root q k = s.fr k (nd qn k)) ∧ ∀ k, k < 3 → s.on k (nd qn k) = true := by
  rw [h.wX] at hx
  split at hx
  · rename_i hq
    split at hx
    · rename_i hv
      obtain ⟨j, rfl⟩ := Int.eq_ofNat_of_zero_le hq.1
      rw [Int.toNat_natCast] at hv
      obtain ⟨_, _, w3, w4⟩ := Sp.walk h.i h.ok h.hn (q := j) (by omega)
      have hd := (Sp.page_dep h.ok hv).1
      exact ⟨j, rfl, by omega, hv, w3, fun k hk => w4 k (by omega), fun k hk => s.dep_on (by omega) k (by omega)⟩
    · cases hx
  · cases hx
/-- words of others behind a Put into one of a space's tables -/
theorem SameW.put {s : Sp} {m : Mem} {Y : Nat × Nat → Prop} (hok : s.Ok m.n) (hm : m.ok) (hlt : ∀ x, Y x → x.1 < m.n) (hy : ∀ x, Y x → ∀ l d, l ≤ 2 → s.on l d = true → s.fr l d ≠ (x.1 : Nat)) {l d p : Nat} (hl : l ≤ 2) (ho : s.on l d = true) (hp : p < 16) (e : En) (he : e.ok = true) : SameW Y m (m.put (s.fr l d) (p : Nat) e) := by
  intro x hx p' hp'
  have := hlt x hx
  rw [m.word_put hm _ _ _ _ _ (by rw [Mem.slot_iff]; have := hok.frb ho; omega) (by rw [Mem.slot_iff]; omega) he, if_neg (fun c => hy x hx l d hl ho c.1.symm)]
theorem SpInv.protect {s : Sp} {m : Mem} {b : Bud} {Y : Nat × Nat → Prop} (h : SpInv s m b Y) {q : Int} (hx : m.wX s.root q = 0) (wb : Bool) :
    ∃ qn : Nat, q = qn ∧ qn < 4096 ∧ (s.E 3 qn).v = true ∧ m.putB (m.wF s.root q 2) (idxI q 2) { m.wE s.root q with r := wb } = true ∧ SameW Y m (m.put (m.wF s.root q 2) (idxI q 2) { m.wE s.root q with r := wb }) ∧
      ∃ s', SpInv s' (m.put (m.wF s.root q 2) (idxI q 2) { m.wE s.root q with r := wb }) b Y ∧ s'.root = s.root ∧ ∀ q', s'.E 3 q' = if q' = qn then { s.E 3 qn with r := wb } else s.E 3 q' := by
  obtain ⟨qn, rfl, hq, hv, hE, hF, hon⟩ := h.found hx
  rw [hE, hF 2 (by omega)]
  have ho2 := hon 2 (by omega)
  have hidx := idx_nat qn 2 hq (by omega)
  rw [show nd qn (2 + 1) = qn from nd3 qn] at hidx
  rw [show idxI (qn : Nat) 2 = ((qn % 16 : Nat) : Int) from hidx]
  have hst := nd_step qn 2 (by omega)
  rw [show nd qn (2 + 1) = qn from nd3 qn] at hst
  have hp : qn % 16 < 16 := Nat.mod_lt _ (by decide)
  have hf := h.ok.f _ _ hv
  have heok : En.ok { s.E 3 qn with r := wb } = true := by
    unfold En.ok rightB
    have h1 := h.hn
    have h2 := h.ok.pg _ hv
    simp [hv, h2]; omega
  have hs : m.slot (s.fr 2 (nd qn 2)) ((qn % 16 : Nat) : Int) = true := by rw [Mem.slot_iff]; have := h.ok.frb ho2; omega
  have hok := h.ok.page ho2 hp { s.E 3 qn with r := wb } hv (h.ok.pg _ hv) hf.1 hf.2
  have hin := h.i.set h.ok h.mo (l := 2) (by omega) ho2 hp { s.E 3 qn with r := wb } heok (fun h2 => by omega)
  rw [hst] at hok hin
  have hE3 : ∀ q', (s.set 3 qn { s.E 3 qn with r := wb }).E 3 q' = if q' = qn then { s.E 3 qn with r := wb } else s.E 3 q' := by
    intro q'
    by_cases e : q' = qn
    · rw [if_pos e, e, Sp.set_same]
    · rw [if_neg e, s.set_ne _ (by omega)]
  have honn : ∀ l d, l ≤ 2 → (s.set 3 qn { s.E 3 qn with r := wb }).on l d = s.on l d := fun l d hl => s.set_on _ (by omega)
  have hfrn : ∀ l d, l ≤ 2 → (s.set 3 qn { s.E 3 qn with r := wb }).fr l d = s.fr l d := fun l d hl => s.set_fr _ (by omega)
  refine ⟨qn, rfl, hq, hv, by unfold Mem.putB; rw [hs, heok]; rfl, SameW.put h.ok h.mo (fun x hx => h.ylt hx) (fun x hx l d => h.y_fr hx) (by omega) ho2 hp _ heok, s.set 3 qn { s.E 3 qn with r := wb }, ⟨by rw [Mem.put_n]; exact hok, hin, ?_, Mem.put_ok _ h.mo _ _ _, Mem.put_good _ h.mo h.hg _ _ _, h.bk, by rw [Mem.put_n]; exact h.bn, h.y0, ?_, ?_⟩, rfl, hE3⟩
  · intro l d h1 h2 ho
    rw [honn l d h2] at ho
    obtain ⟨p, hp', hc⟩ := h.nee l d h1 h2 ho
    refine ⟨p, hp', ?_⟩
    by_cases e : l = 2
    · subst e
      rw [hE3]
      split
      · exact hv
      · exact hc
    · rw [s.set_ne _ (by omega)]; exact hc
  · intro x
    rw [h.gv]
    constructor
    · rintro (⟨l, d, hl, ho, rfl⟩ | hy)
      · exact .inl ⟨l, d, hl, by rw [honn l d hl]; exact ho, by rw [hfrn l d hl]⟩
      · exact .inr hy
    · rintro (⟨l, d, hl, ho, rfl⟩ | hy)
      · exact .inl ⟨l, d, hl, by rw [← honn l d hl]; exact ho, by rw [hfrn l d hl]⟩
      · exact .inr hy
  · intro l d hl ho
    rw [honn l d hl] at ho
    rw [hfrn l d hl]
    exact h.ap l d hl ho

/-! Unmap -/
/-- a space in which one table may be without an entry -/
structure SpHalf (s : Sp) (m : Mem) (b : Bud) (Y : Nat × Nat → Prop) (X : Nat × Nat) : Prop where
  ok : s.Ok m.n
  i : s.In m
  nee : ∀ l d, 1 ≤ l → l ≤ 2 → (l, d) ≠ X → s.on l d = true → ∃ p, p < 16 ∧ (s.E (l + 1) (16 * d + p)).v = true
  mo : m.ok
  hg : m.good
  bk : b.Ok
  bn : m.n = b.n
  y0 : ∀ x, Y x → x.2 = 0
  gv : ∀ x, x ∈ b.gave ↔ (∃ l d, l ≤ 2 ∧ s.on l d = true ∧ x = ((s.fr l d).toNat, 0)) ∨ Y x
  ap : ∀ l d, l ≤ 2 → s.on l d = true → ¬ Y ((s.fr l d).toNat, 0)
theorem SpHalf.full {s : Sp} {m : Mem} {b : Bud} {Y : Nat × Nat → Prop} {X : Nat × Nat} (h : SpHalf s m b Y X) (hX : X.1 = 0 ∨ ∃ p, p < 16 ∧ (s.E (X.1 + 1) (16 * X.2 + p)).v = true) : SpInv s m b Y :=
  ⟨h.ok, h.i, fun l d h1 h2 ho => by
    by_cases e : (l, d) = X
    · subst e
      rcases hX with hX | hX
      · simp at hX; omega
      · exact hX
    · exact h.nee l d h1 h2 e ho, h.mo, h.hg, h.bk, h.bn, h.y0, h.gv, h.ap⟩
theorem SpInv.half {s : Sp} {m : Mem} {b : Bud} {Y : Nat × Nat → Prop} (h : SpInv s m b Y) (X : Nat × Nat) : SpHalf s m b Y X :=
  ⟨h.ok, h.i, fun l d h1 h2 _ ho => h.nee l d h1 h2 ho, h.mo, h.hg, h.bk, h.bn, h.y0, h.gv, h.ap⟩
theorem En.word_zero {e : En} (h : e.ok = true) (hw : e.word = 0) : e.v = false := by
  have := (of_word e h).2
  rw [hw] at this
  rw [← this]
  decide
theorem SpHalf.hn {s : Sp} {m : Mem} {b : Bud} {Y : Nat × Nat → Prop} {X : Nat × Nat} (h : SpHalf s m b Y X) : m.n ≤ 256 := by have := h.bn; have := h.bk.hi; omega
theorem SpHalf.ylt {s : Sp} {m : Mem} {b : Bud} {Y : Nat × Nat → Prop} {X : Nat × Nat} (h : SpHalf s m b Y X) {x : Nat × Nat} (hx : Y x) : x.1 < m.n := by
  have h1 := h.bk.blk x ((h.gv x).2 (.inr hx))
  have h2 := h.y0 x hx
  rw [h2] at h1
  have := h.bn
  omega
theorem SpHalf.y_fr {s : Sp} {m : Mem} {b : Bud} {Y : Nat × Nat → Prop} {X : Nat × Nat} (h : SpHalf s m b Y X) {x : Nat × Nat} (hx : Y x) {l d : Nat} (hl : l ≤ 2) (ho : s.on l d = true) : s.fr l d ≠ (x.1 : Nat) := fun e => by
  have := h.ap l d hl ho
  rw [e, Int.toNat_natCast] at this
  have h2 := h.y0 x hx
  exact this (by rw [← h2]; exact hx)
/-- is a table blank? -/
theorem SpHalf.blank {s : Sp} {m : Mem} {b : Bud} {Y : Nat × Nat → Prop} {X : Nat × Nat} (h : SpHalf s m b Y X) {l d : Nat} (hl : l ≤ 2) (ho : s.on l d = true) : m.zero (s.fr l d) = true ↔ ∀ p, p < 16 → (s.E (l + 1) (16 * d + p)).v = false := by
  have hb := h.ok.frb ho
  have hex : m.ex (s.fr l d) 1 = true := decide_eq_true (by omega)
  obtain ⟨g, hg⟩ := Int.eq_ofNat_of_zero_le hb.1
  have hat : ∀ p : Nat, m.word (s.fr l d) (p : Nat) = m.at ((s.fr l d).toNat * 16 + p) := by
    intro p
    unfold Mem.word
    rw [hg]
    congr 1
  constructor
  · intro hz p hp
    refine En.word_zero (h.ok.eok h.hn _ _) ?_
    rw [← h.i l d p hl ho hp, hat, ← m.fr_getD _ _ hp]
    unfold Mem.zero at hz
    rw [hex] at hz
    have : m.fr (s.fr l d).toNat = noughts := by simpa using hz
    rw [this]
    unfold noughts
    rw [List.getD_eq_getElem?_getD, List.getElem?_replicate]
    simp [hp]
  · intro hc
    refine m.zero_of h.mo _ hex fun p hp => ?_
    rw [← hat, h.i l d p hl ho hp, h.ok.none _ _ (hc p hp)]
    rfl
theorem mem_erase_iff {l : List (Nat × Nat)} (hn : l.Nodup) {x y : Nat × Nat} : x ∈ l.erase y ↔ x ∈ l ∧ x ≠ y := by
  constructor
  · intro hx
    exact ⟨List.mem_of_mem_erase hx, fun e => by subst e; exact (hn.not_mem_erase) hx⟩
  · rintro ⟨h1, h2⟩
    exact (List.mem_erase_of_ne h2).2 h1
/-- a table that is blank goes: its frame is freed, its entry in the table above is taken away -/
theorem SpHalf.dropT {s : Sp} {m : Mem} {b : Bud} {Y : Nat × Nat → Prop} {l d : Nat} (h : SpHalf s m b Y (l + 1, d)) (hl : l + 1 ≤ 2) (ho : s.on (l + 1) d = true) (hc : ∀ p, p < 16 → (s.E (l + 2) (16 * d + p)).v = false) :
    SpHalf (s.set (l + 1) d En.zero) ((m.scrub (s.fr (l + 1) d) 1).put (s.fr l (d / 16)) ((d % 16 : Nat) : Int) En.zero) (b.take ((s.fr (l + 1) d).toNat, 0)) Y (l, d / 16) ∧ SameW Y m ((m.scrub (s.fr (l + 1) d) 1).put (s.fr l (d / 16)) ((d % 16 : Nat) : Int) En.zero) := by
  have hv : (s.E (l + 1) d).v = true := by rw [← s.onS]; exact ho
  have hou : s.on l (d / 16) = true := (h.ok.lv _ _ hv).2.2.2
  have hb := h.ok.frb ho
  have hex : m.ex (s.fr (l + 1) d) 1 = true := decide_eq_true (by omega)
  have hz := (h.blank (by omega) ho).2 hc
  have hp : d % 16 < 16 := Nat.mod_lt _ (by decide)
  have hdd : 16 * (d / 16) + d % 16 = d := by omega
  have hin2 : s.In (m.scrub (s.fr (l + 1) d) 1) := by
    intro l' d' p' hl' ho' hp'
    have hb' := h.ok.frb ho'
    rw [m.word_scrub h.mo _ _ _ hex (by rw [Mem.slot_iff]; omega)]
    split
    · rename_i e
      obtain ⟨rfl, rfl⟩ := h.ok.inj _ _ _ _ hl' hl ho' ho e
      rw [h.ok.none _ _ (hc p' hp')]
      rfl
    · exact h.i l' d' p' hl' ho' hp'
  have hmo2 := Mem.ok_scrub m h.mo (s.fr (l + 1) d) 1
  have hok2 : s.Ok (m.scrub (s.fr (l + 1) d) 1).n := by rw [Mem.scrub_n]; exact h.ok
  have hin3 := hin2.set hok2 hmo2 (l := l) (d := d / 16) (p := d % 16) (by omega) hou hp En.zero rfl (fun _ e => by cases e)
  rw [hdd] at hin3
  have hok3 := h.ok.drop (l := l) (d := d) (fun _ p hp => hc p hp)
  have hgv := (h.gv _).2 (.inl ⟨l + 1, d, hl, ho, rfl⟩)
  have hon : ∀ l' d', (s.set (l + 1) d En.zero).on l' d' = true ↔ s.on l' d' = true ∧ ¬ (l' = l + 1 ∧ d' = d) := by
    intro l' d'
    by_cases hx : l' = l + 1 ∧ d' = d
    · rw [hx.1, hx.2, Sp.set_on_same]
      simp [En.zero]
    · rw [s.set_on _ hx]; simp [hx]
  have hfr : ∀ l' d', ¬ (l' = l + 1 ∧ d' = d) → (s.set (l + 1) d En.zero).fr l' d' = s.fr l' d' := fun l' d' hx => s.set_fr _ hx
  refine ⟨⟨by rw [Mem.put_n, Mem.scrub_n]; exact hok3, hin3, ?_, Mem.put_ok _ hmo2 _ _ _, Mem.put_good _ hmo2 (Mem.scrub_good _ h.mo h.hg _) _ _ _, h.bk.take hgv, by rw [Mem.put_n, Mem.scrub_n]; exact h.bn, h.y0, ?_, ?_⟩, ?_⟩
  · intro l' d' h1 h2 hne ho'
    obtain ⟨ho1, hx⟩ := (hon l' d').1 ho'
    obtain ⟨p, hp', hcv⟩ := h.nee l' d' h1 h2 (fun e => hx (by simpa using e)) ho1
    refine ⟨p, hp', ?_⟩
    rw [s.set_ne _ ?_]
    · exact hcv
    · rintro ⟨e1, e2⟩
      refine hne ?_
      have : d' = d / 16 := by omega
      rw [this, show l' = l from by omega]
  · intro x
    show x ∈ b.gave.erase _ ↔ _
    rw [mem_erase_iff h.bk.nodup, h.gv]
    constructor
    · rintro ⟨⟨l', d', hl', ho', rfl⟩ | hy, hne⟩
      · have hx : ¬ (l' = l + 1 ∧ d' = d) := fun e => hne (by rw [e.1, e.2])
        exact .inl ⟨l', d', hl', (hon l' d').2 ⟨ho', hx⟩, by rw [hfr l' d' hx]⟩
      · exact .inr hy
    · rintro (⟨l', d', hl', ho', rfl⟩ | hy)
      · obtain ⟨ho1, hx⟩ := (hon l' d').1 ho'
        rw [hfr l' d' hx]
        refine ⟨.inl ⟨l', d', hl', ho1, rfl⟩, fun e => hx ?_⟩
        have e1 : (s.fr l' d').toNat = (s.fr (l + 1) d).toNat := (Prod.mk.inj e).1
        have := h.ok.frb ho1
        exact h.ok.inj _ _ _ _ hl' hl ho1 ho (by omega)
      · exact ⟨.inr hy, fun e => h.ap _ _ hl ho (e ▸ hy)⟩
  · intro l' d' hl' ho'
    obtain ⟨ho1, hx⟩ := (hon l' d').1 ho'
    rw [hfr l' d' hx]
    exact h.ap l' d' hl' ho1
  · refine SameW.trans (b := m.scrub (s.fr (l + 1) d) 1) ?_ (SameW.put hok2 hmo2 (fun x hx => by rw [Mem.scrub_n]; exact h.ylt hx) (fun x hx l d => h.y_fr hx) (by omega) hou hp _ rfl)
    intro x hx p' hp'
    have := h.ylt hx
    rw [m.word_scrub h.mo _ _ _ hex (by rw [Mem.slot_iff]; omega), if_neg (fun e => h.y_fr hx hl ho e.symm)]
end Go.Proofs.YtdapmcclplfpfaaGreatDoor

/-
  Package tables, in plain numbers: Unmap whole, New, Close.
-/
namespace Go.Proofs.YtdapmcclplfpfaaGreatDoor

theorem unFree_yes {f : Int} {s : Mem × Bud} (h : ((f.toNat, 0) : Nat × Nat) ∈ s.2.gave) (h0 : 0 ≤ f) : unFree f s = (s.1.scrub f 1, s.2.take (f.toNat, 0)) := by
  unfold unFree; rw [if_pos ⟨h, h0⟩]
theorem unFold_one (root : Int) (F P : Nat → Int) (s : Mem × Bud) (k : Nat) : unFold root F P s [k] = (unStep root F P s k, unBrk root F P s k) := by
  simp [unFold]
theorem prefix3 {pre : List Nat} (h : pre <+: back3) : pre = [] ∨ pre = [2] ∨ pre = [2, 1] ∨ pre = [2, 1, 0] := by
  obtain ⟨t, ht⟩ := h
  unfold back3 at ht
  match pre, ht with
  | [], _ => exact .inl rfl
  | [a], e => simp at e; obtain ⟨rfl, _⟩ := e; exact .inr (.inl rfl)
  | [a, b], e => simp at e; obtain ⟨rfl, rfl, _⟩ := e; exact .inr (.inr (.inl rfl))
  | [a, b, c], e => simp at e; obtain ⟨rfl, rfl, rfl, _⟩ := e; exact .inr (.inr (.inr rfl))
  | a :: b :: c :: d :: r, e => simp at e
theorem not_all {P : Nat → Bool} (h : ¬ ∀ p, p < 16 → P p = false) : ∃ p, p < 16 ∧ P p = true := by
  by_cases hx : ∃ p, p < 16 ∧ P p = true
  · exact hx
  · exact absurd (fun p hp => by
      cases hv : P p
      · rfl
      · exact absurd ⟨p, hp, hv⟩ hx) h
set_option maxHeartbeats 400000 in
theorem SpInv.unmap {s : Sp} {m : Mem} {b : Bud} {Y : Nat × Nat → Prop} (h : SpInv s m b Y) {q : Int} (hx : m.wX s.root q = 0) {pre : List Nat} (hp : pre <+: back3)
    (hend : pre = back3 ∨ (unFold s.root (m.wF s.root q) (fun k => idxI q k) (m, b) pre).2 = true) (hgo : (unFold s.root (m.wF s.root q) (fun k => idxI q k) (m, b) pre.dropLast).2 = false) {m' : Mem} {b' : Bud} (hr : (unFold s.root (m.wF s.root q) (fun k => idxI q k) (m, b) pre).1 = (m', b')) :
    ∃ qn : Nat, q = qn ∧ qn < 4096 ∧ (s.E 3 qn).v = true ∧ m.wE s.root q = s.E 3 qn ∧ m'.n = m.n ∧ m'.B = m.B ∧ b'.n = b.n ∧ b'.res = b.res ∧ SameW Y m m' ∧
      ∃ s', SpInv s' m' b' Y ∧ s'.root = s.root ∧ (∀ q', s'.E 3 q' = if q' = qn then En.zero else s.E 3 q') ∧ ∀ l d, l ≤ 2 → s'.E l d = s.E l d ∨ s'.E l d = En.zero := by
  obtain ⟨qn, rfl, hq, hv, hE, hF, hon⟩ := h.found hx
  refine ⟨qn, rfl, hq, hv, hE, ?_⟩
  obtain ⟨F, hFe⟩ : ∃ F, m.wF s.root qn = F := ⟨_, rfl⟩
  rw [hFe] at hend hgo hr hF
  obtain ⟨P, hPe⟩ : ∃ P : Nat → Int, (fun k : Nat => idxI (qn : Nat) k) = P := ⟨_, rfl⟩
  rw [hPe] at hend hgo hr
  have hP : ∀ k, k < 3 → P k = ((nd qn (k + 1) % 16 : Nat) : Int) := fun k hk => by rw [← hPe]; exact idx_nat qn k hq hk
  clear hFe hPe
  -- the page goes
  have ho2 := hon 2 (by omega)
  have h33 : nd qn (2 + 1) = qn := nd3 qn
  have hp3 : qn % 16 < 16 := Nat.mod_lt _ (by decide)
  have hst := nd_step qn 2 (by omega)
  rw [h33] at hst
  have e2 : unPut F P m 2 = m.put (s.fr 2 (nd qn 2)) ((qn % 16 : Nat) : Int) En.zero := by
    unfold unPut
    rw [hF 2 (by omega), hP 2 (by omega), h33]
  have hok1 := h.ok.drop (l := 2) (d := qn) (fun h2 => by omega)
  have hin1 := h.i.set h.ok h.mo (l := 2) (by omega) ho2 hp3 En.zero rfl (fun h2 => by omega)
  rw [hst, ← e2] at hin1
  have hsw1 : SameW Y m (unPut F P m 2) := by rw [e2]; exact SameW.put h.ok h.mo (fun x hx => h.ylt hx) (fun x hx l d => h.y_fr hx) (by omega) ho2 hp3 _ rfl
  obtain ⟨s1, hs1⟩ : ∃ s1, s.set 3 qn En.zero = s1 := ⟨_, rfl⟩
  have on1 : ∀ l d, l ≤ 2 → s1.on l d = s.on l d := fun l d hl => by rw [← hs1]; exact s.set_on _ (by omega)
  have fr1 : ∀ l d, l ≤ 2 → s1.fr l d = s.fr l d := fun l d hl => by rw [← hs1]; exact s.set_fr _ (by omega)
  have E1 : ∀ q', s1.E 3 q' = if q' = qn then En.zero else s.E 3 q' := by
    intro q'
    rw [← hs1]
    by_cases e : q' = qn
    · rw [if_pos e, e, Sp.set_same]
    · rw [if_neg e, s.set_ne _ (by omega)]
  have rt1 : s1.root = s.root := by rw [← hs1]; rfl
  have A1 : ∀ l d, l ≤ 2 → s1.E l d = s.E l d ∨ s1.E l d = En.zero := fun l d hl => .inl (by rw [← hs1, s.set_ne _ (by omega)])
  rw [hs1] at hok1 hin1
  have half2 : SpHalf s1 (unPut F P m 2) b Y (2, nd qn 2) := by
    refine ⟨by rw [e2, Mem.put_n]; exact hok1, hin1, ?_, by rw [e2]; exact Mem.put_ok _ h.mo _ _ _, by rw [e2]; exact Mem.put_good _ h.mo h.hg _ _ _, h.bk, by rw [e2, Mem.put_n]; exact h.bn, h.y0, ?_, ?_⟩
    · intro l d h1 h2 hne ho
      rw [on1 l d h2] at ho
      obtain ⟨p, hp', hc⟩ := h.nee l d h1 h2 ho
      refine ⟨p, hp', ?_⟩
      by_cases e : l = 2
      · subst e
        rw [E1, if_neg]
        · exact hc
        · intro e'
          refine hne ?_
          rw [show d = nd qn 2 from by rw [nd2]; omega]
      · rw [← hs1, s.set_ne _ (by omega)]; exact hc
    · intro x
      rw [h.gv]
      constructor
      · rintro (⟨l, d, hl, ho, rfl⟩ | hy)
        · exact .inl ⟨l, d, hl, by rw [on1 l d hl]; exact ho, by rw [fr1 l d hl]⟩
        · exact .inr hy
      · rintro (⟨l, d, hl, ho, rfl⟩ | hy)
        · exact .inl ⟨l, d, hl, by rw [← on1 l d hl]; exact ho, by rw [fr1 l d hl]⟩
        · exact .inr hy
    · intro l d hl ho
      rw [on1 l d hl] at ho
      rw [fr1 l d hl]
      exact h.ap l d hl ho
  have o12 : s1.on 2 (nd qn 2) = true := by rw [on1 _ _ (by omega)]; exact ho2
  have f12 : F 2 = s1.fr 2 (nd qn 2) := by rw [hF 2 (by omega), fr1 _ _ (by omega)]
  have n2 : ¬ F 2 = s.root := fun e => by
    have := (h.ok.inj 2 (nd qn 2) 0 0 (by omega) (by omega) ho2 rfl (by rw [← hF 2 (by omega), e, s.fr0])).1
    omega
  have b2 : unBrk s.root F P (m, b) 2 = !(unPut F P m 2).zero (s1.fr 2 (nd qn 2)) := by unfold unBrk; rw [← f12]; simp [n2]
  have hnB2 : (unPut F P m 2).n = m.n ∧ (unPut F P m 2).B = m.B := by rw [e2]; exact ⟨Mem.put_n _ _ _ _, Mem.put_B _ _ _ _⟩
  rcases prefix3 hp with rfl | rfl | rfl | rfl
  · rcases hend with e | e
    · cases e
    · cases e
  · -- the table of level 2 stays
    rw [unFold_one] at hend hr
    have hb : unBrk s.root F P (m, b) 2 = true := by
      rcases hend with e | e
      · cases e
      · exact e
    have hr2 : unStep s.root F P (m, b) 2 = (m', b') := hr
    unfold unStep at hr2
    rw [if_pos hb] at hr2
    obtain ⟨rfl, rfl⟩ := Prod.mk.inj hr2
    rw [b2] at hb
    refine ⟨hnB2.1, hnB2.2, rfl, rfl, hsw1, s1, half2.full (.inr ?_), rt1, E1, A1⟩
    refine not_all (fun hall => ?_)
    rw [(half2.blank (by omega) o12).2 hall] at hb
    cases hb
  all_goals
    have hb2 : unBrk s.root F P (m, b) 2 = false := by
      first
        | (rw [show ([2, 1] : List Nat).dropLast = [2] from rfl, unFold_one] at hgo; exact hgo)
        | (rw [show ([2, 1, 0] : List Nat).dropLast = [2] ++ [1] from rfl, unFold_snoc, unFold_one] at hgo
           cases hx2 : unBrk s.root F P (m, b) 2
           · rfl
           · rw [hx2] at hgo; cases hgo)
    have hz2 : (unPut F P m 2).zero (s1.fr 2 (nd qn 2)) = true := by
      rw [b2] at hb2
      simpa using hb2
    have hc2 := (half2.blank (by omega) o12).1 hz2
    have hT := half2.dropT (l := 1) (by omega) o12 hc2
    have hnd : nd qn 2 / 16 = nd qn 1 := nd_up qn 1 (by omega)
    rw [hnd] at hT
    have hfree : unStep s.root F P (m, b) 2 = ((unPut F P m 2).scrub (s1.fr 2 (nd qn 2)) 1, b.take ((s1.fr 2 (nd qn 2)).toNat, 0)) := by
      unfold unStep
      rw [if_neg (by rw [hb2]; decide), f12]
      exact unFree_yes (s := (unPut F P m 2, b)) ((half2.gv _).2 (.inl ⟨2, _, by omega, o12, rfl⟩)) (half2.ok.frb o12).1
    have e1 : unPut F P ((unPut F P m 2).scrub (s1.fr 2 (nd qn 2)) 1) 1 = ((unPut F P m 2).scrub (s1.fr 2 (nd qn 2)) 1).put (s1.fr 1 (nd qn 1)) ((nd qn 2 % 16 : Nat) : Int) En.zero := by
      unfold unPut
      rw [hF 1 (by omega), hP 1 (by omega), fr1 1 _ (by omega)]
    have f11 : F 1 = s1.fr 1 (nd qn 1) := by rw [hF 1 (by omega), fr1 _ _ (by omega)]
    obtain ⟨st2, hst2⟩ : ∃ st2, st2 = ((unPut F P m 2).scrub (s1.fr 2 (nd qn 2)) 1, b.take ((s1.fr 2 (nd qn 2)).toNat, 0)) := ⟨_, rfl⟩
    rw [← hst2] at hfree
    have e1' : unPut F P st2.1 1 = ((unPut F P m 2).scrub (s1.fr 2 (nd qn 2)) 1).put (s1.fr 1 (nd qn 1)) ((nd qn 2 % 16 : Nat) : Int) En.zero := by rw [hst2]; exact e1
    rw [← e1'] at hT
    obtain ⟨s2, hs2⟩ : ∃ s2, s1.set 2 (nd qn 2) En.zero = s2 := ⟨_, rfl⟩
    have half1 : SpHalf s2 (unPut F P st2.1 1) st2.2 Y (1, nd qn 1) := by
      have := hT.1
      rw [show s1.set (1 + 1) (nd qn 2) En.zero = s2 from hs2] at this
      rw [hst2] at this ⊢
      exact this
    have hsw2 : SameW Y m (unPut F P st2.1 1) := hsw1.trans hT.2
    have E2 : ∀ q', s2.E 3 q' = if q' = qn then En.zero else s.E 3 q' := fun q' => by rw [← hs2, s1.set_ne _ (by omega)]; exact E1 q'
    have rt2 : s2.root = s.root := by rw [← hs2]; exact rt1
    have A2 : ∀ l d, l ≤ 2 → s2.E l d = s.E l d ∨ s2.E l d = En.zero := fun l d hl => by
      rw [← hs2]
      by_cases e : l = 2 ∧ d = nd qn 2
      · rw [e.1, e.2, Sp.set_same]; exact .inr rfl
      · rw [s1.set_ne _ e]; exact A1 l d hl
    have o21 : s2.on 1 (nd qn 1) = true := by rw [← hs2, s1.set_on _ (by omega), on1 _ _ (by omega)]; exact hon 1 (by omega)
    have f21 : F 1 = s2.fr 1 (nd qn 1) := by rw [f11, ← hs2, s1.set_fr _ (by omega)]
    have n1 : ¬ F 1 = s.root := fun e => by
      have := (h.ok.inj 1 (nd qn 1) 0 0 (by omega) (by omega) (hon 1 (by omega)) rfl (by rw [← hF 1 (by omega), e, s.fr0])).1
      omega
    have b1 : unBrk s.root F P st2 1 = !(unPut F P st2.1 1).zero (s2.fr 1 (nd qn 1)) := by unfold unBrk; rw [← f21]; simp [n1]
    have hnB1 : (unPut F P st2.1 1).n = m.n ∧ (unPut F P st2.1 1).B = m.B := by
      rw [e1', Mem.put_n, Mem.put_B, Mem.scrub_n, Mem.scrub_B]; exact hnB2
    have hbb : st2.2.n = b.n ∧ st2.2.res = b.res := by rw [hst2]; exact ⟨rfl, rfl⟩
  · -- the table of level 1 stays
    rw [show ([2, 1] : List Nat) = [2] ++ [1] from rfl, unFold_snoc, unFold_one, hfree] at hend hr
    dsimp only at hend hr
    have hb : unBrk s.root F P st2 1 = true := by
      rcases hend with e | e
      · cases e
      · rw [hb2, Bool.false_or] at e; exact e
    unfold unStep at hr
    rw [if_pos hb] at hr
    obtain ⟨rfl, rfl⟩ := Prod.mk.inj hr
    rw [b1] at hb
    refine ⟨hnB1.1, hnB1.2, hbb.1, hbb.2, hsw2, s2, half1.full (.inr ?_), rt2, E2, A2⟩
    refine not_all (fun hall => ?_)
    rw [(half1.blank (by omega) o21).2 hall] at hb
    cases hb
  · -- both go
    have hb1 : unBrk s.root F P st2 1 = false := by
      rw [show ([2, 1, 0] : List Nat).dropLast = [2] ++ [1] from rfl, unFold_snoc, unFold_one, hfree, hb2, Bool.false_or] at hgo
      exact hgo
    have hz1 : (unPut F P st2.1 1).zero (s2.fr 1 (nd qn 1)) = true := by
      rw [b1] at hb1
      simpa using hb1
    have hc1 := (half1.blank (by omega) o21).1 hz1
    have hT1 := half1.dropT (l := 0) (by omega) o21 hc1
    have hnd0 : nd qn 1 / 16 = 0 := by rw [nd1]; omega
    rw [hnd0] at hT1
    have hfree1 : unStep s.root F P st2 1 = ((unPut F P st2.1 1).scrub (s2.fr 1 (nd qn 1)) 1, st2.2.take ((s2.fr 1 (nd qn 1)).toNat, 0)) := by
      unfold unStep
      rw [if_neg (by rw [hb1]; decide), f21]
      exact unFree_yes (s := (unPut F P st2.1 1, st2.2)) ((half1.gv _).2 (.inl ⟨1, _, by omega, o21, rfl⟩)) (half1.ok.frb o21).1
    obtain ⟨st1, hst1⟩ : ∃ st1, st1 = ((unPut F P st2.1 1).scrub (s2.fr 1 (nd qn 1)) 1, st2.2.take ((s2.fr 1 (nd qn 1)).toNat, 0)) := ⟨_, rfl⟩
    rw [← hst1] at hfree1
    have f0 : F 0 = s.root := by rw [hF 0 (by omega)]; rfl
    have e0 : unPut F P st1.1 0 = ((unPut F P st2.1 1).scrub (s2.fr 1 (nd qn 1)) 1).put (s2.fr 0 0) ((nd qn 1 % 16 : Nat) : Int) En.zero := by
      show st1.1.put (F 0) (P 0) En.zero = _
      rw [f0, hP 0 (by omega), s2.fr0, rt2, hst1]
    rw [← e0] at hT1
    have hb0 : unBrk s.root F P st1 0 = true := by unfold unBrk; rw [f0]; simp
    rw [show ([2, 1, 0] : List Nat) = ([2] ++ [1]) ++ [0] from rfl, unFold_snoc, unFold_snoc, unFold_one, hfree] at hr
    dsimp only at hr
    rw [hfree1] at hr
    unfold unStep at hr
    rw [if_pos hb0] at hr
    obtain ⟨rfl, rfl⟩ := Prod.mk.inj hr
    have half0 : SpHalf (s2.set 1 (nd qn 1) En.zero) (unPut F P st1.1 0) st1.2 Y (0, 0) := by
      have := hT1.1
      rw [hst1] at this ⊢
      exact this
    refine ⟨by rw [e0, Mem.put_n, Mem.scrub_n]; exact hnB1.1, by rw [e0, Mem.put_B, Mem.scrub_B]; exact hnB1.2, by rw [hst1]; exact hbb.1, by rw [hst1]; exact hbb.2, hsw2.trans hT1.2, _, half0.full (.inl rfl), rt2, fun q' => by rw [s2.set_ne _ (by omega)]; exact E2 q', fun l d hl => ?_⟩
    by_cases e : l = 1 ∧ d = nd qn 1
    · rw [e.1, e.2, Sp.set_same]; exact .inr rfl
    · rw [s2.set_ne _ e]; exact A2 l d hl

/-! New -/
theorem SpInv.new {m : Mem} {b : Bud} (hm : m.ok) (hg : m.good) (hb : b.Ok) (hn : m.n = b.n) (hl : 1 ≤ b.left) {Y : Nat × Nat → Prop} (hY : ∀ x, x ∈ b.gave ↔ Y x) (y0 : ∀ x, Y x → x.2 = 0) :
    SpInv ⟨((b.al 1).1.getD 0 0 : Nat), fun _ _ => En.zero⟩ (m.clears (b.al 1).1) (b.al 1).2 Y ∧ SameW Y m (m.clears (b.al 1).1) := by
  have ha := al_ok hb 1 hl
  obtain ⟨r, hr⟩ : ∃ r, (b.al 1).1 = [r] := List.length_eq_one_iff.1 ha.len
  rw [hr] at ha ⊢
  have hrn := ha.fr r (by simp)
  have hcl : ∀ f p : Nat, f < m.n → p < 16 → (m.clears [r]).word (f : Nat) (p : Nat) = if f ∈ [r] then 0 else m.word (f : Nat) (p : Nat) := fun f p hf hp => m.clears_word hm [r] (fun g hg => by simp at hg; omega) f p hf hp
  have hfree : ((r, 0) : Nat × Nat) ∉ b.gave := fun hmm => by
    have := ((hb.fr r).1 hrn.2).2.2 _ hmm
    rw [inBlk_no] at this
    exact this ⟨Nat.le_refl _, by simp⟩
  have hon : ∀ l d, (Sp.mk ((([r] : List Nat).getD 0 0 : Nat)) fun _ _ => En.zero).on l d = true → l = 0 ∧ d = 0 := by
    intro l d h
    cases l with
    | zero => exact ⟨rfl, by simpa [Sp.on] using h⟩
    | succ l => rw [Sp.onS] at h; cases h
  refine ⟨⟨⟨?_, ?_, fun _ _ _ => rfl, ?_, ?_, ?_, ?_, ?_⟩, ?_, ?_, m.clears_ok hm _, m.clears_good hm hg _, ha.ok, by rw [Mem.clears_n, ha.n]; exact hn, y0, ?_, ?_⟩, ?_⟩
  · show (0 : Int) ≤ (r : Nat); omega
  · show ((r : Nat) : Int) < (m.clears [r]).n; rw [Mem.clears_n]; omega
  · intro l d hv; cases hv
  · intro l d hv; cases hv
  · intro d hv; cases hv
  · intro l d hv; cases hv
  · intro l d l' d' _ _ h1 h2 _
    obtain ⟨rfl, rfl⟩ := hon l d h1
    obtain ⟨rfl, rfl⟩ := hon l' d' h2
    exact ⟨rfl, rfl⟩
  · intro l d p hl ho hp
    obtain ⟨rfl, rfl⟩ := hon l d ho
    show (m.clears [r]).word ((r : Nat) : Int) p = 0
    rw [hcl r p (by omega) hp, if_pos (by simp)]
  · intro l d h1 h2 ho
    have := (hon l d ho).1
    omega
  · intro x
    rw [ha.gave, List.mem_append, hY]
    constructor
    · rintro (hy | hx)
      · exact .inr hy
      · simp at hx
        exact .inl ⟨0, 0, by omega, rfl, by rw [hx]; rfl⟩
    · rintro (⟨l, d, _, ho, rfl⟩ | hy)
      · obtain ⟨rfl, rfl⟩ := hon l d ho
        right
        simp [Sp.fr]
      · exact .inl hy
  · intro l d _ ho
    obtain ⟨rfl, rfl⟩ := hon l d ho
    intro hy
    exact hfree ((hY _).2 hy)
  · intro x hx p hp
    have h1 := hb.blk x ((hY x).2 hx)
    have h2 := y0 x hx
    rw [h2] at h1
    rw [hcl x.1 p (by omega) hp, if_neg]
    intro e
    simp at e
    exact hfree ((hY _).2 (by rw [← e, show ((x.1, 0) : Nat × Nat) = x from by rw [← h2]]; exact hx))
/-! Close -/
structure Freed (m : Mem) (b : Bud) (Y : Nat × Nat → Prop) (m' : Mem) (b' : Bud) : Prop where
  mo : m'.ok
  hg : m'.good
  bk : b'.Ok
  n : m'.n = m.n
  B : m'.B = m.B
  bn : b'.n = b.n
  res : b'.res = b.res
  w : SameW Y m m'
theorem frees_ok {m : Mem} {b : Bud} {Y : Nat × Nat → Prop} (hm : m.ok) (hg : m.good) (hb : b.Ok) (hn : m.n = b.n) (hY : ∀ x, Y x → x ∈ b.gave ∧ x.2 = 0) : ∀ (L : List Int), L.Nodup → (∀ f, f ∈ L → 0 ≤ f ∧ ((f.toNat, 0) : Nat × Nat) ∈ b.gave ∧ ¬ Y (f.toNat, 0)) →
    Freed m b Y (frees (m, b) L).1 (frees (m, b) L).2 ∧ ∀ x, x ∈ (frees (m, b) L).2.gave ↔ x ∈ b.gave ∧ ∀ f, f ∈ L → x ≠ (f.toNat, 0) := by
  intro L
  induction L using snoc_induction with
  | h0 => exact fun _ _ => ⟨⟨hm, hg, hb, rfl, rfl, rfl, rfl, SameW.refl _ _⟩, fun x => by simp [frees]⟩
  | h1 L f ih =>
    intro hnd hall
    rw [List.nodup_append] at hnd
    obtain ⟨F, hG⟩ := ih hnd.1 (fun g hg => hall g (by simp [hg]))
    obtain ⟨h0, h1, h2⟩ := hall f (by simp)
    have hin : ((f.toNat, 0) : Nat × Nat) ∈ (frees (m, b) L).2.gave := (hG _).2 ⟨h1, fun g hg e => by
      have := (hall g (by simp [hg])).1
      have e1 : f.toNat = g.toNat := (Prod.mk.inj e).1
      exact hnd.2.2 g hg f (by simp) (by omega)⟩
    have hex : (frees (m, b) L).1.ex f 1 = true := by
      have := hb.blk _ h1
      refine decide_eq_true ?_
      have := F.n
      simp at *
      omega
    rw [frees_snoc, unFree_yes hin h0]
    refine ⟨⟨Mem.ok_scrub _ F.mo _ _, Mem.scrub_good _ F.mo F.hg _, F.bk.take hin, by rw [Mem.scrub_n]; exact F.n, by rw [Mem.scrub_B]; exact F.B, F.bn, F.res, F.w.trans ?_⟩, ?_⟩
    · intro x hx p hp
      have hx1 := hb.blk _ (hY x hx).1
      rw [(hY x hx).2] at hx1
      rw [Mem.word_scrub _ F.mo _ _ _ hex (by rw [Mem.slot_iff, F.n]; omega), if_neg]
      intro e
      refine h2 ?_
      rw [← e, Int.toNat_natCast, ← (hY x hx).2]
      exact hx
    · intro x
      show x ∈ (frees (m, b) L).2.gave.erase _ ↔ _
      rw [mem_erase_iff F.bk.nodup, hG]
      constructor
      · rintro ⟨⟨a1, a2⟩, a3⟩
        exact ⟨a1, fun g hg => by rcases List.mem_append.1 hg with hg | hg; exact a2 g hg; simp at hg; subst hg; exact a3⟩
      · rintro ⟨a1, a2⟩
        exact ⟨⟨a1, fun g hg => a2 g (by simp [hg])⟩, a2 f (by simp)⟩
theorem SpInv.close {s : Sp} {m : Mem} {b : Bud} {Y : Nat × Nat → Prop} (h : SpInv s m b Y) :
    Freed m b Y (frees (m, b) (s.tabs.mergeSort leI)).1 (frees (m, b) (s.tabs.mergeSort leI)).2 ∧ ∀ x, x ∈ (frees (m, b) (s.tabs.mergeSort leI)).2.gave ↔ Y x := by
  have hp := List.mergeSort_perm s.tabs leI
  have hmem : ∀ f, f ∈ s.tabs.mergeSort leI ↔ ∃ l d, l ≤ 2 ∧ s.on l d = true ∧ f = s.fr l d := fun f => by rw [hp.mem_iff]; exact h.ok.mem_tabs
  obtain ⟨F, hG⟩ := frees_ok (Y := Y) h.mo h.hg h.bk h.bn (fun x hx => ⟨(h.gv x).2 (.inr hx), h.y0 x hx⟩) (s.tabs.mergeSort leI) (hp.nodup_iff.2 h.ok.tabs_nodup) (fun f hf => by
    obtain ⟨l, d, hl, ho, rfl⟩ := (hmem f).1 hf
    exact ⟨(h.ok.frb ho).1, h.has hl ho, h.ap l d hl ho⟩)
  refine ⟨F, fun x => ?_⟩
  rw [hG, h.gv]
  constructor
  · rintro ⟨⟨l, d, hl, ho, rfl⟩ | hy, hne⟩
    · exact absurd rfl (hne _ ((hmem _).2 ⟨l, d, hl, ho, rfl⟩))
    · exact hy
  · intro hy
    refine ⟨.inr hy, fun f hf e => ?_⟩
    obtain ⟨l, d, hl, ho, rfl⟩ := (hmem f).1 hf
    exact h.ap l d hl ho (e ▸ hy)
theorem SpInv.tabs_len {s : Sp} {m : Mem} {b : Bud} (h : SpInv s m b (fun _ => False)) : b.gave.length = s.tabs.length := by
  have hp : b.gave.Perm (s.tabs.map fun f => ((f.toNat, 0) : Nat × Nat)) := by
    refine (List.perm_ext_iff_of_nodup h.bk.nodup ?_).2 ?_
    · have := h.ok.tabs_nodup
      rw [List.nodup_iff_pairwise_ne] at this ⊢
      rw [List.pairwise_map]
      refine this.imp_of_mem ?_
      intro a c ha hc hne e
      have e1 : a.toNat = c.toNat := (Prod.mk.inj e).1
      obtain ⟨l, d, hl, ho, rfl⟩ := h.ok.mem_tabs.1 ha
      obtain ⟨l', d', hl', ho', rfl⟩ := h.ok.mem_tabs.1 hc
      have := h.ok.frb ho
      have := h.ok.frb ho'
      exact hne (by omega)
    · intro x
      rw [h.gv, List.mem_map]
      constructor
      · rintro (⟨l, d, hl, ho, rfl⟩ | hy)
        · exact ⟨_, h.ok.mem_tabs.2 ⟨l, d, hl, ho, rfl⟩, rfl⟩
        · exact hy.elim
      · rintro ⟨f, hf, rfl⟩
        obtain ⟨l, d, hl, ho, rfl⟩ := h.ok.mem_tabs.1 hf
        exact .inl ⟨l, d, hl, ho, rfl⟩
  rw [hp.length_eq, List.length_map]
theorem SpInv.left_len {s : Sp} {m : Mem} {b : Bud} (h : SpInv s m b (fun _ => False)) : b.left + s.tabs.length + b.res = m.n := by
  have := Go.Proofs.YtdapmcclplfpfaaGreatDoor.left_len _ (b := b) rfl h.bk (fun x hx => h.zero hx)
  rw [h.tabs_len] at this
  rw [h.bn]; exact this
end Go.Proofs.YtdapmcclplfpfaaGreatDoor

/-
  Package tables: contracts over whole spaces.
-/
namespace Go.Proofs.YtdapmcclplfpfaaGreatDoor
open Go.ChangeShapes Go.WideShapes Go.ChangeAt Go.RowKit Go.Shelf Go.Sort

/-- a whole space, its memory and its allocator, by their places -/
structure Spc (w : World) (S MA A GB MB : Nat) (s : Sp) (m : Mem) (b : Bud) (Y : Nat × Nat → Prop) : Prop where
  S : SpAt w S MA A s.root
  D : Duo w A MA GB m b
  T : Tab w
  I : SpInv s m b Y
  B : m.B = MB
theorem Spc.kept {U : Nat → Prop} {w w' : World} {S MA A GB MB : Nat} {s : Sp} {m : Mem} {b : Bud} {Y : Nat × Nat → Prop} (h : Spc w S MA A GB MB s m b Y) (u : Upd U w w') (h1 : ¬ U S) (h2 : ¬ U A) (h3 : ¬ U GB) (h4 : ¬ U MA) (h5 : ¬ U MB) (h6 : ¬ U 0) : Spc w' S MA A GB MB s m b Y :=
  ⟨h.S.kept u h1, h.D.kept u h2 h3 h4 (by rw [h.B]; exact h5), h.T.keptS u h6, h.I, h.B⟩
theorem Spc.still {w w' : World} {S MA A GB MB : Nat} {s : Sp} {m : Mem} {b : Bud} {Y : Nat × Nat → Prop} (h : Spc w S MA A GB MB s m b Y) (u : Upd (fun _ => False) w w') : Spc w' S MA A GB MB s m b Y :=
  h.kept u id id id id id id
theorem Spc.tab {w : World} {S MA A GB MB : Nat} {s : Sp} {m : Mem} {b : Bud} {Y : Nat × Nat → Prop} (h : Spc w S MA A GB MB s m b Y) : ¬ (0 = GB ∨ 0 = MB) := by
  rintro (e | e)
  · exact h.T.apartG h.D.B e
  · exact h.T.apart h.D.M (e.trans h.B.symm)
theorem Spc.own {w : World} {S MA A GB MB : Nat} {s : Sp} {m : Mem} {b : Bud} {Y : Nat × Nat → Prop} (h : Spc w S MA A GB MB s m b Y) : ¬ (S = GB ∨ S = MB) := by rw [← h.B]; exact h.S.apart h.D
theorem Spc.lts {w : World} {S MA A GB MB : Nat} {s : Sp} {m : Mem} {b : Bud} {Y : Nat × Nat → Prop} (h : Spc w S MA A GB MB s m b Y) : S < w.heap.size ∧ A < w.heap.size ∧ MA < w.heap.size ∧ GB < w.heap.size ∧ MB < w.heap.size :=
  ⟨lt_of_heap h.S, h.D.B.lts.1, lt_of_heap h.D.M.head, h.D.B.lts.2, by rw [← h.B]; exact lt_of_heap h.D.M.body⟩
theorem frame_wf {f : Int} {n : Nat} (hn : n ≤ 256) (h : 0 ≤ f ∧ f < n) : (Lit.int .i64 f).wf = true := by
  obtain ⟨j, rfl⟩ := Int.eq_ofNat_of_zero_le h.1
  exact wf_frame (by omega)

/-- what Map answers -/
def Sp.mapX (s : Sp) (m : Mem) (b : Bud) (q f : Int) : Int :=
  if ¬ (0 ≤ q ∧ q ≤ 4095) ∨ m.ex f 1 = false then 1 else if (s.E 3 q.toNat).v = true then 4 else if b.left < 3 - s.dep q.toNat then 6 else 0
theorem SpInv.mapX {s : Sp} {m : Mem} {b : Bud} {Y : Nat × Nat → Prop} (h : SpInv s m b Y) {q f : Int} {wb : Bool} {x : Int} {m' : Mem} {b' : Bud} (hM : MapTo m b s.root q f wb x m' b') : x = s.mapX m b q f := by
  have hw := h.wX q
  have hN : 0 ≤ q ∧ q ≤ 4095 → m.wN s.root q = s.dep q.toNat := fun hq => by
    obtain ⟨j, rfl⟩ := Int.eq_ofNat_of_zero_le hq.1
    rw [Int.toNat_natCast]
    exact (Sp.walk h.i h.ok h.hn (by omega)).1
  unfold Sp.mapX
  have h2 := h.map hM
  cases hM with
  | arg h1 => rw [if_pos (.inr h1)]
  | twice h1 hx =>
    rw [hx] at hw
    split at hw
    · rename_i hq
      split at hw
      · rename_i hv
        rw [if_neg (by rw [h1]; simp; omega), if_pos hv]
      · cases hw
    · cases hw
  | walk h1 h0 hx =>
    split at hw
    · split at hw
      · exact absurd hw h0
      · exact absurd hw hx
    · rename_i hq
      rw [if_pos (.inl hq), hw]
  | mem h1 hx hl =>
    rw [hx] at hw
    split at hw
    · rename_i hq
      split at hw
      · cases hw
      · rename_i hv
        rw [hN hq] at hl
        rw [if_neg (by rw [h1]; simp; omega), if_neg hv, if_pos hl]
    · cases hw
  | yes h1 hx k hk hl n0 hn L hL =>
    rcases h2 with ⟨hne, _, _, h3⟩ | ⟨h0, qn, rfl, hq, _, hv, hl', _⟩
    · exfalso
      rcases h3 with h3 | h3 | h3
      · rw [h1] at h3; cases h3
      · exact h3 hx
      · omega
    · rw [h0, if_neg (by rw [h1]; simp; omega), Int.toNat_natCast, if_neg (by rw [hv]; decide), if_neg (by omega)]

/-- what becomes of a space by Map -/
structure MapR (s : Sp) (m : Mem) (b : Bud) (Y : Nat × Nat → Prop) (q f : Int) (wb : Bool) (x : Int) (s' : Sp) (m' : Mem) (b' : Bud) : Prop where
  xe : x = s.mapX m b q f
  n : m'.n = m.n
  res : b'.res = b.res
  w : SameW Y m m'
  r : (x ≠ 0 ∧ s' = s ∧ m' = m ∧ b' = b) ∨ (x = 0 ∧ ∃ qn : Nat, q = qn ∧ qn < 4096 ∧ (0 ≤ f ∧ f < m.n) ∧ (s.E 3 qn).v = false ∧ 3 - s.dep qn ≤ b.left ∧ b' = (b.al (3 - s.dep qn)).2 ∧ s'.root = s.root ∧ ∀ q', s'.E 3 q' = if q' = qn then ⟨true, wb, false, f⟩ else s.E 3 q')
  e : x = 0 → ∀ qn : Nat, q = qn → ∀ l d, l ≤ 2 → s'.E l d = if s.dep qn ≤ l ∧ d = nd qn l then tbE ((b.al (3 - s.dep qn)).1.getD (l - s.dep qn) 0 : Nat) else s.E l d
theorem spc_map {w : World} {S MA A GB MB : Nat} {s : Sp} {m : Mem} {b : Bud} {Y : Nat × Nat → Prop} (h : Spc w S MA A GB MB s m b Y) (q f : Int) (wb : Bool) (hf : (Lit.int .i64 f).wf = true) :
    Calls Tryz.prog 9 #[.pointer (some ⟨S, 0, none⟩), .int .i64 q, .int .i64 f, .bool wb] w fun e w' =>
      ∃ x s' m' b', e = .returned (.int .i64 x) ∧ Spc w' S MA A GB MB s' m' b' Y ∧ Upd (fun k => k = GB ∨ k = MB) w w' ∧ MapR s m b Y q f wb x s' m' b' := by
  refine (smap_any S MA A GB s.root m b q f wb w h.S h.D h.T h.I.hg hf).mono ?_
  rintro e w' ⟨x, m', b', rfl, hM, d, u⟩
  rw [h.B] at u
  have hx := h.I.mapX hM
  rcases h.I.map hM with ⟨h0, rfl, rfl, _⟩ | ⟨h0, qn, hq, hq', hf', hv, hl, hb, hn, hB, hw, s', hI, hr, hE, hE12⟩
  · exact ⟨x, s, m', b', rfl, ⟨h.S.kept u h.own, d, h.T.keptS u h.tab, h.I, h.B⟩, u, hx, rfl, rfl, SameW.refl _ _, .inl ⟨h0, rfl, rfl, rfl⟩, fun e => absurd e h0⟩
  · exact ⟨x, s', m', b', rfl, ⟨by rw [hr]; exact h.S.kept u h.own, d, h.T.keptS u h.tab, hI, by rw [hB]; exact h.B⟩, u, hx, hn, by rw [hb]; exact (al_ok h.I.bk _ hl).res, hw, .inr ⟨h0, qn, hq, hq', hf', hv, hl, hb, hr, hE⟩, fun _ q2 e2 => by
    have e3 : qn = q2 := by omega
    rw [← e3]
    exact hE12⟩
/-- .. by Unmap -/
structure UnR (s : Sp) (m : Mem) (b : Bud) (Y : Nat × Nat → Prop) (q : Int) (f x : Int) (s' : Sp) (m' : Mem) (b' : Bud) : Prop where
  xe : x = if 0 ≤ q ∧ q ≤ 4095 then (if (s.E 3 q.toNat).v = true then 0 else 10) else 1
  n : m'.n = m.n
  res : b'.res = b.res
  w : SameW Y m m'
  r : (x ≠ 0 ∧ f = 0 ∧ s' = s ∧ m' = m ∧ b' = b) ∨ (x = 0 ∧ ∃ qn : Nat, q = qn ∧ qn < 4096 ∧ (s.E 3 qn).v = true ∧ f = (s.E 3 qn).f ∧ s'.root = s.root ∧ ∀ q', s'.E 3 q' = if q' = qn then En.zero else s.E 3 q')
  e : ∀ l d, l ≤ 2 → s'.E l d = s.E l d ∨ s'.E l d = En.zero
theorem spc_unmap {w : World} {S MA A GB MB : Nat} {s : Sp} {m : Mem} {b : Bud} {Y : Nat × Nat → Prop} (h : Spc w S MA A GB MB s m b Y) (q : Int) :
    Calls Tryz.prog 11 #[.pointer (some ⟨S, 0, none⟩), .int .i64 q] w fun e w' =>
      ∃ f x s' m' b', e = .returned (.tuple #[.int .i64 f, .int .i64 x]) ∧ Spc w' S MA A GB MB s' m' b' Y ∧ Upd (fun k => k = GB ∨ k = MB) w w' ∧ UnR s m b Y q f x s' m' b' := by
  refine (sunmap_any S MA A GB s.root m b q w h.S h.D h.T h.I.hg (frame_wf h.I.hn ⟨h.I.ok.rlo, h.I.ok.rhi⟩)).mono ?_
  have hx := h.I.wX q
  rintro e w' (⟨h0, rfl, u⟩ | ⟨h0, pre, hp, hend, hgo, rfl, d, u⟩)
  · exact ⟨0, _, s, m, b, rfl, h.still u, u.none, hx, rfl, rfl, SameW.refl _ _, .inl ⟨h0, rfl, rfl, rfl, rfl⟩, fun _ _ _ => .inl rfl⟩
  · rw [h.B] at u
    obtain ⟨qn, hq, hq', hv, hE, hn, hB, hbn, hres, hw, s', hI, hr, hE', hE12⟩ := h.I.unmap h0 hp hend hgo rfl
    refine ⟨_, 0, s', _, _, rfl, ⟨by rw [hr]; exact h.S.kept u h.own, d, h.T.keptS u h.tab, hI, by rw [hB]; exact h.B⟩, u, h0.symm.trans hx, hn, hres, hw, .inr ⟨rfl, qn, hq, hq', hv, by rw [hE], hr, hE'⟩, hE12⟩
/-- .. by Protect -/
structure PrR (s : Sp) (m : Mem) (Y : Nat × Nat → Prop) (q : Int) (wb : Bool) (x : Int) (s' : Sp) (m' : Mem) : Prop where
  xe : x = if 0 ≤ q ∧ q ≤ 4095 then (if (s.E 3 q.toNat).v = true then 0 else 10) else 1
  n : m'.n = m.n
  w : SameW Y m m'
  r : (x ≠ 0 ∧ s' = s ∧ m' = m) ∨ (x = 0 ∧ ∃ qn : Nat, q = qn ∧ qn < 4096 ∧ (s.E 3 qn).v = true ∧ s'.root = s.root ∧ ∀ q', s'.E 3 q' = if q' = qn then { s.E 3 qn with r := wb } else s.E 3 q')
theorem spc_protect {w : World} {S MA A GB MB : Nat} {s : Sp} {m : Mem} {b : Bud} {Y : Nat × Nat → Prop} (h : Spc w S MA A GB MB s m b Y) (q : Int) (wb : Bool) :
    Calls Tryz.prog 13 #[.pointer (some ⟨S, 0, none⟩), .int .i64 q, .bool wb] w fun e w' =>
      ∃ x s' m', e = .returned (.int .i64 x) ∧ Spc w' S MA A GB MB s' m' b Y ∧ Upd (fun k => k = GB ∨ k = MB) w w' ∧ PrR s m Y q wb x s' m' := by
  refine (sprotect_any S MA A s.root m q wb w h.S h.D.M h.T h.I.hg).mono ?_
  have hx := h.I.wX q
  rintro e w' (⟨h0, rfl, u⟩ | ⟨h0, rfl, hm, u⟩)
  · exact ⟨_, s, m, rfl, h.still u, u.none, hx, rfl, SameW.refl _ _, .inl ⟨h0, rfl, rfl⟩⟩
  · obtain ⟨qn, hq, hq', hv, hpB, hw, s', hI, hr, hE⟩ := h.I.protect h0 wb
    have d := h.D.cleared hm u (Mem.put_n _ _ _ _)
    have u' : Upd (fun k => k = GB ∨ k = MB) w w' := u.mono (fun _ _ e => .inr (e.trans h.B))
    refine ⟨0, s', _, by rw [hpB]; rfl, ⟨by rw [hr]; exact h.S.kept u' h.own, d, h.T.keptS u' h.tab, hI, by rw [Mem.put_B]; exact h.B⟩, u', h0.symm.trans hx, Mem.put_n _ _ _ _, hw, .inr ⟨rfl, qn, hq, hq', hv, hr, hE⟩⟩
/-- what Find tells -/
def Sp.findE (s : Sp) (q : Int) : En := if 0 ≤ q ∧ q ≤ 4095 then s.E 3 q.toNat else En.zero
def Sp.findX (s : Sp) (q : Int) : Int := if 0 ≤ q ∧ q ≤ 4095 then (if (s.E 3 q.toNat).v = true then 0 else 10) else 1
theorem spc_find {w : World} {S MA A GB MB : Nat} {s : Sp} {m : Mem} {b : Bud} {Y : Nat × Nat → Prop} (h : Spc w S MA A GB MB s m b Y) (q : Int) :
    Calls Tryz.prog 15 #[.pointer (some ⟨S, 0, none⟩), .int .i64 q] w fun e w' => e = .returned (.tuple #[(s.findE q).val, .int .i64 (s.findX q)]) ∧ Upd (fun _ => False) w w' := by
  have := sfind_any S MA A s.root m q w h.S h.D.M h.T h.I.hg
  rw [h.I.wE, h.I.wX] at this
  exact this
theorem spc_walk {w : World} {S MA A GB MB : Nat} {s : Sp} {m : Mem} {b : Bud} {Y : Nat × Nat → Prop} (h : Spc w S MA A GB MB s m b Y) (q : Int) :
    Calls Tryz.prog 32 #[.pointer (some ⟨MA, 0, none⟩), .int .i64 s.root, .int .i64 q] w fun e w' => ∃ o n cap, e = .returned (.tuple #[(s.findE q).val, .slice o n cap, .int .i64 (s.findX q)]) ∧ Upd (fun _ => False) w w' := by
  refine (walk_row (root := s.root) (q := q) w.heap.size (Nat.le_refl _) h.D.M h.T h.I.hg).mono ?_
  rintro e w' ⟨o, cap, rfl, _, u⟩
  rw [h.I.wE, h.I.wX]
  exact ⟨o, _, cap, rfl, u⟩
theorem spc_root {w : World} {S MA A GB MB : Nat} {s : Sp} {m : Mem} {b : Bud} {Y : Nat × Nat → Prop} (h : Spc w S MA A GB MB s m b Y) :
    Calls Tryz.prog 27 #[.pointer (some ⟨S, 0, none⟩)] w fun e w' => e = .returned (.int .i64 s.root) ∧ w = w' := sroot_any S MA A s.root w h.S
def Sp.pgi (s : Sp) : List Int := s.pgs.map fun q => ((q : Nat) : Int)
def Sp.tbs (s : Sp) : List Int := s.tabs.mergeSort leI
theorem Sp.pgi_len (s : Sp) : s.pgi.length = s.pgs.length := by simp [Sp.pgi]
theorem Sp.tbs_len (s : Sp) : s.tbs.length = s.tabs.length := (List.mergeSort_perm s.tabs leI).length_eq
theorem spc_pages {w : World} {S MA A GB MB : Nat} {s : Sp} {m : Mem} {b : Bud} {Y : Nat × Nat → Prop} (h : Spc w S MA A GB MB s m b Y) :
    Calls Tryz.prog 18 #[.pointer (some ⟨S, 0, none⟩)] w fun e w' => ∃ v, e = .returned v ∧ w'.ownsRow w.heap.size 3 1 v s.pgi.length (i64s s.pgi) ∧ Upd (fun _ => False) w w' := by
  have := spages_any S MA A m s w h.S h.D.M h.T h.I.i h.I.ok h.I.hg h.I.hn
  rw [h.I.ok.vis_selP] at this
  exact this
theorem spc_tables {w : World} {S MA A GB MB : Nat} {s : Sp} {m : Mem} {b : Bud} {Y : Nat × Nat → Prop} (h : Spc w S MA A GB MB s m b Y) :
    Calls Tryz.prog 20 #[.pointer (some ⟨S, 0, none⟩)] w fun e w' => ∃ v, e = .returned v ∧ w'.ownsRow w.heap.size 3 1 v s.tbs.length (i64s s.tbs) ∧ Upd (fun _ => False) w w' := by
  have := stables_any S MA A m s w h.S h.D.M h.T h.I.i h.I.ok h.I.hg h.I.hn
  rw [s.tbs_len]
  exact this
theorem Sp.lev_len (s : Sp) (l : Nat) : (s.lev l).length ≤ 16 ^ l := by
  unfold Sp.lev
  have := List.length_filter_le (fun d => (s.E l d).v) (List.range (16 ^ l))
  rwa [List.length_range] at this
theorem SpInv.tabs_bd {s : Sp} {m : Mem} {b : Bud} {Y : Nat × Nat → Prop} (h : SpInv s m b Y) : s.tabs.length ≤ 273 := by
  have h1 := s.lev_len 1
  have h2 := s.lev_len 2
  rw [h.ok.tabs_len]
  omega
theorem spc_close {w : World} {S MA A GB MB : Nat} {s : Sp} {m : Mem} {b : Bud} {Y : Nat × Nat → Prop} (h : Spc w S MA A GB MB s m b Y) :
    Calls Tryz.prog 25 #[.pointer (some ⟨S, 0, none⟩)] w fun e w' => ∃ v m' b', e = .returned v ∧ w'.ownsRow w.heap.size 3 1 v s.pgs.length (i64s (s.pgs.map fun q => (s.E 3 q).f)) ∧ Duo w' A MA GB m' b' ∧ Upd (fun k => k = GB ∨ k = MB) w w' ∧ Tab w' ∧ Freed m b Y m' b' ∧ ∀ x, x ∈ b'.gave ↔ Y x := by
  refine (sclose_any S MA A GB m b s w h.S h.D h.T h.I.i h.I.ok h.I.hg (by have := h.I.tabs_bd; omega)).mono ?_
  rintro e w' ⟨v, rfl, hrow, d, u⟩
  rw [h.B] at u
  exact ⟨v, _, _, rfl, hrow, d, u, h.T.keptS u h.tab, h.I.close.1, h.I.close.2⟩
theorem spc_new {w : World} {MA A GB MB : Nat} {m : Mem} {b : Bud} (hd : Duo w A MA GB m b) (T : Tab w) (hB : m.B = MB) (hg : m.good) {Y : Nat × Nat → Prop} (hY : ∀ x, x ∈ b.gave ↔ Y x) (y0 : ∀ x, Y x → x.2 = 0) :
    Calls Tryz.prog 30 #[.pointer (some ⟨MA, 0, none⟩), .pointer (some ⟨A, 0, none⟩)] w fun e w' =>
      (b.left < 1 ∧ e = .returned (.tuple #[.pointer none, .int .i64 6]) ∧ Upd (fun _ => False) w w') ∨
      (1 ≤ b.left ∧ ∃ S s m', w.heap.size ≤ S ∧ e = .returned (.tuple #[.pointer (some ⟨S, 0, none⟩), .int .i64 0]) ∧ Spc w' S MA A GB MB s m' (b.al 1).2 Y ∧ Upd (fun k => k = GB ∨ k = MB) w w' ∧ m'.n = m.n ∧ s.root = ((b.al 1).1.getD 0 0 : Nat) ∧ (∀ l d, s.E l d = En.zero) ∧ SameW Y m m') := by
  refine (snew_any MA A GB m b w hd).mono ?_
  rintro e w' (⟨h0, rfl, u⟩ | ⟨h0, S, hS, rfl, s0, d, u⟩)
  · exact .inl ⟨h0, rfl, u⟩
  · rw [hB] at u
    obtain ⟨hI, hw⟩ := SpInv.new hd.M.okm hg hd.B.ok hd.n h0 hY y0
    refine .inr ⟨h0, S, _, _, hS, rfl, ⟨s0, d, T.keptS u ?_, hI, by rw [Mem.clears_B]; exact hB⟩, u, Mem.clears_n _ _, rfl, fun _ _ => rfl, hw⟩
    rintro (e | e)
    · exact T.apartG hd.B e
    · exact T.apart hd.M (e.trans hB.symm)
end Go.Proofs.YtdapmcclplfpfaaGreatDoor

/-
  The laws' begun and awake.
-/
namespace Go.Proofs.YtdapmcclplfpfaaGreatDoor
open Go.ChangeShapes Go.WideShapes Go.ChangeAt Go.RowKit Go.Shelf Go.Sort

/-- nothing of it was there before block B -/
structure SpcNew (B S MA A GB MB : Nat) : Prop where
  s : B ≤ S
  ma : B ≤ MA
  a : B ≤ A
  gb : B ≤ GB
  mb : B ≤ MB
theorem bud0_left (n : Nat) (h1 : 1 ≤ n) (h2 : n ≤ 256) : (bud0 n 0).left = n := by
  have := left_len _ (b := bud0 n 0) rfl (bud0_ok h1 h2 (by omega)) (fun x hx => by simp [bud0] at hx)
  simpa [bud0] using this
set_option maxRecDepth 100000 in
set_option maxHeartbeats 1000000 in
theorem tbegun_any (fs : Int) (w : World) (T : Tab w) :
    Calls Tryz.prog 5 #[.int .i64 fs] w fun e w' =>
      (¬ (1 ≤ fs ∧ fs ≤ 256) ∧ e = .returned (.tuple #[.pointer none, .pointer none, .pointer none]) ∧ Upd (fun _ => False) w w') ∨
      (∃ (n S MA A GB MB : Nat) (s : Sp) (m : Mem) (b : Bud), fs = n ∧ 1 ≤ n ∧ n ≤ 256 ∧ e = .returned (.tuple #[.pointer (some ⟨MA, 0, none⟩), .pointer (some ⟨A, 0, none⟩), .pointer (some ⟨S, 0, none⟩)]) ∧
        Spc w' S MA A GB MB s m b (fun _ => False) ∧ SpcNew w.heap.size S MA A GB MB ∧ m.n = n ∧ b.res = 0 ∧ b.left + 1 = n ∧ (∀ l d, s.E l d = En.zero) ∧ s.root = (((bud0 n 0).al 1).1.getD 0 0 : Nat) ∧ Upd (fun _ => False) w w') := by
  by_cases h1 : 1 ≤ fs ∧ fs ≤ 256
  · obtain ⟨n, rfl⟩ := Int.eq_ofNat_of_zero_le (show 0 ≤ fs by omega)
    have hn1 : 1 ≤ n := by omega
    have hn2 : n ≤ 256 := by omega
    clear h1
    have hl := Lib.hid (bud0_left n hn1 hn2)
    have ha := Lib.hid (al_ok (bud0_ok hn1 hn2 (show 0 ≤ n by omega)) 1 (by rw [hl.out]; exact hn1))
    go_enter Tryz.func5, Tryz.ntmps5
    go_wp2_with fail
    refine (new_yes n _ hn1 hn2).mono ?_
    rintro e w1 ⟨rfl, M1, U1, S1⟩
    have hs1 := Lib.hid S1
    clear S1
    go_wp2_with fail
    refine (bNew_yes _ _ 0 _ M1 (by omega)).mono ?_
    rintro e w2 ⟨rfl, B2, U2, S2⟩
    have T2 := T.kept (U1.trans U2)
    have D2 : Duo w2 (w1.heap.size + 1) (w.heap.size + 1) w1.heap.size (memNew w.heap.size n) (bud0 n 0) := ⟨B2, M1.kept U2 id id, rfl⟩
    have U02 := U1.trans U2
    clear B2 M1 U1 U2 S2
    have hz := Lib.hid (show w.heap.size ≤ w.heap.size + 1 ∧ w.heap.size ≤ w1.heap.size ∧ w.heap.size ≤ w1.heap.size + 1 from by have := hs1.out; omega)
    have hB : (memNew w.heap.size n).B = w.heap.size := rfl
    have HB := Lib.hid hB
    clear hB
    have hg := Lib.hid (Mem.new_good w.heap.size n)
    have hmn : Hid ((memNew w.heap.size n).n = n) := Lib.hid rfl
    generalize memNew w.heap.size n = m0 at D2 HB hg hmn
    obtain ⟨MB, hMB⟩ : ∃ MB, w.heap.size = MB := ⟨_, rfl⟩
    rw [hMB] at HB
    generalize w.heap.size + 1 = MA at D2 hz ⊢
    generalize w1.heap.size + 1 = A at D2 hz ⊢
    generalize w1.heap.size = GB at D2 hz ⊢
    clear hs1
    go_wp2_with fail
    refine (spc_new D2 T2 HB.out hg.out (Y := fun _ => False) (fun x => by simp [bud0]) (fun x hx => hx.elim)).mono ?_
    rintro e w3 (⟨h0, _⟩ | ⟨h0, S, s, m', hS, rfl, P3, U3, hn3, hr, hE, _⟩)
    · rw [hl.out] at h0; omega
    have hl1 := ha.out.left
    have hr1 := ha.out.res
    rw [hl.out] at hl1
    have Hl1 := Lib.hid hl1
    have Hr1 : Hid (((bud0 n 0).al 1).2.res = 0) := Lib.hid (hr1.trans rfl)
    clear hl1 hr1
    have hn3' := Lib.hid (hn3.trans hmn.out)
    have U4 := Upd.since U02 U3 (by rintro j (rfl | rfl); exact hz.out.2.1; exact Nat.le_of_eq hMB)
    have N4 : SpcNew w.heap.size S MA A GB MB := ⟨Nat.le_trans U02.size hS, hz.out.1, hz.out.2.2, hz.out.2.1, Nat.le_of_eq hMB⟩
    go_wp2
    go_ret3
    exact .inr ⟨n, S, MA, A, GB, MB, s, m', _, rfl, hn1, hn2, rfl, P3, N4, hn3'.out, Hr1.out, Hl1.out, hE, hr, U4⟩
  · have h3 := Lib.hid h1
    go_enter Tryz.func5, Tryz.ntmps5
    go_wp2_with fail
    refine (new_no fs _ (by omega)).mono ?_
    rintro e w1 ⟨rfl, rfl⟩
    go_wp2_with fail
    refine (bNew_nil 0 _).mono ?_
    rintro e w2 ⟨rfl, rfl⟩
    go_wp2_with fail
    refine (snew_nil none none _ (.inl rfl)).mono ?_
    rintro e w2 ⟨rfl, rfl⟩
    go_wp2
    go_ret3
    exact .inl ⟨h3.out, rfl, Upd.refl _ _⟩

theorem SpInv.bare {s : Sp} {m : Mem} {b : Bud} {Y : Nat × Nat → Prop} (h : SpInv s m b Y) (h0 : ∀ q, (s.E 3 q).v = false) : s.tabs.length = 1 := by
  have l2 : ∀ d, (s.E 2 d).v = false := fun d => by
    cases hv : (s.E 2 d).v
    · rfl
    · obtain ⟨p, _, hp⟩ := h.nee 2 d (by omega) (by omega) (by rw [s.onS]; exact hv)
      rw [h0] at hp; cases hp
  have l1 : ∀ d, (s.E 1 d).v = false := fun d => by
    cases hv : (s.E 1 d).v
    · rfl
    · obtain ⟨p, _, hp⟩ := h.nee 1 d (by omega) (by omega) (by rw [s.onS]; exact hv)
      rw [l2] at hp; cases hp
  rw [h.ok.tabs_len]
  unfold Sp.lev
  rw [List.filter_eq_nil_iff.2 (fun d _ => by rw [l1]; decide), List.filter_eq_nil_iff.2 (fun d _ => by rw [l2]; decide)]
  rfl
theorem leI_sorted (l : List Int) : (l.mergeSort leI).Pairwise (fun a c => leI a c = true) :=
  List.pairwise_mergeSort (fun a b c h1 h2 => by unfold leI at *; simp at *; omega) (fun a b => by unfold leI; simp; omega) l
/-- the least is first -/
theorem tbs_zero {s : Sp} {n : Nat} (h : s.Ok n) (h0 : s.root = 0) : s.tbs.getD 0 0 = 0 := by
  have hs := leI_sorted s.tabs
  have hm : (0 : Int) ∈ s.tbs := (List.mergeSort_perm s.tabs leI).mem_iff.2 (by rw [← h0]; exact List.mem_cons_self)
  have hall : ∀ f, f ∈ s.tbs → 0 ≤ f := fun f hf => by
    obtain ⟨l, d, _, ho, rfl⟩ := h.mem_tabs.1 ((List.mergeSort_perm s.tabs leI).mem_iff.1 hf)
    exact (h.frb ho).1
  change s.tbs.Pairwise _ at hs
  generalize s.tbs = L at hs hm hall
  cases L with
  | nil => cases hm
  | cons a L =>
    show a = 0
    rw [List.pairwise_cons] at hs
    have ha := hall a (by simp)
    rcases List.mem_cons.1 hm with e | e
    · exact e.symm
    · have := hs.1 0 e
      unfold leI at this
      simp at this
      omega
theorem al8 : ((bud0 8 0).al 1).1.getD 0 0 = 0 := by decide
set_option maxRecDepth 100000 in
set_option maxHeartbeats 1000000 in
theorem tawake_any (w : World) (T : Tab w) : Calls Tryz.prog 4 #[] w fun e w' => e = .returned (.bool true) ∧ Upd (fun _ => False) w w' := by
  go_enter Tryz.func4, Tryz.ntmps4
  go_wp2_with fail
  refine (tbegun_any 8 _ T).mono ?_
  rintro e w1 (⟨hno, _⟩ | ⟨n, S, MA, A, GB, MB, s, m, b, hn, _, _, rfl, P1, N1, hmn, hres, hl, hE, hr, U1⟩)
  · exact absurd (by omega) hno
  obtain rfl : n = 8 := by omega
  rw [al8] at hr
  have hS1 := Lib.hid (show ∀ j, j = GB ∨ j = MB → w.heap.size ≤ j from by rintro j (rfl | rfl); exact N1.gb; exact N1.mb)
  have HE := Lib.hid hE
  have Hb := Lib.hid (And.intro hres hl)
  have Hr := Lib.hid hr
  have Hm := Lib.hid hmn
  clear hn hE hres hl hr hmn
  go_wp2_with fail
  refine (spc_map P1 291 7 true (by decide)).mono ?_
  rintro e w2 ⟨x, s2, m2, b2, rfl, P2, U2, hM⟩
  have hx : x = 0 := by
    rw [hM.xe]
    unfold Sp.mapX
    have h1 : m.ex 7 1 = true := decide_eq_true (by rw [Hm.out]; omega)
    have h2 : (s.E 3 (291 : Int).toNat).v = false := by rw [HE.out]; rfl
    have h3 : s.dep (291 : Int).toNat = 1 := by unfold Sp.dep; rw [HE.out]; rfl
    rw [if_neg (by rw [h1]; simp), h2, h3, if_neg (by decide), if_neg (by have := Hb.out.2; omega)]
  subst hx
  have hM2 : b2 = (b.al 2).2 ∧ s2.root = s.root ∧ ∀ q', s2.E 3 q' = if q' = 291 then ⟨true, true, false, 7⟩ else s.E 3 q' := by
    rcases hM.r with ⟨h0, _⟩ | ⟨_, qn, hq, _, _, _, _, hb, hr, hE⟩
    · exact absurd rfl h0
    · obtain rfl : qn = 291 := by omega
      have h3 : s.dep 291 = 1 := by unfold Sp.dep; rw [HE.out]; rfl
      rw [h3] at hb
      exact ⟨hb, hr, hE⟩
  have HM := Lib.hid hM2
  have hlen2 : Hid (s2.tbs.length = 3) := Lib.hid (by
    have h1 := P2.I.left_len
    have h2 := (al_ok P1.I.bk 2 (by have := Hb.out.2; omega)).left
    rw [← hM2.1] at h2
    rw [s2.tbs_len]
    have h3 := hM.n
    have h4 := hM.res
    have := Hm.out
    have := Hb.out
    omega)
  have V2 := Upd.since U1 U2 hS1.out
  clear hM hM2 U1 U2 P1
  go_wp2_with fail
  refine (spc_find P2 291).mono ?_
  rintro e w3 ⟨rfl, U3⟩
  have hF : s2.findE 291 = ⟨true, true, false, 7⟩ ∧ s2.findX 291 = 0 := by
    have h1 : s2.E 3 (291 : Int).toNat = ⟨true, true, false, 7⟩ := by rw [HM.out.2.2]; rfl
    unfold Sp.findE Sp.findX
    rw [h1]
    exact ⟨rfl, rfl⟩
  rw [hF.1, hF.2]
  clear hF
  have P3 := P2.still U3
  have V3 := V2.trans U3
  clear P2 V2 U3
  have a4 := heap_alloc_last w3 (.cells #[.bool true, .bool true, .bool false, .int .i64 7] 46)
  have u4 := (Upd.refl (fun _ => False) w3).alloc (.cells #[.bool true, .bool true, .bool false, .int .i64 7] 46)
  go_upto_region 6 with fail
  have P4 := P3.still u4
  have V4 := V3.trans u4
  generalize w3.alloc (.cells #[.bool true, .bool true, .bool false, .int .i64 7] 46) = w4 at a4 u4 P4 V4 ⊢
  have hX4 := Lib.hid (show w.heap.size ≤ w3.heap.size from V3.size)
  generalize w3.heap.size = X4 at a4 hX4 ⊢
  clear P3 V3 u4
  go_wp2_with fail
  refine (spc_tables P4).mono ?_
  rintro e w5 ⟨v, rfl, hrow, U5⟩
  have P5 := P4.still U5
  have V5 := V4.trans U5
  have a5 := U5.at a4 id
  have hN5 := V4.size
  obtain ⟨o, cap, rfl, hcells⟩ := slice1 hrow
  obtain ⟨g, rfl, hc⟩ := hcells 0 _ (i64s_at _ _ (by rw [hlen2.out]; omega))
  have hg := (hrow.lt g rfl).1
  rw [tbs_zero P5.I.ok (by rw [HM.out.2.1]; exact Hr.out)] at hc
  rw [hlen2.out]
  have hlt := P4.lts
  have hgn : ¬ (g = GB ∨ g = MB) := by omega
  have hxn : ¬ (X4 = GB ∨ X4 = MB) := by
    rintro (e | e)
    · obtain ⟨D, ⟨es, clock, hb, _⟩, _⟩ := P4.D.B.mp
      rw [← e, a4] at hb; cases hb
    · have := P4.D.M.body
      rw [P4.B, ← e, a4] at this; simp at this
  clear hrow hcells P4 V4 a4 U5 hlt
  go_wp2_with fail
  refine (spc_unmap P5 291).mono ?_
  rintro e w6 ⟨f6, x6, s6, m6, b6, rfl, P6, U6, hU⟩
  have hx6 : x6 = 0 := by
    rw [hU.xe]
    have h1 : (s2.E 3 (291 : Int).toNat).v = true := by rw [HM.out.2.2]; rfl
    rw [h1]; rfl
  subst hx6
  have hU2 : f6 = 7 ∧ s6.root = 0 ∧ ∀ q, (s6.E 3 q).v = false := by
    rcases hU.r with ⟨h0, _⟩ | ⟨_, qn, hq, _, _, hf, hr, hE⟩
    · exact absurd rfl h0
    · obtain rfl : qn = 291 := by omega
      refine ⟨by rw [hf, HM.out.2.2]; rfl, by rw [hr, HM.out.2.1]; exact Hr.out, fun q => ?_⟩
      rw [hE, HM.out.2.2]
      split
      · rfl
      · rw [HE.out]; rfl
  obtain ⟨rfl, hr6, h60⟩ := hU2
  have hlen6 : Hid (s6.tbs.length = 1) := Lib.hid (by rw [s6.tbs_len]; exact P6.I.bare h60)
  have V6 := Upd.since V5 U6 hS1.out
  have c6 := U6.cell hc hgn
  have a6 := U6.at a5 hxn
  have hb3 := (show EntAt w6 X4 true true false 7 from a6).range 3 _ rfl
  rw [Nat.zero_add] at hb3
  clear hU U6 V5 P5 hc a5 hgn hxn h60 HE HM Hb Hr Hm hg hN5
  go_upto_region 8 with fail
  have hS8 := Lib.hid (show ∀ W', Upd (fun _ => False) w6 W' → W'.cell? ⟨g, 0, none⟩ = some (.int .i64 0) ∧ W'.cell? ⟨X4, 3, none⟩ = some (.int .i64 7) ∧ Upd (fun _ => False) w6 W' from fun W' u => ⟨u.cell c6 id, u.cell hb3 id, u⟩)
  go_region_held3 (fun w' => w'.cell? ⟨g, 0, none⟩ = some (.int .i64 0) ∧ w'.cell? ⟨X4, 3, none⟩ = some (.int .i64 7) ∧ Upd (fun _ => False) w6 w')
    (first
      | assumption
      | exact hS8.out _ (Upd.refl _ _).drew
      | exact hS8.out _ u9)
    (first
      | (go_at_call 20; go_split_ands; rename_i s1 s2 s3; refine (spc_tables (P6.still s3)).mono ?_; rintro e w9 ⟨v9, rfl, hrow9, u9'⟩; have u9 := s3.trans u9'; obtain ⟨o9, cap9, rfl⟩ := wk_slice hrow9; rw [hlen6.out])
      | (go_at_call 27; go_split_ands; rename_i s1 s2 s3; refine (spc_root (P6.still s3)).mono ?_; rintro e w9 ⟨rfl, rfl⟩; rw [hr6]))
  all_goals go_wp2
  all_goals go_ret
  all_goals first | exact ⟨rfl, V6.trans u9⟩ | exact ⟨rfl, V6.trans s3⟩
end Go.Proofs.YtdapmcclplfpfaaGreatDoor

/-
  Layer 8's laws over a row of calls: what lies in a row's place; worlds behind a call.
-/
namespace Go.Proofs.YtdapmcclplfpfaaGreatDoor
open Go.ChangeShapes Go.WideShapes Go.ChangeAt Go.RowKit Go.Shelf Go.Sort

/-- one call of the row -/
structure TopIn (w : World) (b o : Nat) (d q f : Int) (wb : Bool) : Prop where
  c0 : w.cell? ⟨b, o, none⟩ = some (.int .i64 d)
  c1 : w.cell? ⟨b, o + 1, none⟩ = some (.int .i64 q)
  c2 : w.cell? ⟨b, o + 2, none⟩ = some (.int .i64 f)
  c3 : w.cell? ⟨b, o + 3, none⟩ = some (.bool wb)
theorem TopIn.kept {T : Nat → Prop} {w w' : World} {b o : Nat} {d q f : Int} {wb : Bool} (h : TopIn w b o d q f wb) (u : Upd T w w') (hb : ¬ T b) : TopIn w' b o d q f wb :=
  ⟨u.cell h.c0 hb, u.cell h.c1 hb, u.cell h.c2 hb, u.cell h.c3 hb⟩
abbrev topKs : List (Option IntKind) := [some .i64, some .i64, some .i64, none]
theorem top4 {w : World} {ao : Option Addr} {n b off : Nat} {E : Nat → Nat → Value} (R : Fr.RowArg w ao n b off topKs E) (i : Nat) (hi : i < n) :
    ∃ (d q f : Int) (wb : Bool), TopIn w b (off + i * 4) d q f wb ∧ (Lit.int .i64 q).wf = true ∧ (Lit.int .i64 f).wf = true := by
  obtain ⟨d, e0, w0⟩ := R.ok i hi 0 _ rfl
  obtain ⟨q, e1, w1⟩ := R.ok i hi 1 _ rfl
  obtain ⟨f, e2, w2⟩ := R.ok i hi 2 _ rfl
  obtain ⟨wb, e3⟩ := R.ok i hi 3 _ rfl
  refine ⟨d, q, f, wb, ⟨?_, ?_, ?_, ?_⟩, w1, w2⟩
  · have := R.cell i hi 0 (by decide); rw [e0] at this; simpa [Nat.add_assoc] using this
  · have := R.cell i hi 1 (by decide); rw [e1] at this; simpa [Nat.add_assoc] using this
  · have := R.cell i hi 2 (by decide); rw [e2] at this; simpa [Nat.add_assoc] using this
  · have := R.cell i hi 3 (by decide); rw [e3] at this; simpa [Nat.add_assoc] using this
theorem rows_below {w w' : World} {ao : Option Addr} {n b off : Nat} {ks : List (Option IntKind)} {E : Nat → Nat → Value} (R : Fr.RowArg w ao n b off ks E) (u : Upd (fun _ => False) w w') : Fr.RowArg w' ao n b off ks E := R.kept (u.below (Nat.le_refl _) fun _ _ => id)
theorem Sp.pgi_getD (s : Sp) (i : Nat) : s.pgi.getD i 0 = ((s.pgs.getD i 0 : Nat) : Int) := by
  unfold Sp.pgi
  rw [List.getD_eq_getElem?_getD, List.getD_eq_getElem?_getD, List.getElem?_map]
  cases s.pgs[i]? <;> rfl
theorem Sp.pgs_at (s : Sp) {i : Nat} (h : i < s.pgs.length) : s.pgs.getD i 0 < 4096 ∧ (s.E 3 (s.pgs.getD i 0)).v = true := Sp.mem_pgs.1 (getD_mem h)
theorem Sp.pgs_up (s : Sp) {i j : Nat} (hij : i < j) (h : j < s.pgs.length) : s.pgs.getD i 0 < s.pgs.getD j 0 := by
  have := List.pairwise_iff_getElem.1 s.pgs_rises i j (by omega) h hij
  rw [List.getD_eq_getElem?_getD, List.getD_eq_getElem?_getD, List.getElem?_eq_getElem h, List.getElem?_eq_getElem (by omega)]
  exact this
theorem Sp.find_page (s : Sp) {i : Nat} (h : i < s.pgs.length) : s.findX (s.pgs.getD i 0 : Nat) = 0 := by
  have := s.pgs_at h
  unfold Sp.findX
  rw [if_pos (by omega), Int.toNat_natCast, if_pos this.2]
theorem Sp.pgs_len (s : Sp) : s.pgs.length ≤ 4096 := by
  have := List.length_filter_le (fun q => (s.E 3 q).v) (List.range 4096)
  rwa [List.length_range] at this
end Go.Proofs.YtdapmcclplfpfaaGreatDoor

/-
  Package tlb, in plain numbers: a buffer of eight places, what is found there, Put, Drop, Flush, Lines.
-/
namespace Go.Proofs.YtdapmcclplfpfaaGreatDoor

/-- a line -/
structure Ln where
  a : Int
  p : Int
  f : Int
  w : Bool
deriving DecidableEq
/-- a buffer: what lies in each of the eight places -/
abbrev Buf := Nat → Option Ln
def Buf.hit (B : Buf) (a p : Int) (i : Nat) : Bool := match B i with
  | some l => decide (l.a = a) && decide (l.p = p)
  | none => false
/-- the first place of the first k with that line; k if there is none -/
def Buf.first (q : Nat → Bool) : Nat → Nat
  | 0 => 0
  | k + 1 => if Buf.first q k < k then Buf.first q k else if q k then k else k + 1
theorem first_le (q : Nat → Bool) : ∀ k, Buf.first q k ≤ k
  | 0 => Nat.le_refl _
  | k + 1 => by
    have := first_le q k
    rw [Buf.first]
    split
    · omega
    · split <;> omega
theorem first_none {q : Nat → Bool} : ∀ {k : Nat}, Buf.first q k = k → ∀ j, j < k → q j = false
  | 0, _, j, hj => absurd hj (by omega)
  | k + 1, h, j, hj => by
    rw [Buf.first] at h
    by_cases h1 : Buf.first q k < k
    · rw [if_pos h1] at h; omega
    · rw [if_neg h1] at h
      have hk : Buf.first q k = k := by have := first_le q k; omega
      cases hq : q k
      · by_cases e : j = k
        · rw [e]; exact hq
        · exact first_none hk j (by omega)
      · rw [hq] at h; simp at h
theorem first_lt {q : Nat → Bool} : ∀ {k : Nat}, Buf.first q k < k → q (Buf.first q k) = true ∧ ∀ j, j < Buf.first q k → q j = false
  | 0, h => absurd h (by omega)
  | k + 1, h => by
    rw [Buf.first] at h ⊢
    by_cases h1 : Buf.first q k < k
    · rw [if_pos h1]; exact first_lt h1
    · rw [if_neg h1] at h ⊢
      have hk : Buf.first q k = k := by have := first_le q k; omega
      have hall : ∀ j, j < k → q j = false := first_none hk
      cases hq : q k
      · rw [hq] at h; simp at h
      · simp only [if_true]; exact ⟨hq, hall⟩
theorem first_of {q : Nat → Bool} {k i : Nat} (hi : i < k) (hq : q i = true) (hb : ∀ j, j < i → q j = false) : Buf.first q k = i := by
  have hlt : Buf.first q k < k := by
    have := first_le q k
    by_cases e : Buf.first q k = k
    · have := first_none e i hi; rw [hq] at this; cases this
    · omega
  obtain ⟨h1, h2⟩ := first_lt hlt
  by_cases c : i < Buf.first q k
  · have := h2 i c; rw [hq] at this; cases this
  · by_cases c2 : Buf.first q k < i
    · have := hb _ c2; rw [h1] at this; cases this
    · omega
theorem first_all {q : Nat → Bool} {k : Nat} (h : ∀ j, j < k → q j = false) : Buf.first q k = k := by
  have := first_le q k
  by_cases e : Buf.first q k < k
  · have := (first_lt e).1; rw [h _ e] at this; cases this
  · omega
/-- the place of a line; 8 if there is none -/
def Buf.at (B : Buf) (a p : Int) : Nat := Buf.first (B.hit a p) 8
/-- the first empty place; 8 if there is none -/
def Buf.gap (B : Buf) : Nat := Buf.first (fun i => (B i).isNone) 8
def Buf.find (B : Buf) (a p : Int) : Option Ln := if B.at a p < 8 then B (B.at a p) else none
def Buf.set (B : Buf) (i : Nat) (x : Option Ln) : Buf := fun j => if j = i then x else B j
/-- may it be put? -/
def putOk (l : Ln) (at' : Int) : Bool := decide (1 ≤ l.a ∧ l.a ≤ 8 ∧ 0 ≤ l.p ∧ l.p ≤ 4095 ∧ 0 ≤ l.f ∧ l.f ≤ 255 ∧ 0 ≤ at' ∧ at' ≤ 7)
def Buf.place (B : Buf) (l : Ln) (at' : Int) : Nat := if B.at l.a l.p < 8 then B.at l.a l.p else if B.gap < 8 then B.gap else at'.toNat
def Buf.put (B : Buf) (l : Ln) (at' : Int) : Buf := if putOk l at' = true then B.set (B.place l at') (some l) else B
def Buf.drop (B : Buf) (a p : Int) : Buf := if B.at a p < 8 then B.set (B.at a p) none else B
def Buf.flush (B : Buf) (a : Int) : Buf := fun j => match B j with
  | some l => if l.a = a then none else some l
  | none => none
def Buf.linesTo (B : Buf) (k : Nat) : List Ln := (List.range k).filterMap B
def Buf.lines (B : Buf) : List Ln := B.linesTo 8
def Buf.many (B : Buf) (a : Int) (k : Nat) : Nat := ((List.range k).filter fun j => match B j with
  | some l => decide (l.a = a)
  | none => false).length
/-- no two lines of the same; nothing behind the eighth place; all lines right -/
structure Buf.Ok (B : Buf) : Prop where
  one : ∀ i j l l', B i = some l → B j = some l' → l.a = l'.a → l.p = l'.p → i = j
  lt : ∀ i l, B i = some l → i < 8
  r : ∀ i l, B i = some l → 1 ≤ l.a ∧ l.a ≤ 8 ∧ 0 ≤ l.p ∧ l.p ≤ 4095 ∧ 0 ≤ l.f ∧ l.f ≤ 255
theorem Buf.hit_iff {B : Buf} {a p : Int} {i : Nat} : B.hit a p i = true ↔ ∃ l, B i = some l ∧ l.a = a ∧ l.p = p := by
  unfold Buf.hit
  cases h : B i with
  | none => simp
  | some l => simp
theorem Buf.Ok.at_of {B : Buf} (h : B.Ok) {i : Nat} {l : Ln} (hi : B i = some l) : B.at l.a l.p = i := by
  refine first_of (h.lt i l hi) (Buf.hit_iff.2 ⟨l, hi, rfl, rfl⟩) fun j hj => ?_
  cases hh : B.hit l.a l.p j
  · rfl
  · obtain ⟨l', e, e1, e2⟩ := Buf.hit_iff.1 hh
    have := h.one _ _ _ _ e hi e1 e2
    omega
theorem Buf.Ok.find_of {B : Buf} (h : B.Ok) {i : Nat} {l : Ln} (hi : B i = some l) : B.find l.a l.p = some l := by
  unfold Buf.find
  rw [h.at_of hi, if_pos (h.lt i l hi)]
  exact hi
theorem Buf.find_some {B : Buf} {a p : Int} {l : Ln} (h : B.find a p = some l) : ∃ i, i < 8 ∧ B i = some l ∧ l.a = a ∧ l.p = p := by
  unfold Buf.find at h
  split at h
  · rename_i hlt
    obtain ⟨h1, _⟩ := first_lt (q := B.hit a p) hlt
    obtain ⟨l', e, e1, e2⟩ := Buf.hit_iff.1 h1
    have : l' = l := by
      have e3 : B (B.at a p) = some l' := e
      rw [e3] at h
      exact Option.some.inj h
    subst this
    exact ⟨_, hlt, e, e1, e2⟩
  · cases h
theorem Buf.find_none {B : Buf} {a p : Int} (h : B.find a p = none) : ∀ i l, i < 8 → B i = some l → ¬ (l.a = a ∧ l.p = p) := by
  rintro i l hi e ⟨e1, e2⟩
  unfold Buf.find at h
  have hlt : B.at a p < 8 := by
    have := first_le (B.hit a p) 8
    by_cases c : Buf.first (B.hit a p) 8 = 8
    · have := first_none c i hi
      rw [Buf.hit_iff.2 ⟨l, e, e1, e2⟩] at this
      cases this
    · show Buf.first (B.hit a p) 8 < 8
      omega
  rw [if_pos hlt] at h
  obtain ⟨h1, _⟩ := first_lt (q := B.hit a p) hlt
  obtain ⟨l', e', _⟩ := Buf.hit_iff.1 h1
  have e3 : B (B.at a p) = some l' := e'
  rw [e3] at h
  cases h
theorem Buf.at_ge {B : Buf} {a p : Int} (h : ¬ B.at a p < 8) : B.at a p = 8 := by have := first_le (B.hit a p) 8; show Buf.first (B.hit a p) 8 = 8; unfold Buf.at at h; omega
theorem Buf.place_lt {B : Buf} {l : Ln} {at' : Int} (h : putOk l at' = true) : B.place l at' < 8 := by
  have := of_decide_eq_true h
  unfold Buf.place
  split
  · assumption
  · split
    · assumption
    · omega
/-- Put keeps a buffer right -/
theorem Buf.Ok.put {B : Buf} (h : B.Ok) (l : Ln) (at' : Int) : (B.put l at').Ok := by
  unfold Buf.put
  split
  · rename_i hp
    have hpl := Buf.place_lt (B := B) hp
    have hr := of_decide_eq_true hp
    have other : ∀ j l', j ≠ B.place l at' → B j = some l' → ¬ (l'.a = l.a ∧ l'.p = l.p) := by
      rintro j l' hj e ⟨e1, e2⟩
      have hat := h.at_of e
      rw [e1, e2] at hat
      have hlt := h.lt j l' e
      refine hj ?_
      unfold Buf.place
      rw [if_pos (by omega)]
      exact hat.symm
    refine ⟨?_, ?_, ?_⟩
    · intro i j x y hi hj ea ep
      unfold Buf.set at hi hj
      by_cases ci : i = B.place l at'
      · by_cases cj : j = B.place l at'
        · omega
        · rw [if_pos ci] at hi
          rw [if_neg cj] at hj
          obtain rfl := Option.some.inj hi
          exact absurd ⟨ea.symm, ep.symm⟩ (other j y cj hj)
      · rw [if_neg ci] at hi
        by_cases cj : j = B.place l at'
        · rw [if_pos cj] at hj
          obtain rfl := Option.some.inj hj
          exact absurd ⟨ea, ep⟩ (other i x ci hi)
        · rw [if_neg cj] at hj
          exact h.one _ _ _ _ hi hj ea ep
    · intro i x hi
      unfold Buf.set at hi
      by_cases ci : i = B.place l at'
      · omega
      · rw [if_neg ci] at hi; exact h.lt i x hi
    · intro i x hi
      unfold Buf.set at hi
      by_cases ci : i = B.place l at'
      · rw [if_pos ci] at hi
        obtain rfl := Option.some.inj hi
        omega
      · rw [if_neg ci] at hi; exact h.r i x hi
  · exact h
theorem Buf.Ok.set_none {B : Buf} (h : B.Ok) (i : Nat) : (B.set i none).Ok := by
  have hs : ∀ j x, B.set i none j = some x → B j = some x := by
    intro j x hj
    unfold Buf.set at hj
    split at hj
    · cases hj
    · exact hj
  exact ⟨fun a b x y h1 h2 => h.one _ _ _ _ (hs _ _ h1) (hs _ _ h2), fun a x h1 => h.lt _ _ (hs _ _ h1), fun a x h1 => h.r _ _ (hs _ _ h1)⟩
theorem Buf.Ok.drop {B : Buf} (h : B.Ok) (a p : Int) : (B.drop a p).Ok := by
  unfold Buf.drop
  split
  · exact h.set_none _
  · exact h
theorem Buf.flush_some {B : Buf} {a : Int} {j : Nat} {x : Ln} : B.flush a j = some x ↔ B j = some x ∧ x.a ≠ a := by
  unfold Buf.flush
  cases h : B j with
  | none => simp
  | some l =>
    by_cases e : l.a = a
    · simp only [e, if_true]
      constructor
      · intro c; cases c
      · rintro ⟨c, d⟩
        obtain rfl := Option.some.inj c
        exact absurd e d
    · simp only [e, if_false]
      constructor
      · intro c; exact ⟨c, by obtain rfl := Option.some.inj c; exact e⟩
      · exact fun c => c.1
theorem Buf.Ok.flush {B : Buf} (h : B.Ok) (a : Int) : (B.flush a).Ok :=
  ⟨fun _ _ _ _ h1 h2 => h.one _ _ _ _ (Buf.flush_some.1 h1).1 (Buf.flush_some.1 h2).1, fun _ _ h1 => h.lt _ _ (Buf.flush_some.1 h1).1, fun _ _ h1 => h.r _ _ (Buf.flush_some.1 h1).1⟩
def buf0 : Buf := fun _ => none
theorem buf0_ok : buf0.Ok := ⟨fun i j l l' h => (by cases h), fun i l h => (by cases h), fun i l h => (by cases h)⟩
theorem Buf.mem_lines {B : Buf} (h : B.Ok) {l : Ln} : l ∈ B.lines ↔ ∃ i, B i = some l := by
  unfold Buf.lines Buf.linesTo
  rw [List.mem_filterMap]
  constructor
  · rintro ⟨i, _, e⟩; exact ⟨i, e⟩
  · rintro ⟨i, e⟩; exact ⟨i, List.mem_range.2 (h.lt i l e), e⟩
theorem Buf.linesTo_succ (B : Buf) (k : Nat) : B.linesTo (k + 1) = B.linesTo k ++ (B k).toList := by
  unfold Buf.linesTo
  rw [List.range_succ, List.filterMap_append]
  cases h : B k <;> simp [h]
theorem Buf.linesTo_len (B : Buf) : ∀ k, (B.linesTo k).length ≤ k
  | 0 => by simp [Buf.linesTo]
  | k + 1 => by
    have := B.linesTo_len k
    rw [B.linesTo_succ, List.length_append]
    cases h : B k <;> simp <;> omega
end Go.Proofs.YtdapmcclplfpfaaGreatDoor

/-
  The document's own spaces (trunnionref08): where one lies; first, at, table.
-/
namespace Go.Proofs.YtdapmcclplfpfaaGreatDoor
open Go.ChangeShapes Go.WideShapes Go.ChangeAt Go.RowKit Go.Shelf Go.Sort

/-- a page and a table of the document's own space -/
structure RPg where
  n : Int
  f : Int
  w : Bool
structure RTb where
  l : Int
  s : Int
  f : Int
def RPg.c (x : RPg) : List Value := [.int .i64 x.n, .int .i64 x.f, .bool x.w]
def RTb.c (x : RTb) : List Value := [.int .i64 x.l, .int .i64 x.s, .int .i64 x.f]
def pgC (L : List RPg) : List Value := L.flatMap RPg.c
def tbC (L : List RTb) : List Value := L.flatMap RTb.c
/-- a row of three cells each -/
theorem flat3_len {α : Type} (c : α → List Value) (hc : ∀ x, (c x).length = 3) : ∀ L : List α, (L.flatMap c).length = L.length * 3
  | [] => rfl
  | x :: L => by rw [List.flatMap_cons, List.length_append, flat3_len c hc L, hc, List.length_cons]; omega
theorem flat3_at {α : Type} (c : α → List Value) (hc : ∀ x, (c x).length = 3) : ∀ (L : List α) (i : Nat) (x : α) (j : Nat), L[i]? = some x → j < 3 → (L.flatMap c)[i * 3 + j]? = (c x)[j]?
  | [], i, x, j, h, _ => by simp at h
  | y :: L, 0, x, j, h, hj => by
    have e : y = x := by simpa using h
    subst e
    rw [List.flatMap_cons, Nat.zero_mul, Nat.zero_add, List.getElem?_append_left (by rw [hc]; exact hj)]
  | y :: L, i + 1, x, j, h, hj => by
    rw [List.flatMap_cons, List.getElem?_append_right (by rw [hc]; omega), hc, show (i + 1) * 3 + j - 3 = i * 3 + j from by omega]
    exact flat3_at c hc L i x j (by simpa using h) hj
/-- the document's own space in memory -/
structure RSpAt (w : World) (C MC BC N : Nat) (L : List RPg) (T : List RTb) (vL vT : Value) : Prop where
  head : w.heap[C]? = some (.cells #[.pointer (some ⟨MC, 0, none⟩), .pointer (some ⟨BC, 0, none⟩), vL, vT] 75 (0, 0))
  pages : w.ownsRow N 92 3 vL L.length (pgC L)
  tabs : w.ownsRow N 71 3 vT T.length (tbC T)
/-- the first page of a page's table of a level -/
def fstI (q l : Nat) : Nat := if l = 0 then 0 else if l = 1 then q / 256 * 256 else q / 16 * 16
set_option maxHeartbeats 400000 in
theorem rfirst_any (q l : Nat) (hq : q < 4096) (w : World) :
    Calls Tryz.prog 41 #[.int .i64 q, .int .i64 l] w fun e w' => e = .returned (.int .i64 (fstI q l : Nat)) ∧ w = w' := by
  have q1 : (q : Int).tdiv 256 = ((q / 256 : Nat) : Int) := by rw [Int.tdiv_eq_ediv_of_nonneg (by omega)]; omega
  have q2 : (q : Int).tdiv 16 = ((q / 16 : Nat) : Int) := by rw [Int.tdiv_eq_ediv_of_nonneg (by omega)]; omega
  have p1 : ((q / 256 : Nat) : Int) * 256 = ((q / 256 * 256 : Nat) : Int) := by omega
  have p2 : ((q / 16 : Nat) : Int) * 16 = ((q / 16 * 16 : Nat) : Int) := by omega
  have r1 : IntKind.i64.wrap ((q / 256 : Nat) : Int) = ((q / 256 : Nat) : Int) := IntWalk.i64_in _ (by omega)
  have r2 : IntKind.i64.wrap ((q / 16 : Nat) : Int) = ((q / 16 : Nat) : Int) := IntWalk.i64_in _ (by omega)
  have r3 : IntKind.i64.wrap ((q / 256 * 256 : Nat) : Int) = ((q / 256 * 256 : Nat) : Int) := IntWalk.i64_in _ (by omega)
  have r4 : IntKind.i64.wrap ((q / 16 * 16 : Nat) : Int) = ((q / 16 * 16 : Nat) : Int) := IntWalk.i64_in _ (by omega)
  have H0 : Hid (l = 0 → fstI q l = 0) := Lib.hid (fun e => by unfold fstI; rw [if_pos e])
  have H1 : Hid (l = 1 → fstI q l = q / 256 * 256) := Lib.hid (fun e => by unfold fstI; rw [if_neg (by omega), if_pos e])
  have H2 : Hid (l ≠ 0 → l ≠ 1 → fstI q l = q / 16 * 16) := Lib.hid (fun e e' => by unfold fstI; rw [if_neg e, if_neg e'])
  generalize fstI q l = R at H0 H1 H2 ⊢
  generalize q / 256 * 256 = A1 at p1 r3 H1
  generalize q / 16 * 16 = A2 at p2 r4 H2
  generalize q / 256 = B1 at q1 p1 r1
  generalize q / 16 = B2 at q2 p2 r2
  by_cases h0 : l = 0
  · obtain rfl := H0.out h0
    subst h0
    go_enter Tryz.func41, Tryz.ntmps41
    go_wp2
    go_ret
    exact ⟨rfl, rfl⟩
  by_cases h1 : l = 1
  · obtain rfl := H1.out h1
    subst h1
    go_enter Tryz.func41, Tryz.ntmps41
    go_wp2
    go_ret
    first | exact ⟨rfl, rfl⟩ | exact ⟨by simp_all, rfl⟩
  · obtain rfl := H2.out h0 h1
    have n0 : ¬ (l : Int) = 0 := by omega
    have n1 : ¬ (l : Int) = 1 := by omega
    go_enter Tryz.func41, Tryz.ntmps41
    go_wp2
    go_ret
    first | exact ⟨rfl, rfl⟩ | exact ⟨by simp_all, rfl⟩
end Go.Proofs.YtdapmcclplfpfaaGreatDoor

/-
  The document's own spaces (trunnionref08): at, table.
-/
namespace Go.Proofs.YtdapmcclplfpfaaGreatDoor
open Go.ChangeShapes Go.WideShapes Go.ChangeAt Go.RowKit Go.Shelf Go.Sort

theorem RSpAt.cM {w : World} {C MC BC N : Nat} {L : List RPg} {T : List RTb} {vL vT : Value} (h : RSpAt w C MC BC N L T vL vT) : w.cell? ⟨C, 0, none⟩ = some (.pointer (some ⟨MC, 0, none⟩)) := by rw [cell_of_row w C 0 _ _ _ h.head]; rfl
theorem RSpAt.cB {w : World} {C MC BC N : Nat} {L : List RPg} {T : List RTb} {vL vT : Value} (h : RSpAt w C MC BC N L T vL vT) : w.cell? ⟨C, 1, none⟩ = some (.pointer (some ⟨BC, 0, none⟩)) := by rw [cell_of_row w C 1 _ _ _ h.head]; rfl
theorem RSpAt.cL {w : World} {C MC BC N : Nat} {L : List RPg} {T : List RTb} {vL vT : Value} (h : RSpAt w C MC BC N L T vL vT) : w.cell? ⟨C, 2, none⟩ = some vL := by rw [cell_of_row w C 2 _ _ _ h.head]; rfl
theorem RSpAt.cT {w : World} {C MC BC N : Nat} {L : List RPg} {T : List RTb} {vL vT : Value} (h : RSpAt w C MC BC N L T vL vT) : w.cell? ⟨C, 3, none⟩ = some vT := by rw [cell_of_row w C 3 _ _ _ h.head]; rfl
theorem RPg.c_len (x : RPg) : x.c.length = 3 := rfl
theorem RTb.c_len (x : RTb) : x.c.length = 3 := rfl
theorem rsp_slice {w : World} {base sz : Nat} {e : TypeId} {v : Value} {k : Nat} {xs : List Value} (h : w.ownsRow base e sz v k xs) : ∃ o cap, v = .slice o k cap := by
  rcases h.2 with ⟨rfl, rfl⟩ | ⟨g, cap, cur, rfl, _⟩
  · exact ⟨none, 0, rfl⟩
  · exact ⟨_, _, rfl⟩
theorem rsp_at {w : World} {base sz k cap : Nat} {e : TypeId} {o : Option Addr} {xs : List Value} (h : w.ownsRow base e sz (.slice o k cap) k xs) (hk : 0 < k) : ∃ g, o = some ⟨g, 0, none⟩ ∧ ∀ (j : Nat) (u : Value), xs[j]? = some u → w.cell? ⟨g, j, none⟩ = some u := by
  rcases h.2 with ⟨e1, e2⟩ | ⟨g, cap', cur, e1, rest⟩
  · omega
  · simp only [Value.slice.injEq] at e1
    obtain ⟨rfl, _, rfl⟩ := e1
    refine ⟨g, rfl, fun j u hu => ?_⟩
    have := h.cells (g := g) rfl j u hu
    rwa [add_mid0, Nat.zero_add] at this
/-- a page's three cells -/
theorem pg_cells {w : World} {N cap : Nat} {o : Option Addr} {L : List RPg} {n : Nat} (hn : L.length = n) (h : w.ownsRow N 92 3 (.slice o n cap) n (pgC L)) (i : Nat) (x : RPg) (hi : L[i]? = some x) :
    ∃ g, o = some ⟨g, 0, none⟩ ∧ w.cell? ⟨g, i * 3, none⟩ = some (.int .i64 x.n) ∧ w.cell? ⟨g, i * 3 + 1, none⟩ = some (.int .i64 x.f) ∧ w.cell? ⟨g, i * 3 + 2, none⟩ = some (.bool x.w) := by
  have hlt : i < L.length := (List.getElem?_eq_some_iff.1 hi).1
  obtain ⟨g, rfl, hc⟩ := rsp_at h (by omega)
  refine ⟨g, rfl, hc _ _ ?_, hc _ _ ?_, hc _ _ ?_⟩
  · have := flat3_at RPg.c RPg.c_len L i x 0 hi (by omega); rwa [Nat.add_zero] at this
  · exact flat3_at RPg.c RPg.c_len L i x 1 hi (by omega)
  · exact flat3_at RPg.c RPg.c_len L i x 2 hi (by omega)
theorem tb_cells {w : World} {N cap : Nat} {o : Option Addr} {T : List RTb} {n : Nat} (hn : T.length = n) (h : w.ownsRow N 71 3 (.slice o n cap) n (tbC T)) (i : Nat) (x : RTb) (hi : T[i]? = some x) :
    ∃ g, o = some ⟨g, 0, none⟩ ∧ w.cell? ⟨g, i * 3, none⟩ = some (.int .i64 x.l) ∧ w.cell? ⟨g, i * 3 + 1, none⟩ = some (.int .i64 x.s) ∧ w.cell? ⟨g, i * 3 + 2, none⟩ = some (.int .i64 x.f) := by
  have hlt : i < T.length := (List.getElem?_eq_some_iff.1 hi).1
  obtain ⟨g, rfl, hc⟩ := rsp_at h (by omega)
  refine ⟨g, rfl, hc _ _ ?_, hc _ _ ?_, hc _ _ ?_⟩
  · have := flat3_at RTb.c RTb.c_len T i x 0 hi (by omega); rwa [Nat.add_zero] at this
  · exact flat3_at RTb.c RTb.c_len T i x 1 hi (by omega)
  · exact flat3_at RTb.c RTb.c_len T i x 2 hi (by omega)
/-- a place found, or none -/
def ixN (k n : Nat) : Int := if k < n then k else -1
def pgHit (L : List RPg) (q : Int) (i : Nat) : Bool := match L[i]? with
  | some x => decide (x.n = q)
  | none => false
def pgIx (L : List RPg) (q : Int) : Nat := Buf.first (pgHit L q) L.length
set_option maxHeartbeats 1000000 in
theorem rpat_any (C MC BC N : Nat) (L : List RPg) (T : List RTb) (vL vT : Value) (q : Int) (w : World) (h : RSpAt w C MC BC N L T vL vT) (hL : L.length ≤ 5000) :
    Calls Tryz.prog 38 #[.pointer (some ⟨C, 0, none⟩), .int .i64 q] w fun e w' => e = .returned (.int .i64 (ixN (pgIx L q) L.length)) ∧ w = w' := by
  have hc := h.cL
  have hrow := Lib.hid h.pages
  obtain ⟨o, cap, rfl⟩ := rsp_slice h.pages
  have hyes : Hid (∀ k, k < L.length → pgHit L q k = true → (∀ j, j < k → pgHit L q j = false) → ixN (pgIx L q) L.length = k) := Lib.hid (fun k hk h1 h2 => by
    have : pgIx L q = k := first_of hk h1 h2
    rw [this]; unfold ixN; rw [if_pos hk])
  have hall : Hid ((∀ j, j < L.length → pgHit L q j = false) → ixN (pgIx L q) L.length = -1) := Lib.hid (fun h2 => by
    have : pgIx L q = L.length := first_all h2
    rw [this]; unfold ixN; rw [if_neg (by omega)])
  generalize ixN (pgIx L q) L.length = R at hyes hall ⊢
  generalize hn : L.length = n at hc hyes hall hL hrow
  have HN := Lib.hid hn
  clear hn h
  go_enter Tryz.func38, Tryz.ntmps38
  go_wp2_with fail
  go_loopw [5] (fun t wr => ∃ k : Nat, k ≤ n ∧ t = .int .i64 k ∧ w = wr ∧ Hid (∀ j, j < k → pgHit L q j = false)) (fun t _ => n - (intOf t).toNat)
  case atStart => exact ⟨0, by omega, rfl, rfl, Lib.hid (by omega)⟩
  case round =>
    obtain ⟨k, hk, rfl, rfl, hno⟩ := hrel
    by_cases hlt : k < n
    · obtain ⟨x, hx⟩ : ∃ x, L[k]? = some x := ⟨_, List.getElem?_eq_getElem (by have := HN.out; omega)⟩
      obtain ⟨g, rfl, c0, -, -⟩ := pg_cells HN.out hrow.out k x hx
      have hh : Hid (pgHit L q k = decide (x.n = q)) := Lib.hid (by unfold pgHit; rw [hx])
      clear hx
      generalize x.n = y at c0 hh
      by_cases hy : y = q
      · have hr := Lib.hid (hyes.out k hlt (by rw [hh.out]; exact decide_eq_true hy) hno.out)
        clear hh hyes hall hno hrow HN
        subst hy
        go_wp2
        go_ret
        exact ⟨by rw [hr.out]; rfl, rfl⟩
      · have hno2 := Lib.hid (show ∀ j, j < k + 1 → pgHit L q j = false from fun j hj => by
          by_cases e : j = k
          · rw [e, hh.out]; exact decide_eq_false hy
          · exact hno.out j (by omega))
        clear hh hyes hall hno hrow HN
        go_wp2
        go_roundw
        case rel => exact ⟨k + 1, by omega, by go_num, trivial, hno2⟩
        case measure => simp [intOf]; omega
    · obtain rfl : k = n := by omega
      have hr := Lib.hid (hall.out hno.out)
      clear hyes hall hno hrow HN
      go_wp2
      go_ret
      exact ⟨by rw [hr.out]; rfl, rfl⟩
def tbHit (T : List RTb) (l s : Int) (i : Nat) : Bool := match T[i]? with
  | some x => decide (x.l = l) && decide (x.s = s)
  | none => false
def tbIx (T : List RTb) (l s : Int) : Nat := Buf.first (tbHit T l s) T.length
set_option maxHeartbeats 1000000 in
theorem rtable_any (C MC BC N : Nat) (L : List RPg) (T : List RTb) (vL vT : Value) (q l : Nat) (hq : q < 4096) (w : World) (h : RSpAt w C MC BC N L T vL vT) (hT : T.length ≤ 5000) :
    Calls Tryz.prog 39 #[.pointer (some ⟨C, 0, none⟩), .int .i64 q, .int .i64 l] w fun e w' => e = .returned (.int .i64 (ixN (tbIx T l (fstI q l : Nat)) T.length)) ∧ ∃ n, w' = w.drewN n := by
  have hc := h.cT
  have hrow := Lib.hid h.tabs
  obtain ⟨o, cap, rfl⟩ := rsp_slice h.tabs
  have cF := Lib.hid (fun W => rfirst_any q l hq W)
  generalize fstI q l = S at cF ⊢
  have hyes : Hid (∀ k, k < T.length → tbHit T l S k = true → (∀ j, j < k → tbHit T l S j = false) → ixN (tbIx T l S) T.length = k) := Lib.hid (fun k hk h1 h2 => by
    have : tbIx T l S = k := first_of hk h1 h2
    rw [this]; unfold ixN; rw [if_pos hk])
  have hall : Hid ((∀ j, j < T.length → tbHit T l S j = false) → ixN (tbIx T l S) T.length = -1) := Lib.hid (fun h2 => by
    have : tbIx T l S = T.length := first_all h2
    rw [this]; unfold ixN; rw [if_neg (by omega)])
  generalize ixN (tbIx T l S) T.length = R at hyes hall ⊢
  generalize hn : T.length = n at hc hyes hall hT hrow
  have HN := Lib.hid hn
  clear hn h
  go_enter Tryz.func39, Tryz.ntmps39
  go_wp2_with fail
  go_loopw [7] (fun t wr => ∃ k : Nat, k ≤ n ∧ t = .int .i64 k ∧ Hid (∃ z, wr = w.drewN z) ∧ Hid (∀ j, j < k → tbHit T l S j = false)) (fun t _ => n - (intOf t).toNat)
  case atStart => exact ⟨0, by omega, rfl, Lib.hid ⟨0, rfl⟩, Lib.hid (by omega)⟩
  case round =>
    obtain ⟨k, hk, rfl, hz, hno⟩ := hrel
    obtain ⟨z, rfl⟩ := hz.out
    clear hz
    by_cases hlt : k < n
    · obtain ⟨x, hx⟩ : ∃ x, T[k]? = some x := ⟨_, List.getElem?_eq_getElem (by have := HN.out; omega)⟩
      obtain ⟨g, rfl, c0, c1, -⟩ := tb_cells HN.out hrow.out k x hx
      have hh : Hid (tbHit T l S k = (decide (x.l = l) && decide (x.s = S))) := Lib.hid (by unfold tbHit; rw [hx])
      clear hx
      generalize x.l = y at c0 hh
      generalize x.s = u at c1 hh
      have k0 : (0 : Int) ≤ (k : Int) := by omega
      have k1 : (k : Int) < (n : Int) := by omega
      have hno3 : Hid ((decide (y = l) && decide (u = S)) = false → ∀ j, j < k + 1 → tbHit T l S j = false) := Lib.hid (fun hf j hj => by
          by_cases e : j = k
          · rw [e, hh.out]; exact hf
          · exact hno.out j (by omega))
      by_cases hy : y = l
      · by_cases hu : u = S
        · have hr := Lib.hid (hyes.out k hlt (by rw [hh.out, decide_eq_true hy, decide_eq_true hu]; rfl) hno.out)
          clear hh hyes hall hno hrow HN hno3
          subst hy hu
          go_wp2_with fail
          go_quiet ((go_at_call 41; exact still1 (cF.out _)))
          go_wp2
          go_ret
          exact ⟨by rw [hr.out]; rfl, _, World.drewN_drewN _ _ _⟩
        · have hno2 := Lib.hid (hno3.out (by rw [decide_eq_false hu, Bool.and_false]))
          have hub : (u == (S : Int)) = false := by simpa using hu
          clear hh hyes hall hno hrow HN hno3
          subst hy
          go_wp2_with fail
          go_quiet ((go_at_call 41; exact still1 (cF.out _)))
          go_wp2
          exact ⟨⟨k + 1, by omega, by go_num, Lib.hid ⟨_, rfl⟩, hno2⟩, by simp [intOf]; omega⟩
      · have hno2 := Lib.hid (hno3.out (by rw [decide_eq_false hy, Bool.false_and]))
        have hyb : (y == (l : Int)) = false := by simpa using hy
        clear hh hyes hall hno hrow HN hno3
        go_wp2_with fail
        go_quiet (fail)
        go_wp2
        exact ⟨⟨k + 1, by omega, by go_num, Lib.hid ⟨_, rfl⟩, hno2⟩, by simp [intOf]; omega⟩
    · obtain rfl : k = n := by omega
      have hr := Lib.hid (hall.out hno.out)
      clear hyes hall hno hrow HN
      go_wp2
      go_ret
      exact ⟨by rw [hr.out]; rfl, _, rfl⟩
end Go.Proofs.YtdapmcclplfpfaaGreatDoor

/-
  The document's own spaces, in plain numbers: all tables laid anew.
-/
namespace Go.Proofs.YtdapmcclplfpfaaGreatDoor

/-- the nodes that have a table, in whatever order -/
structure Nodes (s : Sp) (N : List (Nat × Nat)) : Prop where
  nd : N.Nodup
  mem : ∀ x, x ∈ N ↔ x.1 ≤ 2 ∧ s.on x.1 x.2 = true
def scr (s : Sp) (m : Mem) (x : Nat × Nat) : Mem := m.scrub (s.fr x.1 x.2) 1
def ePut (s : Sp) (m : Mem) (y : Nat × Nat) : Mem := m.put (s.fr (y.1 - 1) (y.2 / 16)) ((y.2 % 16 : Nat) : Int) (s.E y.1 y.2)
def ePut1 (s : Sp) (m : Mem) (y : Nat × Nat) : Mem := if y.1 = 0 then m else ePut s m y
def layM (s : Sp) (N : List (Nat × Nat)) (m : Mem) : Mem := (s.pgs.map fun q => ((3, q) : Nat × Nat)).foldl (ePut s) (N.foldl (ePut1 s) (N.foldl (scr s) m))
/-- what a step of laying keeps -/
structure LKeep (m m' : Mem) : Prop where
  n : m'.n = m.n
  B : m'.B = m.B
  ok : m'.ok
  good : m'.good
theorem LKeep.trans {a b c : Mem} (h : LKeep a b) (k : LKeep b c) : LKeep a c := ⟨k.n.trans h.n, k.B.trans h.B, k.ok, k.good⟩
theorem scr_keep (s : Sp) {m : Mem} (x : Nat × Nat) (hk : m.ok) (hg : m.good) : LKeep m (scr s m x) :=
  ⟨Mem.scrub_n _ _ _, Mem.scrub_B _ _ _, Mem.ok_scrub _ hk _ _, Mem.scrub_good _ hk hg _⟩
theorem ePut_keep (s : Sp) {m : Mem} (x : Nat × Nat) (hk : m.ok) (hg : m.good) : LKeep m (ePut s m x) :=
  ⟨Mem.put_n _ _ _ _, Mem.put_B _ _ _ _, Mem.put_ok _ hk _ _ _, Mem.put_good _ hk hg _ _ _⟩
theorem ePut1_keep (s : Sp) {m : Mem} (x : Nat × Nat) (hk : m.ok) (hg : m.good) : LKeep m (ePut1 s m x) := by
  unfold ePut1
  split
  · exact ⟨rfl, rfl, hk, hg⟩
  · exact ePut_keep s x hk hg
theorem fold_keep (f : Mem → Nat × Nat → Mem) (hf : ∀ {m : Mem} (x : Nat × Nat), m.ok → m.good → LKeep m (f m x)) : ∀ (N : List (Nat × Nat)) {m : Mem}, m.ok → m.good → LKeep m (N.foldl f m)
  | [], _, hk, hg => ⟨rfl, rfl, hk, hg⟩
  | x :: N, m, hk, hg => by
    have h := hf (m := m) x hk hg
    exact h.trans (fold_keep f hf N h.ok h.good)
theorem layM_keep (s : Sp) (N : List (Nat × Nat)) {m : Mem} (hk : m.ok) (hg : m.good) : LKeep m (layM s N m) := by
  have h1 := fold_keep (scr s) (fun x => scr_keep s x) N hk hg
  have h2 := fold_keep (ePut1 s) (fun x => ePut1_keep s x) N h1.ok h1.good
  exact h1.trans (h2.trans (fold_keep (ePut s) (fun x => ePut_keep s x) _ h2.ok h2.good))
theorem scr_word {s : Sp} {n : Nat} (hs : s.Ok n) : ∀ (N : List (Nat × Nat)), (∀ x, x ∈ N → s.on x.1 x.2 = true) → ∀ {m : Mem}, m.n = n → m.ok → m.good → ∀ g p : Nat, g < n → p < 16 →
    ((∃ x, x ∈ N ∧ s.fr x.1 x.2 = (g : Nat)) → (N.foldl (scr s) m).word (g : Nat) (p : Nat) = 0) ∧ ((∀ x, x ∈ N → s.fr x.1 x.2 ≠ (g : Nat)) → (N.foldl (scr s) m).word (g : Nat) (p : Nat) = m.word (g : Nat) (p : Nat)) := by
  intro N
  induction N using snoc_induction with
  | h0 => exact fun _ _ _ _ _ g p _ _ => ⟨fun ⟨x, hx, _⟩ => absurd hx (by simp), fun _ => rfl⟩
  | h1 N y ih =>
    intro hN m hn hk hg g p hg' hp
    have k := fold_keep (scr s) (fun x => scr_keep s x) N hk hg
    have hy := hs.frb (hN y (by simp))
    obtain ⟨i1, i2⟩ := ih (fun x hx => hN x (by simp [hx])) hn hk hg g p hg' hp
    have hw : ((N ++ [y]).foldl (scr s) m).word (g : Nat) (p : Nat) = if (g : Int) = s.fr y.1 y.2 then 0 else (N.foldl (scr s) m).word (g : Nat) (p : Nat) := by
      rw [List.foldl_append]
      show (scr s (N.foldl (scr s) m) y).word _ _ = _
      unfold scr
      exact Mem.word_scrub _ k.ok _ _ _ (decide_eq_true (by have := k.n; omega)) (by rw [Mem.slot_iff]; have := k.n; omega)
    rw [hw]
    by_cases e : (g : Int) = s.fr y.1 y.2
    · rw [if_pos e]
      exact ⟨fun _ => rfl, fun h => absurd e.symm (h y (by simp))⟩
    · rw [if_neg e]
      refine ⟨fun ⟨x, hx, hx2⟩ => ?_, fun h => i2 fun x hx => h x (by simp [hx])⟩
      rcases List.mem_append.1 hx with hx | hx
      · exact i1 ⟨x, hx, hx2⟩
      · obtain rfl : x = y := by simpa using hx
        exact absurd hx2.symm e
/-- a node whose entry lies in a table -/
def Sp.kid (s : Sp) (y : Nat × Nat) : Prop := 1 ≤ y.1 ∧ y.1 ≤ 3 ∧ s.on (y.1 - 1) (y.2 / 16) = true
theorem put_word {s : Sp} {n : Nat} (hs : s.Ok n) (hn' : n ≤ 256) : ∀ (P : List (Nat × Nat)), (∀ y, y ∈ P → s.kid y) → ∀ {m : Mem}, m.n = n → m.ok → m.good → ∀ g p : Nat, g < n → p < 16 →
    (∀ y0, y0 ∈ P → s.fr (y0.1 - 1) (y0.2 / 16) = (g : Nat) → y0.2 % 16 = p → (∀ y, y ∈ P → s.fr (y.1 - 1) (y.2 / 16) = (g : Nat) → y.2 % 16 = p → y = y0) → (P.foldl (ePut s) m).word (g : Nat) (p : Nat) = (s.E y0.1 y0.2).word) ∧
    ((∀ y, y ∈ P → ¬ (s.fr (y.1 - 1) (y.2 / 16) = (g : Nat) ∧ y.2 % 16 = p)) → (P.foldl (ePut s) m).word (g : Nat) (p : Nat) = m.word (g : Nat) (p : Nat)) := by
  intro P
  induction P using snoc_induction with
  | h0 => exact fun _ _ _ _ _ g p _ _ => ⟨fun y0 h => absurd h (by simp), fun _ => rfl⟩
  | h1 P y ih =>
    intro hP m hn hk hg g p hg' hp
    have k := fold_keep (ePut s) (fun x => ePut_keep s x) P hk hg
    obtain ⟨y1, y2, y3⟩ := hP y (by simp)
    have hy := hs.frb y3
    obtain ⟨i1, i2⟩ := ih (fun x hx => hP x (by simp [hx])) hn hk hg g p hg' hp
    have hw : ((P ++ [y]).foldl (ePut s) m).word (g : Nat) (p : Nat) = if (g : Int) = s.fr (y.1 - 1) (y.2 / 16) ∧ (p : Int) = ((y.2 % 16 : Nat) : Int) then (s.E y.1 y.2).word else (P.foldl (ePut s) m).word (g : Nat) (p : Nat) := by
      rw [List.foldl_append]
      show (ePut s (P.foldl (ePut s) m) y).word _ _ = _
      unfold ePut
      exact Mem.word_put _ k.ok _ _ _ _ _ (by rw [Mem.slot_iff]; have := k.n; omega) (by rw [Mem.slot_iff]; have := k.n; omega) (hs.eok hn' _ _)
    rw [hw]
    by_cases e : (g : Int) = s.fr (y.1 - 1) (y.2 / 16) ∧ (p : Int) = ((y.2 % 16 : Nat) : Int)
    · rw [if_pos e]
      refine ⟨fun y0 h0 f0 p0 hu => ?_, fun h => absurd ⟨e.1.symm, by omega⟩ (h y (by simp))⟩
      rw [hu y (by simp) e.1.symm (by omega)]
    · rw [if_neg e]
      refine ⟨fun y0 h0 f0 p0 hu => ?_, fun h => i2 fun x hx => h x (by simp [hx])⟩
      rcases List.mem_append.1 h0 with h0 | h0
      · exact i1 y0 h0 f0 p0 fun x hx => hu x (by simp [hx])
      · obtain rfl : y0 = y := by simpa using h0
        exact absurd ⟨f0.symm, by omega⟩ e
theorem fold1_eq (s : Sp) : ∀ (N : List (Nat × Nat)) (m : Mem), N.foldl (ePut1 s) m = (N.filter fun y => decide (1 ≤ y.1)).foldl (ePut s) m
  | [], _ => rfl
  | y :: N, m => by
    rw [List.foldl_cons, List.filter_cons, fold1_eq s N]
    by_cases h : y.1 = 0
    · rw [if_neg (by simp [h])]
      unfold ePut1
      rw [if_pos h]
    · rw [if_pos (by simp; omega), List.foldl_cons]
      unfold ePut1
      rw [if_neg h]
theorem Nodes.kids {s : Sp} {n : Nat} {N : List (Nat × Nat)} (hs : s.Ok n) (h : Nodes s N) : ∀ y, y ∈ N.filter (fun y => decide (1 ≤ y.1)) → s.kid y := by
  intro y hy
  obtain ⟨h1, h2⟩ := List.mem_filter.1 hy
  have h2 : 1 ≤ y.1 := of_decide_eq_true h2
  obtain ⟨h3, h4⟩ := (h.mem y).1 h1
  obtain ⟨l, d⟩ := y
  simp only at h2 h3 h4
  cases l with
  | zero => omega
  | succ l =>
    rw [s.onS] at h4
    have := (hs.lv _ _ h4).2.2.2
    exact ⟨h2, by show l + 1 ≤ 3; omega, this⟩
theorem page_kid {s : Sp} {n : Nat} (hs : s.Ok n) {q : Nat} (hv : (s.E 3 q).v = true) : s.kid (3, q) := ⟨by show 1 ≤ 3; omega, by show 3 ≤ 3; omega, (hs.lv _ _ hv).2.2.2⟩
/-- laid anew: what stands in the tables, and elsewhere -/
theorem lay_words {s : Sp} {n : Nat} (hs : s.Ok n) (hn' : n ≤ 256) {N : List (Nat × Nat)} (hN : Nodes s N) (hpg : ∀ q, q ∈ s.pgs ↔ (s.E 3 q).v = true) {m : Mem} (hn : m.n = n) (hk : m.ok) (hg : m.good) :
    s.In (layM s N m) ∧ ∀ g p : Nat, g < n → p < 16 → (∀ l d, l ≤ 2 → s.on l d = true → s.fr l d ≠ (g : Nat)) → (layM s N m).word (g : Nat) (p : Nat) = m.word (g : Nat) (p : Nat) := by
  have k1 := fold_keep (scr s) (fun x => scr_keep s x) N hk hg
  have k2 := fold_keep (ePut1 s) (fun x => ePut1_keep s x) N k1.ok k1.good
  have hP1 := hN.kids hs
  have hP2 : ∀ y, y ∈ (s.pgs.map fun q => ((3, q) : Nat × Nat)) → s.kid y := by
    intro y hy
    obtain ⟨q, hq, rfl⟩ := List.mem_map.1 hy
    exact page_kid hs ((hpg q).1 hq)
  have on_of : ∀ x, x ∈ N → s.on x.1 x.2 = true := fun x hx => ((hN.mem x).1 hx).2
  refine ⟨fun l d p hl ho hp => ?_, fun g p hg' hp hno => ?_⟩
  · have hfb := hs.frb ho
    obtain ⟨g, hgE⟩ := Int.eq_ofNat_of_zero_le hfb.1
    have hgn : g < n := by omega
    rw [hgE]
    obtain ⟨a1, a2⟩ := put_word hs hn' _ hP2 (m := N.foldl (ePut1 s) (N.foldl (scr s) m)) (by rw [k2.n, k1.n, hn]) k2.ok k2.good g p hgn hp
    have b := put_word hs hn' _ hP1 (m := N.foldl (scr s) m) (by rw [k1.n, hn]) k1.ok k1.good g p hgn hp
    rw [← fold1_eq] at b
    obtain ⟨b1, b2⟩ := b
    obtain ⟨c1, _⟩ := scr_word hs N on_of hn hk hg g p hgn hp
    have uniq : ∀ y : Nat × Nat, s.kid y → s.fr (y.1 - 1) (y.2 / 16) = (g : Nat) → y.2 % 16 = p → y = (l + 1, 16 * d + p) := by
      rintro ⟨l', d'⟩ ⟨h1, h2, h3⟩ hf hp'
      simp only at h1 h2 h3 hf hp'
      obtain ⟨e1, e2⟩ := hs.inj _ _ _ _ (by omega) hl h3 ho (hf.trans hgE.symm)
      rw [Prod.mk.injEq]
      omega
    have pl : (l + 1 : Nat) - 1 = l := rfl
    have pd : (16 * d + p) / 16 = d := by omega
    have pm : (16 * d + p) % 16 = p := by omega
    cases hv : (s.E (l + 1) (16 * d + p)).v
    · rw [hs.none _ _ hv, En.zero_word]
      unfold layM
      rw [a2, b2]
      · exact c1 ⟨(l, d), (hN.mem _).2 ⟨hl, ho⟩, hgE⟩
      · rintro y hy ⟨hf, hp'⟩
        have := uniq y (hP1 y hy) hf hp'
        have h2 := on_of y (List.mem_filter.1 hy).1
        rw [this] at h2
        simp only at h2
        rw [s.onS, hv] at h2
        cases h2
      · rintro y hy ⟨hf, hp'⟩
        have := uniq y (hP2 y hy) hf hp'
        obtain ⟨q, hq, rfl⟩ := List.mem_map.1 hy
        obtain ⟨e1, e2⟩ := Prod.mk.inj this
        have h2 := (hpg q).1 hq
        rw [e1, e2, hv] at h2
        cases h2
    · by_cases h3 : l = 2
      · subst h3
        unfold layM
        rw [a1 (3, 16 * d + p) (List.mem_map.2 ⟨_, (hpg _).2 hv, rfl⟩) (by show s.fr 2 ((16 * d + p) / 16) = _; rw [pd]; exact hgE) pm (fun y hy hf hp' => uniq y (hP2 y hy) hf hp')]
      · have hc : ((l + 1, 16 * d + p) : Nat × Nat) ∈ N := (hN.mem _).2 ⟨by show l + 1 ≤ 2; omega, by show s.on (l + 1) _ = true; rw [s.onS]; exact hv⟩
        unfold layM
        rw [a2, b1 (l + 1, 16 * d + p) (List.mem_filter.2 ⟨hc, by simp⟩) (by show s.fr (l + 1 - 1) ((16 * d + p) / 16) = _; rw [pl, pd]; exact hgE) pm (fun y hy hf hp' => uniq y (hP1 y hy) hf hp')]
        rintro y hy ⟨hf, hp'⟩
        have := uniq y (hP2 y hy) hf hp'
        obtain ⟨q, hq, rfl⟩ := List.mem_map.1 hy
        have := (Prod.mk.inj this).1
        omega
  · obtain ⟨_, a2⟩ := put_word hs hn' _ hP2 (m := N.foldl (ePut1 s) (N.foldl (scr s) m)) (by rw [k2.n, k1.n, hn]) k2.ok k2.good g p hg' hp
    have b := put_word hs hn' _ hP1 (m := N.foldl (scr s) m) (by rw [k1.n, hn]) k1.ok k1.good g p hg' hp
    rw [← fold1_eq] at b
    obtain ⟨_, b2⟩ := b
    obtain ⟨_, c2⟩ := scr_word hs N on_of hn hk hg g p hg' hp
    have far : ∀ y : Nat × Nat, s.kid y → s.fr (y.1 - 1) (y.2 / 16) ≠ (g : Nat) := fun y hy => hno _ _ (by have := hy.2.1; omega) hy.2.2
    unfold layM
    rw [a2 (fun y hy c => far y (hP2 y hy) c.1), b2 (fun y hy c => far y (hP1 y hy) c.1), c2 (fun x hx => hno _ _ ((hN.mem x).1 hx).1 (on_of x hx))]
end Go.Proofs.YtdapmcclplfpfaaGreatDoor

/-
  Contracts of the document's own answers for walk: Get, Put, Blank.
-/
namespace Go.Proofs.YtdapmcclplfpfaaGreatDoor
open Go.ChangeShapes Go.WideShapes Go.ChangeAt Go.RowKit
theorem Tab.apartR {w : World} {A : Nat} {m : Mem} (T : Tab w) (h : RefAt w A m) : ¬ 0 = m.B := by
  intro e
  have h1 := (T 0 (by omega)).1
  have h2 := h.cellB 0 (by have := h.lo; omega)
  rw [← e] at h2
  rw [Nat.zero_mul, h2] at h1
  simp at h1

theorem Mem.word_nat (m : Mem) (F P : Nat) : m.word (F : Int) (P : Int) = m.at (16 * F + P) := by
  unfold Mem.word
  rw [show ((F : Int) * 16 + (P : Int)).toNat = 16 * F + P from by omega]
theorem RefAt.allocd {w : World} {A : Nat} {m : Mem} (h : RefAt w A m) (o : Obj) : RefAt (w.alloc o) A m := h.kept ((Upd.refl (fun _ => False) w).alloc o) id id
set_option maxHeartbeats 1000000 in
theorem kput_any (C : Nat) (m : Mem) (f p : Int) (E : En) (w : World) (h : RefAt w C m) :
    Calls Tryz.prog 69 #[.pointer (some ⟨C, 0, none⟩), .int .i64 f, .int .i64 p, E.val] w fun e w' => e = .returned (.int .i64 (errB (m.putB f p E))) ∧ RefAt w' C (m.put f p E) ∧ Upd (· = m.B) w w' := by
  have c0 := Lib.hid (fun W => rword_any E.v E.r E.t E.f W)
  have c1 := Lib.hid (fun W (h : RefAt W C m) => rHas_any C m f W h)
  have hP : Hid (m.put f p E = if m.putB f p E = true then m.wr (f * 16 + p) (wordI E.v E.r E.t E.f) else m) := Lib.hid rfl
  have hQ : Hid (m.putB f p E = (m.ex f 1 && plB p && rightB E.v E.r E.t E.f)) := Lib.hid rfl
  unfold wordE at c0
  obtain ⟨v, r, t, g⟩ := E
  simp only at c0 hP hQ
  generalize wordI v r t g = x at c0 hP
  cases he : m.ex f 1
  · rw [he, Bool.false_and, Bool.false_and] at hQ
    rw [hQ.out] at hP
    rw [he] at c1
    rw [hQ.out]
    clear hQ he
    generalize errB (rightB v r t g) = eb at c0
    go_enter Tryz.func69, Tryz.ntmps69
    go_wp2_with fail
    refine (c0.out _).mono ?_
    rintro e w1 ⟨rfl, u⟩
    have U := Lib.hid (((Upd.refl (fun _ => False) w).alloc _).trans u)
    clear u
    go_wp2_with fail
    refine (c1.out _ (h.kept U.out id id)).mono ?_
    rintro e w2 ⟨rfl, rfl⟩
    go_wp2
    go_ret
    exact ⟨rfl, by rw [hP.out]; exact h.kept U.out id id, U.out.none⟩
  · rw [he, Bool.true_and] at hQ
    rw [he] at c1
    by_cases p0 : p < 0
    · have hp : plB p = false := decide_eq_false (by omega)
      rw [hp, Bool.false_and] at hQ
      rw [hQ.out] at hP
      rw [hQ.out]
      clear hQ he hp
      generalize errB (rightB v r t g) = eb at c0
      go_enter Tryz.func69, Tryz.ntmps69
      go_wp2_with fail
      refine (c0.out _).mono ?_
      rintro e w1 ⟨rfl, u⟩
      have U := Lib.hid (((Upd.refl (fun _ => False) w).alloc _).trans u)
      clear u
      go_wp2_with fail
      refine (c1.out _ (h.kept U.out id id)).mono ?_
      rintro e w2 ⟨rfl, rfl⟩
      go_wp2
      go_ret
      exact ⟨rfl, by rw [hP.out]; exact h.kept U.out id id, U.out.none⟩
    · by_cases p1 : 15 < p
      · have hp : plB p = false := decide_eq_false (by omega)
        rw [hp, Bool.false_and] at hQ
        rw [hQ.out] at hP
        rw [hQ.out]
        clear hQ he hp
        generalize errB (rightB v r t g) = eb at c0
        go_enter Tryz.func69, Tryz.ntmps69
        go_wp2_with fail
        refine (c0.out _).mono ?_
        rintro e w1 ⟨rfl, u⟩
        have U := Lib.hid (((Upd.refl (fun _ => False) w).alloc _).trans u)
        clear u
        go_wp2_with fail
        refine (c1.out _ (h.kept U.out id id)).mono ?_
        rintro e w2 ⟨rfl, rfl⟩
        go_wp2
        go_ret
        exact ⟨rfl, by rw [hP.out]; exact h.kept U.out id id, U.out.none⟩
      · have hp : plB p = true := decide_eq_true (by omega)
        rw [hp, Bool.true_and] at hQ
        cases hr : rightB v r t g
        · rw [hr] at hQ c0
          rw [hQ.out] at hP
          rw [hQ.out]
          clear hQ he hp hr
          go_enter Tryz.func69, Tryz.ntmps69
          go_wp2_with fail
          refine (c0.out _).mono ?_
          rintro e w1 ⟨rfl, u⟩
          have U := Lib.hid (((Upd.refl (fun _ => False) w).alloc _).trans u)
          clear u
          rw [show errB false = 1 from rfl]
          go_wp2_with fail
          refine (c1.out _ (h.kept U.out id id)).mono ?_
          rintro e w2 ⟨rfl, rfl⟩
          go_wp2
          go_ret
          exact ⟨rfl, by rw [hP.out]; exact h.kept U.out id id, U.out.none⟩
        · rw [hr] at hQ c0
          rw [hQ.out, if_pos rfl] at hP
          rw [hQ.out]
          have hs : m.slot f p = true := by unfold Mem.slot; rw [he, hp]; rfl
          obtain ⟨⟨i1, i2⟩, i3, i4⟩ := (m.slot_iff f p).1 hs
          obtain ⟨F, rfl⟩ := Int.eq_ofNat_of_zero_le i1
          obtain ⟨P, rfl⟩ := Int.eq_ofNat_of_zero_le i3
          have hmn := h.hi
          have hF : F < m.n := by omega
          have hPl : P ≤ 15 := by omega
          have hl : Hid (m.wr ((F : Int) * 16 + (P : Int)) x = m.lay (16 * F + P) [x]) := Lib.hid (by
            unfold Mem.wr
            rw [if_pos (m.slot_has _ _ hs), show ((F : Int) * 16 + (P : Int)).toNat = 16 * F + P from by omega])
          have ht : (16 * (F : Int) + (P : Int)).toNat = 16 * F + P := by omega
          clear hQ he hp hr hs i1 i2 i3 i4 p0 p1
          go_enter Tryz.func69, Tryz.ntmps69
          go_wp2_with fail
          refine (c0.out _).mono ?_
          rintro e w1 ⟨rfl, u⟩
          have U := Lib.hid (((Upd.refl (fun _ => False) w).alloc _).trans u)
          clear u
          have h1 := h.kept U.out id id
          have hc := h1.cellA
          have hcell := h1.cellB (16 * F + P) (by omega)
          have hfr := h1.freeB (16 * F + P)
          rw [show errB true = 0 from rfl]
          go_wp2_with fail
          refine (c1.out _ h1).mono ?_
          rintro e w2 ⟨rfl, rfl⟩
          go_wp2
          go_ret
          exact ⟨rfl, by rw [hP.out, hl.out]; exact h1.lay1 _ x (by omega), U.out.none.trans ((Upd.refl _ _).setCell (by left; rfl) _)⟩
end Go.Proofs.YtdapmcclplfpfaaGreatDoor
