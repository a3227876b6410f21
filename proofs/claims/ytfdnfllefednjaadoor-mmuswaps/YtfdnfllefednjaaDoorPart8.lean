/-
  Texts that the laws stand on, joined: TbT, TbV, MmV, TbW, MmW, MmX, MmY, TrA, TrB, TrC, WkR, WkS.
-/
import Derived.Test.YtfdnfllefednjaaDoorPart7

/-
  Package tables, in plain numbers: Unmap whole, New, Close.
-/
namespace Go.Proofs.YtfdnfllefednjaaDoor

theorem unFree_yes {f : Int} {s : Mem × Bud} (h : ((f.toNat, 0) : Nat × Nat) ∈ s.2.gave) (h0 : 0 ≤ f) : unFree f s = (s.1.scrub f 1, s.2.take (f.toNat, 0)) := by
  unfold unFree; rw [if_pos ⟨h, h0⟩]
theorem unFold_one (root : Int) (F P : Nat → Int) (s : Mem × Bud) (k : Nat) : unFold root F P s [k] = (unStep root F P s k, unBrk root F P s k) := by
  simp [unFold]
theorem prefix3 {pre : List Nat} (h : pre <+: back3) : pre = [] ∨ pre = [2] ∨ pre = [2, 1] ∨ pre = [2, 1, 0] := by
  obtain ⟨t, ht⟩ := h
  unfold back3 at ht
  match pre, ht with
  | [], _ => exact .inl rfl
  | [a], e => simp at e; obtain ⟨rfl, _⟩ := e; exact .inr (.inl rfl)
  | [a, b], e => simp at e; obtain ⟨rfl, rfl, _⟩ := e; exact .inr (.inr (.inl rfl))
  | [a, b, c], e => simp at e; obtain ⟨rfl, rfl, rfl, _⟩ := e; exact .inr (.inr (.inr rfl))
  | a :: b :: c :: d :: r, e => simp at e
theorem not_all {P : Nat → Bool} (h : ¬ ∀ p, p < 16 → P p = false) : ∃ p, p < 16 ∧ P p = true := by
  by_cases hx : ∃ p, p < 16 ∧ P p = true
  · exact hx
  · exact absurd (fun p hp => by
      cases hv : P p
      · rfl
      · exact absurd ⟨p, hp, hv⟩ hx) h
set_option maxHeartbeats 400000 in
theorem SpInv.unmap {s : Sp} {m : Mem} {b : Bud} {Y : Nat × Nat → Prop} (h : SpInv s m b Y) {q : Int} (hx : m.wX s.root q = 0) {pre : List Nat} (hp : pre <+: back3)
    (hend : pre = back3 ∨ (unFold s.root (m.wF s.root q) (fun k => idxI q k) (m, b) pre).2 = true) (hgo : (unFold s.root (m.wF s.root q) (fun k => idxI q k) (m, b) pre.dropLast).2 = false) {m' : Mem} {b' : Bud} (hr : (unFold s.root (m.wF s.root q) (fun k => idxI q k) (m, b) pre).1 = (m', b')) :
    ∃ qn : Nat, q = qn ∧ qn < 4096 ∧ (s.E 3 qn).v = true ∧ m.wE s.root q = s.E 3 qn ∧ m'.n = m.n ∧ m'.B = m.B ∧ b'.n = b.n ∧ b'.res = b.res ∧ SameW Y m m' ∧
      ∃ s', SpInv s' m' b' Y ∧ s'.root = s.root ∧ (∀ q', s'.E 3 q' = if q' = qn then En.zero else s.E 3 q') ∧ ∀ l d, l ≤ 2 → s'.E l d = s.E l d ∨ s'.E l d = En.zero := by
  obtain ⟨qn, rfl, hq, hv, hE, hF, hon⟩ := h.found hx
  refine ⟨qn, rfl, hq, hv, hE, ?_⟩
  obtain ⟨F, hFe⟩ : ∃ F, m.wF s.root qn = F := ⟨_, rfl⟩
  rw [hFe] at hend hgo hr hF
  obtain ⟨P, hPe⟩ : ∃ P : Nat → Int, (fun k : Nat => idxI (qn : Nat) k) = P := ⟨_, rfl⟩
  rw [hPe] at hend hgo hr
  have hP : ∀ k, k < 3 → P k = ((nd qn (k + 1) % 16 : Nat) : Int) := fun k hk => by rw [← hPe]; exact idx_nat qn k hq hk
  clear hFe hPe
  -- the page goes
  have ho2 := hon 2 (by omega)
  have h33 : nd qn (2 + 1) = qn := nd3 qn
  have hp3 : qn % 16 < 16 := Nat.mod_lt _ (by decide)
  have hst := nd_step qn 2 (by omega)
  rw [h33] at hst
  have e2 : unPut F P m 2 = m.put (s.fr 2 (nd qn 2)) ((qn % 16 : Nat) : Int) En.zero := by
    unfold unPut
    rw [hF 2 (by omega), hP 2 (by omega), h33]
  have hok1 := h.ok.drop (l := 2) (d := qn) (fun h2 => by omega)
  have hin1 := h.i.set h.ok h.mo (l := 2) (by omega) ho2 hp3 En.zero rfl (fun h2 => by omega)
  rw [hst, ← e2] at hin1
  have hsw1 : SameW Y m (unPut F P m 2) := by rw [e2]; exact SameW.put h.ok h.mo (fun x hx => h.ylt hx) (fun x hx l d => h.y_fr hx) (by omega) ho2 hp3 _ rfl
  obtain ⟨s1, hs1⟩ : ∃ s1, s.set 3 qn En.zero = s1 := ⟨_, rfl⟩
  have on1 : ∀ l d, l ≤ 2 → s1.on l d = s.on l d := fun l d hl => by rw [← hs1]; exact s.set_on _ (by omega)
  have fr1 : ∀ l d, l ≤ 2 → s1.fr l d = s.fr l d := fun l d hl => by rw [← hs1]; exact s.set_fr _ (by omega)
  have E1 : ∀ q', s1.E 3 q' = if q' = qn then En.zero else s.E 3 q' := by
    intro q'
    rw [← hs1]
    by_cases e : q' = qn
    · rw [if_pos e, e, Sp.set_same]
    · rw [if_neg e, s.set_ne _ (by omega)]
  have rt1 : s1.root = s.root := by rw [← hs1]; rfl
  have A1 : ∀ l d, l ≤ 2 → s1.E l d = s.E l d ∨ s1.E l d = En.zero := fun l d hl => .inl (by rw [← hs1, s.set_ne _ (by omega)])
  rw [hs1] at hok1 hin1
  have half2 : SpHalf s1 (unPut F P m 2) b Y (2, nd qn 2) := by
    refine ⟨by rw [e2, Mem.put_n]; exact hok1, hin1, ?_, by rw [e2]; exact Mem.put_ok _ h.mo _ _ _, by rw [e2]; exact Mem.put_good _ h.mo h.hg _ _ _, h.bk, by rw [e2, Mem.put_n]; exact h.bn, h.y0, ?_, ?_⟩
    · intro l d h1 h2 hne ho
      rw [on1 l d h2] at ho
      obtain ⟨p, hp', hc⟩ := h.nee l d h1 h2 ho
      refine ⟨p, hp', ?_⟩
      by_cases e : l = 2
      · subst e
        rw [E1, if_neg]
        · exact hc
        · intro e'
          refine hne ?_
          rw [show d = nd qn 2 from by rw [nd2]; omega]
      · rw [← hs1, s.set_ne _ (by omega)]; exact hc
    · intro x
      rw [h.gv]
      constructor
      · rintro (⟨l, d, hl, ho, rfl⟩ | hy)
        · exact .inl ⟨l, d, hl, by rw [on1 l d hl]; exact ho, by rw [fr1 l d hl]⟩
        · exact .inr hy
      · rintro (⟨l, d, hl, ho, rfl⟩ | hy)
        · exact .inl ⟨l, d, hl, by rw [← on1 l d hl]; exact ho, by rw [fr1 l d hl]⟩
        · exact .inr hy
    · intro l d hl ho
      rw [on1 l d hl] at ho
      rw [fr1 l d hl]
      exact h.ap l d hl ho
  have o12 : s1.on 2 (nd qn 2) = true := by rw [on1 _ _ (by omega)]; exact ho2
  have f12 : F 2 = s1.fr 2 (nd qn 2) := by rw [hF 2 (by omega), fr1 _ _ (by omega)]
  have n2 : ¬ F 2 = s.root := fun e => by
    have := (h.ok.inj 2 (nd qn 2) 0 0 (by omega) (by omega) ho2 rfl (by rw [← hF 2 (by omega), e, s.fr0])).1
    omega
  have b2 : unBrk s.root F P (m, b) 2 = !(unPut F P m 2).zero (s1.fr 2 (nd qn 2)) := by unfold unBrk; rw [← f12]; simp [n2]
  have hnB2 : (unPut F P m 2).n = m.n ∧ (unPut F P m 2).B = m.B := by rw [e2]; exact ⟨Mem.put_n _ _ _ _, Mem.put_B _ _ _ _⟩
  rcases prefix3 hp with rfl | rfl | rfl | rfl
  · rcases hend with e | e
    · cases e
    · cases e
  · -- the table of level 2 stays
    rw [unFold_one] at hend hr
    have hb : unBrk s.root F P (m, b) 2 = true := by
      rcases hend with e | e
      · cases e
      · exact e
    have hr2 : unStep s.root F P (m, b) 2 = (m', b') := hr
    unfold unStep at hr2
    rw [if_pos hb] at hr2
    obtain ⟨rfl, rfl⟩ := Prod.mk.inj hr2
    rw [b2] at hb
    refine ⟨hnB2.1, hnB2.2, rfl, rfl, hsw1, s1, half2.full (.inr ?_), rt1, E1, A1⟩
    refine not_all (fun hall => ?_)
    rw [(half2.blank (by omega) o12).2 hall] at hb
    cases hb
  all_goals
    have hb2 : unBrk s.root F P (m, b) 2 = false := by
      first
        | (rw [show ([2, 1] : List Nat).dropLast = [2] from rfl, unFold_one] at hgo; exact hgo)
        | (rw [show ([2, 1, 0] : List Nat).dropLast = [2] ++ [1] from rfl, unFold_snoc, unFold_one] at hgo
           cases hx2 : unBrk s.root F P (m, b) 2
           · rfl
           · rw [hx2] at hgo; cases hgo)
    have hz2 : (unPut F P m 2).zero (s1.fr 2 (nd qn 2)) = true := by
      rw [b2] at hb2
      simpa using hb2
    have hc2 := (half2.blank (by omega) o12).1 hz2
    have hT := half2.dropT (l := 1) (by omega) o12 hc2
    have hnd : nd qn 2 / 16 = nd qn 1 := nd_up qn 1 (by omega)
    rw [hnd] at hT
    have hfree : unStep s.root F P (m, b) 2 = ((unPut F P m 2).scrub (s1.fr 2 (nd qn 2)) 1, b.take ((s1.fr 2 (nd qn 2)).toNat, 0)) := by
      unfold unStep
      rw [if_neg (by rw [hb2]; decide), f12]
      exact unFree_yes (s := (unPut F P m 2, b)) ((half2.gv _).2 (.inl ⟨2, _, by omega, o12, rfl⟩)) (half2.ok.frb o12).1
    have e1 : unPut F P ((unPut F P m 2).scrub (s1.fr 2 (nd qn 2)) 1) 1 = ((unPut F P m 2).scrub (s1.fr 2 (nd qn 2)) 1).put (s1.fr 1 (nd qn 1)) ((nd qn 2 % 16 : Nat) : Int) En.zero := by
      unfold unPut
      rw [hF 1 (by omega), hP 1 (by omega), fr1 1 _ (by omega)]
    have f11 : F 1 = s1.fr 1 (nd qn 1) := by rw [hF 1 (by omega), fr1 _ _ (by omega)]
    obtain ⟨st2, hst2⟩ : ∃ st2, st2 = ((unPut F P m 2).scrub (s1.fr 2 (nd qn 2)) 1, b.take ((s1.fr 2 (nd qn 2)).toNat, 0)) := ⟨_, rfl⟩
    rw [← hst2] at hfree
    have e1' : unPut F P st2.1 1 = ((unPut F P m 2).scrub (s1.fr 2 (nd qn 2)) 1).put (s1.fr 1 (nd qn 1)) ((nd qn 2 % 16 : Nat) : Int) En.zero := by rw [hst2]; exact e1
    rw [← e1'] at hT
    obtain ⟨s2, hs2⟩ : ∃ s2, s1.set 2 (nd qn 2) En.zero = s2 := ⟨_, rfl⟩
    have half1 : SpHalf s2 (unPut F P st2.1 1) st2.2 Y (1, nd qn 1) := by
      have := hT.1
      rw [show s1.set (1 + 1) (nd qn 2) En.zero = s2 from hs2] at this
      rw [hst2] at this ⊢
      exact this
    have hsw2 : SameW Y m (unPut F P st2.1 1) := hsw1.trans hT.2
    have E2 : ∀ q', s2.E 3 q' = if q' = qn then En.zero else s.E 3 q' := fun q' => by rw [← hs2, s1.set_ne _ (by omega)]; exact E1 q'
    have rt2 : s2.root = s.root := by rw [← hs2]; exact rt1
    have A2 : ∀ l d, l ≤ 2 → s2.E l d = s.E l d ∨ s2.E l d = En.zero := fun l d hl => by
      rw [← hs2]
      by_cases e : l = 2 ∧ d = nd qn 2
      · rw [e.1, e.2, Sp.set_same]; exact .inr rfl
      · rw [s1.set_ne _ e]; exact A1 l d hl
    have o21 : s2.on 1 (nd qn 1) = true := by rw [← hs2, s1.set_on _ (by omega), on1 _ _ (by omega)]; exact hon 1 (by omega)
    have f21 : F 1 = s2.fr 1 (nd qn 1) := by rw [f11, ← hs2, s1.set_fr _ (by omega)]
    have n1 : ¬ F 1 = s.root := fun e => by
      have := (h.ok.inj 1 (nd qn 1) 0 0 (by omega) (by omega) (hon 1 (by omega)) rfl (by rw [← hF 1 (by omega), e, s.fr0])).1
      omega
    have b1 : unBrk s.root F P st2 1 = !(unPut F P st2.1 1).zero (s2.fr 1 (nd qn 1)) := by unfold unBrk; rw [← f21]; simp [n1]
    have hnB1 : (unPut F P st2.1 1).n = m.n ∧ (unPut F P st2.1 1).B = m.B := by
      rw [e1', Mem.put_n, Mem.put_B, Mem.scrub_n, Mem.scrub_B]; exact hnB2
    have hbb : st2.2.n = b.n ∧ st2.2.res = b.res := by rw [hst2]; exact ⟨rfl, rfl⟩
  · -- the table of level 1 stays
    rw [show ([2, 1] : List Nat) = [2] ++ [1] from rfl, unFold_snoc, unFold_one, hfree] at hend hr
    dsimp only at hend hr
    have hb : unBrk s.root F P st2 1 = true := by
      rcases hend with e | e
      · cases e
      · rw [hb2, Bool.false_or] at e; exact e
    unfold unStep at hr
    rw [if_pos hb] at hr
    obtain ⟨rfl, rfl⟩ := Prod.mk.inj hr
    rw [b1] at hb
    refine ⟨hnB1.1, hnB1.2, hbb.1, hbb.2, hsw2, s2, half1.full (.inr ?_), rt2, E2, A2⟩
    refine not_all (fun hall => ?_)
    rw [(half1.blank (by omega) o21).2 hall] at hb
    cases hb
  · -- both go
    have hb1 : unBrk s.root F P st2 1 = false := by
      rw [show ([2, 1, 0] : List Nat).dropLast = [2] ++ [1] from rfl, unFold_snoc, unFold_one, hfree, hb2, Bool.false_or] at hgo
      exact hgo
    have hz1 : (unPut F P st2.1 1).zero (s2.fr 1 (nd qn 1)) = true := by
      rw [b1] at hb1
      simpa using hb1
    have hc1 := (half1.blank (by omega) o21).1 hz1
    have hT1 := half1.dropT (l := 0) (by omega) o21 hc1
    have hnd0 : nd qn 1 / 16 = 0 := by rw [nd1]; omega
    rw [hnd0] at hT1
    have hfree1 : unStep s.root F P st2 1 = ((unPut F P st2.1 1).scrub (s2.fr 1 (nd qn 1)) 1, st2.2.take ((s2.fr 1 (nd qn 1)).toNat, 0)) := by
      unfold unStep
      rw [if_neg (by rw [hb1]; decide), f21]
      exact unFree_yes (s := (unPut F P st2.1 1, st2.2)) ((half1.gv _).2 (.inl ⟨1, _, by omega, o21, rfl⟩)) (half1.ok.frb o21).1
    obtain ⟨st1, hst1⟩ : ∃ st1, st1 = ((unPut F P st2.1 1).scrub (s2.fr 1 (nd qn 1)) 1, st2.2.take ((s2.fr 1 (nd qn 1)).toNat, 0)) := ⟨_, rfl⟩
    rw [← hst1] at hfree1
    have f0 : F 0 = s.root := by rw [hF 0 (by omega)]; rfl
    have e0 : unPut F P st1.1 0 = ((unPut F P st2.1 1).scrub (s2.fr 1 (nd qn 1)) 1).put (s2.fr 0 0) ((nd qn 1 % 16 : Nat) : Int) En.zero := by
      show st1.1.put (F 0) (P 0) En.zero = _
      rw [f0, hP 0 (by omega), s2.fr0, rt2, hst1]
    rw [← e0] at hT1
    have hb0 : unBrk s.root F P st1 0 = true := by unfold unBrk; rw [f0]; simp
    rw [show ([2, 1, 0] : List Nat) = ([2] ++ [1]) ++ [0] from rfl, unFold_snoc, unFold_snoc, unFold_one, hfree] at hr
    dsimp only at hr
    rw [hfree1] at hr
    unfold unStep at hr
    rw [if_pos hb0] at hr
    obtain ⟨rfl, rfl⟩ := Prod.mk.inj hr
    have half0 : SpHalf (s2.set 1 (nd qn 1) En.zero) (unPut F P st1.1 0) st1.2 Y (0, 0) := by
      have := hT1.1
      rw [hst1] at this ⊢
      exact this
    refine ⟨by rw [e0, Mem.put_n, Mem.scrub_n]; exact hnB1.1, by rw [e0, Mem.put_B, Mem.scrub_B]; exact hnB1.2, by rw [hst1]; exact hbb.1, by rw [hst1]; exact hbb.2, hsw2.trans hT1.2, _, half0.full (.inl rfl), rt2, fun q' => by rw [s2.set_ne _ (by omega)]; exact E2 q', fun l d hl => ?_⟩
    by_cases e : l = 1 ∧ d = nd qn 1
    · rw [e.1, e.2, Sp.set_same]; exact .inr rfl
    · rw [s2.set_ne _ e]; exact A2 l d hl

/-! New -/
theorem SpInv.new {m : Mem} {b : Bud} (hm : m.ok) (hg : m.good) (hb : b.Ok) (hn : m.n = b.n) (hl : 1 ≤ b.left) {Y : Nat × Nat → Prop} (hY : ∀ x, x ∈ b.gave ↔ Y x) (y0 : ∀ x, Y x → x.2 = 0) :
    SpInv ⟨((b.al 1).1.getD 0 0 : Nat), fun _ _ => En.zero⟩ (m.clears (b.al 1).1) (b.al 1).2 Y ∧ SameW Y m (m.clears (b.al 1).1) := by
  have ha := al_ok hb 1 hl
  obtain ⟨r, hr⟩ : ∃ r, (b.al 1).1 = [r] := List.length_eq_one_iff.1 ha.len
  rw [hr] at ha ⊢
  have hrn := ha.fr r (by simp)
  have hcl : ∀ f p : Nat, f < m.n → p < 16 → (m.clears [r]).word (f : Nat) (p : Nat) = if f ∈ [r] then 0 else m.word (f : Nat) (p : Nat) := fun f p hf hp => m.clears_word hm [r] (fun g hg => by simp at hg; omega) f p hf hp
  have hfree : ((r, 0) : Nat × Nat) ∉ b.gave := fun hmm => by
    have := ((hb.fr r).1 hrn.2).2.2 _ hmm
    rw [inBlk_no] at this
    exact this ⟨Nat.le_refl _, by simp⟩
  have hon : ∀ l d, (Sp.mk ((([r] : List Nat).getD 0 0 : Nat)) fun _ _ => En.zero).on l d = true → l = 0 ∧ d = 0 := by
    intro l d h
    cases l with
    | zero => exact ⟨rfl, by simpa [Sp.on] using h⟩
    | succ l => rw [Sp.onS] at h; cases h
  refine ⟨⟨⟨?_, ?_, fun _ _ _ => rfl, ?_, ?_, ?_, ?_, ?_⟩, ?_, ?_, m.clears_ok hm _, m.clears_good hm hg _, ha.ok, by rw [Mem.clears_n, ha.n]; exact hn, y0, ?_, ?_⟩, ?_⟩
  · show (0 : Int) ≤ (r : Nat); omega
  · show ((r : Nat) : Int) < (m.clears [r]).n; rw [Mem.clears_n]; omega
  · intro l d hv; cases hv
  · intro l d hv; cases hv
  · intro d hv; cases hv
  · intro l d hv; cases hv
  · intro l d l' d' _ _ h1 h2 _
    obtain ⟨rfl, rfl⟩ := hon l d h1
    obtain ⟨rfl, rfl⟩ := hon l' d' h2
    exact ⟨rfl, rfl⟩
  · intro l d p hl ho hp
    obtain ⟨rfl, rfl⟩ := hon l d ho
    show (m.clears [r]).word ((r : Nat) : Int) p = 0
    rw [hcl r p (by omega) hp, if_pos (by simp)]
  · intro l d h1 h2 ho
    have := (hon l d ho).1
    omega
  · intro x
    rw [ha.gave, List.mem_append, hY]
    constructor
    · rintro (hy | hx)
      · exact .inr hy
      · simp at hx
        exact .inl ⟨0, 0, by omega, rfl, by rw [hx]; rfl⟩
    · rintro (⟨l, d, _, ho, rfl⟩ | hy)
      · obtain ⟨rfl, rfl⟩ := hon l d ho
        right
        simp [Sp.fr]
      · exact .inl hy
  · intro l d _ ho
    obtain ⟨rfl, rfl⟩ := hon l d ho
    intro hy
    exact hfree ((hY _).2 hy)
  · intro x hx p hp
    have h1 := hb.blk x ((hY x).2 hx)
    have h2 := y0 x hx
    rw [h2] at h1
    rw [hcl x.1 p (by omega) hp, if_neg]
    intro e
    simp at e
    exact hfree ((hY _).2 (by rw [← e, show ((x.1, 0) : Nat × Nat) = x from by rw [← h2]]; exact hx))
/-! Close -/
structure Freed (m : Mem) (b : Bud) (Y : Nat × Nat → Prop) (m' : Mem) (b' : Bud) : Prop where
  mo : m'.ok
  hg : m'.good
  bk : b'.Ok
  n : m'.n = m.n
  B : m'.B = m.B
  bn : b'.n = b.n
  res : b'.res = b.res
  w : SameW Y m m'
theorem frees_ok {m : Mem} {b : Bud} {Y : Nat × Nat → Prop} (hm : m.ok) (hg : m.good) (hb : b.Ok) (hn : m.n = b.n) (hY : ∀ x, Y x → x ∈ b.gave ∧ x.2 = 0) : ∀ (L : List Int), L.Nodup → (∀ f, f ∈ L → 0 ≤ f ∧ ((f.toNat, 0) : Nat × Nat) ∈ b.gave ∧ ¬ Y (f.toNat, 0)) →
    Freed m b Y (frees (m, b) L).1 (frees (m, b) L).2 ∧ ∀ x, x ∈ (frees (m, b) L).2.gave ↔ x ∈ b.gave ∧ ∀ f, f ∈ L → x ≠ (f.toNat, 0) := by
  intro L
  induction L using snoc_induction with
  | h0 => exact fun _ _ => ⟨⟨hm, hg, hb, rfl, rfl, rfl, rfl, SameW.refl _ _⟩, fun x => by simp [frees]⟩
  | h1 L f ih =>
    intro hnd hall
    rw [List.nodup_append] at hnd
    obtain ⟨F, hG⟩ := ih hnd.1 (fun g hg => hall g (by simp [hg]))
    obtain ⟨h0, h1, h2⟩ := hall f (by simp)
    have hin : ((f.toNat, 0) : Nat × Nat) ∈ (frees (m, b) L).2.gave := (hG _).2 ⟨h1, fun g hg e => by
      have := (hall g (by simp [hg])).1
      have e1 : f.toNat = g.toNat := (Prod.mk.inj e).1
      exact hnd.2.2 g hg f (by simp) (by omega)⟩
    have hex : (frees (m, b) L).1.ex f 1 = true := by
      have := hb.blk _ h1
      refine decide_eq_true ?_
      have := F.n
      simp at *
      omega
    rw [frees_snoc, unFree_yes hin h0]
    refine ⟨⟨Mem.ok_scrub _ F.mo _ _, Mem.scrub_good _ F.mo F.hg _, F.bk.take hin, by rw [Mem.scrub_n]; exact F.n, by rw [Mem.scrub_B]; exact F.B, F.bn, F.res, F.w.trans ?_⟩, ?_⟩
    · intro x hx p hp
      have hx1 := hb.blk _ (hY x hx).1
      rw [(hY x hx).2] at hx1
      rw [Mem.word_scrub _ F.mo _ _ _ hex (by rw [Mem.slot_iff, F.n]; omega), if_neg]
      intro e
      refine h2 ?_
      rw [← e, Int.toNat_natCast, ← (hY x hx).2]
      exact hx
    · intro x
      show x ∈ (frees (m, b) L).2.gave.erase _ ↔ _
      rw [mem_erase_iff F.bk.nodup, hG]
      constructor
      · rintro ⟨⟨a1, a2⟩, a3⟩
        exact ⟨a1, fun g hg => by rcases List.mem_append.1 hg with hg | hg; exact a2 g hg; simp at hg; subst hg; exact a3⟩
      · rintro ⟨a1, a2⟩
        exact ⟨⟨a1, fun g hg => a2 g (by simp [hg])⟩, a2 f (by simp)⟩
theorem SpInv.close {s : Sp} {m : Mem} {b : Bud} {Y : Nat × Nat → Prop} (h : SpInv s m b Y) :
    Freed m b Y (frees (m, b) (s.tabs.mergeSort leI)).1 (frees (m, b) (s.tabs.mergeSort leI)).2 ∧ ∀ x, x ∈ (frees (m, b) (s.tabs.mergeSort leI)).2.gave ↔ Y x := by
  have hp := List.mergeSort_perm s.tabs leI
  have hmem : ∀ f, f ∈ s.tabs.mergeSort leI ↔ ∃ l d, l ≤ 2 ∧ s.on l d = true ∧ f = s.fr l d := fun f => by rw [hp.mem_iff]; exact h.ok.mem_tabs
  obtain ⟨F, hG⟩ := frees_ok (Y := Y) h.mo h.hg h.bk h.bn (fun x hx => ⟨(h.gv x).2 (.inr hx), h.y0 x hx⟩) (s.tabs.mergeSort leI) (hp.nodup_iff.2 h.ok.tabs_nodup) (fun f hf => by
    obtain ⟨l, d, hl, ho, rfl⟩ := (hmem f).1 hf
    exact ⟨(h.ok.frb ho).1, h.has hl ho, h.ap l d hl ho⟩)
  refine ⟨F, fun x => ?_⟩
  rw [hG, h.gv]
  constructor
  · rintro ⟨⟨l, d, hl, ho, rfl⟩ | hy, hne⟩
    · exact absurd rfl (hne _ ((hmem _).2 ⟨l, d, hl, ho, rfl⟩))
    · exact hy
  · intro hy
    refine ⟨.inr hy, fun f hf e => ?_⟩
    obtain ⟨l, d, hl, ho, rfl⟩ := (hmem f).1 hf
    exact h.ap l d hl ho (e ▸ hy)
theorem SpInv.tabs_len {s : Sp} {m : Mem} {b : Bud} (h : SpInv s m b (fun _ => False)) : b.gave.length = s.tabs.length := by
  have hp : b.gave.Perm (s.tabs.map fun f => ((f.toNat, 0) : Nat × Nat)) := by
    refine (List.perm_ext_iff_of_nodup h.bk.nodup ?_).2 ?_
    · have := h.ok.tabs_nodup
      rw [List.nodup_iff_pairwise_ne] at this ⊢
      rw [List.pairwise_map]
      refine this.imp_of_mem ?_
      intro a c ha hc hne e
      have e1 : a.toNat = c.toNat := (Prod.mk.inj e).1
      obtain ⟨l, d, hl, ho, rfl⟩ := h.ok.mem_tabs.1 ha
      obtain ⟨l', d', hl', ho', rfl⟩ := h.ok.mem_tabs.1 hc
      have := h.ok.frb ho
      have := h.ok.frb ho'
      exact hne (by omega)
    · intro x
      rw [h.gv, List.mem_map]
      constructor
      · rintro (⟨l, d, hl, ho, rfl⟩ | hy)
        · exact ⟨_, h.ok.mem_tabs.2 ⟨l, d, hl, ho, rfl⟩, rfl⟩
        · exact hy.elim
      · rintro ⟨f, hf, rfl⟩
        obtain ⟨l, d, hl, ho, rfl⟩ := h.ok.mem_tabs.1 hf
        exact .inl ⟨l, d, hl, ho, rfl⟩
  rw [hp.length_eq, List.length_map]
theorem SpInv.left_len {s : Sp} {m : Mem} {b : Bud} (h : SpInv s m b (fun _ => False)) : b.left + s.tabs.length + b.res = m.n := by
  have := Go.Proofs.YtfdnfllefednjaaDoor.left_len _ (b := b) rfl h.bk (fun x hx => h.zero hx)
  rw [h.tabs_len] at this
  rw [h.bn]; exact this
end Go.Proofs.YtfdnfllefednjaaDoor

/-
  Package tables: contracts over whole spaces.
-/
namespace Go.Proofs.YtfdnfllefednjaaDoor
open Go.ChangeShapes Go.WideShapes Go.ChangeAt Go.RowKit Go.Shelf Go.Sort

/-- a whole space, its memory and its allocator, by their places -/
structure Spc (w : World) (S MA A GB MB : Nat) (s : Sp) (m : Mem) (b : Bud) (Y : Nat × Nat → Prop) : Prop where
  S : SpAt w S MA A s.root
  D : Duo w A MA GB m b
  T : Tab w
  I : SpInv s m b Y
  B : m.B = MB
theorem Spc.kept {U : Nat → Prop} {w w' : World} {S MA A GB MB : Nat} {s : Sp} {m : Mem} {b : Bud} {Y : Nat × Nat → Prop} (h : Spc w S MA A GB MB s m b Y) (u : Upd U w w') (h1 : ¬ U S) (h2 : ¬ U A) (h3 : ¬ U GB) (h4 : ¬ U MA) (h5 : ¬ U MB) (h6 : ¬ U 0) : Spc w' S MA A GB MB s m b Y :=
  ⟨h.S.kept u h1, h.D.kept u h2 h3 h4 (by rw [h.B]; exact h5), h.T.keptS u h6, h.I, h.B⟩
theorem Spc.still {w w' : World} {S MA A GB MB : Nat} {s : Sp} {m : Mem} {b : Bud} {Y : Nat × Nat → Prop} (h : Spc w S MA A GB MB s m b Y) (u : Upd (fun _ => False) w w') : Spc w' S MA A GB MB s m b Y :=
  h.kept u id id id id id id
theorem Spc.tab {w : World} {S MA A GB MB : Nat} {s : Sp} {m : Mem} {b : Bud} {Y : Nat × Nat → Prop} (h : Spc w S MA A GB MB s m b Y) : ¬ (0 = GB ∨ 0 = MB) := by
  rintro (e | e)
  · exact h.T.apartG h.D.B e
  · exact h.T.apart h.D.M (e.trans h.B.symm)
theorem Spc.own {w : World} {S MA A GB MB : Nat} {s : Sp} {m : Mem} {b : Bud} {Y : Nat × Nat → Prop} (h : Spc w S MA A GB MB s m b Y) : ¬ (S = GB ∨ S = MB) := by rw [← h.B]; exact h.S.apart h.D
theorem Spc.lts {w : World} {S MA A GB MB : Nat} {s : Sp} {m : Mem} {b : Bud} {Y : Nat × Nat → Prop} (h : Spc w S MA A GB MB s m b Y) : S < w.heap.size ∧ A < w.heap.size ∧ MA < w.heap.size ∧ GB < w.heap.size ∧ MB < w.heap.size :=
  ⟨lt_of_heap h.S, h.D.B.lts.1, lt_of_heap h.D.M.head, h.D.B.lts.2, by rw [← h.B]; exact lt_of_heap h.D.M.body⟩
theorem frame_wf {f : Int} {n : Nat} (hn : n ≤ 256) (h : 0 ≤ f ∧ f < n) : (Lit.int .i64 f).wf = true := by
  obtain ⟨j, rfl⟩ := Int.eq_ofNat_of_zero_le h.1
  exact wf_frame (by omega)

/-- what Map answers -/
def Sp.mapX (s : Sp) (m : Mem) (b : Bud) (q f : Int) : Int :=
  if ¬ (0 ≤ q ∧ q ≤ 4095) ∨ m.ex f 1 = false then 1 else if (s.E 3 q.toNat).v = true then 4 else if b.left < 3 - s.dep q.toNat then 6 else 0
theorem SpInv.mapX {s : Sp} {m : Mem} {b : Bud} {Y : Nat × Nat → Prop} (h : SpInv s m b Y) {q f : Int} {wb : Bool} {x : Int} {m' : Mem} {b' : Bud} (hM : MapTo m b s.root q f wb x m' b') : x = s.mapX m b q f := by
  have hw := h.wX q
  have hN : 0 ≤ q ∧ q ≤ 4095 → m.wN s.root q = s.dep q.toNat := fun hq => by
    obtain ⟨j, rfl⟩ := Int.eq_ofNat_of_zero_le hq.1
    rw [Int.toNat_natCast]
    exact (Sp.walk h.i h.ok h.hn (by omega)).1
  unfold Sp.mapX
  have h2 := h.map hM
  cases hM with
  | arg h1 => rw [if_pos (.inr h1)]
  | twice h1 hx =>
    rw [hx] at hw
    split at hw
    · rename_i hq
      split at hw
      · rename_i hv
        rw [if_neg (by rw [h1]; simp; omega), if_pos hv]
      · cases hw
    · cases hw
  | walk h1 h0 hx =>
    split at hw
    · split at hw
      · exact absurd hw h0
      · exact absurd hw hx
    · rename_i hq
      rw [if_pos (.inl hq), hw]
  | mem h1 hx hl =>
    rw [hx] at hw
    split at hw
    · rename_i hq
      split at hw
      · cases hw
      · rename_i hv
        rw [hN hq] at hl
        rw [if_neg (by rw [h1]; simp; omega), if_neg hv, if_pos hl]
    · cases hw
  | yes h1 hx k hk hl n0 hn L hL =>
    rcases h2 with ⟨hne, _, _, h3⟩ | ⟨h0, qn, rfl, hq, _, hv, hl', _⟩
    · exfalso
      rcases h3 with h3 | h3 | h3
      · rw [h1] at h3; cases h3
      · exact h3 hx
      · omega
    · rw [h0, if_neg (by rw [h1]; simp; omega), Int.toNat_natCast, if_neg (by rw [hv]; decide), if_neg (by omega)]

/-- what becomes of a space by Map -/
structure MapR (s : Sp) (m : Mem) (b : Bud) (Y : Nat × Nat → Prop) (q f : Int) (wb : Bool) (x : Int) (s' : Sp) (m' : Mem) (b' : Bud) : Prop where
  xe : x = s.mapX m b q f
  n : m'.n = m.n
  res : b'.res = b.res
  w : SameW Y m m'
  r : (x ≠ 0 ∧ s' = s ∧ m' = m ∧ b' = b) ∨ (x = 0 ∧ ∃ qn : Nat, q = qn ∧ qn < 4096 ∧ (0 ≤ f ∧ f < m.n) ∧ (s.E 3 qn).v = false ∧ 3 - s.dep qn ≤ b.left ∧ b' = (b.al (3 - s.dep qn)).2 ∧ s'.root = s.root ∧ ∀ q', s'.E 3 q' = if q' = qn then ⟨true, wb, false, f⟩ else s.E 3 q')
  e : x = 0 → ∀ qn : Nat, q = qn → ∀ l d, l ≤ 2 → s'.E l d = if s.dep qn ≤ l ∧ d = nd qn l then tbE ((b.al (3 - s.dep qn)).1.getD (l - s.dep qn) 0 : Nat) else s.E l d
theorem spc_map {w : World} {S MA A GB MB : Nat} {s : Sp} {m : Mem} {b : Bud} {Y : Nat × Nat → Prop} (h : Spc w S MA A GB MB s m b Y) (q f : Int) (wb : Bool) (hf : (Lit.int .i64 f).wf = true) :
    Calls Tryd.prog 30 #[.pointer (some ⟨S, 0, none⟩), .int .i64 q, .int .i64 f, .bool wb] w fun e w' =>
      ∃ x s' m' b', e = .returned (.int .i64 x) ∧ Spc w' S MA A GB MB s' m' b' Y ∧ Upd (fun k => k = GB ∨ k = MB) w w' ∧ MapR s m b Y q f wb x s' m' b' := by
  refine (smap_any S MA A GB s.root m b q f wb w h.S h.D h.T h.I.hg hf).mono ?_
  rintro e w' ⟨x, m', b', rfl, hM, d, u⟩
  rw [h.B] at u
  have hx := h.I.mapX hM
  rcases h.I.map hM with ⟨h0, rfl, rfl, _⟩ | ⟨h0, qn, hq, hq', hf', hv, hl, hb, hn, hB, hw, s', hI, hr, hE, hE12⟩
  · exact ⟨x, s, m', b', rfl, ⟨h.S.kept u h.own, d, h.T.keptS u h.tab, h.I, h.B⟩, u, hx, rfl, rfl, SameW.refl _ _, .inl ⟨h0, rfl, rfl, rfl⟩, fun e => absurd e h0⟩
  · exact ⟨x, s', m', b', rfl, ⟨by rw [hr]; exact h.S.kept u h.own, d, h.T.keptS u h.tab, hI, by rw [hB]; exact h.B⟩, u, hx, hn, by rw [hb]; exact (al_ok h.I.bk _ hl).res, hw, .inr ⟨h0, qn, hq, hq', hf', hv, hl, hb, hr, hE⟩, fun _ q2 e2 => by
    have e3 : qn = q2 := by omega
    rw [← e3]
    exact hE12⟩
/-- .. by Unmap -/
structure UnR (s : Sp) (m : Mem) (b : Bud) (Y : Nat × Nat → Prop) (q : Int) (f x : Int) (s' : Sp) (m' : Mem) (b' : Bud) : Prop where
  xe : x = if 0 ≤ q ∧ q ≤ 4095 then (if (s.E 3 q.toNat).v = true then 0 else 10) else 1
  n : m'.n = m.n
  res : b'.res = b.res
  w : SameW Y m m'
  r : (x ≠ 0 ∧ f = 0 ∧ s' = s ∧ m' = m ∧ b' = b) ∨ (x = 0 ∧ ∃ qn : Nat, q = qn ∧ qn < 4096 ∧ (s.E 3 qn).v = true ∧ f = (s.E 3 qn).f ∧ s'.root = s.root ∧ ∀ q', s'.E 3 q' = if q' = qn then En.zero else s.E 3 q')
  e : ∀ l d, l ≤ 2 → s'.E l d = s.E l d ∨ s'.E l d = En.zero
theorem spc_unmap {w : World} {S MA A GB MB : Nat} {s : Sp} {m : Mem} {b : Bud} {Y : Nat × Nat → Prop} (h : Spc w S MA A GB MB s m b Y) (q : Int) :
    Calls Tryd.prog 31 #[.pointer (some ⟨S, 0, none⟩), .int .i64 q] w fun e w' =>
      ∃ f x s' m' b', e = .returned (.tuple #[.int .i64 f, .int .i64 x]) ∧ Spc w' S MA A GB MB s' m' b' Y ∧ Upd (fun k => k = GB ∨ k = MB) w w' ∧ UnR s m b Y q f x s' m' b' := by
  refine (sunmap_any S MA A GB s.root m b q w h.S h.D h.T h.I.hg (frame_wf h.I.hn ⟨h.I.ok.rlo, h.I.ok.rhi⟩)).mono ?_
  have hx := h.I.wX q
  rintro e w' (⟨h0, rfl, u⟩ | ⟨h0, pre, hp, hend, hgo, rfl, d, u⟩)
  · exact ⟨0, _, s, m, b, rfl, h.still u, u.none, hx, rfl, rfl, SameW.refl _ _, .inl ⟨h0, rfl, rfl, rfl, rfl⟩, fun _ _ _ => .inl rfl⟩
  · rw [h.B] at u
    obtain ⟨qn, hq, hq', hv, hE, hn, hB, hbn, hres, hw, s', hI, hr, hE', hE12⟩ := h.I.unmap h0 hp hend hgo rfl
    refine ⟨_, 0, s', _, _, rfl, ⟨by rw [hr]; exact h.S.kept u h.own, d, h.T.keptS u h.tab, hI, by rw [hB]; exact h.B⟩, u, h0.symm.trans hx, hn, hres, hw, .inr ⟨rfl, qn, hq, hq', hv, by rw [hE], hr, hE'⟩, hE12⟩
/-- .. by Protect -/
structure PrR (s : Sp) (m : Mem) (Y : Nat × Nat → Prop) (q : Int) (wb : Bool) (x : Int) (s' : Sp) (m' : Mem) : Prop where
  xe : x = if 0 ≤ q ∧ q ≤ 4095 then (if (s.E 3 q.toNat).v = true then 0 else 10) else 1
  n : m'.n = m.n
  w : SameW Y m m'
  r : (x ≠ 0 ∧ s' = s ∧ m' = m) ∨ (x = 0 ∧ ∃ qn : Nat, q = qn ∧ qn < 4096 ∧ (s.E 3 qn).v = true ∧ s'.root = s.root ∧ ∀ q', s'.E 3 q' = if q' = qn then { s.E 3 qn with r := wb } else s.E 3 q')
theorem spc_protect {w : World} {S MA A GB MB : Nat} {s : Sp} {m : Mem} {b : Bud} {Y : Nat × Nat → Prop} (h : Spc w S MA A GB MB s m b Y) (q : Int) (wb : Bool) :
    Calls Tryd.prog 32 #[.pointer (some ⟨S, 0, none⟩), .int .i64 q, .bool wb] w fun e w' =>
      ∃ x s' m', e = .returned (.int .i64 x) ∧ Spc w' S MA A GB MB s' m' b Y ∧ Upd (fun k => k = GB ∨ k = MB) w w' ∧ PrR s m Y q wb x s' m' := by
  refine (sprotect_any S MA A s.root m q wb w h.S h.D.M h.T h.I.hg).mono ?_
  have hx := h.I.wX q
  rintro e w' (⟨h0, rfl, u⟩ | ⟨h0, rfl, hm, u⟩)
  · exact ⟨_, s, m, rfl, h.still u, u.none, hx, rfl, SameW.refl _ _, .inl ⟨h0, rfl, rfl⟩⟩
  · obtain ⟨qn, hq, hq', hv, hpB, hw, s', hI, hr, hE⟩ := h.I.protect h0 wb
    have d := h.D.cleared hm u (Mem.put_n _ _ _ _)
    have u' : Upd (fun k => k = GB ∨ k = MB) w w' := u.mono (fun _ _ e => .inr (e.trans h.B))
    refine ⟨0, s', _, by rw [hpB]; rfl, ⟨by rw [hr]; exact h.S.kept u' h.own, d, h.T.keptS u' h.tab, hI, by rw [Mem.put_B]; exact h.B⟩, u', h0.symm.trans hx, Mem.put_n _ _ _ _, hw, .inr ⟨rfl, qn, hq, hq', hv, hr, hE⟩⟩
/-- what Find tells -/
def Sp.findE (s : Sp) (q : Int) : En := if 0 ≤ q ∧ q ≤ 4095 then s.E 3 q.toNat else En.zero
def Sp.findX (s : Sp) (q : Int) : Int := if 0 ≤ q ∧ q ≤ 4095 then (if (s.E 3 q.toNat).v = true then 0 else 10) else 1
theorem spc_find {w : World} {S MA A GB MB : Nat} {s : Sp} {m : Mem} {b : Bud} {Y : Nat × Nat → Prop} (h : Spc w S MA A GB MB s m b Y) (q : Int) :
    Calls Tryd.prog 34 #[.pointer (some ⟨S, 0, none⟩), .int .i64 q] w fun e w' => e = .returned (.tuple #[(s.findE q).val, .int .i64 (s.findX q)]) ∧ Upd (fun _ => False) w w' := by
  have := sfind_any S MA A s.root m q w h.S h.D.M h.T h.I.hg
  rw [h.I.wE, h.I.wX] at this
  exact this
theorem spc_walk {w : World} {S MA A GB MB : Nat} {s : Sp} {m : Mem} {b : Bud} {Y : Nat × Nat → Prop} (h : Spc w S MA A GB MB s m b Y) (q : Int) :
    Calls Tryd.prog 65 #[.pointer (some ⟨MA, 0, none⟩), .int .i64 s.root, .int .i64 q] w fun e w' => ∃ o n cap, e = .returned (.tuple #[(s.findE q).val, .slice o n cap, .int .i64 (s.findX q)]) ∧ Upd (fun _ => False) w w' := by
  refine (walk_row (root := s.root) (q := q) w.heap.size (Nat.le_refl _) h.D.M h.T h.I.hg).mono ?_
  rintro e w' ⟨o, cap, rfl, _, u⟩
  rw [h.I.wE, h.I.wX]
  exact ⟨o, _, cap, rfl, u⟩
theorem spc_root {w : World} {S MA A GB MB : Nat} {s : Sp} {m : Mem} {b : Bud} {Y : Nat × Nat → Prop} (h : Spc w S MA A GB MB s m b Y) :
    Calls Tryd.prog 41 #[.pointer (some ⟨S, 0, none⟩)] w fun e w' => e = .returned (.int .i64 s.root) ∧ w = w' := sroot_any S MA A s.root w h.S
def Sp.pgi (s : Sp) : List Int := s.pgs.map fun q => ((q : Nat) : Int)
def Sp.tbs (s : Sp) : List Int := s.tabs.mergeSort leI
theorem Sp.pgi_len (s : Sp) : s.pgi.length = s.pgs.length := by simp [Sp.pgi]
theorem Sp.tbs_len (s : Sp) : s.tbs.length = s.tabs.length := (List.mergeSort_perm s.tabs leI).length_eq
theorem Sp.lev_len (s : Sp) (l : Nat) : (s.lev l).length ≤ 16 ^ l := by
  unfold Sp.lev
  have := List.length_filter_le (fun d => (s.E l d).v) (List.range (16 ^ l))
  rwa [List.length_range] at this
theorem SpInv.tabs_bd {s : Sp} {m : Mem} {b : Bud} {Y : Nat × Nat → Prop} (h : SpInv s m b Y) : s.tabs.length ≤ 273 := by
  have h1 := s.lev_len 1
  have h2 := s.lev_len 2
  rw [h.ok.tabs_len]
  omega
theorem spc_new {w : World} {MA A GB MB : Nat} {m : Mem} {b : Bud} (hd : Duo w A MA GB m b) (T : Tab w) (hB : m.B = MB) (hg : m.good) {Y : Nat × Nat → Prop} (hY : ∀ x, x ∈ b.gave ↔ Y x) (y0 : ∀ x, Y x → x.2 = 0) :
    Calls Tryd.prog 38 #[.pointer (some ⟨MA, 0, none⟩), .pointer (some ⟨A, 0, none⟩)] w fun e w' =>
      (b.left < 1 ∧ e = .returned (.tuple #[.pointer none, .int .i64 6]) ∧ Upd (fun _ => False) w w') ∨
      (1 ≤ b.left ∧ ∃ S s m', w.heap.size ≤ S ∧ e = .returned (.tuple #[.pointer (some ⟨S, 0, none⟩), .int .i64 0]) ∧ Spc w' S MA A GB MB s m' (b.al 1).2 Y ∧ Upd (fun k => k = GB ∨ k = MB) w w' ∧ m'.n = m.n ∧ s.root = ((b.al 1).1.getD 0 0 : Nat) ∧ (∀ l d, s.E l d = En.zero) ∧ SameW Y m m') := by
  refine (snew_any MA A GB m b w hd).mono ?_
  rintro e w' (⟨h0, rfl, u⟩ | ⟨h0, S, hS, rfl, s0, d, u⟩)
  · exact .inl ⟨h0, rfl, u⟩
  · rw [hB] at u
    obtain ⟨hI, hw⟩ := SpInv.new hd.M.okm hg hd.B.ok hd.n h0 hY y0
    refine .inr ⟨h0, S, _, _, hS, rfl, ⟨s0, d, T.keptS u ?_, hI, by rw [Mem.clears_B]; exact hB⟩, u, Mem.clears_n _ _, rfl, fun _ _ => rfl, hw⟩
    rintro (e | e)
    · exact T.apartG hd.B e
    · exact T.apart hd.M (e.trans hB.symm)
end Go.Proofs.YtfdnfllefednjaaDoor

/-
  A unit that goes by a space of its own, in plain numbers: what is found is what the space tells.
-/
namespace Go.Proofs.YtfdnfllefednjaaDoor
open Go.ChangeShapes Go.WideShapes Go.ChangeAt Go.RowKit Go.Shelf Go.Sort

/-- all lines of that asid are as the space tells -/
def BInv (s : Sp) (a : Int) (B : Buf) : Prop := ∀ i l, B i = some l → l.a = a → (0 ≤ l.p ∧ l.p ≤ 4095) ∧ s.E 3 l.p.toNat = ⟨true, l.w, false, l.f⟩
theorem BInv.empty (s : Sp) (a : Int) : BInv s a buf0 := fun i l h => by cases h
theorem BInv.put {s : Sp} {a : Int} {B : Buf} (h : BInv s a B) (l : Ln) (at' : Int) (hl : l.a = a → (0 ≤ l.p ∧ l.p ≤ 4095) ∧ s.E 3 l.p.toNat = ⟨true, l.w, false, l.f⟩) : BInv s a (B.put l at') := by
  intro i x hx ha
  unfold Buf.put at hx
  split at hx
  · unfold Buf.set at hx
    split at hx
    · cases hx; exact hl ha
    · exact h i x hx ha
  · exact h i x hx ha
theorem BInv.flush {a : Int} (s : Sp) (B : Buf) : BInv s a (B.flush a) := fun _ _ h ha => absurd ha (Buf.flush_some.1 h).2
theorem BInv.drop {s s' : Sp} {a : Int} {B : Buf} (h : BInv s a B) (ho : B.Ok) (q : Nat) (hs : ∀ q', q' ≠ q → s'.E 3 q' = s.E 3 q') : BInv s' a (B.drop a q) := by
  intro i l hi ha
  have key : B i = some l → l.p = q → B.at a q = i := fun e1 e2 => by rw [← ha, ← e2]; exact ho.at_of e1
  have h0 : B i = some l ∧ l.p ≠ q := by
    unfold Buf.drop at hi
    split at hi
    · unfold Buf.set at hi
      split at hi
      · cases hi
      · rename_i hne
        exact ⟨hi, fun e => hne (key hi e).symm⟩
    · rename_i hlt
      refine ⟨hi, fun e => ?_⟩
      have := key hi e
      have := ho.lt i l hi
      omega
  obtain ⟨h1, h2⟩ := h i l h0.1 ha
  refine ⟨h1, ?_⟩
  rw [hs _ (by intro e; apply h0.2; omega)]
  exact h2
theorem SpInv.wL {s : Sp} {m : Mem} {b : Bud} {Y : Nat × Nat → Prop} (I : SpInv s m b Y) (a : Int) (q : Nat) (hq : q < 4096) : m.wL s.root a q = if (s.E 3 q).v = true then some ⟨a, q, (s.E 3 q).f, (s.E 3 q).r⟩ else none := by
  unfold Mem.wL
  have hc : 0 ≤ (q : Int) ∧ (q : Int) ≤ 4095 := by omega
  rw [I.wX, I.wE, if_pos hc, if_pos hc, Int.toNat_natCast]
  cases hv : (s.E 3 q).v
  · simp
  · have hf := I.ok.f 3 q hv
    rw [if_pos rfl, if_pos ⟨rfl, by unfold Mem.ex; simp; omega⟩, if_pos rfl]
theorem SpInv.uLine {s : Sp} {m : Mem} {b : Bud} {Y : Nat × Nat → Prop} (I : SpInv s m b Y) {a : Int} {B : Buf} (hB : BInv s a B) (q : Nat) (hq : q < 4096) : uLine m B s.root a q = if (s.E 3 q).v = true then some ⟨a, q, (s.E 3 q).f, (s.E 3 q).r⟩ else none := by
  unfold Go.Proofs.YtfdnfllefednjaaDoor.uLine
  split
  · rename_i l hl
    obtain ⟨i, hi, hb, e1, e2⟩ := Buf.find_some hl
    obtain ⟨-, h2⟩ := hB i l hb e1
    rw [e2, Int.toNat_natCast] at h2
    rw [h2, if_pos rfl, ← e1, ← e2]
  · exact I.wL a q hq
theorem SpInv.uPut {s : Sp} {m : Mem} {b : Bud} {Y : Nat × Nat → Prop} (I : SpInv s m b Y) {a : Int} {B : Buf} (hB : BInv s a B) (q : Nat) (hq : q < 4096) (at' : Int) : BInv s a (uPut m B s.root a q at') := by
  unfold Go.Proofs.YtfdnfllefednjaaDoor.uPut
  split
  · exact hB
  · rw [I.wL a q hq]
    cases hv : (s.E 3 q).v
    · exact hB
    · rw [if_pos rfl]
      refine hB.put _ at' fun _ => ⟨⟨by show (0 : Int) ≤ q; omega, by show (q : Int) ≤ 4095; omega⟩, ?_⟩
      have hp := I.ok.pg q hv
      show s.E 3 (q : Int).toNat = ⟨true, (s.E 3 q).r, false, (s.E 3 q).f⟩
      rw [Int.toNat_natCast]
      cases he : s.E 3 q with
      | mk v r t f =>
        rw [he] at hv hp
        simp only at hv hp
        rw [hv, hp]
/-- lines of another asid -/
theorem BInv.other {s : Sp} {a c : Int} {B : Buf} (h : BInv s a B) (hne : c ≠ a) (m : Mem) (r q at' : Int) : BInv s a (Go.Proofs.YtfdnfllefednjaaDoor.uPut m B r c q at') := by
  unfold Go.Proofs.YtfdnfllefednjaaDoor.uPut
  split
  · exact h
  · split
    · rename_i l hl
      exact h.put _ _ fun e => absurd (((wL_a hl).1).symm.trans e) hne
    · exact h
/-- pages' frames are below the allocator's -/
def Sp.Low (s : Sp) (k : Nat) : Prop := ∀ q, (s.E 3 q).v = true → (s.E 3 q).f < k
theorem SpInv.high {s : Sp} {m : Mem} {b : Bud} {Y : Nat × Nat → Prop} (I : SpInv s m b Y) {l d : Nat} (hl : l ≤ 2) (ho : s.on l d = true) : (b.res : Int) ≤ s.fr l d := by
  have h1 := I.ok.frb ho
  have h2 := (I.gv ((s.fr l d).toNat, 0)).2 (.inl ⟨l, d, hl, ho, rfl⟩)
  have h3 := (I.bk.blk _ h2).2.2.1
  simp only at h3
  omega
/-- a word of a frame below the allocator's is written -/
theorem SpInv.wr {s : Sp} {m : Mem} {b : Bud} {Y : Nat × Nat → Prop} (I : SpInv s m b Y) (f o v : Int) (hf : 0 ≤ f ∧ f < b.res) (ho : 0 ≤ o ∧ o < 16) (h0 : 0 ≤ v) (h1 : v < 18446744073709551616) : SpInv s (m.wr (16 * f + o) v) b Y := by
  have hrn : b.res ≤ m.n := by rw [I.bn]; exact I.bk.rs
  have e16 : 16 * f + o = f * 16 + o := by omega
  rw [e16]
  refine ⟨by rw [Mem.wr_n]; exact I.ok, ?_, I.nee, Mem.wr_ok _ I.mo _ _, m.wr_good I.mo I.hg _ _ h0 h1, I.bk, by rw [Mem.wr_n]; exact I.bn, I.y0, I.gv, I.ap⟩
  intro l d p hl hon hp
  have hh := I.high hl hon
  have hfr := I.ok.frb hon
  rw [m.word_wr I.mo f o (s.fr l d) p v ((m.slot_iff f o).2 ⟨⟨hf.1, by omega⟩, ho.1, by omega⟩) ((m.slot_iff _ _).2 ⟨hfr, by omega, by omega⟩), if_neg (by intro e; omega)]
  exact I.i l d p hl hon hp
theorem uM_no {m : Mem} {B : Buf} {root asid addr v at' : Int} (h : uX m B root asid addr true at' ≠ 0) : uM m B root asid addr v at' = m := by unfold uM; rw [if_neg h]
/-- what a unit answers that goes by a space -/
structure Told (s : Sp) (m : Mem) (B : Buf) (a addr at' : Int) (q : Nat) (v : Int) : Prop where
  no : (s.E 3 q).v = false → uX m B s.root a addr false at' = 10 ∧ uX m B s.root a addr true at' = 10 ∧ uM m B s.root a addr v at' = m
  yes : (s.E 3 q).v = true → uX m B s.root a addr false at' = 0 ∧ uF m B s.root a addr false at' = (s.E 3 q).f ∧ uO m B s.root a addr false at' = addr % 16 ∧ uX m B s.root a addr true at' = (if (s.E 3 q).r = true then 0 else 9) ∧
    uM m B s.root a addr v at' = (if (s.E 3 q).r = true then m.wr (16 * (s.E 3 q).f + addr % 16) v else m) ∧ uW m B s.root a addr at' = m.rd (16 * (s.E 3 q).f + addr % 16)
theorem SpInv.told {s : Sp} {m : Mem} {b : Bud} {Y : Nat × Nat → Prop} (I : SpInv s m b Y) {a : Int} {B : Buf} (hB : BInv s a B) (ha : a ≠ 0) (addr at' : Int) (h0 : 0 ≤ addr) (h1 : addr ≤ 65535) (t0 : 0 ≤ at') (t1 : at' < 8) (v : Int) :
    Told s m B a addr at' (addr / 16).toNat v ∧ uB m B s.root a addr at' = Go.Proofs.YtfdnfllefednjaaDoor.uPut m B s.root a ((addr / 16).toNat : Int) at' := by
  have hsp : spB addr = true := decide_eq_true ⟨h0, h1⟩
  have hA : uArg a addr at' = true := (uArg_iff _ _ _).2 ⟨ha, hsp, t0, t1⟩
  have hP : spP addr = ((addr / 16).toNat : Int) := by unfold spP; rw [if_pos hsp]; omega
  have hO : spO addr = addr % 16 := by unfold spO; rw [if_pos hsp]
  have hq : (addr / 16).toNat < 4096 := by omega
  have hl := I.uLine hB _ hq
  generalize (addr / 16).toNat = q at hP hq hl ⊢
  have y : ∀ wr, _ := fun wr => uArg_yes (m := m) (B := B) (root := s.root) (wr := wr) hA
  rw [hP, hO, hl] at y
  refine ⟨⟨fun hv => ?_, fun hv => ?_⟩, (y false _ rfl).2.2.2⟩
  · rw [hv, if_neg (by simp)] at y
    obtain ⟨e1, -⟩ := y false 10 rfl
    obtain ⟨e2, -⟩ := y true 10 rfl
    exact ⟨e1, e2, uM_no (by rw [e2]; decide)⟩
  · rw [hv, if_pos rfl] at y
    have hf := I.ok.f 3 q hv
    have hex : m.ex (s.E 3 q).f 1 = true := by unfold Mem.ex; simp; omega
    obtain ⟨e1, e2, e3, -⟩ := y false 0 (by show (if false = true ∧ (s.E 3 q).r = false then (9 : Int) else if m.ex (s.E 3 q).f 1 = true then 0 else 10) = 0; rw [hex]; simp)
    have hx : lnX m true (some ⟨a, q, (s.E 3 q).f, (s.E 3 q).r⟩) = if (s.E 3 q).r = true then 0 else 9 := by
      show (if true = true ∧ (s.E 3 q).r = false then (9 : Int) else if m.ex (s.E 3 q).f 1 = true then 0 else 10) = _
      rw [hex]
      cases (s.E 3 q).r <;> simp
    obtain ⟨g1, g2, g3, -⟩ := y true _ hx
    rw [if_pos rfl] at e2 e3
    refine ⟨e1, e2, e3, g1, ?_, ?_⟩
    · unfold uM
      rw [g1, g2, g3]
      cases hr : (s.E 3 q).r
      · rw [if_neg (by simp), if_neg (by simp)]
      · rw [if_pos rfl, if_pos rfl, if_pos rfl, if_pos rfl]
        rfl
    · unfold uW
      rw [e1, if_pos rfl, e2, e3]
      rfl
/-- what was stored is loaded -/
theorem rd_wr {m : Mem} (hk : m.ok) (a v : Int) (h : m.has a = true) : (m.wr a v).rd a = v := by
  unfold Mem.rd
  rw [Mem.wr_has, h, if_pos rfl, m.at_wr hk a v h, if_pos rfl]
end Go.Proofs.YtfdnfllefednjaaDoor

/-
  The laws' begun and awake.
-/
namespace Go.Proofs.YtfdnfllefednjaaDoor
open Go.ChangeShapes Go.WideShapes Go.ChangeAt Go.RowKit Go.Shelf Go.Sort

/-- nothing of it was there before block B -/
structure SpcNew (B S MA A GB MB : Nat) : Prop where
  s : B ≤ S
  ma : B ≤ MA
  a : B ≤ A
  gb : B ≤ GB
  mb : B ≤ MB
theorem bud0_left (n : Nat) (h1 : 1 ≤ n) (h2 : n ≤ 256) : (bud0 n 0).left = n := by
  have := left_len _ (b := bud0 n 0) rfl (bud0_ok h1 h2 (by omega)) (fun x hx => by simp [bud0] at hx)
  simpa [bud0] using this
theorem SpInv.bare {s : Sp} {m : Mem} {b : Bud} {Y : Nat × Nat → Prop} (h : SpInv s m b Y) (h0 : ∀ q, (s.E 3 q).v = false) : s.tabs.length = 1 := by
  have l2 : ∀ d, (s.E 2 d).v = false := fun d => by
    cases hv : (s.E 2 d).v
    · rfl
    · obtain ⟨p, _, hp⟩ := h.nee 2 d (by omega) (by omega) (by rw [s.onS]; exact hv)
      rw [h0] at hp; cases hp
  have l1 : ∀ d, (s.E 1 d).v = false := fun d => by
    cases hv : (s.E 1 d).v
    · rfl
    · obtain ⟨p, _, hp⟩ := h.nee 1 d (by omega) (by omega) (by rw [s.onS]; exact hv)
      rw [l2] at hp; cases hp
  rw [h.ok.tabs_len]
  unfold Sp.lev
  rw [List.filter_eq_nil_iff.2 (fun d _ => by rw [l1]; decide), List.filter_eq_nil_iff.2 (fun d _ => by rw [l2]; decide)]
  rfl
theorem leI_sorted (l : List Int) : (l.mergeSort leI).Pairwise (fun a c => leI a c = true) :=
  List.pairwise_mergeSort (fun a b c h1 h2 => by unfold leI at *; simp at *; omega) (fun a b => by unfold leI; simp; omega) l
/-- the least is first -/
theorem tbs_zero {s : Sp} {n : Nat} (h : s.Ok n) (h0 : s.root = 0) : s.tbs.getD 0 0 = 0 := by
  have hs := leI_sorted s.tabs
  have hm : (0 : Int) ∈ s.tbs := (List.mergeSort_perm s.tabs leI).mem_iff.2 (by rw [← h0]; exact List.mem_cons_self)
  have hall : ∀ f, f ∈ s.tbs → 0 ≤ f := fun f hf => by
    obtain ⟨l, d, _, ho, rfl⟩ := h.mem_tabs.1 ((List.mergeSort_perm s.tabs leI).mem_iff.1 hf)
    exact (h.frb ho).1
  change s.tbs.Pairwise _ at hs
  generalize s.tbs = L at hs hm hall
  cases L with
  | nil => cases hm
  | cons a L =>
    show a = 0
    rw [List.pairwise_cons] at hs
    have ha := hall a (by simp)
    rcases List.mem_cons.1 hm with e | e
    · exact e.symm
    · have := hs.1 0 e
      unfold leI at this
      simp at this
      omega
theorem al8 : ((bud0 8 0).al 1).1.getD 0 0 = 0 := by decide
end Go.Proofs.YtfdnfllefednjaaDoor

/-
  A unit that goes by a space of its own: all calls.
-/
namespace Go.Proofs.YtfdnfllefednjaaDoor
open Go.ChangeShapes Go.WideShapes Go.ChangeAt Go.RowKit Go.Shelf Go.Sort

structure UNq (U BA S MA A GB MB : Nat) : Prop where
  ub : U ≠ BA
  u : ∀ i, (i = S ∨ i = MA ∨ i = A ∨ i = GB ∨ i = MB ∨ i = 0) → U ≠ i ∧ BA ≠ i
/-- a space, and a unit and a buffer over its memory -/
structure Uni (w : World) (S MA A GB MB U BA : Nat) (s : Sp) (m : Mem) (b : Bud) (Y : Nat × Nat → Prop) (root asid : Int) (B : Buf) : Prop where
  P : Spc w S MA A GB MB s m b Y
  un : UnAt w U MA BA root asid
  bu : BufAt w BA B
  bo : B.Ok
  n : UNq U BA S MA A GB MB
section
variable {w w1 : World} {S MA A GB MB U BA : Nat} {s : Sp} {m : Mem} {b : Bud} {Y : Nat × Nat → Prop} {root asid : Int} {B : Buf}
theorem Uni.still (h : Uni w S MA A GB MB U BA s m b Y root asid B) (u : Upd (fun _ => False) w w1) : Uni w1 S MA A GB MB U BA s m b Y root asid B :=
  ⟨h.P.still u, h.un.kept u id, h.bu.kept u id, h.bo, h.n⟩
/-- the space turned -/
theorem Uni.turn {s' : Sp} {m' : Mem} {b' : Bud} (h : Uni w S MA A GB MB U BA s m b Y root asid B) (P : Spc w1 S MA A GB MB s' m' b' Y) (u : Upd (fun k => k = GB ∨ k = MB) w w1) : Uni w1 S MA A GB MB U BA s' m' b' Y root asid B := by
  have g := h.n.u GB (.inr (.inr (.inr (.inl rfl))))
  have g' := h.n.u MB (.inr (.inr (.inr (.inr (.inl rfl)))))
  exact ⟨P, h.un.kept u (fun e => e.elim g.1 g'.1), h.bu.kept u (fun e => e.elim g.2 g'.2), h.bo, h.n⟩
theorem Uni.ba (h : Uni w S MA A GB MB U BA s m b Y root asid B) : ∀ i, (i = S ∨ i = MA ∨ i = A ∨ i = GB ∨ i = MB ∨ i = 0) → ¬ i = BA := fun i hi e => (h.n.u i hi).2 e.symm
theorem Uni.buf {B' : Buf} (h : Uni w S MA A GB MB U BA s m b Y root asid B) (hb : BufAt w1 BA B') (ho : B'.Ok) (u : Upd (· = BA) w w1) : Uni w1 S MA A GB MB U BA s m b Y root asid B' :=
  ⟨h.P.kept u (h.ba S (.inl rfl)) (h.ba A (.inr (.inr (.inl rfl)))) (h.ba GB (.inr (.inr (.inr (.inl rfl))))) (h.ba MA (.inr (.inl rfl))) (h.ba MB (.inr (.inr (.inr (.inr (.inl rfl)))))) (h.ba _ (.inr (.inr (.inr (.inr (.inr rfl)))))), h.un.kept u h.n.ub, hb, ho, h.n⟩
theorem Uni.map (h : Uni w S MA A GB MB U BA s m b Y root asid B) (q f : Int) (wb : Bool) (hf : (Lit.int .i64 f).wf = true) :
    Calls Tryd.prog 30 #[.pointer (some ⟨S, 0, none⟩), .int .i64 q, .int .i64 f, .bool wb] w fun e w' =>
      ∃ x s' m' b', e = .returned (.int .i64 x) ∧ Uni w' S MA A GB MB U BA s' m' b' Y root asid B ∧ Upd (fun k => k = GB ∨ k = MB) w w' ∧ MapR s m b Y q f wb x s' m' b' := by
  refine (spc_map h.P q f wb hf).mono ?_
  rintro e w' ⟨x, s', m', b', rfl, P, u, r⟩
  exact ⟨x, s', m', b', rfl, h.turn P u, u, r⟩
theorem Uni.unmap (h : Uni w S MA A GB MB U BA s m b Y root asid B) (q : Int) :
    Calls Tryd.prog 31 #[.pointer (some ⟨S, 0, none⟩), .int .i64 q] w fun e w' =>
      ∃ f x s' m' b', e = .returned (.tuple #[.int .i64 f, .int .i64 x]) ∧ Uni w' S MA A GB MB U BA s' m' b' Y root asid B ∧ Upd (fun k => k = GB ∨ k = MB) w w' ∧ UnR s m b Y q f x s' m' b' := by
  refine (spc_unmap h.P q).mono ?_
  rintro e w' ⟨f, x, s', m', b', rfl, P, u, r⟩
  exact ⟨f, x, s', m', b', rfl, h.turn P u, u, r⟩
theorem Uni.protect (h : Uni w S MA A GB MB U BA s m b Y root asid B) (q : Int) (wb : Bool) :
    Calls Tryd.prog 32 #[.pointer (some ⟨S, 0, none⟩), .int .i64 q, .bool wb] w fun e w' =>
      ∃ x s' m', e = .returned (.int .i64 x) ∧ Uni w' S MA A GB MB U BA s' m' b Y root asid B ∧ Upd (fun k => k = GB ∨ k = MB) w w' ∧ PrR s m Y q wb x s' m' := by
  refine (spc_protect h.P q wb).mono ?_
  rintro e w' ⟨x, s', m', rfl, P, u, r⟩
  exact ⟨x, s', m', rfl, h.turn P u, u, r⟩
theorem Uni.flush (h : Uni w S MA A GB MB U BA s m b Y root asid B) (a : Int) :
    Calls Tryd.prog 19 #[.pointer (some ⟨BA, 0, none⟩), .int .i64 a] w fun e w' => ∃ x : Int, e = .returned (.int .i64 x) ∧ Uni w' S MA A GB MB U BA s m b Y root asid (B.flush a) ∧ Upd (· = BA) w w' := by
  refine (tflush_any BA B h.bo a w h.bu).mono ?_
  rintro e w' ⟨rfl, b1, u⟩
  exact ⟨_, rfl, h.buf b1 (h.bo.flush a) u, u⟩
theorem Uni.drop (h : Uni w S MA A GB MB U BA s m b Y root asid B) (a p : Int) :
    Calls Tryd.prog 33 #[.pointer (some ⟨BA, 0, none⟩), .int .i64 a, .int .i64 p] w fun e w' => ∃ x : Bool, e = .returned (.bool x) ∧ Uni w' S MA A GB MB U BA s m b Y root asid (B.drop a p) ∧ Upd (· = BA) w w' := by
  refine (tdrop_any BA B h.bo a p w h.bu).mono ?_
  rintro e w' ⟨rfl, b1, u⟩
  exact ⟨_, rfl, h.buf b1 (h.bo.drop a p) u, u⟩
theorem Uni.mne (h : Uni w S MA A GB MB U BA s m b Y root asid B) : MA ≠ BA ∧ m.B ≠ BA ∧ U ≠ m.B := by
  rw [h.P.B]
  exact ⟨h.ba MA (.inr (.inl rfl)), h.ba MB (.inr (.inr (.inr (.inr (.inl rfl))))), (h.n.u MB (.inr (.inr (.inr (.inr (.inl rfl)))))).1⟩
theorem Uni.find (h : Uni w S MA A GB MB U BA s m b Y root asid B) (addr : Int) (wr : Bool) (at' : Int) :
    Calls Tryd.prog 23 #[.pointer (some ⟨U, 0, none⟩), .int .i64 addr, .bool wr, .int .i64 at'] w fun e w' => e = .returned (.tuple #[.int .i64 (uF m B root asid addr wr at'), .int .i64 (uO m B root asid addr wr at'), .int .i64 (uX m B root asid addr wr at')]) ∧ Uni w' S MA A GB MB U BA s m b Y root asid (uB m B root asid addr at') ∧ Upd (· = BA) w w' := by
  obtain ⟨n1, n2, n3⟩ := h.mne
  refine (ufind_any U MA BA root asid addr wr at' m B h.bo w h.un h.P.D.M h.bu h.P.T h.P.I.hg h.n.ub n1 n2).mono ?_
  rintro e w' ⟨rfl, b1, u⟩
  exact ⟨rfl, h.buf b1 (uB_ok h.bo _ _ _ _) u, u⟩
theorem Uni.load (h : Uni w S MA A GB MB U BA s m b Y root asid B) (addr at' : Int) :
    Calls Tryd.prog 13 #[.pointer (some ⟨U, 0, none⟩), .int .i64 addr, .int .i64 at'] w fun e w' => e = .returned (.tuple #[.int .u64 (uW m B root asid addr at'), .int .i64 (uX m B root asid addr false at')]) ∧ Uni w' S MA A GB MB U BA s m b Y root asid (uB m B root asid addr at') ∧ Upd (· = BA) w w' := by
  obtain ⟨n1, n2, n3⟩ := h.mne
  refine (uload_any U MA BA root asid addr at' m B h.bo w h.un h.P.D.M h.bu h.P.T h.P.I.hg h.n.ub n1 n2).mono ?_
  rintro e w' ⟨rfl, b1, u⟩
  exact ⟨rfl, h.buf b1 (uB_ok h.bo _ _ _ _) u, u⟩
theorem Uni.store (h : Uni w S MA A GB MB U BA s m b Y root asid B) (addr v at' : Int) (I : SpInv s (uM m B root asid addr v at') b Y) :
    Calls Tryd.prog 15 #[.pointer (some ⟨U, 0, none⟩), .int .i64 addr, .int .u64 v, .int .i64 at'] w fun e w' => e = .returned (.int .i64 (uX m B root asid addr true at')) ∧ Uni w' S MA A GB MB U BA s (uM m B root asid addr v at') b Y root asid (uB m B root asid addr at') ∧ Upd (fun k => k = BA ∨ k = MB) w w' := by
  obtain ⟨n1, n2, n3⟩ := h.mne
  have hB := h.P.B
  have ne := h.P.D.ne
  refine (ustore_any U MA BA root asid addr v at' m B h.bo w h.un h.P.D.M h.bu h.P.T h.P.I.hg h.n.ub n1 n2 n3).mono ?_
  rintro e w' ⟨rfl, b1, m1, u⟩
  rw [hB] at u
  have hS := h.P.own
  have hT := h.P.tab
  have k := h.ba
  have g := fun i hi => (h.n.u i hi).1
  rw [hB] at ne
  refine ⟨rfl, ⟨⟨h.P.S.kept u (fun e => e.elim (k S (.inl rfl)) (fun e => hS (.inr e))), ⟨h.P.D.B.kept u (fun e => e.elim (k A (.inr (.inr (.inl rfl)))) (by omega)) (fun e => e.elim (k GB (.inr (.inr (.inr (.inl rfl))))) (by omega)), m1, by rw [uM_n]; exact h.P.D.n⟩, h.P.T.keptS u (fun e => e.elim (k _ (.inr (.inr (.inr (.inr (.inr rfl)))))) (fun e => hT (.inr e))), I, by rw [uM_B]; exact hB⟩, h.un.kept u (fun e => e.elim h.n.ub (g MB (.inr (.inr (.inr (.inr (.inl rfl))))))), b1, uB_ok h.bo _ _ _ _, h.n⟩, u⟩
end
end Go.Proofs.YtfdnfllefednjaaDoor

/-
  A unit that goes by a space of its own: the laws' beginning.
-/
namespace Go.Proofs.YtfdnfllefednjaaDoor
open Go.ChangeShapes Go.WideShapes Go.ChangeAt Go.RowKit Go.Shelf Go.Sort

theorem results_tmp4 {fn : Func} {t u v x : Tmp} (h : fn.results = #[.tmp t, .tmp u, .tmp v, .tmp x]) (tmps : Array Value) (P : Program) (w : World) :
    (results fn tmps).run P w = .ok (.tuple #[tmps.getD t undef, tmps.getD u undef, tmps.getD v undef, tmps.getD x undef]) w := by
  simp [results, h]
/-- nobody -/
def Yu : Nat × Nat → Prop := fun _ => False
/-- what all laws' spaces keep -/
structure UniK (s : Sp) (m : Mem) (b : Bud) (asid : Int) (B : Buf) : Prop where
  n : m.n = 64
  res : b.res = 32
  lo : s.Low 32
  bi : BInv s asid B
theorem bud64_left : (bud0 64 32).left = 32 := by kernel_rfl
theorem bud64_ok : (bud0 64 32).Ok := bud0_ok (by omega) (by omega) (by omega)
/-- blocks that are new -/
structure UniNew (N S MA A GB MB U BA : Nat) : Prop where
  s : N ≤ S
  ma : N ≤ MA
  a : N ≤ A
  gb : N ≤ GB
  mb : N ≤ MB
  u : N ≤ U
  ba : N ≤ BA
set_option maxRecDepth 100000 in
set_option maxHeartbeats 2000000 in
theorem uspace_any (w : World) (T : Tab w) :
    Calls Tryd.prog 29 #[.int .i64 64] w fun e w' => ∃ (S MA A GB MB U BA : Nat) (s : Sp) (m : Mem) (b : Bud), e = .returned (.tuple #[.pointer (some ⟨MA, 0, none⟩), .pointer (some ⟨BA, 0, none⟩), .pointer (some ⟨S, 0, none⟩), .pointer (some ⟨U, 0, none⟩)]) ∧
      Uni w' S MA A GB MB U BA s m b Yu s.root 1 buf0 ∧ UniK s m b 1 buf0 ∧ (∀ l d, s.E l d = En.zero) ∧ b = ((bud0 64 32).al 1).2 ∧ UniNew w.heap.size S MA A GB MB U BA ∧ Upd (fun _ => False) w w' := by
  go_enter Tryd.func29, Tryd.ntmps29
  go_wp2_with fail
  refine (new_yes 64 _ (by omega) (by omega)).mono ?_
  rintro e w1 ⟨rfl, m1, u1, s1⟩
  have M1 := Lib.hid m1
  have V1 := Lib.hid u1
  have S1 := Lib.hid s1
  clear m1 u1 s1
  go_wp2_with fail
  refine (bNew_yes _ _ 32 _ M1.out (by show 32 ≤ 64; omega)).mono ?_
  rintro e w2 ⟨rfl, b2, u2, s2⟩
  have T2 := Lib.hid (T.kept (V1.out.trans u2))
  have D2 := Lib.hid (show Duo w2 (w1.heap.size + 1) (w.heap.size + 1) w1.heap.size (memNew w.heap.size 64) (bud0 64 32) from ⟨b2, M1.out.kept u2 id id, rfl⟩)
  have V2 := Lib.hid (V1.out.trans u2)
  have S2 := Lib.hid s2
  have hz := Lib.hid (show w.heap.size ≤ w.heap.size + 1 ∧ w.heap.size ≤ w1.heap.size ∧ w.heap.size ≤ w1.heap.size + 1 ∧ w1.heap.size + 1 < w2.heap.size ∧ w.heap.size + 1 < w2.heap.size ∧ w1.heap.size < w2.heap.size from by have := S1.out; have := S2.out; omega)
  clear b2 u2 s2 M1 V1 S1 S2
  have HB := Lib.hid (show (memNew w.heap.size 64).B = w.heap.size from rfl)
  have hg := Lib.hid (Mem.new_good w.heap.size 64)
  have hmn : Hid ((memNew w.heap.size 64).n = 64) := Lib.hid rfl
  generalize hA : w1.heap.size + 1 = A at D2 hz ⊢
  generalize hMA : w.heap.size + 1 = MA at D2 hz ⊢
  generalize hGB : w1.heap.size = GB at D2 hz
  generalize memNew w.heap.size 64 = m0 at D2 HB hg hmn
  clear hA hMA hGB
  go_wp2_with fail
  refine (spc_new D2.out T2.out HB.out hg.out (Y := Yu) (fun x => by unfold Yu; simp [bud0]) (fun x h => h.elim)).mono ?_
  rintro e w3 (⟨h0, rfl, u3⟩ | ⟨h0, S, s, m, hS, rfl, P3, u3, n3, r3, z3, -⟩)
  · rw [bud64_left] at h0
    omega
  have A1 := al_ok bud64_ok 1 (by rw [bud64_left]; omega)
  have P := Lib.hid P3
  have hSl := Lib.hid (show w2.heap.size ≤ S ∧ S < w3.heap.size ∧ w2.heap.size ≤ w3.heap.size from ⟨hS, P3.lts.1, u3.size⟩)
  have V3 := Lib.hid (V2.out.since u3 (by rintro k (rfl | rfl) <;> (have := hz.out; omega)))
  have N3 := Lib.hid (n3.trans hmn.out)
  have Z3 := Lib.hid z3
  have R3 := Lib.hid (show ((bud0 64 32).al 1).2.res = 32 from A1.res)
  clear P3 u3 n3 z3 r3 hS h0 D2 T2 V2 A1
  generalize hb : ((bud0 64 32).al 1).2 = b at P R3
  have Hb := Lib.hid hb.symm
  clear hb
  go_wp2_with fail
  refine (tnew_any w3).mono ?_
  rintro e w4 ⟨BA, rfl, hBA, b4, u4⟩
  have B4 := Lib.hid b4
  have HBA := Lib.hid (show w3.heap.size ≤ BA ∧ BA < w4.heap.size from ⟨hBA, b4.lt⟩)
  have P4 := Lib.hid (P.out.still u4)
  have V4 := Lib.hid (V3.out.trans u4)
  have L4 := Lib.hid (show w3.heap.size ≤ w4.heap.size from u4.size)
  clear b4 u4 hBA P V3
  go_wp2_with fail
  refine (unew_any MA BA w4).mono ?_
  rintro e w5 ⟨rfl, x5, u5⟩
  have X5 := Lib.hid x5
  have P5 := Lib.hid (P4.out.still u5)
  have B5 := Lib.hid (B4.out.kept u5 id)
  have V5 := Lib.hid (V4.out.trans u5)
  have hNq := Lib.hid (show UNq w4.heap.size BA S MA A GB w.heap.size ∧ UniNew w.heap.size S MA A GB w.heap.size w4.heap.size BA from by
    have l1 := hz.out
    have l2 := hSl.out
    have l3 := HBA.out
    have l4 := L4.out
    have l5 := P4.out.lts
    have l6 : 0 < w.heap.size := World.block_lt_of_cell? w _ (T 0 (by omega)).1
    refine ⟨⟨by omega, ?_⟩, by omega, by omega, by omega, by omega, by omega, by omega, by omega⟩
    rintro i (rfl | rfl | rfl | rfl | rfl | rfl) <;> omega)
  generalize w4.heap.size = U at X5 hNq ⊢
  clear x5 u5 P4 B4 V4 HBA L4 hSl hz
  go_wp2_with fail
  refine (spc_root P5.out).mono ?_
  rintro e w6 ⟨rfl, rfl⟩
  have hub := Lib.hid (show useB m s.root 1 = true from by
    have h1 := P5.out.I.ok.rlo
    have h2 := P5.out.I.ok.rhi
    unfold useB Mem.ex
    simp; omega)
  go_wp2_with fail
  refine (uuse_any U MA BA 0 0 s.root 1 m w5 X5.out P5.out.D.M).mono ?_
  rintro e w7 ⟨rfl, x7, u7⟩
  rw [hub.out, if_pos rfl, if_pos rfl] at x7
  rw [if_pos hub.out]
  have g := hNq.out.1.u
  have P7 := Lib.hid (P5.out.kept u7 (Ne.symm (g S (.inl rfl)).1) (Ne.symm (g A (.inr (.inr (.inl rfl)))).1) (Ne.symm (g GB (.inr (.inr (.inr (.inl rfl))))).1) (Ne.symm (g MA (.inr (.inl rfl))).1) (Ne.symm (g _ (.inr (.inr (.inr (.inr (.inl rfl)))))).1) (Ne.symm (g _ (.inr (.inr (.inr (.inr (.inr rfl)))))).1))
  have B7 := Lib.hid (B5.out.kept u7 (Ne.symm hNq.out.1.ub))
  have X7 := Lib.hid x7
  have V7 := Lib.hid (V5.out.since u7 (by rintro k rfl; exact hNq.out.2.u))
  clear x7 u7 g P5 B5 X5 V5
  go_wp2
  (try simp only [Exit.inBlock, Exit.then])
  refine bodyPost_ret (results_tmp4 rfl _ _ _) rfl ?_
  exact ⟨S, MA, A, GB, w.heap.size, U, BA, s, m, b, rfl, ⟨P7.out, X7.out, B7.out, buf0_ok, hNq.out.1⟩, ⟨N3.out, R3.out, (fun q hv => by rw [Z3.out] at hv; cases hv), BInv.empty _ _⟩, Z3.out, Hb.out, hNq.out.2, V7.out⟩
end Go.Proofs.YtfdnfllefednjaaDoor

/-
  A unit that goes by a space of its own, in plain numbers: a round of the laws.
-/
namespace Go.Proofs.YtfdnfllefednjaaDoor
open Go.ChangeShapes Go.WideShapes Go.ChangeAt Go.RowKit Go.Shelf Go.Sort

theorem um_and31 (n : Int) : bits .and .i64 n 31 = n % 32 := by
  have h : (BitVec.ofInt 64 31).toNat = 2 ^ 5 - 1 := by decide
  have key : (BitVec.ofInt 64 n &&& BitVec.ofInt 64 31).toNat = (n % ((2 ^ 64 : Nat) : Int)).toNat % 2 ^ 5 := by
    rw [BitVec.toNat_and, BitVec.toNat_ofInt, h, Nat.and_two_pow_sub_one_eq_mod]
  show IntKind.i64.wrap ((BitVec.ofInt 64 n &&& BitVec.ofInt 64 31).toNat : Nat) = n % 32
  rw [key, IntKind.wrap_i64]
  omega
theorem UniK.map {s s' : Sp} {m m' : Mem} {b b' : Bud} {Y : Nat × Nat → Prop} {a : Int} {B : Buf} {q f : Int} {wb : Bool} {x : Int} (h : UniK s m b a B) (r : MapR s m b Y q f wb x s' m' b') (hf : f < 32) : UniK s' m' b' a (B.flush a) ∧ s'.root = s.root := by
  refine ⟨⟨r.n.trans h.n, r.res.trans h.res, ?_, BInv.flush _ _⟩, ?_⟩
  · rcases r.r with ⟨_, rfl, -, -⟩ | ⟨_, qn, _, _, _, _, _, _, _, hE⟩
    · exact h.lo
    · intro q' hv
      rw [hE] at hv ⊢
      split at hv
      · rename_i e
        rw [if_pos e]
        exact hf
      · rename_i e
        rw [if_neg e]
        exact h.lo q' hv
  · rcases r.r with ⟨_, rfl, -, -⟩ | ⟨_, qn, _, _, _, _, _, _, hr, _⟩
    · rfl
    · exact hr
theorem UniK.unmap {s s' : Sp} {m m' : Mem} {b b' : Bud} {Y : Nat × Nat → Prop} {a : Int} {B : Buf} {q f : Int} {x : Int} (h : UniK s m b a B) (r : UnR s m b Y q f x s' m' b') : UniK s' m' b' a (B.flush a) ∧ s'.root = s.root := by
  refine ⟨⟨r.n.trans h.n, r.res.trans h.res, ?_, BInv.flush _ _⟩, ?_⟩
  · rcases r.r with ⟨_, _, rfl, -, -⟩ | ⟨_, qn, _, _, _, _, _, hE⟩
    · exact h.lo
    · intro q' hv
      rw [hE] at hv ⊢
      split at hv
      · cases hv
      · rename_i e
        rw [if_neg e]
        exact h.lo q' hv
  · rcases r.r with ⟨_, _, rfl, -, -⟩ | ⟨_, qn, _, _, _, _, hr, _⟩
    · rfl
    · exact hr
theorem UniK.protect {s s' : Sp} {m m' : Mem} {b : Bud} {Y : Nat × Nat → Prop} {a : Int} {B : Buf} {q : Nat} {wb : Bool} {x : Int} (h : UniK s m b a B) (ho : B.Ok) (r : PrR s m Y q wb x s' m') : UniK s' m' b a (B.drop a q) ∧ s'.root = s.root := by
  refine ⟨⟨r.n.trans h.n, h.res, ?_, h.bi.drop ho q ?_⟩, ?_⟩
  · rcases r.r with ⟨_, rfl, -⟩ | ⟨_, qn, _, _, hv0, _, hE⟩
    · exact h.lo
    · intro q' hv
      rw [hE] at hv ⊢
      split at hv
      · rename_i e
        rw [if_pos e]
        exact h.lo qn hv
      · rename_i e
        rw [if_neg e]
        exact h.lo q' hv
  · rcases r.r with ⟨_, rfl, -⟩ | ⟨_, qn, e, _, _, _, hE⟩
    · exact fun _ _ => rfl
    · intro q' hne
      rw [hE, if_neg (by omega)]
  · rcases r.r with ⟨_, rfl, -⟩ | ⟨_, qn, _, _, _, hr, _⟩
    · rfl
    · exact hr
/-- a round: an address is found, stored to, and loaded -/
structure Rnd (s : Sp) (m : Mem) (b : Bud) (Y : Nat × Nat → Prop) (B : Buf) (R0 ad at' v : Int) (q : Nat) : Prop where
  no : (s.E 3 q).v = false → uX m B R0 1 ad false at' = 10 ∧ uX m (uB m B R0 1 ad at') R0 1 ad true at' = 10 ∧ uX (uM m (uB m B R0 1 ad at') R0 1 ad v at') (uB m (uB m B R0 1 ad at') R0 1 ad at') R0 1 ad false at' = 10
  yes : (s.E 3 q).v = true → uX m B R0 1 ad false at' = 0 ∧ uF m B R0 1 ad false at' = (s.E 3 q).f ∧ uO m B R0 1 ad false at' = ad % 16 ∧ uX m (uB m B R0 1 ad at') R0 1 ad true at' = (if (s.E 3 q).r = true then 0 else 9) ∧
    uX (uM m (uB m B R0 1 ad at') R0 1 ad v at') (uB m (uB m B R0 1 ad at') R0 1 ad at') R0 1 ad false at' = 0 ∧ ((s.E 3 q).r = true → uW (uM m (uB m B R0 1 ad at') R0 1 ad v at') (uB m (uB m B R0 1 ad at') R0 1 ad at') R0 1 ad at' = v)
  I : SpInv s (uM m (uB m B R0 1 ad at') R0 1 ad v at') b Y
  K : UniK s (uM m (uB m B R0 1 ad at') R0 1 ad v at') b 1 (uB (uM m (uB m B R0 1 ad at') R0 1 ad v at') (uB m (uB m B R0 1 ad at') R0 1 ad at') R0 1 ad at')
theorem UniK.round {s : Sp} {m : Mem} {b : Bud} {Y : Nat × Nat → Prop} {B : Buf} (h : UniK s m b 1 B) (I : SpInv s m b Y) {R0 : Int} (hR : s.root = R0) (ad at' v : Int) (h0 : 0 ≤ ad) (h1 : ad ≤ 65535) (t0 : 0 ≤ at') (t1 : at' < 8) (v0 : 0 ≤ v) (v1 : v < 18446744073709551616) : Rnd s m b Y B R0 ad at' v (ad / 16).toNat := by
  subst hR
  have V := Lib.hid (And.intro v0 v1)
  clear v0 v1
  have hq : (ad / 16).toNat < 4096 := by omega
  obtain ⟨T1, e1⟩ := I.told h.bi (by decide) ad at' h0 h1 t0 t1 v
  have b1 : BInv s 1 (uB m B s.root 1 ad at') := by rw [e1]; exact I.uPut h.bi _ hq _
  clear e1
  obtain ⟨B1, hB1⟩ : ∃ X, uB m B s.root 1 ad at' = X := ⟨_, rfl⟩
  rw [hB1] at b1
  obtain ⟨T2, e2⟩ := I.told b1 (by decide) ad at' h0 h1 t0 t1 v
  have b2 : BInv s 1 (uB m B1 s.root 1 ad at') := by rw [e2]; exact I.uPut b1 _ hq _
  clear e2
  obtain ⟨B2, hB2⟩ : ∃ X, uB m B1 s.root 1 ad at' = X := ⟨_, rfl⟩
  rw [hB2] at b2
  have hm2 : SpInv s (uM m B1 s.root 1 ad v at') b Y := by
    cases hv : (s.E 3 (ad / 16).toNat).v
    · rw [(T2.no hv).2.2]; exact I
    · rw [(T2.yes hv).2.2.2.2.1]
      split
      · have := h.lo _ hv
        have hf := I.ok.f 3 _ hv
        exact I.wr _ _ v ⟨hf.1, by rw [h.res]; exact this⟩ ⟨by omega, by omega⟩ V.out.1 V.out.2
      · exact I
  obtain ⟨T3, e3⟩ := hm2.told b2 (by decide) ad at' h0 h1 t0 t1 v
  have b3 : BInv s 1 (uB (uM m B1 s.root 1 ad v at') B2 s.root 1 ad at') := by rw [e3]; exact hm2.uPut b2 _ hq _
  have kn : (uM m B1 s.root 1 ad v at').n = 64 := by rw [uM_n]; exact h.n
  have hh := Lib.hid hm2
  have yy : (s.E 3 (ad / 16).toNat).v = true → (s.E 3 (ad / 16).toNat).r = true → uW (uM m B1 s.root 1 ad v at') B2 s.root 1 ad at' = v := by
    intro hv hr
    rw [(T3.yes hv).2.2.2.2.2, (T2.yes hv).2.2.2.2.1, hr, if_pos rfl]
    have hf := I.ok.f 3 _ hv
    exact rd_wr I.mo _ _ (decide_eq_true (by omega))
  subst hB2
  subst hB1
  exact {
    no := fun hv => ⟨(T1.no hv).1, (T2.no hv).2.1, (T3.no hv).1⟩
    yes := fun hv => ⟨(T1.yes hv).1, (T1.yes hv).2.1, (T1.yes hv).2.2.1, (T2.yes hv).2.2.2.1, (T3.yes hv).1, yy hv⟩
    I := hh.out
    K := ⟨kn, h.res, h.lo, b3⟩ }
end Go.Proofs.YtfdnfllefednjaaDoor

/-
  The document's own spaces (trunnionref08): where one lies; first, at, table.
-/
namespace Go.Proofs.YtfdnfllefednjaaDoor
open Go.ChangeShapes Go.WideShapes Go.ChangeAt Go.RowKit Go.Shelf Go.Sort

/-- a page and a table of the document's own space -/
structure RPg where
  n : Int
  f : Int
  w : Bool
structure RTb where
  l : Int
  s : Int
  f : Int
def RPg.c (x : RPg) : List Value := [.int .i64 x.n, .int .i64 x.f, .bool x.w]
def RTb.c (x : RTb) : List Value := [.int .i64 x.l, .int .i64 x.s, .int .i64 x.f]
def pgC (L : List RPg) : List Value := L.flatMap RPg.c
def tbC (L : List RTb) : List Value := L.flatMap RTb.c
/-- a row of three cells each -/
theorem flat3_len {α : Type} (c : α → List Value) (hc : ∀ x, (c x).length = 3) : ∀ L : List α, (L.flatMap c).length = L.length * 3
  | [] => rfl
  | x :: L => by rw [List.flatMap_cons, List.length_append, flat3_len c hc L, hc, List.length_cons]; omega
theorem flat3_at {α : Type} (c : α → List Value) (hc : ∀ x, (c x).length = 3) : ∀ (L : List α) (i : Nat) (x : α) (j : Nat), L[i]? = some x → j < 3 → (L.flatMap c)[i * 3 + j]? = (c x)[j]?
  | [], i, x, j, h, _ => by simp at h
  | y :: L, 0, x, j, h, hj => by
    have e : y = x := by simpa using h
    subst e
    rw [List.flatMap_cons, Nat.zero_mul, Nat.zero_add, List.getElem?_append_left (by rw [hc]; exact hj)]
  | y :: L, i + 1, x, j, h, hj => by
    rw [List.flatMap_cons, List.getElem?_append_right (by rw [hc]; omega), hc, show (i + 1) * 3 + j - 3 = i * 3 + j from by omega]
    exact flat3_at c hc L i x j (by simpa using h) hj
/-- the first page of a page's table of a level -/
def fstI (q l : Nat) : Nat := if l = 0 then 0 else if l = 1 then q / 256 * 256 else q / 16 * 16
end Go.Proofs.YtfdnfllefednjaaDoor

/-
  The document's own spaces (trunnionref08): at, table.
-/
namespace Go.Proofs.YtfdnfllefednjaaDoor
open Go.ChangeShapes Go.WideShapes Go.ChangeAt Go.RowKit Go.Shelf Go.Sort

theorem RPg.c_len (x : RPg) : x.c.length = 3 := rfl
theorem RTb.c_len (x : RTb) : x.c.length = 3 := rfl
theorem rsp_slice {w : World} {base sz : Nat} {e : TypeId} {v : Value} {k : Nat} {xs : List Value} (h : w.ownsRow base e sz v k xs) : ∃ o cap, v = .slice o k cap := by
  rcases h.2 with ⟨rfl, rfl⟩ | ⟨g, cap, cur, rfl, _⟩
  · exact ⟨none, 0, rfl⟩
  · exact ⟨_, _, rfl⟩
theorem rsp_at {w : World} {base sz k cap : Nat} {e : TypeId} {o : Option Addr} {xs : List Value} (h : w.ownsRow base e sz (.slice o k cap) k xs) (hk : 0 < k) : ∃ g, o = some ⟨g, 0, none⟩ ∧ ∀ (j : Nat) (u : Value), xs[j]? = some u → w.cell? ⟨g, j, none⟩ = some u := by
  rcases h.2 with ⟨e1, e2⟩ | ⟨g, cap', cur, e1, rest⟩
  · omega
  · simp only [Value.slice.injEq] at e1
    obtain ⟨rfl, _, rfl⟩ := e1
    refine ⟨g, rfl, fun j u hu => ?_⟩
    have := h.cells (g := g) rfl j u hu
    rwa [add_mid0, Nat.zero_add] at this
/-- a place found, or none -/
def ixN (k n : Nat) : Int := if k < n then k else -1
def pgHit (L : List RPg) (q : Int) (i : Nat) : Bool := match L[i]? with
  | some x => decide (x.n = q)
  | none => false
def pgIx (L : List RPg) (q : Int) : Nat := Buf.first (pgHit L q) L.length
def tbHit (T : List RTb) (l s : Int) (i : Nat) : Bool := match T[i]? with
  | some x => decide (x.l = l) && decide (x.s = s)
  | none => false
def tbIx (T : List RTb) (l s : Int) : Nat := Buf.first (tbHit T l s) T.length
end Go.Proofs.YtfdnfllefednjaaDoor

/-
  The document's own spaces, in plain numbers: all tables laid anew.
-/
namespace Go.Proofs.YtfdnfllefednjaaDoor

/-- the nodes that have a table, in whatever order -/
structure Nodes (s : Sp) (N : List (Nat × Nat)) : Prop where
  nd : N.Nodup
  mem : ∀ x, x ∈ N ↔ x.1 ≤ 2 ∧ s.on x.1 x.2 = true
def scr (s : Sp) (m : Mem) (x : Nat × Nat) : Mem := m.scrub (s.fr x.1 x.2) 1
def ePut (s : Sp) (m : Mem) (y : Nat × Nat) : Mem := m.put (s.fr (y.1 - 1) (y.2 / 16)) ((y.2 % 16 : Nat) : Int) (s.E y.1 y.2)
def ePut1 (s : Sp) (m : Mem) (y : Nat × Nat) : Mem := if y.1 = 0 then m else ePut s m y
def layM (s : Sp) (N : List (Nat × Nat)) (m : Mem) : Mem := (s.pgs.map fun q => ((3, q) : Nat × Nat)).foldl (ePut s) (N.foldl (ePut1 s) (N.foldl (scr s) m))
/-- what a step of laying keeps -/
structure LKeep (m m' : Mem) : Prop where
  n : m'.n = m.n
  B : m'.B = m.B
  ok : m'.ok
  good : m'.good
theorem LKeep.trans {a b c : Mem} (h : LKeep a b) (k : LKeep b c) : LKeep a c := ⟨k.n.trans h.n, k.B.trans h.B, k.ok, k.good⟩
theorem scr_keep (s : Sp) {m : Mem} (x : Nat × Nat) (hk : m.ok) (hg : m.good) : LKeep m (scr s m x) :=
  ⟨Mem.scrub_n _ _ _, Mem.scrub_B _ _ _, Mem.ok_scrub _ hk _ _, Mem.scrub_good _ hk hg _⟩
theorem ePut_keep (s : Sp) {m : Mem} (x : Nat × Nat) (hk : m.ok) (hg : m.good) : LKeep m (ePut s m x) :=
  ⟨Mem.put_n _ _ _ _, Mem.put_B _ _ _ _, Mem.put_ok _ hk _ _ _, Mem.put_good _ hk hg _ _ _⟩
theorem ePut1_keep (s : Sp) {m : Mem} (x : Nat × Nat) (hk : m.ok) (hg : m.good) : LKeep m (ePut1 s m x) := by
  unfold ePut1
  split
  · exact ⟨rfl, rfl, hk, hg⟩
  · exact ePut_keep s x hk hg
theorem fold_keep (f : Mem → Nat × Nat → Mem) (hf : ∀ {m : Mem} (x : Nat × Nat), m.ok → m.good → LKeep m (f m x)) : ∀ (N : List (Nat × Nat)) {m : Mem}, m.ok → m.good → LKeep m (N.foldl f m)
  | [], _, hk, hg => ⟨rfl, rfl, hk, hg⟩
  | x :: N, m, hk, hg => by
    have h := hf (m := m) x hk hg
    exact h.trans (fold_keep f hf N h.ok h.good)
theorem layM_keep (s : Sp) (N : List (Nat × Nat)) {m : Mem} (hk : m.ok) (hg : m.good) : LKeep m (layM s N m) := by
  have h1 := fold_keep (scr s) (fun x => scr_keep s x) N hk hg
  have h2 := fold_keep (ePut1 s) (fun x => ePut1_keep s x) N h1.ok h1.good
  exact h1.trans (h2.trans (fold_keep (ePut s) (fun x => ePut_keep s x) _ h2.ok h2.good))
theorem scr_word {s : Sp} {n : Nat} (hs : s.Ok n) : ∀ (N : List (Nat × Nat)), (∀ x, x ∈ N → s.on x.1 x.2 = true) → ∀ {m : Mem}, m.n = n → m.ok → m.good → ∀ g p : Nat, g < n → p < 16 →
    ((∃ x, x ∈ N ∧ s.fr x.1 x.2 = (g : Nat)) → (N.foldl (scr s) m).word (g : Nat) (p : Nat) = 0) ∧ ((∀ x, x ∈ N → s.fr x.1 x.2 ≠ (g : Nat)) → (N.foldl (scr s) m).word (g : Nat) (p : Nat) = m.word (g : Nat) (p : Nat)) := by
  intro N
  induction N using snoc_induction with
  | h0 => exact fun _ _ _ _ _ g p _ _ => ⟨fun ⟨x, hx, _⟩ => absurd hx (by simp), fun _ => rfl⟩
  | h1 N y ih =>
    intro hN m hn hk hg g p hg' hp
    have k := fold_keep (scr s) (fun x => scr_keep s x) N hk hg
    have hy := hs.frb (hN y (by simp))
    obtain ⟨i1, i2⟩ := ih (fun x hx => hN x (by simp [hx])) hn hk hg g p hg' hp
    have hw : ((N ++ [y]).foldl (scr s) m).word (g : Nat) (p : Nat) = if (g : Int) = s.fr y.1 y.2 then 0 else (N.foldl (scr s) m).word (g : Nat) (p : Nat) := by
      rw [List.foldl_append]
      show (scr s (N.foldl (scr s) m) y).word _ _ = _
      unfold scr
      exact Mem.word_scrub _ k.ok _ _ _ (decide_eq_true (by have := k.n; omega)) (by rw [Mem.slot_iff]; have := k.n; omega)
    rw [hw]
    by_cases e : (g : Int) = s.fr y.1 y.2
    · rw [if_pos e]
      exact ⟨fun _ => rfl, fun h => absurd e.symm (h y (by simp))⟩
    · rw [if_neg e]
      refine ⟨fun ⟨x, hx, hx2⟩ => ?_, fun h => i2 fun x hx => h x (by simp [hx])⟩
      rcases List.mem_append.1 hx with hx | hx
      · exact i1 ⟨x, hx, hx2⟩
      · obtain rfl : x = y := by simpa using hx
        exact absurd hx2.symm e
/-- a node whose entry lies in a table -/
def Sp.kid (s : Sp) (y : Nat × Nat) : Prop := 1 ≤ y.1 ∧ y.1 ≤ 3 ∧ s.on (y.1 - 1) (y.2 / 16) = true
theorem put_word {s : Sp} {n : Nat} (hs : s.Ok n) (hn' : n ≤ 256) : ∀ (P : List (Nat × Nat)), (∀ y, y ∈ P → s.kid y) → ∀ {m : Mem}, m.n = n → m.ok → m.good → ∀ g p : Nat, g < n → p < 16 →
    (∀ y0, y0 ∈ P → s.fr (y0.1 - 1) (y0.2 / 16) = (g : Nat) → y0.2 % 16 = p → (∀ y, y ∈ P → s.fr (y.1 - 1) (y.2 / 16) = (g : Nat) → y.2 % 16 = p → y = y0) → (P.foldl (ePut s) m).word (g : Nat) (p : Nat) = (s.E y0.1 y0.2).word) ∧
    ((∀ y, y ∈ P → ¬ (s.fr (y.1 - 1) (y.2 / 16) = (g : Nat) ∧ y.2 % 16 = p)) → (P.foldl (ePut s) m).word (g : Nat) (p : Nat) = m.word (g : Nat) (p : Nat)) := by
  intro P
  induction P using snoc_induction with
  | h0 => exact fun _ _ _ _ _ g p _ _ => ⟨fun y0 h => absurd h (by simp), fun _ => rfl⟩
  | h1 P y ih =>
    intro hP m hn hk hg g p hg' hp
    have k := fold_keep (ePut s) (fun x => ePut_keep s x) P hk hg
    obtain ⟨y1, y2, y3⟩ := hP y (by simp)
    have hy := hs.frb y3
    obtain ⟨i1, i2⟩ := ih (fun x hx => hP x (by simp [hx])) hn hk hg g p hg' hp
    have hw : ((P ++ [y]).foldl (ePut s) m).word (g : Nat) (p : Nat) = if (g : Int) = s.fr (y.1 - 1) (y.2 / 16) ∧ (p : Int) = ((y.2 % 16 : Nat) : Int) then (s.E y.1 y.2).word else (P.foldl (ePut s) m).word (g : Nat) (p : Nat) := by
      rw [List.foldl_append]
      show (ePut s (P.foldl (ePut s) m) y).word _ _ = _
      unfold ePut
      exact Mem.word_put _ k.ok _ _ _ _ _ (by rw [Mem.slot_iff]; have := k.n; omega) (by rw [Mem.slot_iff]; have := k.n; omega) (hs.eok hn' _ _)
    rw [hw]
    by_cases e : (g : Int) = s.fr (y.1 - 1) (y.2 / 16) ∧ (p : Int) = ((y.2 % 16 : Nat) : Int)
    · rw [if_pos e]
      refine ⟨fun y0 h0 f0 p0 hu => ?_, fun h => absurd ⟨e.1.symm, by omega⟩ (h y (by simp))⟩
      rw [hu y (by simp) e.1.symm (by omega)]
    · rw [if_neg e]
      refine ⟨fun y0 h0 f0 p0 hu => ?_, fun h => i2 fun x hx => h x (by simp [hx])⟩
      rcases List.mem_append.1 h0 with h0 | h0
      · exact i1 y0 h0 f0 p0 fun x hx => hu x (by simp [hx])
      · obtain rfl : y0 = y := by simpa using h0
        exact absurd ⟨f0.symm, by omega⟩ e
theorem fold1_eq (s : Sp) : ∀ (N : List (Nat × Nat)) (m : Mem), N.foldl (ePut1 s) m = (N.filter fun y => decide (1 ≤ y.1)).foldl (ePut s) m
  | [], _ => rfl
  | y :: N, m => by
    rw [List.foldl_cons, List.filter_cons, fold1_eq s N]
    by_cases h : y.1 = 0
    · rw [if_neg (by simp [h])]
      unfold ePut1
      rw [if_pos h]
    · rw [if_pos (by simp; omega), List.foldl_cons]
      unfold ePut1
      rw [if_neg h]
theorem Nodes.kids {s : Sp} {n : Nat} {N : List (Nat × Nat)} (hs : s.Ok n) (h : Nodes s N) : ∀ y, y ∈ N.filter (fun y => decide (1 ≤ y.1)) → s.kid y := by
  intro y hy
  obtain ⟨h1, h2⟩ := List.mem_filter.1 hy
  have h2 : 1 ≤ y.1 := of_decide_eq_true h2
  obtain ⟨h3, h4⟩ := (h.mem y).1 h1
  obtain ⟨l, d⟩ := y
  simp only at h2 h3 h4
  cases l with
  | zero => omega
  | succ l =>
    rw [s.onS] at h4
    have := (hs.lv _ _ h4).2.2.2
    exact ⟨h2, by show l + 1 ≤ 3; omega, this⟩
theorem page_kid {s : Sp} {n : Nat} (hs : s.Ok n) {q : Nat} (hv : (s.E 3 q).v = true) : s.kid (3, q) := ⟨by show 1 ≤ 3; omega, by show 3 ≤ 3; omega, (hs.lv _ _ hv).2.2.2⟩
/-- laid anew: what stands in the tables, and elsewhere -/
theorem lay_words {s : Sp} {n : Nat} (hs : s.Ok n) (hn' : n ≤ 256) {N : List (Nat × Nat)} (hN : Nodes s N) (hpg : ∀ q, q ∈ s.pgs ↔ (s.E 3 q).v = true) {m : Mem} (hn : m.n = n) (hk : m.ok) (hg : m.good) :
    s.In (layM s N m) ∧ ∀ g p : Nat, g < n → p < 16 → (∀ l d, l ≤ 2 → s.on l d = true → s.fr l d ≠ (g : Nat)) → (layM s N m).word (g : Nat) (p : Nat) = m.word (g : Nat) (p : Nat) := by
  have k1 := fold_keep (scr s) (fun x => scr_keep s x) N hk hg
  have k2 := fold_keep (ePut1 s) (fun x => ePut1_keep s x) N k1.ok k1.good
  have hP1 := hN.kids hs
  have hP2 : ∀ y, y ∈ (s.pgs.map fun q => ((3, q) : Nat × Nat)) → s.kid y := by
    intro y hy
    obtain ⟨q, hq, rfl⟩ := List.mem_map.1 hy
    exact page_kid hs ((hpg q).1 hq)
  have on_of : ∀ x, x ∈ N → s.on x.1 x.2 = true := fun x hx => ((hN.mem x).1 hx).2
  refine ⟨fun l d p hl ho hp => ?_, fun g p hg' hp hno => ?_⟩
  · have hfb := hs.frb ho
    obtain ⟨g, hgE⟩ := Int.eq_ofNat_of_zero_le hfb.1
    have hgn : g < n := by omega
    rw [hgE]
    obtain ⟨a1, a2⟩ := put_word hs hn' _ hP2 (m := N.foldl (ePut1 s) (N.foldl (scr s) m)) (by rw [k2.n, k1.n, hn]) k2.ok k2.good g p hgn hp
    have b := put_word hs hn' _ hP1 (m := N.foldl (scr s) m) (by rw [k1.n, hn]) k1.ok k1.good g p hgn hp
    rw [← fold1_eq] at b
    obtain ⟨b1, b2⟩ := b
    obtain ⟨c1, _⟩ := scr_word hs N on_of hn hk hg g p hgn hp
    have uniq : ∀ y : Nat × Nat, s.kid y → s.fr (y.1 - 1) (y.2 / 16) = (g : Nat) → y.2 % 16 = p → y = (l + 1, 16 * d + p) := by
      rintro ⟨l', d'⟩ ⟨h1, h2, h3⟩ hf hp'
      simp only at h1 h2 h3 hf hp'
      obtain ⟨e1, e2⟩ := hs.inj _ _ _ _ (by omega) hl h3 ho (hf.trans hgE.symm)
      rw [Prod.mk.injEq]
      omega
    have pl : (l + 1 : Nat) - 1 = l := rfl
    have pd : (16 * d + p) / 16 = d := by omega
    have pm : (16 * d + p) % 16 = p := by omega
    cases hv : (s.E (l + 1) (16 * d + p)).v
    · rw [hs.none _ _ hv, En.zero_word]
      unfold layM
      rw [a2, b2]
      · exact c1 ⟨(l, d), (hN.mem _).2 ⟨hl, ho⟩, hgE⟩
      · rintro y hy ⟨hf, hp'⟩
        have := uniq y (hP1 y hy) hf hp'
        have h2 := on_of y (List.mem_filter.1 hy).1
        rw [this] at h2
        simp only at h2
        rw [s.onS, hv] at h2
        cases h2
      · rintro y hy ⟨hf, hp'⟩
        have := uniq y (hP2 y hy) hf hp'
        obtain ⟨q, hq, rfl⟩ := List.mem_map.1 hy
        obtain ⟨e1, e2⟩ := Prod.mk.inj this
        have h2 := (hpg q).1 hq
        rw [e1, e2, hv] at h2
        cases h2
    · by_cases h3 : l = 2
      · subst h3
        unfold layM
        rw [a1 (3, 16 * d + p) (List.mem_map.2 ⟨_, (hpg _).2 hv, rfl⟩) (by show s.fr 2 ((16 * d + p) / 16) = _; rw [pd]; exact hgE) pm (fun y hy hf hp' => uniq y (hP2 y hy) hf hp')]
      · have hc : ((l + 1, 16 * d + p) : Nat × Nat) ∈ N := (hN.mem _).2 ⟨by show l + 1 ≤ 2; omega, by show s.on (l + 1) _ = true; rw [s.onS]; exact hv⟩
        unfold layM
        rw [a2, b1 (l + 1, 16 * d + p) (List.mem_filter.2 ⟨hc, by simp⟩) (by show s.fr (l + 1 - 1) ((16 * d + p) / 16) = _; rw [pl, pd]; exact hgE) pm (fun y hy hf hp' => uniq y (hP1 y hy) hf hp')]
        rintro y hy ⟨hf, hp'⟩
        have := uniq y (hP2 y hy) hf hp'
        obtain ⟨q, hq, rfl⟩ := List.mem_map.1 hy
        have := (Prod.mk.inj this).1
        omega
  · obtain ⟨_, a2⟩ := put_word hs hn' _ hP2 (m := N.foldl (ePut1 s) (N.foldl (scr s) m)) (by rw [k2.n, k1.n, hn]) k2.ok k2.good g p hg' hp
    have b := put_word hs hn' _ hP1 (m := N.foldl (scr s) m) (by rw [k1.n, hn]) k1.ok k1.good g p hg' hp
    rw [← fold1_eq] at b
    obtain ⟨_, b2⟩ := b
    obtain ⟨_, c2⟩ := scr_word hs N on_of hn hk hg g p hg' hp
    have far : ∀ y : Nat × Nat, s.kid y → s.fr (y.1 - 1) (y.2 / 16) ≠ (g : Nat) := fun y hy => hno _ _ (by have := hy.2.1; omega) hy.2.2
    unfold layM
    rw [a2 (fun y hy c => far y (hP2 y hy) c.1), b2 (fun y hy c => far y (hP1 y hy) c.1), c2 (fun x hx => hno _ _ ((hN.mem x).1 hx).1 (on_of x hx))]
end Go.Proofs.YtfdnfllefednjaaDoor

/-
  Contracts of the document's own answers for walk: Get, Put, Blank.
-/
namespace Go.Proofs.YtfdnfllefednjaaDoor
open Go.ChangeShapes Go.WideShapes Go.ChangeAt Go.RowKit
theorem Tab.apartR {w : World} {A : Nat} {m : Mem} (T : Tab w) (h : RefAt w A m) : ¬ 0 = m.B := by
  intro e
  have h1 := (T 0 (by omega)).1
  have h2 := h.cellB 0 (by have := h.lo; omega)
  rw [← e] at h2
  rw [Nat.zero_mul, h2] at h1
  simp at h1

theorem Mem.word_nat (m : Mem) (F P : Nat) : m.word (F : Int) (P : Int) = m.at (16 * F + P) := by
  unfold Mem.word
  rw [show ((F : Int) * 16 + (P : Int)).toNat = 16 * F + P from by omega]
theorem RefAt.allocd {w : World} {A : Nat} {m : Mem} (h : RefAt w A m) (o : Obj) : RefAt (w.alloc o) A m := h.kept ((Upd.refl (fun _ => False) w).alloc o) id id
set_option maxHeartbeats 1000000 in
theorem kget_no (C : Nat) (m : Mem) (f p : Int) (w : World) (h : RefAt w C m) (hs : m.slot f p = false) :
    Calls Tryd.prog 83 #[.pointer (some ⟨C, 0, none⟩), .int .i64 f, .int .i64 p] w fun e w' => e = .returned (.tuple #[En.zero.val, .int .i64 1]) ∧ Upd (fun _ => False) w w' := by
  have c1 := Lib.hid (fun W (h : RefAt W C m) => rHas_any C m f W h)
  have k0 : Hid (EntAt (w.alloc (.cells #[.bool false, .bool false, .bool false, .int .i64 0] 34)) w.heap.size false false false 0) := Lib.hid (heap_alloc_last w _)
  have hb := Lib.hid hs
  unfold Mem.slot at hb
  clear hs
  cases he : m.ex f 1
  · rw [he] at c1
    clear hb
    go_enter Tryd.func83, Tryd.ntmps83
    go_wp2_with fail
    refine (c1.out _ (h.allocd _)).mono ?_
    rintro e w1 ⟨rfl, rfl⟩
    go_wp2_with (with_reducible refine wpList_store_sz rfl 34 (.tmp 6) (.tmp 22) rfl w.heap.size 0 #[.bool false, .bool false, .bool false, .int .i64 0] rfl rfl 4 (ent_sz _ _ _ _) k0.out.there size_ent (ent_one _ _ _ _) [.bool false, .bool false, .bool false, .int .i64 0] (ent_ls _ _ _ _) ?_)
    (try simp only [Exit.inBlock, Exit.then])
    refine bodyPost_ret (ret_ent rfl _ _ w.heap.size false false false 0 rfl (k0.out.set false false false 0)) rfl ⟨rfl, ?_⟩
    exact Upd.setCells (.inr (Nat.le_refl _)) _ _ ((Upd.refl _ _).alloc _)
  · have hb' : plB p = false := by have := hb.out; rw [he] at this; simpa using this
    have hb2 := of_decide_eq_false hb'
    rw [he] at c1
    clear hb hb'
    by_cases p0 : p < 0
    · clear hb2
      go_enter Tryd.func83, Tryd.ntmps83
      go_wp2_with fail
      refine (c1.out _ (h.allocd _)).mono ?_
      rintro e w1 ⟨rfl, rfl⟩
      go_wp2_with (with_reducible refine wpList_store_sz rfl 34 (.tmp 6) (.tmp 22) rfl w.heap.size 0 #[.bool false, .bool false, .bool false, .int .i64 0] rfl rfl 4 (ent_sz _ _ _ _) k0.out.there size_ent (ent_one _ _ _ _) [.bool false, .bool false, .bool false, .int .i64 0] (ent_ls _ _ _ _) ?_)
      (try simp only [Exit.inBlock, Exit.then])
      refine bodyPost_ret (ret_ent rfl _ _ w.heap.size false false false 0 rfl (k0.out.set false false false 0)) rfl ⟨rfl, ?_⟩
      exact Upd.setCells (.inr (Nat.le_refl _)) _ _ ((Upd.refl _ _).alloc _)
    · have p1 : 15 < p := by omega
      clear hb2
      go_enter Tryd.func83, Tryd.ntmps83
      go_wp2_with fail
      refine (c1.out _ (h.allocd _)).mono ?_
      rintro e w1 ⟨rfl, rfl⟩
      go_wp2_with (with_reducible refine wpList_store_sz rfl 34 (.tmp 6) (.tmp 22) rfl w.heap.size 0 #[.bool false, .bool false, .bool false, .int .i64 0] rfl rfl 4 (ent_sz _ _ _ _) k0.out.there size_ent (ent_one _ _ _ _) [.bool false, .bool false, .bool false, .int .i64 0] (ent_ls _ _ _ _) ?_)
      (try simp only [Exit.inBlock, Exit.then])
      refine bodyPost_ret (ret_ent rfl _ _ w.heap.size false false false 0 rfl (k0.out.set false false false 0)) rfl ⟨rfl, ?_⟩
      exact Upd.setCells (.inr (Nat.le_refl _)) _ _ ((Upd.refl _ _).alloc _)
set_option maxHeartbeats 1000000 in
theorem kget_any (C : Nat) (m : Mem) (f p : Int) (w : World) (h : RefAt w C m) (hg : m.good) :
    Calls Tryd.prog 83 #[.pointer (some ⟨C, 0, none⟩), .int .i64 f, .int .i64 p] w fun e w' => e = .returned (.tuple #[(m.getE f p).val, .int .i64 (m.getX f p)]) ∧ Upd (fun _ => False) w w' := by
  cases hs : m.slot f p
  · have hE : m.getE f p = En.zero := by unfold Mem.getE; rw [hs]; rfl
    have hX : m.getX f p = 1 := by unfold Mem.getX; rw [hs]; rfl
    rw [hE, hX]
    exact kget_no C m f p w h hs
  · have c1 := Lib.hid (fun W (h : RefAt W C m) => rHas_any C m f W h)
    have k0 : Hid (EntAt (w.alloc (.cells #[.bool false, .bool false, .bool false, .int .i64 0] 34)) w.heap.size false false false 0) := Lib.hid (heap_alloc_last w _)
    have hi := (m.slot_iff f p).1 hs
    have hx : m.ex f 1 = true ∧ plB p = true := by simpa [Mem.slot] using hs
    have hn := h.hi
    rw [hx.1] at c1
    have hE : Hid (m.getE f p = enOf (m.word f p)) := Lib.hid (by unfold Mem.getE; rw [hs]; rfl)
    have hX : Hid (m.getX f p = if ofB (m.word f p) = true then 0 else 11) := Lib.hid (by unfold Mem.getX; rw [hs]; rfl)
    obtain ⟨⟨i1, i2⟩, i3, i4⟩ := hi
    obtain ⟨F, rfl⟩ := Int.eq_ofNat_of_zero_le i1
    obtain ⟨P, rfl⟩ := Int.eq_ofNat_of_zero_le i3
    have hF : F < m.n := by omega
    have hP : P ≤ 15 := by omega
    rw [m.word_nat] at hE hX
    have c5 : Hid (∀ W, Calls Tryd.prog 96 #[.int .u64 (m.at (16 * F + P))] W fun e w' => e = .returned (.tuple #[(enOf (m.at (16 * F + P))).val, .int .i64 (errB (ofB (m.at (16 * F + P))))]) ∧ Upd (fun _ => False) W w') := Lib.hid (fun W => rof_any (m.at (16 * F + P)) W (hg _).1 (hg _).2)
    have hc := (h.allocd (.cells #[.bool false, .bool false, .bool false, .int .i64 0] 34)).cellA
    have hcell := (h.allocd (.cells #[.bool false, .bool false, .bool false, .int .i64 0] 34)).cellB (16 * F + P) (by omega)
    have ht : (16 * (F : Int) + (P : Int)).toNat = 16 * F + P := by omega
    clear hx hn hs hg i1 i2 i3 i4
    generalize m.at (16 * F + P) = x at c5 hE hX hcell
    obtain ⟨E, hEq⟩ : ∃ E, E = enOf x := ⟨_, rfl⟩
    have hno := Lib.hid (fun hB : ofB x = false => hEq.trans (enOf_no hB))
    rw [← hEq] at c5 hE
    clear hEq
    obtain ⟨v, r, t, g⟩ := E
    have hmn := h.hi
    cases hB : ofB x
    · obtain ⟨rfl, rfl, rfl, rfl⟩ := En.mk.inj (hno.out hB)
      rw [hB] at c5 hX
      clear hB hno
      go_enter Tryd.func83, Tryd.ntmps83
      go_wp2_with fail
      refine (c1.out _ (h.allocd _)).mono ?_
      rintro e w1 ⟨rfl, rfl⟩
      go_wp2_with fail
      refine (c5.out _).mono ?_
      rintro e w1 ⟨rfl, u⟩
      rw [show errB false = 1 from rfl]
      have k1 : Hid (EntAt w1 w.heap.size false false false 0) := Lib.hid (k0.out.kept u id)
      have U := Lib.hid (((Upd.refl (fun _ => False) w).alloc _).trans u)
      clear u k0 c1 c5 h hc hcell
      obtain ⟨B, hB⟩ : ∃ B, B = w.heap.size := ⟨_, rfl⟩
      rw [← hB] at k1 ⊢
      have hB' := Lib.hid hB
      clear hB
      obtain ⟨a1, a2, a3, a4⟩ := ent_box w1 false false false 0
      have A1 := Lib.hid a1
      have A2 := Lib.hid a2
      have A3 := Lib.hid a3
      have A4 := Lib.hid (k1.out.kept a2 id)
      clear a1 a2 a3 a4 k1
      go_upto_region 4 with ((with_reducible refine wpList_store_sz rfl 34 (.tmp 8) (.tmp 35) rfl w1.heap.size 0 #[.bool false, .bool false, .bool false, .int .i64 0] rfl rfl 4 (ent_sz _ _ _ _) A3.out size_ent (ent_one _ _ _ _) [.bool false, .bool false, .bool false, .int .i64 0] (ent_ls _ _ _ _) ?_))
      generalize (w1.alloc (.cells #[.bool false, .bool false, .bool false, .int .i64 0] 34)).setCells w1.heap.size 0 [.bool false, .bool false, .bool false, .int .i64 0] = w2 at A1 A2 A4 ⊢
      clear A3
      go_wp2_with (with_reducible refine wpList_store_sz rfl 34 (.tmp 6) (.tmp 39) rfl B 0 #[.bool false, .bool false, .bool false, .int .i64 0] rfl rfl 4 (ent_sz _ _ _ _) A4.out.there size_ent (ent_one _ _ _ _) [.bool false, .bool false, .bool false, .int .i64 0] (ent_ls _ _ _ _) ?_)
      (try simp only [Exit.inBlock, Exit.then])
      refine bodyPost_ret (ret_ent rfl _ _ B false false false 0 rfl (A4.out.set false false false 0)) rfl ⟨?_, ?_⟩
      · rw [hE.out, hX.out]; rfl
      · exact Upd.setCells (.inr (Nat.le_of_eq hB'.out.symm)) _ _ (U.out.trans A2.out)
    · rw [hB] at c5 hX
      clear hB hno
      go_enter Tryd.func83, Tryd.ntmps83
      go_wp2_with fail
      refine (c1.out _ (h.allocd _)).mono ?_
      rintro e w1 ⟨rfl, rfl⟩
      go_wp2_with fail
      refine (c5.out _).mono ?_
      rintro e w1 ⟨rfl, u⟩
      rw [show errB true = 0 from rfl]
      have k1 : Hid (EntAt w1 w.heap.size false false false 0) := Lib.hid (k0.out.kept u id)
      have U := Lib.hid (((Upd.refl (fun _ => False) w).alloc _).trans u)
      clear u k0 c1 c5 h hc hcell
      obtain ⟨B, hB⟩ : ∃ B, B = w.heap.size := ⟨_, rfl⟩
      rw [← hB] at k1 ⊢
      have hB' := Lib.hid hB
      clear hB
      obtain ⟨a1, a2, a3, a4⟩ := ent_box w1 v r t g
      have A1 := Lib.hid a1
      have A2 := Lib.hid a2
      have A3 := Lib.hid a3
      have A4 := Lib.hid (k1.out.kept a2 id)
      clear a1 a2 a3 a4 k1
      go_upto_region 4 with ((with_reducible refine wpList_store_sz rfl 34 (.tmp 8) (.tmp 35) rfl w1.heap.size 0 #[.bool v, .bool r, .bool t, .int .i64 g] rfl rfl 4 (ent_sz _ _ _ _) A3.out size_ent (ent_one _ _ _ _) [.bool v, .bool r, .bool t, .int .i64 g] (ent_ls _ _ _ _) ?_))
      generalize (w1.alloc (.cells #[.bool false, .bool false, .bool false, .int .i64 0] 34)).setCells w1.heap.size 0 [.bool v, .bool r, .bool t, .int .i64 g] = w2 at A1 A2 A4 ⊢
      generalize w1.heap.size = D at A1 ⊢
      clear A3
      go_wp2_with (first
        | (with_reducible refine wpList_load_sz rfl 34 (.tmp 8) rfl D 0 rfl [.bool v, .bool r, .bool t, .int .i64 g] _ A1.out.range Tryd.underlying34 rfl 4 (ent_len _ _ _ _) size_ent ?_)
        | (with_reducible refine wpList_store_sz rfl 34 (.tmp 6) (.tmp 40) rfl B 0 #[.bool v, .bool r, .bool t, .int .i64 g] rfl rfl 4 (ent_sz _ _ _ _) A4.out.there size_ent (ent_one _ _ _ _) [.bool v, .bool r, .bool t, .int .i64 g] (ent_ls _ _ _ _) ?_))
      (try simp only [Exit.inBlock, Exit.then])
      refine bodyPost_ret (ret_ent rfl _ _ B v r t g rfl (A4.out.set v r t g)) rfl ⟨?_, ?_⟩
      · rw [hE.out, hX.out]; rfl
      · exact Upd.setCells (.inr (Nat.le_of_eq hB'.out.symm)) _ _ (U.out.trans A2.out)
set_option maxHeartbeats 1000000 in
theorem kput_any (C : Nat) (m : Mem) (f p : Int) (E : En) (w : World) (h : RefAt w C m) :
    Calls Tryd.prog 11 #[.pointer (some ⟨C, 0, none⟩), .int .i64 f, .int .i64 p, E.val] w fun e w' => e = .returned (.int .i64 (errB (m.putB f p E))) ∧ RefAt w' C (m.put f p E) ∧ Upd (· = m.B) w w' := by
  have c0 := Lib.hid (fun W => rword_any E.v E.r E.t E.f W)
  have c1 := Lib.hid (fun W (h : RefAt W C m) => rHas_any C m f W h)
  have hP : Hid (m.put f p E = if m.putB f p E = true then m.wr (f * 16 + p) (wordI E.v E.r E.t E.f) else m) := Lib.hid rfl
  have hQ : Hid (m.putB f p E = (m.ex f 1 && plB p && rightB E.v E.r E.t E.f)) := Lib.hid rfl
  unfold wordE at c0
  obtain ⟨v, r, t, g⟩ := E
  simp only at c0 hP hQ
  generalize wordI v r t g = x at c0 hP
  cases he : m.ex f 1
  · rw [he, Bool.false_and, Bool.false_and] at hQ
    rw [hQ.out] at hP
    rw [he] at c1
    rw [hQ.out]
    clear hQ he
    generalize errB (rightB v r t g) = eb at c0
    go_enter Tryd.func11, Tryd.ntmps11
    go_wp2_with fail
    refine (c0.out _).mono ?_
    rintro e w1 ⟨rfl, u⟩
    have U := Lib.hid (((Upd.refl (fun _ => False) w).alloc _).trans u)
    clear u
    go_wp2_with fail
    refine (c1.out _ (h.kept U.out id id)).mono ?_
    rintro e w2 ⟨rfl, rfl⟩
    go_wp2
    go_ret
    exact ⟨rfl, by rw [hP.out]; exact h.kept U.out id id, U.out.none⟩
  · rw [he, Bool.true_and] at hQ
    rw [he] at c1
    by_cases p0 : p < 0
    · have hp : plB p = false := decide_eq_false (by omega)
      rw [hp, Bool.false_and] at hQ
      rw [hQ.out] at hP
      rw [hQ.out]
      clear hQ he hp
      generalize errB (rightB v r t g) = eb at c0
      go_enter Tryd.func11, Tryd.ntmps11
      go_wp2_with fail
      refine (c0.out _).mono ?_
      rintro e w1 ⟨rfl, u⟩
      have U := Lib.hid (((Upd.refl (fun _ => False) w).alloc _).trans u)
      clear u
      go_wp2_with fail
      refine (c1.out _ (h.kept U.out id id)).mono ?_
      rintro e w2 ⟨rfl, rfl⟩
      go_wp2
      go_ret
      exact ⟨rfl, by rw [hP.out]; exact h.kept U.out id id, U.out.none⟩
    · by_cases p1 : 15 < p
      · have hp : plB p = false := decide_eq_false (by omega)
        rw [hp, Bool.false_and] at hQ
        rw [hQ.out] at hP
        rw [hQ.out]
        clear hQ he hp
        generalize errB (rightB v r t g) = eb at c0
        go_enter Tryd.func11, Tryd.ntmps11
        go_wp2_with fail
        refine (c0.out _).mono ?_
        rintro e w1 ⟨rfl, u⟩
        have U := Lib.hid (((Upd.refl (fun _ => False) w).alloc _).trans u)
        clear u
        go_wp2_with fail
        refine (c1.out _ (h.kept U.out id id)).mono ?_
        rintro e w2 ⟨rfl, rfl⟩
        go_wp2
        go_ret
        exact ⟨rfl, by rw [hP.out]; exact h.kept U.out id id, U.out.none⟩
      · have hp : plB p = true := decide_eq_true (by omega)
        rw [hp, Bool.true_and] at hQ
        cases hr : rightB v r t g
        · rw [hr] at hQ c0
          rw [hQ.out] at hP
          rw [hQ.out]
          clear hQ he hp hr
          go_enter Tryd.func11, Tryd.ntmps11
          go_wp2_with fail
          refine (c0.out _).mono ?_
          rintro e w1 ⟨rfl, u⟩
          have U := Lib.hid (((Upd.refl (fun _ => False) w).alloc _).trans u)
          clear u
          rw [show errB false = 1 from rfl]
          go_wp2_with fail
          refine (c1.out _ (h.kept U.out id id)).mono ?_
          rintro e w2 ⟨rfl, rfl⟩
          go_wp2
          go_ret
          exact ⟨rfl, by rw [hP.out]; exact h.kept U.out id id, U.out.none⟩
        · rw [hr] at hQ c0
          rw [hQ.out, if_pos rfl] at hP
          rw [hQ.out]
          have hs : m.slot f p = true := by unfold Mem.slot; rw [he, hp]; rfl
          obtain ⟨⟨i1, i2⟩, i3, i4⟩ := (m.slot_iff f p).1 hs
          obtain ⟨F, rfl⟩ := Int.eq_ofNat_of_zero_le i1
          obtain ⟨P, rfl⟩ := Int.eq_ofNat_of_zero_le i3
          have hmn := h.hi
          have hF : F < m.n := by omega
          have hPl : P ≤ 15 := by omega
          have hl : Hid (m.wr ((F : Int) * 16 + (P : Int)) x = m.lay (16 * F + P) [x]) := Lib.hid (by
            unfold Mem.wr
            rw [if_pos (m.slot_has _ _ hs), show ((F : Int) * 16 + (P : Int)).toNat = 16 * F + P from by omega])
          have ht : (16 * (F : Int) + (P : Int)).toNat = 16 * F + P := by omega
          clear hQ he hp hr hs i1 i2 i3 i4 p0 p1
          go_enter Tryd.func11, Tryd.ntmps11
          go_wp2_with fail
          refine (c0.out _).mono ?_
          rintro e w1 ⟨rfl, u⟩
          have U := Lib.hid (((Upd.refl (fun _ => False) w).alloc _).trans u)
          clear u
          have h1 := h.kept U.out id id
          have hc := h1.cellA
          have hcell := h1.cellB (16 * F + P) (by omega)
          have hfr := h1.freeB (16 * F + P)
          rw [show errB true = 0 from rfl]
          go_wp2_with fail
          refine (c1.out _ h1).mono ?_
          rintro e w2 ⟨rfl, rfl⟩
          go_wp2
          go_ret
          exact ⟨rfl, by rw [hP.out, hl.out]; exact h1.lay1 _ x (by omega), U.out.none.trans ((Upd.refl _ _).setCell (by left; rfl) _)⟩
end Go.Proofs.YtfdnfllefednjaaDoor

/-
  Steps compared; two memories in which a walk goes alike.
-/
namespace Go.Proofs.YtfdnfllefednjaaDoor
open Go.ChangeShapes Go.WideShapes Go.ChangeAt Go.RowKit

/-- the walk of a page goes alike in two memories: at its own places they are the same -/
def Alike (m m' : Mem) (q : Int) : Prop := m'.n = m.n ∧ ∀ k, k < m.wN 0 q → m'.getE (m.wF 0 q k) (idxI q k) = m.getE (m.wF 0 q k) (idxI q k) ∧ m'.getX (m.wF 0 q k) (idxI q k) = m.getX (m.wF 0 q k) (idxI q k)
theorem Alike.refl (m : Mem) (q : Int) : Alike m m q := ⟨rfl, fun _ _ => ⟨rfl, rfl⟩⟩
theorem Alike.put {m m' : Mem} {q : Int} (h : Alike m m' q) (hk : m'.ok) (x y : Int) (e : En) (hn : ∀ k, k < m.wN 0 q → ¬ (m.wF 0 q k = x ∧ idxI q k = y)) : Alike m (m'.put x y e) q :=
  ⟨by rw [Mem.put_n]; exact h.1, fun k hk' => by
    rw [m'.put_getE hk, m'.put_getX hk, if_neg (fun c => hn k hk' c.2), if_neg (fun c => hn k hk' c.2)]
    exact h.2 k hk'⟩
theorem Alike.step {m m' : Mem} {q : Int} (h : Alike m m' q) : ∀ k, k < m.wN 0 q → m'.wF 0 q k = m.wF 0 q k ∧ m'.wC 0 q k = m.wC 0 q k
  | 0, hk => by
    have e : m'.wF 0 q 0 = m.wF 0 q 0 := rfl
    refine ⟨e, ?_⟩
    unfold Mem.wC
    rw [e, (h.2 0 hk).1, (h.2 0 hk).2]
  | k + 1, hk => by
    have ih := (h.step k (by omega)).1
    have e : m'.wF 0 q (k + 1) = m.wF 0 q (k + 1) := by
      show (m'.getE (m'.wF 0 q k) (idxI q k)).f = (m.getE (m.wF 0 q k) (idxI q k)).f
      rw [ih, (h.2 k (by omega)).1]
    refine ⟨e, ?_⟩
    unfold Mem.wC
    rw [e, (h.2 (k + 1) hk).1, (h.2 (k + 1) hk).2]
theorem Mem.wS_same {m m' : Mem} {q : Int} : ∀ n, (∀ k, k < n → m'.wF 0 q k = m.wF 0 q k) → m'.wS 0 q n = m.wS 0 q n
  | 0, _ => rfl
  | n + 1, h => by rw [Mem.wS, Mem.wS, Mem.wS_same n (fun k hk => h k (by omega)), h n (by omega)]
theorem Alike.walk {m m' : Mem} {q : Int} (h : Alike m m' q) : m'.wN 0 q = m.wN 0 q ∧ m'.wX 0 q = m.wX 0 q ∧ m'.wE 0 q = m.wE 0 q ∧ m'.wS 0 q (m.wN 0 q) = m.wS 0 q (m.wN 0 q) := by
  have hB : m'.wB 0 q = m.wB 0 q := by unfold Mem.wB Mem.ex; rw [h.1]
  cases hb : m.wB 0 q
  · rw [hb] at hB
    obtain ⟨a1, a2, a3⟩ := m.walk_no 0 q hb
    obtain ⟨b1, b2, b3⟩ := m'.walk_no 0 q hB
    rw [a1, a2, a3, b1, b2, b3]
    exact ⟨rfl, rfl, rfl, rfl⟩
  · rw [hb] at hB
    have hs := h.step
    have hbd := m.wN_bd 0 q hb
    obtain ⟨k, hk⟩ : ∃ k, m.wN 0 q = k + 1 := ⟨m.wN 0 q - 1, by omega⟩
    have hon : ∀ j, j < k → m.wC 0 q j = 0 := fun j hj => m.wN_on 0 q j (by omega)
    have hon' : ∀ j, j < k → m'.wC 0 q j = 0 := fun j hj => by rw [(hs j (by omega)).2]; exact hon j hj
    have hS : m'.wS 0 q (m.wN 0 q) = m.wS 0 q (m.wN 0 q) := Mem.wS_same _ fun j hj => (hs j hj).1
    by_cases hc : m.wC 0 q k = 0
    · have hk2 : k = 2 := by
        rcases Nat.lt_or_ge k 2 with h2 | h2
        · exfalso
          unfold Mem.wN at hk
          rw [if_pos hb] at hk
          match k, h2, hc, hon, hk with
          | 0, _, hc, _, hk => rw [hc] at hk; simp at hk; split at hk <;> omega
          | 1, _, hc, hon, hk => rw [hon 0 (by omega), hc] at hk; simp at hk
        · omega
      subst hk2
      have all : ∀ j, j < 3 → m.wC 0 q j = 0 := fun j hj => by
        by_cases e : j = 2
        · rw [e]; exact hc
        · exact hon j (by omega)
      have all' : ∀ j, j < 3 → m'.wC 0 q j = 0 := fun j hj => by rw [(hs j (by omega)).2]; exact all j hj
      obtain ⟨a1, a2, a3⟩ := m.walk_end 0 q hb all
      obtain ⟨b1, b2, b3⟩ := m'.walk_end 0 q hB all'
      refine ⟨by rw [a1, b1], by rw [a2, b2], ?_, hS⟩
      rw [a3, b3, (hs 2 (by omega)).1]
      exact (h.2 2 (by omega)).1
    · have hc' : m'.wC 0 q k ≠ 0 := by rw [(hs k (by omega)).2]; exact hc
      obtain ⟨a1, a2, a3⟩ := m.walk_stop 0 q hb k (by omega) hon hc
      obtain ⟨b1, b2, b3⟩ := m'.walk_stop 0 q hB k (by omega) hon' hc'
      refine ⟨by rw [a1, b1], by rw [a2, b2, (hs k (by omega)).2], by rw [a3, b3], hS⟩
/-- the cells of a walk's steps, also of none -/
theorem steps_cells0 {w : World} {base : Nat} {v : Value} {m : Mem} {root q : Int} {n : Nat} (h : w.ownsRow base 128 2 v n (m.wS root q n)) : ∃ so g cap, v = .slice so n cap ∧ (0 < n → so = some ⟨g, 0, none⟩) ∧
    ∀ j, j < n → w.cell? ⟨g, j * 2, none⟩ = some (.int .i64 (m.wF root q j)) ∧ w.cell? ⟨g, j * 2 + 1, none⟩ = some (.int .i64 (idxI q j)) := by
  by_cases hn : 0 < n
  · obtain ⟨g, cap, rfl, _, hc⟩ := steps_cells h hn
    exact ⟨_, g, cap, rfl, fun _ => rfl, hc⟩
  · obtain ⟨o, cap, rfl⟩ := wk_slice h
    exact ⟨o, 0, cap, rfl, fun h => absurd h hn, fun j hj => absurd hj (by omega)⟩
theorem steps_cells1 {w : World} {base : Nat} {so : Option Addr} {g cap : Nat} {m : Mem} {root q : Int} {n : Nat} (h : w.ownsRow base 128 2 (.slice so n cap) n (m.wS root q n)) (hs : 0 < n → so = some ⟨g, 0, none⟩) :
    ∀ j, j < n → w.cell? ⟨g, j * 2, none⟩ = some (.int .i64 (m.wF root q j)) ∧ w.cell? ⟨g, j * 2 + 1, none⟩ = some (.int .i64 (idxI q j)) := by
  intro j hj
  obtain rfl := hs (by omega)
  obtain ⟨g', cap', e, _, hc⟩ := steps_cells h (by omega)
  simp only [Value.slice.injEq, Option.some.injEq, Addr.mk.injEq] at e
  rw [e.1.1]
  exact hc j hj
/-- two steps compared -/
theorem run_eqSd (d : Nat) (a b a' b' : Int) (w : World) :
    (Op.equalIn (d + 2) 128 (.agg #[.int .i64 a, .int .i64 b]) (.agg #[.int .i64 a', .int .i64 b'])).run Tryd.prog w = .ok (decide (a = a' ∧ b = b')) w := by
  have hF : (Tryd.prog.fieldsOf 128).toList.map (fun f => (f.name == "_", f.type, f.offset)) = [(false, 3, 0), (false, 3, 1)] := by kernel_rfl
  rw [run_equalIn_struct w (d + 1) _ _ _ (by kernel_rfl) (by kernel_rfl)]
  have hag : ∀ (e : TypeId) (d : TypeDesc), Tryd.prog.underlying e = some d → d.isRow = false → (isAgg e).run Tryd.prog w = .ok false w := by
    intro e d he hd
    unfold isAgg
    rw [Sem.run_bind, run_underlying he w]
    cases d <;> first | rfl | cases hd
  have hpart : ∀ (e : TypeId) (d : TypeDesc), Tryd.prog.underlying e = some d → d.isRow = false → ∀ (cs : Array Value) (i : Nat) (x : Value), cs[i]? = some x → (part e cs i).run Tryd.prog w = .ok x w := by
    intro e d he hd cs i x hx
    unfold part
    rw [Sem.run_bind, hag e d he hd]
    simp only [Result.andThen_ok, Bool.false_eq_true, if_false, hx]
    rfl
  have hlen := congrArg List.length hF
  rw [List.length_map] at hlen
  generalize (Tryd.prog.fieldsOf 128).toList = L at hF hlen ⊢
  match L, hlen with
  | [g0, g1], _ =>
    simp only [List.map_cons, List.map_nil, List.cons.injEq, Prod.mk.injEq, and_true] at hF
    obtain ⟨⟨n0, t0, o0⟩, n1, t1, o1⟩ := hF
    have n0 : g0.name ≠ "_" := by simpa using n0
    have n1 : g1.name ≠ "_" := by simpa using n1
    have ui : Tryd.prog.underlying 3 = some (.int .i64) := Tryd.underlying3
    have step : ∀ (X Y : Array Value) (g : Field) (fs : List Field) (x y : Value) (q : Bool), g.name ≠ "_" → (part g.type X g.offset).run Tryd.prog w = .ok x w → (part g.type Y g.offset).run Tryd.prog w = .ok y w →
        (Op.equalIn (d + 1) g.type x y).run Tryd.prog w = .ok q w → (Op.eqFields (d + 1) X Y (g :: fs)).run Tryd.prog w = if q = true then (Op.eqFields (d + 1) X Y fs).run Tryd.prog w else .ok false w := by
      intro X Y g fs x y q hn hx hy hq
      rw [Op.eqFields, if_pos hn, Sem.run_bind, hx, Result.andThen_ok, Sem.run_bind, hy, Result.andThen_ok, Sem.run_bind, hq, Result.andThen_ok]
      cases q
      · rfl
      · rfl
    rw [step _ _ g0 _ (.int .i64 a) (.int .i64 a') (a == a') n0 (by rw [t0, o0]; exact hpart _ _ ui rfl _ _ _ rfl) (by rw [t0, o0]; exact hpart _ _ ui rfl _ _ _ rfl) (by rw [t0]; exact run_equalIn_int w d _ .i64 .i64 _ _ ui),
      step _ _ g1 _ (.int .i64 b) (.int .i64 b') (b == b') n1 (by rw [t1, o1]; exact hpart _ _ ui rfl _ _ _ rfl) (by rw [t1, o1]; exact hpart _ _ ui rfl _ _ _ rfl) (by rw [t1]; exact run_equalIn_int w d _ .i64 .i64 _ _ ui)]
    by_cases e1 : a = a'
    · by_cases e2 : b = b'
      · simp [e1, e2, Op.eqFields]
      · simp [e1, e2]
    · simp [e1]
theorem run_eqS (a b a' b' : Int) (c : Bool) (hc : decide (a = a' ∧ b = b') = c) (w : World) :
    (Op.equalIn 10000 128 (.agg #[.int .i64 a, .int .i64 b]) (.agg #[.int .i64 a', .int .i64 b'])).run Tryd.prog w = .ok c w := by
  subst hc
  exact run_eqSd 9998 a b a' b' w
theorem wk_base {w : World} {base base' sz k : Nat} {e : TypeId} {v : Value} {xs : List Value} (h : w.ownsRow base e sz v k xs) (hb : base' ≤ base) : w.ownsRow base' e sz v k xs := by
  refine ⟨h.1, ?_⟩
  rcases h.2 with hn | ⟨g, cap, cur, rfl, hg, rest⟩
  · exact .inl hn
  · exact .inr ⟨g, cap, cur, rfl, Nat.le_trans hb hg, rest⟩
theorem own_step {Q : Nat → Prop} {c c' : Bool} {j : Nat} (hc : c = true ↔ ∃ p, p < j ∧ Q p) (h : c' = true ↔ (c = true ∨ Q j)) : c' = true ↔ ∃ p, p < j + 1 ∧ Q p := by
  rw [h, hc]
  constructor
  · rintro (⟨p, hp, hq⟩ | hq)
    · exact ⟨p, by omega, hq⟩
    · exact ⟨j, by omega, hq⟩
  · rintro ⟨p, hp, hq⟩
    by_cases e : p = j
    · exact .inr (e ▸ hq)
    · exact .inl ⟨p, by omega, hq⟩
/-- is a place among the first j steps' -/
def OwnIs (m : Mem) (q x y : Int) (j : Nat) (c : Bool) : Prop := c = true ↔ ∃ p, p < j ∧ m.wF 0 q p = x ∧ idxI q p = y
theorem OwnIs.zero (m : Mem) (q x y : Int) : OwnIs m q x y 0 false := ⟨fun h => absurd h (by decide), fun ⟨p, hp, _⟩ => absurd hp (by omega)⟩
theorem OwnIs.on {m : Mem} {q x y : Int} {j : Nat} {c c' : Bool} (h : OwnIs m q x y j c) (h' : c' = true ↔ (c = true ∨ m.wF 0 q j = x ∧ idxI q j = y)) : OwnIs m q x y (j + 1) c' :=
  own_step (Q := fun p => m.wF 0 q p = x ∧ idxI q p = y) h h'
end Go.Proofs.YtfdnfllefednjaaDoor
