/-
  Package buddy, in plain numbers: what the laws ask of an allocator's state.
-/
import Derived.Test.YtmobhojblclmjaaBuS
namespace Go.Proofs.Ytmobhojblclmjaa

theorem mxAt_le (F : Nat → Bool) (n m : Nat) : (mxAt F n m).Pairwise fun x y => x.1 < y.1 := by
  by_cases h : ∃ k, Mx F n m k
  · obtain ⟨k, hk⟩ := h
    rw [mxAt_one hk]; simp
  · rw [mxAt_none fun k hk => h ⟨k, hk⟩]; simp
theorem mxTo_rises (F : Nat → Bool) (n : Nat) : ∀ m, (mxTo F n m).Pairwise fun x y => x.1 < y.1
  | 0 => by simp [mxTo]
  | m + 1 => by
    rw [mxTo_succ, List.pairwise_append]
    refine ⟨mxTo_rises F n m, mxAt_le F n m, fun x hx y hy => ?_⟩
    have h1 := (mem_mxTo.1 hx).1
    have h2 := (mem_mxAt.1 hy).1
    omega
theorem blocks_rises (F : Nat → Bool) (n : Nat) : (blocks F n).Pairwise fun x y => x.1 < y.1 := mxTo_rises F n n
theorem blocks_nodup (F : Nat → Bool) (n : Nat) : (blocks F n).Nodup := (blocks_rises F n).imp fun {x y} h e => by subst e; omega

/-! each frame once -/
def hits (l : List (Nat × Nat)) (j : Nat) : Nat := (l.filter fun x => inBlk x j).length
theorem hits_app (l l' : List (Nat × Nat)) (j : Nat) : hits (l ++ l') j = hits l j + hits l' j := by simp [hits]
theorem hits_none {l : List (Nat × Nat)} {j : Nat} (h : ∀ x, x ∈ l → inBlk x j = false) : hits l j = 0 := by
  unfold hits
  rw [List.filter_eq_nil_iff.2 fun x hx => by rw [h x hx]; decide]
  rfl
theorem hits_one {l : List (Nat × Nat)} {j : Nat} {x : Nat × Nat} (hn : l.Nodup) (hx : x ∈ l) (hj : inBlk x j = true) (hu : ∀ y, y ∈ l → inBlk y j = true → y = x) : hits l j = 1 := by
  unfold hits
  rw [filter_one l _ x hn hx hj hu]
  rfl
theorem blocks_free {b : Bud} (h : b.Ok) {j : Nat} (hF : b.F j = true) : hits (blocks b.F b.n) j = 1 ∧ hits b.gave j = 0 := by
  have hj := (h.fr j).1 hF
  obtain ⟨k, hk⟩ := exists_mx hF hj.2.1
  have h1 := st_le j k
  have h2 := st_lt j k
  refine ⟨hits_one (blocks_nodup _ _) (x := (st j k, k)) (mem_blocks.2 hk) (inBlk_iff.2 ⟨h1, h2⟩) fun y hy hyj => ?_, hits_none hj.2.2⟩
  have hy' := inBlk_iff.1 hyj
  have := (mem_blocks.1 hy).unique hk hy'.1 hy'.2 h1 h2
  exact Prod.ext this.1 this.2
theorem blocks_not {b : Bud} {j : Nat} (hF : b.F j = false) : hits (blocks b.F b.n) j = 0 := hits_none fun x hx => by
  rw [inBlk_no]
  intro hj
  have := (mem_blocks.1 hx).b.fr j hj.1 hj.2
  rw [hF] at this; cases this
theorem each_once {b : Bud} (h : b.Ok) (j : Nat) : hits (blocks b.F b.n ++ b.gave) j = if b.res ≤ j ∧ j < b.n then 1 else 0 := by
  rw [hits_app]
  by_cases hr : b.res ≤ j ∧ j < b.n
  · rw [if_pos hr]
    cases hF : b.F j
    · have hex : ∃ x, x ∈ b.gave ∧ inBlk x j = true := by
        refine Classical.byContradiction fun hno => ?_
        have : b.F j = true := (h.fr j).2 ⟨hr.1, hr.2, fun x hx => by
          cases hb : inBlk x j
          · rfl
          · exact absurd ⟨x, hx, hb⟩ hno⟩
        rw [hF] at this; cases this
      obtain ⟨x, hx, hj⟩ := hex
      rw [blocks_not hF, hits_one h.nodup hx hj fun y hy hyj => by
        refine Classical.byContradiction fun hne => ?_
        have := h.two hx hy (fun e => hne e.symm) j hj
        rw [hyj] at this; cases this]
    · rw [(blocks_free h hF).1, (blocks_free h hF).2]
  · rw [if_neg hr]
    have hF : b.F j = false := by
      cases hF : b.F j
      · rfl
      · have := (h.fr j).1 hF; exact absurd ⟨this.1, this.2.1⟩ hr
    rw [blocks_not hF, hits_none fun x hx => by
      rw [inBlk_no]
      intro hj
      obtain ⟨_, _, h3, h4⟩ := h.blk x hx
      exact hr ⟨by omega, by omega⟩]
/-- what a free block is like -/
theorem blocks_blk {b : Bud} (h : b.Ok) {x : Nat × Nat} (hx : x ∈ blocks b.F b.n) : x.2 ≤ 8 ∧ x.1 % 2 ^ x.2 = 0 ∧ b.res ≤ x.1 ∧ x.1 + 2 ^ x.2 ≤ b.n := by
  have hm := mem_blocks.1 hx
  have hp := Nat.two_pow_pos x.2
  exact ⟨hm.hi, hm.b.al, ((h.fr x.1).1 (hm.b.fr x.1 (Nat.le_refl _) (by omega))).1, hm.b.le⟩

/-! a free block is as great as it can be -/
theorem halves {F : Nat → Bool} {n : Nat} {x y : Nat × Nat} (hx : Mx F n x.1 x.2) (hy : Mx F n y.1 y.2) (hk : x.2 = y.2) (h8 : x.2 < 8) (hp : x.1 / (2 * 2 ^ x.2) = y.1 / (2 * 2 ^ x.2)) (hlt : x.1 < y.1) : False := by
  obtain ⟨a, k⟩ := x
  obtain ⟨c, k'⟩ := y
  simp only at hx hy hk h8 hp hlt
  subst hk
  have hpos := Nat.two_pow_pos k
  have e2 : 2 * 2 ^ k = 2 ^ (k + 1) := by rw [Nat.pow_succ, Nat.mul_comm]
  rw [e2] at hp
  have hs : st a (k + 1) = st c (k + 1) := by unfold st; rw [hp]
  have h1 := st_le a (k + 1)
  have h2 := st_lt c (k + 1)
  have h3 := st_nest a (show k ≤ k + 1 by omega)
  have h4 := st_nest c (show k ≤ k + 1 by omega)
  rw [st_self hx.b.al] at h3
  rw [st_self hy.b.al] at h4
  obtain ⟨qa, ha⟩ := Nat.dvd_of_mod_eq_zero hx.b.al
  obtain ⟨qc, hc⟩ := Nat.dvd_of_mod_eq_zero hy.b.al
  have hge : a + 2 ^ k ≤ c := by
    have : qa < qc := by
      refine Nat.lt_of_not_le fun h => ?_
      have := Nat.mul_le_mul_left (2 ^ k) h
      omega
    have := Nat.mul_le_mul_left (2 ^ k) this
    rw [Nat.mul_succ] at this
    omega
  have e3 : 2 ^ (k + 1) = 2 ^ k + 2 ^ k := by rw [Nat.pow_succ]; omega
  have ea : st a (k + 1) = a := by omega
  have ec : c = a + 2 ^ k := by omega
  refine hx.top h8 ⟨st_mod _ _, by rw [ea, e3]; have := hy.b.le; omega, fun j j1 j2 => ?_⟩
  rw [ea] at j1 j2
  rcases Nat.lt_or_ge j (a + 2 ^ k) with h | h
  · exact hx.b.fr j j1 h
  · exact hy.b.fr j (by omega) (by omega)

/-! as many blocks as fit -/
theorem covers_len : ∀ (N : Nat) (l : List Nat), (∀ q, q < N → q ∈ l) → N ≤ l.length
  | 0, _, _ => Nat.zero_le _
  | N + 1, l, h => by
    have hN := h N (by omega)
    have := covers_len N (l.erase N) fun q hq => (List.mem_erase_of_ne (by omega)).2 (h q (by omega))
    rw [List.length_erase_of_mem hN] at this
    have : 0 < l.length := List.length_pos_of_mem hN
    omega
theorem many_some {b : Bud} (h : b.Ok) (h0 : b.res = 0) {k : Nat} (hk : k ≤ 8) (hall : ∀ x, x ∈ b.gave → x.2 = k) (hlt : b.gave.length < b.n / 2 ^ k) : ∃ x, b.sel k = some x := by
  have hp := Nat.two_pow_pos k
  have hex : ∃ q, q < b.n / 2 ^ k ∧ q ∉ b.gave.map fun x => x.1 / 2 ^ k := by
    refine Classical.byContradiction fun hno => ?_
    have := covers_len (b.n / 2 ^ k) (b.gave.map fun x => x.1 / 2 ^ k) fun q hq => Classical.byContradiction fun hn => hno ⟨q, hq, hn⟩
    rw [List.length_map] at this
    omega
  obtain ⟨q, hq, hno⟩ := hex
  have hle : (q + 1) * 2 ^ k ≤ b.n := Nat.le_trans (Nat.mul_le_mul_right _ hq) (Nat.div_mul_le_self _ _)
  rw [Nat.add_mul, Nat.one_mul] at hle
  have hb : Blk b.F b.n (q * 2 ^ k) k := ⟨Nat.mul_mod_left _ _, hle, fun j j1 j2 => (h.fr j).2 ⟨by omega, by omega, fun x hx => by
    rw [inBlk_no]
    intro hj
    obtain ⟨_, hal, _, _⟩ := h.blk x hx
    rw [hall x hx] at hal hj
    have e1 := st_of hal hj.1 hj.2
    have e2 := st_of (Nat.mul_mod_left q (2 ^ k)) j1 j2
    apply hno
    rw [List.mem_map]
    refine ⟨x, hx, ?_⟩
    rw [← e1, e2]
    exact Nat.mul_div_cancel _ hp⟩⟩
  obtain ⟨l, hl, hm⟩ := hb.in_mx hk
  cases hs : b.sel k with
  | some x => exact ⟨x, rfl⟩
  | none =>
    have := pick_none hs (st (q * 2 ^ k) l, l) (mem_blocks.2 hm)
    simp only at this
    omega
theorem many_none {b : Bud} {k : Nat} (hk : b.left < 2 ^ k) : b.sel k = none := by
  cases hs : b.sel k with
  | none => rfl
  | some x =>
    obtain ⟨h1, h2⟩ := sel_blk hs
    have := left_give (h1.b.head h2)
    omega
end Go.Proofs.Ytmobhojblclmjaa
