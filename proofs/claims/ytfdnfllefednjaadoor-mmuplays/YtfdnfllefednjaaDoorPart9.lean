/-
  Texts that the laws stand on, joined: TbR, TbS, TbT, TbV, TbW, TbX.
-/
import Derived.Test.YtfdnfllefednjaaDoorPart8

/-
  Package tables: New and Close.
-/
namespace Go.Proofs.YtfdnfllefednjaaDoor
open Go.ChangeShapes Go.WideShapes Go.ChangeAt Go.RowKit Go.Shelf Go.Sort

set_option maxHeartbeats 400000 in
theorem snew_nil (o o' : Option Addr) (w : World) (h : o = none ∨ o' = none) :
    Calls Tryd.prog 38 #[.pointer o, .pointer o'] w fun e w' => e = .returned (.tuple #[.pointer none, .int .i64 1]) ∧ w = w' := by
  rcases h with rfl | rfl
  · go_enter Tryd.func38, Tryd.ntmps38
    go_wp2
    go_ret2
    exact ⟨rfl, rfl⟩
  · cases o with
    | none =>
      go_enter Tryd.func38, Tryd.ntmps38
      go_wp2
      go_ret2
      exact ⟨rfl, rfl⟩
    | some a =>
      go_enter Tryd.func38, Tryd.ntmps38
      go_wp2
      go_ret2
      exact ⟨rfl, rfl⟩

set_option maxRecDepth 100000 in
set_option maxHeartbeats 1000000 in
theorem snew_any (MA A GB : Nat) (m : Mem) (b : Bud) (w : World) (hd : Duo w A MA GB m b) :
    Calls Tryd.prog 38 #[.pointer (some ⟨MA, 0, none⟩), .pointer (some ⟨A, 0, none⟩)] w fun e w' =>
      (b.left < 1 ∧ e = .returned (.tuple #[.pointer none, .int .i64 6]) ∧ Upd (fun _ => False) w w') ∨
      (1 ≤ b.left ∧ ∃ S, w.heap.size ≤ S ∧ e = .returned (.tuple #[.pointer (some ⟨S, 0, none⟩), .int .i64 0]) ∧ SpAt w' S MA A ((b.al 1).1.getD 0 0 : Nat) ∧ Duo w' A MA GB (m.clears (b.al 1).1) (b.al 1).2 ∧ Upd (fun k => k = GB ∨ k = m.B) w w') := by
  have hl := hd.B.lts
  have hB := lt_of_heap hd.M.body
  have hM := lt_of_heap hd.M.head
  have u0 := (Upd.refl (fun _ => False) w).alloc (.cells #[.pointer (some ⟨MA, 0, none⟩), .pointer (some ⟨A, 0, none⟩), .int .i64 0] 123)
  have s0 : SpAt (w.alloc (.cells #[.pointer (some ⟨MA, 0, none⟩), .pointer (some ⟨A, 0, none⟩), .int .i64 0] 123)) w.heap.size MA A 0 := heap_alloc_last w _
  have d0 := hd.still u0
  have ok := Lib.hid hd.B.ok
  go_enter Tryd.func38, Tryd.ntmps38
  go_upto_region 2 with fail
  generalize w.alloc (.cells #[.pointer (some ⟨MA, 0, none⟩), .pointer (some ⟨A, 0, none⟩), .int .i64 0] 123) = w0 at u0 s0 d0 ⊢
  generalize hS : w.heap.size = S at s0 hl hB hM ⊢
  have HS := Lib.hid (Nat.le_of_eq hS)
  clear hS
  go_wp2_with fail
  refine (create_any S MA A GB 0 m b 1 _ s0 d0 (by omega)).mono ?_
  rintro e w1 (⟨hlt, rfl, u1⟩ | ⟨hlt, v, rfl, hrow, d1, u1⟩)
  · go_wp2
    go_ret2
    exact .inl ⟨hlt, rfl, u0.trans u1⟩
  · obtain ⟨o, cap, rfl, hcells⟩ := slice1 hrow
    have ha := al_ok ok.out 1 hlt
    obtain ⟨g, rfl, hc⟩ := hcells 0 _ (nat1_at _ _ (by rw [ha.len]; omega))
    have s1 := s0.kept u1 (by omega)
    have cz := s1.c2
    have fz : w1.frozen? ⟨S, 2, none⟩ = false := by unfold World.frozen?; rw [show w1.heap[S]? = _ from s1]; rfl
    clear hcells hrow
    obtain ⟨r, hr⟩ : ∃ r, (b.al 1).1.getD 0 0 = r := ⟨_, rfl⟩
    rw [hr] at hc
    have Hr := Lib.hid hr
    clear hr
    have s2 : SpAt (w1.setCell ⟨S, 2, none⟩ (.int .i64 (r : Nat))) S MA A (r : Nat) := by
      have := heap_setCell_same (C := [.pointer (some ⟨MA, 0, none⟩), .pointer (some ⟨A, 0, none⟩), .int .i64 0]) s1 2 (.int .i64 (r : Nat))
      unfold SpAt
      rw [this]
      rfl
    have u2 : Upd (· = S) w1 (w1.setCell ⟨S, 2, none⟩ (.int .i64 (r : Nat))) := (Upd.refl (· = S) w1).setCell (.inl rfl) _
    have d2 := d1.kept u2 (by omega) (by omega) (by omega) (by rw [Mem.clears_B]; omega)
    go_wp2
    go_ret2
    refine .inr ⟨hlt, S, HS.out, rfl, by rw [Hr.out]; exact s2, d2, ?_⟩
    exact ((u0.none).trans u1).setCell (.inr HS.out) _

/-- frames freed one by one -/
noncomputable def frees (s : Mem × Bud) (l : List Int) : Mem × Bud := l.foldl (fun t f => unFree f t) s
theorem frees_snoc (s : Mem × Bud) (l : List Int) (f : Int) : frees s (l ++ [f]) = unFree f (frees s l) := by unfold frees; rw [List.foldl_append]; rfl
theorem frees_B (s : Mem × Bud) (l : List Int) : (frees s l).1.B = s.1.B := by
  induction l using snoc_induction with
  | h0 => rfl
  | h1 l x ih => rw [frees_snoc, unFree_B, ih]
theorem take_snocI (l : List Int) (k : Nat) (h : k < l.length) : l.take (k + 1) = l.take k ++ [l.getD k 0] := by
  rw [List.take_add_one, List.getElem?_eq_getElem h]
  simp [List.getD_eq_getElem?_getD, List.getElem?_eq_getElem h]
theorem i64s_at (c : List Int) (k : Nat) (h : k < c.length) : (i64s c)[k]? = some (.int .i64 (c.getD k 0)) := by
  simp [i64s, List.getD_eq_getElem?_getD, List.getElem?_eq_getElem h]
end Go.Proofs.YtfdnfllefednjaaDoor

/-
  Package tables, in plain numbers: what Protect, Unmap, New and Close do to a space.
-/
namespace Go.Proofs.YtfdnfllefednjaaDoor

/-- what a walk tells of a whole space -/
theorem SpInv.wX {s : Sp} {m : Mem} {b : Bud} {Y : Nat × Nat → Prop} (h : SpInv s m b Y) (q : Int) : m.wX s.root q = if 0 ≤ q ∧ q ≤ 4095 then (if (s.E 3 q.toNat).v = true then 0 else 10) else 1 := by
  by_cases hq : 0 ≤ q ∧ q ≤ 4095
  · obtain ⟨j, rfl⟩ := Int.eq_ofNat_of_zero_le hq.1
    rw [if_pos hq, Int.toNat_natCast]
    exact (Sp.walk h.i h.ok h.hn (by omega)).2.1
  · rw [if_neg hq]
    refine (m.walk_no s.root q ?_).2.1
    unfold Mem.wB
    rw [show pageB q = false from decide_eq_false (by omega), Bool.and_false]
theorem SpInv.wE {s : Sp} {m : Mem} {b : Bud} {Y : Nat × Nat → Prop} (h : SpInv s m b Y) (q : Int) : m.wE s.root q = if 0 ≤ q ∧ q ≤ 4095 then s.E 3 q.toNat else En.zero := by
  by_cases hq : 0 ≤ q ∧ q ≤ 4095
  · obtain ⟨j, rfl⟩ := Int.eq_ofNat_of_zero_le hq.1
    rw [if_pos hq, Int.toNat_natCast]
    exact (Sp.walk h.i h.ok h.hn (by omega)).2.2.1
  · rw [if_neg hq]
    refine (m.walk_no s.root q ?_).2.2
    unfold Mem.wB
    rw [show pageB q = false from decide_eq_false (by omega), Bool.and_false]
theorem SpInv.found {s : Sp} {m : Mem} {b : Bud} {Y : Nat × Nat → Prop} (h : SpInv s m b Y) {q : Int} (hx : m.wX s.root q = 0) :
    ∃ qn : Nat, q = qn ∧ qn < 4096 ∧ (s.E 3 qn).v = true ∧ m.wE s.root q = s.E 3 qn ∧ (∀ k, k < 3 → m.wF s.root q k = s.fr k (nd qn k)) ∧ ∀ k, k < 3 → s.on k (nd qn k) = true := by
  rw [h.wX] at hx
  split at hx
  · rename_i hq
    split at hx
    · rename_i hv
      obtain ⟨j, rfl⟩ := Int.eq_ofNat_of_zero_le hq.1
      rw [Int.toNat_natCast] at hv
      obtain ⟨_, _, w3, w4⟩ := Sp.walk h.i h.ok h.hn (q := j) (by omega)
      have hd := (Sp.page_dep h.ok hv).1
      exact ⟨j, rfl, by omega, hv, w3, fun k hk => w4 k (by omega), fun k hk => s.dep_on (by omega) k (by omega)⟩
    · cases hx
  · cases hx
/-- words of others behind a Put into one of a space's tables -/
theorem SameW.put {s : Sp} {m : Mem} {Y : Nat × Nat → Prop} (hok : s.Ok m.n) (hm : m.ok) (hlt : ∀ x, Y x → x.1 < m.n) (hy : ∀ x, Y x → ∀ l d, l ≤ 2 → s.on l d = true → s.fr l d ≠ (x.1 : Nat)) {l d p : Nat} (hl : l ≤ 2) (ho : s.on l d = true) (hp : p < 16) (e : En) (he : e.ok = true) : SameW Y m (m.put (s.fr l d) (p : Nat) e) := by
  intro x hx p' hp'
  have := hlt x hx
  rw [m.word_put hm _ _ _ _ _ (by rw [Mem.slot_iff]; have := hok.frb ho; omega) (by rw [Mem.slot_iff]; omega) he, if_neg (fun c => hy x hx l d hl ho c.1.symm)]
theorem SpInv.protect {s : Sp} {m : Mem} {b : Bud} {Y : Nat × Nat → Prop} (h : SpInv s m b Y) {q : Int} (hx : m.wX s.root q = 0) (wb : Bool) :
    ∃ qn : Nat, q = qn ∧ qn < 4096 ∧ (s.E 3 qn).v = true ∧ m.putB (m.wF s.root q 2) (idxI q 2) { m.wE s.root q with r := wb } = true ∧ SameW Y m (m.put (m.wF s.root q 2) (idxI q 2) { m.wE s.root q with r := wb }) ∧
      ∃ s', SpInv s' (m.put (m.wF s.root q 2) (idxI q 2) { m.wE s.root q with r := wb }) b Y ∧ s'.root = s.root ∧ ∀ q', s'.E 3 q' = if q' = qn then { s.E 3 qn with r := wb } else s.E 3 q' := by
  obtain ⟨qn, rfl, hq, hv, hE, hF, hon⟩ := h.found hx
  rw [hE, hF 2 (by omega)]
  have ho2 := hon 2 (by omega)
  have hidx := idx_nat qn 2 hq (by omega)
  rw [show nd qn (2 + 1) = qn from nd3 qn] at hidx
  rw [show idxI (qn : Nat) 2 = ((qn % 16 : Nat) : Int) from hidx]
  have hst := nd_step qn 2 (by omega)
  rw [show nd qn (2 + 1) = qn from nd3 qn] at hst
  have hp : qn % 16 < 16 := Nat.mod_lt _ (by decide)
  have hf := h.ok.f _ _ hv
  have heok : En.ok { s.E 3 qn with r := wb } = true := by
    unfold En.ok rightB
    have h1 := h.hn
    have h2 := h.ok.pg _ hv
    simp [hv, h2]; omega
  have hs : m.slot (s.fr 2 (nd qn 2)) ((qn % 16 : Nat) : Int) = true := by rw [Mem.slot_iff]; have := h.ok.frb ho2; omega
  have hok := h.ok.page ho2 hp { s.E 3 qn with r := wb } hv (h.ok.pg _ hv) hf.1 hf.2
  have hin := h.i.set h.ok h.mo (l := 2) (by omega) ho2 hp { s.E 3 qn with r := wb } heok (fun h2 => by omega)
  rw [hst] at hok hin
  have hE3 : ∀ q', (s.set 3 qn { s.E 3 qn with r := wb }).E 3 q' = if q' = qn then { s.E 3 qn with r := wb } else s.E 3 q' := by
    intro q'
    by_cases e : q' = qn
    · rw [if_pos e, e, Sp.set_same]
    · rw [if_neg e, s.set_ne _ (by omega)]
  have honn : ∀ l d, l ≤ 2 → (s.set 3 qn { s.E 3 qn with r := wb }).on l d = s.on l d := fun l d hl => s.set_on _ (by omega)
  have hfrn : ∀ l d, l ≤ 2 → (s.set 3 qn { s.E 3 qn with r := wb }).fr l d = s.fr l d := fun l d hl => s.set_fr _ (by omega)
  refine ⟨qn, rfl, hq, hv, by unfold Mem.putB; rw [hs, heok]; rfl, SameW.put h.ok h.mo (fun x hx => h.ylt hx) (fun x hx l d => h.y_fr hx) (by omega) ho2 hp _ heok, s.set 3 qn { s.E 3 qn with r := wb }, ⟨by rw [Mem.put_n]; exact hok, hin, ?_, Mem.put_ok _ h.mo _ _ _, Mem.put_good _ h.mo h.hg _ _ _, h.bk, by rw [Mem.put_n]; exact h.bn, h.y0, ?_, ?_⟩, rfl, hE3⟩
  · intro l d h1 h2 ho
    rw [honn l d h2] at ho
    obtain ⟨p, hp', hc⟩ := h.nee l d h1 h2 ho
    refine ⟨p, hp', ?_⟩
    by_cases e : l = 2
    · subst e
      rw [hE3]
      split
      · exact hv
      · exact hc
    · rw [s.set_ne _ (by omega)]; exact hc
  · intro x
    rw [h.gv]
    constructor
    · rintro (⟨l, d, hl, ho, rfl⟩ | hy)
      · exact .inl ⟨l, d, hl, by rw [honn l d hl]; exact ho, by rw [hfrn l d hl]⟩
      · exact .inr hy
    · rintro (⟨l, d, hl, ho, rfl⟩ | hy)
      · exact .inl ⟨l, d, hl, by rw [← honn l d hl]; exact ho, by rw [hfrn l d hl]⟩
      · exact .inr hy
  · intro l d hl ho
    rw [honn l d hl] at ho
    rw [hfrn l d hl]
    exact h.ap l d hl ho

/-! Unmap -/
/-- a space in which one table may be without an entry -/
structure SpHalf (s : Sp) (m : Mem) (b : Bud) (Y : Nat × Nat → Prop) (X : Nat × Nat) : Prop where
  ok : s.Ok m.n
  i : s.In m
  nee : ∀ l d, 1 ≤ l → l ≤ 2 → (l, d) ≠ X → s.on l d = true → ∃ p, p < 16 ∧ (s.E (l + 1) (16 * d + p)).v = true
  mo : m.ok
  hg : m.good
  bk : b.Ok
  bn : m.n = b.n
  y0 : ∀ x, Y x → x.2 = 0
  gv : ∀ x, x ∈ b.gave ↔ (∃ l d, l ≤ 2 ∧ s.on l d = true ∧ x = ((s.fr l d).toNat, 0)) ∨ Y x
  ap : ∀ l d, l ≤ 2 → s.on l d = true → ¬ Y ((s.fr l d).toNat, 0)
theorem SpHalf.full {s : Sp} {m : Mem} {b : Bud} {Y : Nat × Nat → Prop} {X : Nat × Nat} (h : SpHalf s m b Y X) (hX : X.1 = 0 ∨ ∃ p, p < 16 ∧ (s.E (X.1 + 1) (16 * X.2 + p)).v = true) : SpInv s m b Y :=
  ⟨h.ok, h.i, fun l d h1 h2 ho => by
    by_cases e : (l, d) = X
    · subst e
      rcases hX with hX | hX
      · simp at hX; omega
      · exact hX
    · exact h.nee l d h1 h2 e ho, h.mo, h.hg, h.bk, h.bn, h.y0, h.gv, h.ap⟩
theorem SpInv.half {s : Sp} {m : Mem} {b : Bud} {Y : Nat × Nat → Prop} (h : SpInv s m b Y) (X : Nat × Nat) : SpHalf s m b Y X :=
  ⟨h.ok, h.i, fun l d h1 h2 _ ho => h.nee l d h1 h2 ho, h.mo, h.hg, h.bk, h.bn, h.y0, h.gv, h.ap⟩
theorem En.word_zero {e : En} (h : e.ok = true) (hw : e.word = 0) : e.v = false := by
  have := (of_word e h).2
  rw [hw] at this
  rw [← this]
  decide
theorem SpHalf.hn {s : Sp} {m : Mem} {b : Bud} {Y : Nat × Nat → Prop} {X : Nat × Nat} (h : SpHalf s m b Y X) : m.n ≤ 256 := by have := h.bn; have := h.bk.hi; omega
theorem SpHalf.ylt {s : Sp} {m : Mem} {b : Bud} {Y : Nat × Nat → Prop} {X : Nat × Nat} (h : SpHalf s m b Y X) {x : Nat × Nat} (hx : Y x) : x.1 < m.n := by
  have h1 := h.bk.blk x ((h.gv x).2 (.inr hx))
  have h2 := h.y0 x hx
  rw [h2] at h1
  have := h.bn
  omega
theorem SpHalf.y_fr {s : Sp} {m : Mem} {b : Bud} {Y : Nat × Nat → Prop} {X : Nat × Nat} (h : SpHalf s m b Y X) {x : Nat × Nat} (hx : Y x) {l d : Nat} (hl : l ≤ 2) (ho : s.on l d = true) : s.fr l d ≠ (x.1 : Nat) := fun e => by
  have := h.ap l d hl ho
  rw [e, Int.toNat_natCast] at this
  have h2 := h.y0 x hx
  exact this (by rw [← h2]; exact hx)
/-- is a table blank? -/
theorem SpHalf.blank {s : Sp} {m : Mem} {b : Bud} {Y : Nat × Nat → Prop} {X : Nat × Nat} (h : SpHalf s m b Y X) {l d : Nat} (hl : l ≤ 2) (ho : s.on l d = true) : m.zero (s.fr l d) = true ↔ ∀ p, p < 16 → (s.E (l + 1) (16 * d + p)).v = false := by
  have hb := h.ok.frb ho
  have hex : m.ex (s.fr l d) 1 = true := decide_eq_true (by omega)
  obtain ⟨g, hg⟩ := Int.eq_ofNat_of_zero_le hb.1
  have hat : ∀ p : Nat, m.word (s.fr l d) (p : Nat) = m.at ((s.fr l d).toNat * 16 + p) := by
    intro p
    unfold Mem.word
    rw [hg]
    congr 1
  constructor
  · intro hz p hp
    refine En.word_zero (h.ok.eok h.hn _ _) ?_
    rw [← h.i l d p hl ho hp, hat, ← m.fr_getD _ _ hp]
    unfold Mem.zero at hz
    rw [hex] at hz
    have : m.fr (s.fr l d).toNat = noughts := by simpa using hz
    rw [this]
    unfold noughts
    rw [List.getD_eq_getElem?_getD, List.getElem?_replicate]
    simp [hp]
  · intro hc
    refine m.zero_of h.mo _ hex fun p hp => ?_
    rw [← hat, h.i l d p hl ho hp, h.ok.none _ _ (hc p hp)]
    rfl
theorem mem_erase_iff {l : List (Nat × Nat)} (hn : l.Nodup) {x y : Nat × Nat} : x ∈ l.erase y ↔ x ∈ l ∧ x ≠ y := by
  constructor
  · intro hx
    exact ⟨List.mem_of_mem_erase hx, fun e => by subst e; exact (hn.not_mem_erase) hx⟩
  · rintro ⟨h1, h2⟩
    exact (List.mem_erase_of_ne h2).2 h1
/-- a table that is blank goes: its frame is freed, its entry in the table above is taken away -/
theorem SpHalf.dropT {s : Sp} {m : Mem} {b : Bud} {Y : Nat × Nat → Prop} {l d : Nat} (h : SpHalf s m b Y (l + 1, d)) (hl : l + 1 ≤ 2) (ho : s.on (l + 1) d = true) (hc : ∀ p, p < 16 → (s.E (l + 2) (16 * d + p)).v = false) :
    SpHalf (s.set (l + 1) d En.zero) ((m.scrub (s.fr (l + 1) d) 1).put (s.fr l (d / 16)) ((d % 16 : Nat) : Int) En.zero) (b.take ((s.fr (l + 1) d).toNat, 0)) Y (l, d / 16) ∧ SameW Y m ((m.scrub (s.fr (l + 1) d) 1).put (s.fr l (d / 16)) ((d % 16 : Nat) : Int) En.zero) := by
  have hv : (s.E (l + 1) d).v = true := by rw [← s.onS]; exact ho
  have hou : s.on l (d / 16) = true := (h.ok.lv _ _ hv).2.2.2
  have hb := h.ok.frb ho
  have hex : m.ex (s.fr (l + 1) d) 1 = true := decide_eq_true (by omega)
  have hz := (h.blank (by omega) ho).2 hc
  have hp : d % 16 < 16 := Nat.mod_lt _ (by decide)
  have hdd : 16 * (d / 16) + d % 16 = d := by omega
  have hin2 : s.In (m.scrub (s.fr (l + 1) d) 1) := by
    intro l' d' p' hl' ho' hp'
    have hb' := h.ok.frb ho'
    rw [m.word_scrub h.mo _ _ _ hex (by rw [Mem.slot_iff]; omega)]
    split
    · rename_i e
      obtain ⟨rfl, rfl⟩ := h.ok.inj _ _ _ _ hl' hl ho' ho e
      rw [h.ok.none _ _ (hc p' hp')]
      rfl
    · exact h.i l' d' p' hl' ho' hp'
  have hmo2 := Mem.ok_scrub m h.mo (s.fr (l + 1) d) 1
  have hok2 : s.Ok (m.scrub (s.fr (l + 1) d) 1).n := by rw [Mem.scrub_n]; exact h.ok
  have hin3 := hin2.set hok2 hmo2 (l := l) (d := d / 16) (p := d % 16) (by omega) hou hp En.zero rfl (fun _ e => by cases e)
  rw [hdd] at hin3
  have hok3 := h.ok.drop (l := l) (d := d) (fun _ p hp => hc p hp)
  have hgv := (h.gv _).2 (.inl ⟨l + 1, d, hl, ho, rfl⟩)
  have hon : ∀ l' d', (s.set (l + 1) d En.zero).on l' d' = true ↔ s.on l' d' = true ∧ ¬ (l' = l + 1 ∧ d' = d) := by
    intro l' d'
    by_cases hx : l' = l + 1 ∧ d' = d
    · rw [hx.1, hx.2, Sp.set_on_same]
      simp [En.zero]
    · rw [s.set_on _ hx]; simp [hx]
  have hfr : ∀ l' d', ¬ (l' = l + 1 ∧ d' = d) → (s.set (l + 1) d En.zero).fr l' d' = s.fr l' d' := fun l' d' hx => s.set_fr _ hx
  refine ⟨⟨by rw [Mem.put_n, Mem.scrub_n]; exact hok3, hin3, ?_, Mem.put_ok _ hmo2 _ _ _, Mem.put_good _ hmo2 (Mem.scrub_good _ h.mo h.hg _) _ _ _, h.bk.take hgv, by rw [Mem.put_n, Mem.scrub_n]; exact h.bn, h.y0, ?_, ?_⟩, ?_⟩
  · intro l' d' h1 h2 hne ho'
    obtain ⟨ho1, hx⟩ := (hon l' d').1 ho'
    obtain ⟨p, hp', hcv⟩ := h.nee l' d' h1 h2 (fun e => hx (by simpa using e)) ho1
    refine ⟨p, hp', ?_⟩
    rw [s.set_ne _ ?_]
    · exact hcv
    · rintro ⟨e1, e2⟩
      refine hne ?_
      have : d' = d / 16 := by omega
      rw [this, show l' = l from by omega]
  · intro x
    show x ∈ b.gave.erase _ ↔ _
    rw [mem_erase_iff h.bk.nodup, h.gv]
    constructor
    · rintro ⟨⟨l', d', hl', ho', rfl⟩ | hy, hne⟩
      · have hx : ¬ (l' = l + 1 ∧ d' = d) := fun e => hne (by rw [e.1, e.2])
        exact .inl ⟨l', d', hl', (hon l' d').2 ⟨ho', hx⟩, by rw [hfr l' d' hx]⟩
      · exact .inr hy
    · rintro (⟨l', d', hl', ho', rfl⟩ | hy)
      · obtain ⟨ho1, hx⟩ := (hon l' d').1 ho'
        rw [hfr l' d' hx]
        refine ⟨.inl ⟨l', d', hl', ho1, rfl⟩, fun e => hx ?_⟩
        have e1 : (s.fr l' d').toNat = (s.fr (l + 1) d).toNat := (Prod.mk.inj e).1
        have := h.ok.frb ho1
        exact h.ok.inj _ _ _ _ hl' hl ho1 ho (by omega)
      · exact ⟨.inr hy, fun e => h.ap _ _ hl ho (e ▸ hy)⟩
  · intro l' d' hl' ho'
    obtain ⟨ho1, hx⟩ := (hon l' d').1 ho'
    rw [hfr l' d' hx]
    exact h.ap l' d' hl' ho1
  · refine SameW.trans (b := m.scrub (s.fr (l + 1) d) 1) ?_ (SameW.put hok2 hmo2 (fun x hx => by rw [Mem.scrub_n]; exact h.ylt hx) (fun x hx l d => h.y_fr hx) (by omega) hou hp _ rfl)
    intro x hx p' hp'
    have := h.ylt hx
    rw [m.word_scrub h.mo _ _ _ hex (by rw [Mem.slot_iff]; omega), if_neg (fun e => h.y_fr hx hl ho e.symm)]
end Go.Proofs.YtfdnfllefednjaaDoor

/-
  Package tables, in plain numbers: Unmap whole, New, Close.
-/
namespace Go.Proofs.YtfdnfllefednjaaDoor

theorem unFree_yes {f : Int} {s : Mem × Bud} (h : ((f.toNat, 0) : Nat × Nat) ∈ s.2.gave) (h0 : 0 ≤ f) : unFree f s = (s.1.scrub f 1, s.2.take (f.toNat, 0)) := by
  unfold unFree; rw [if_pos ⟨h, h0⟩]
theorem unFold_one (root : Int) (F P : Nat → Int) (s : Mem × Bud) (k : Nat) : unFold root F P s [k] = (unStep root F P s k, unBrk root F P s k) := by
  simp [unFold]
theorem prefix3 {pre : List Nat} (h : pre <+: back3) : pre = [] ∨ pre = [2] ∨ pre = [2, 1] ∨ pre = [2, 1, 0] := by
  obtain ⟨t, ht⟩ := h
  unfold back3 at ht
  match pre, ht with
  | [], _ => exact .inl rfl
  | [a], e => simp at e; obtain ⟨rfl, _⟩ := e; exact .inr (.inl rfl)
  | [a, b], e => simp at e; obtain ⟨rfl, rfl, _⟩ := e; exact .inr (.inr (.inl rfl))
  | [a, b, c], e => simp at e; obtain ⟨rfl, rfl, rfl, _⟩ := e; exact .inr (.inr (.inr rfl))
  | a :: b :: c :: d :: r, e => simp at e
theorem not_all {P : Nat → Bool} (h : ¬ ∀ p, p < 16 → P p = false) : ∃ p, p < 16 ∧ P p = true := by
  by_cases hx : ∃ p, p < 16 ∧ P p = true
  · exact hx
  · exact absurd (fun p hp => by
      cases hv : P p
      · rfl
      · exact absurd ⟨p, hp, hv⟩ hx) h
set_option maxHeartbeats 400000 in
theorem SpInv.unmap {s : Sp} {m : Mem} {b : Bud} {Y : Nat × Nat → Prop} (h : SpInv s m b Y) {q : Int} (hx : m.wX s.root q = 0) {pre : List Nat} (hp : pre <+: back3)
    (hend : pre = back3 ∨ (unFold s.root (m.wF s.root q) (fun k => idxI q k) (m, b) pre).2 = true) (hgo : (unFold s.root (m.wF s.root q) (fun k => idxI q k) (m, b) pre.dropLast).2 = false) {m' : Mem} {b' : Bud} (hr : (unFold s.root (m.wF s.root q) (fun k => idxI q k) (m, b) pre).1 = (m', b')) :
    ∃ qn : Nat, q = qn ∧ qn < 4096 ∧ (s.E 3 qn).v = true ∧ m.wE s.root q = s.E 3 qn ∧ m'.n = m.n ∧ m'.B = m.B ∧ b'.n = b.n ∧ b'.res = b.res ∧ SameW Y m m' ∧
      ∃ s', SpInv s' m' b' Y ∧ s'.root = s.root ∧ (∀ q', s'.E 3 q' = if q' = qn then En.zero else s.E 3 q') ∧ ∀ l d, l ≤ 2 → s'.E l d = s.E l d ∨ s'.E l d = En.zero := by
  obtain ⟨qn, rfl, hq, hv, hE, hF, hon⟩ := h.found hx
  refine ⟨qn, rfl, hq, hv, hE, ?_⟩
  obtain ⟨F, hFe⟩ : ∃ F, m.wF s.root qn = F := ⟨_, rfl⟩
  rw [hFe] at hend hgo hr hF
  obtain ⟨P, hPe⟩ : ∃ P : Nat → Int, (fun k : Nat => idxI (qn : Nat) k) = P := ⟨_, rfl⟩
  rw [hPe] at hend hgo hr
  have hP : ∀ k, k < 3 → P k = ((nd qn (k + 1) % 16 : Nat) : Int) := fun k hk => by rw [← hPe]; exact idx_nat qn k hq hk
  clear hFe hPe
  -- the page goes
  have ho2 := hon 2 (by omega)
  have h33 : nd qn (2 + 1) = qn := nd3 qn
  have hp3 : qn % 16 < 16 := Nat.mod_lt _ (by decide)
  have hst := nd_step qn 2 (by omega)
  rw [h33] at hst
  have e2 : unPut F P m 2 = m.put (s.fr 2 (nd qn 2)) ((qn % 16 : Nat) : Int) En.zero := by
    unfold unPut
    rw [hF 2 (by omega), hP 2 (by omega), h33]
  have hok1 := h.ok.drop (l := 2) (d := qn) (fun h2 => by omega)
  have hin1 := h.i.set h.ok h.mo (l := 2) (by omega) ho2 hp3 En.zero rfl (fun h2 => by omega)
  rw [hst, ← e2] at hin1
  have hsw1 : SameW Y m (unPut F P m 2) := by rw [e2]; exact SameW.put h.ok h.mo (fun x hx => h.ylt hx) (fun x hx l d => h.y_fr hx) (by omega) ho2 hp3 _ rfl
  obtain ⟨s1, hs1⟩ : ∃ s1, s.set 3 qn En.zero = s1 := ⟨_, rfl⟩
  have on1 : ∀ l d, l ≤ 2 → s1.on l d = s.on l d := fun l d hl => by rw [← hs1]; exact s.set_on _ (by omega)
  have fr1 : ∀ l d, l ≤ 2 → s1.fr l d = s.fr l d := fun l d hl => by rw [← hs1]; exact s.set_fr _ (by omega)
  have E1 : ∀ q', s1.E 3 q' = if q' = qn then En.zero else s.E 3 q' := by
    intro q'
    rw [← hs1]
    by_cases e : q' = qn
    · rw [if_pos e, e, Sp.set_same]
    · rw [if_neg e, s.set_ne _ (by omega)]
  have rt1 : s1.root = s.root := by rw [← hs1]; rfl
  have A1 : ∀ l d, l ≤ 2 → s1.E l d = s.E l d ∨ s1.E l d = En.zero := fun l d hl => .inl (by rw [← hs1, s.set_ne _ (by omega)])
  rw [hs1] at hok1 hin1
  have half2 : SpHalf s1 (unPut F P m 2) b Y (2, nd qn 2) := by
    refine ⟨by rw [e2, Mem.put_n]; exact hok1, hin1, ?_, by rw [e2]; exact Mem.put_ok _ h.mo _ _ _, by rw [e2]; exact Mem.put_good _ h.mo h.hg _ _ _, h.bk, by rw [e2, Mem.put_n]; exact h.bn, h.y0, ?_, ?_⟩
    · intro l d h1 h2 hne ho
      rw [on1 l d h2] at ho
      obtain ⟨p, hp', hc⟩ := h.nee l d h1 h2 ho
      refine ⟨p, hp', ?_⟩
      by_cases e : l = 2
      · subst e
        rw [E1, if_neg]
        · exact hc
        · intro e'
          refine hne ?_
          rw [show d = nd qn 2 from by rw [nd2]; omega]
      · rw [← hs1, s.set_ne _ (by omega)]; exact hc
    · intro x
      rw [h.gv]
      constructor
      · rintro (⟨l, d, hl, ho, rfl⟩ | hy)
        · exact .inl ⟨l, d, hl, by rw [on1 l d hl]; exact ho, by rw [fr1 l d hl]⟩
        · exact .inr hy
      · rintro (⟨l, d, hl, ho, rfl⟩ | hy)
        · exact .inl ⟨l, d, hl, by rw [← on1 l d hl]; exact ho, by rw [fr1 l d hl]⟩
        · exact .inr hy
    · intro l d hl ho
      rw [on1 l d hl] at ho
      rw [fr1 l d hl]
      exact h.ap l d hl ho
  have o12 : s1.on 2 (nd qn 2) = true := by rw [on1 _ _ (by omega)]; exact ho2
  have f12 : F 2 = s1.fr 2 (nd qn 2) := by rw [hF 2 (by omega), fr1 _ _ (by omega)]
  have n2 : ¬ F 2 = s.root := fun e => by
    have := (h.ok.inj 2 (nd qn 2) 0 0 (by omega) (by omega) ho2 rfl (by rw [← hF 2 (by omega), e, s.fr0])).1
    omega
  have b2 : unBrk s.root F P (m, b) 2 = !(unPut F P m 2).zero (s1.fr 2 (nd qn 2)) := by unfold unBrk; rw [← f12]; simp [n2]
  have hnB2 : (unPut F P m 2).n = m.n ∧ (unPut F P m 2).B = m.B := by rw [e2]; exact ⟨Mem.put_n _ _ _ _, Mem.put_B _ _ _ _⟩
  rcases prefix3 hp with rfl | rfl | rfl | rfl
  · rcases hend with e | e
    · cases e
    · cases e
  · -- the table of level 2 stays
    rw [unFold_one] at hend hr
    have hb : unBrk s.root F P (m, b) 2 = true := by
      rcases hend with e | e
      · cases e
      · exact e
    have hr2 : unStep s.root F P (m, b) 2 = (m', b') := hr
    unfold unStep at hr2
    rw [if_pos hb] at hr2
    obtain ⟨rfl, rfl⟩ := Prod.mk.inj hr2
    rw [b2] at hb
    refine ⟨hnB2.1, hnB2.2, rfl, rfl, hsw1, s1, half2.full (.inr ?_), rt1, E1, A1⟩
    refine not_all (fun hall => ?_)
    rw [(half2.blank (by omega) o12).2 hall] at hb
    cases hb
  all_goals
    have hb2 : unBrk s.root F P (m, b) 2 = false := by
      first
        | (rw [show ([2, 1] : List Nat).dropLast = [2] from rfl, unFold_one] at hgo; exact hgo)
        | (rw [show ([2, 1, 0] : List Nat).dropLast = [2] ++ [1] from rfl, unFold_snoc, unFold_one] at hgo
           cases hx2 : unBrk s.root F P (m, b) 2
           · rfl
           · rw [hx2] at hgo; cases hgo)
    have hz2 : (unPut F P m 2).zero (s1.fr 2 (nd qn 2)) = true := by
      rw [b2] at hb2
      simpa using hb2
    have hc2 := (half2.blank (by omega) o12).1 hz2
    have hT := half2.dropT (l := 1) (by omega) o12 hc2
    have hnd : nd qn 2 / 16 = nd qn 1 := nd_up qn 1 (by omega)
    rw [hnd] at hT
    have hfree : unStep s.root F P (m, b) 2 = ((unPut F P m 2).scrub (s1.fr 2 (nd qn 2)) 1, b.take ((s1.fr 2 (nd qn 2)).toNat, 0)) := by
      unfold unStep
      rw [if_neg (by rw [hb2]; decide), f12]
      exact unFree_yes (s := (unPut F P m 2, b)) ((half2.gv _).2 (.inl ⟨2, _, by omega, o12, rfl⟩)) (half2.ok.frb o12).1
    have e1 : unPut F P ((unPut F P m 2).scrub (s1.fr 2 (nd qn 2)) 1) 1 = ((unPut F P m 2).scrub (s1.fr 2 (nd qn 2)) 1).put (s1.fr 1 (nd qn 1)) ((nd qn 2 % 16 : Nat) : Int) En.zero := by
      unfold unPut
      rw [hF 1 (by omega), hP 1 (by omega), fr1 1 _ (by omega)]
    have f11 : F 1 = s1.fr 1 (nd qn 1) := by rw [hF 1 (by omega), fr1 _ _ (by omega)]
    obtain ⟨st2, hst2⟩ : ∃ st2, st2 = ((unPut F P m 2).scrub (s1.fr 2 (nd qn 2)) 1, b.take ((s1.fr 2 (nd qn 2)).toNat, 0)) := ⟨_, rfl⟩
    rw [← hst2] at hfree
    have e1' : unPut F P st2.1 1 = ((unPut F P m 2).scrub (s1.fr 2 (nd qn 2)) 1).put (s1.fr 1 (nd qn 1)) ((nd qn 2 % 16 : Nat) : Int) En.zero := by rw [hst2]; exact e1
    rw [← e1'] at hT
    obtain ⟨s2, hs2⟩ : ∃ s2, s1.set 2 (nd qn 2) En.zero = s2 := ⟨_, rfl⟩
    have half1 : SpHalf s2 (unPut F P st2.1 1) st2.2 Y (1, nd qn 1) := by
      have := hT.1
      rw [show s1.set (1 + 1) (nd qn 2) En.zero = s2 from hs2] at this
      rw [hst2] at this ⊢
      exact this
    have hsw2 : SameW Y m (unPut F P st2.1 1) := hsw1.trans hT.2
    have E2 : ∀ q', s2.E 3 q' = if q' = qn then En.zero else s.E 3 q' := fun q' => by rw [← hs2, s1.set_ne _ (by omega)]; exact E1 q'
    have rt2 : s2.root = s.root := by rw [← hs2]; exact rt1
    have A2 : ∀ l d, l ≤ 2 → s2.E l d = s.E l d ∨ s2.E l d = En.zero := fun l d hl => by
      rw [← hs2]
      by_cases e : l = 2 ∧ d = nd qn 2
      · rw [e.1, e.2, Sp.set_same]; exact .inr rfl
      · rw [s1.set_ne _ e]; exact A1 l d hl
    have o21 : s2.on 1 (nd qn 1) = true := by rw [← hs2, s1.set_on _ (by omega), on1 _ _ (by omega)]; exact hon 1 (by omega)
    have f21 : F 1 = s2.fr 1 (nd qn 1) := by rw [f11, ← hs2, s1.set_fr _ (by omega)]
    have n1 : ¬ F 1 = s.root := fun e => by
      have := (h.ok.inj 1 (nd qn 1) 0 0 (by omega) (by omega) (hon 1 (by omega)) rfl (by rw [← hF 1 (by omega), e, s.fr0])).1
      omega
    have b1 : unBrk s.root F P st2 1 = !(unPut F P st2.1 1).zero (s2.fr 1 (nd qn 1)) := by unfold unBrk; rw [← f21]; simp [n1]
    have hnB1 : (unPut F P st2.1 1).n = m.n ∧ (unPut F P st2.1 1).B = m.B := by
      rw [e1', Mem.put_n, Mem.put_B, Mem.scrub_n, Mem.scrub_B]; exact hnB2
    have hbb : st2.2.n = b.n ∧ st2.2.res = b.res := by rw [hst2]; exact ⟨rfl, rfl⟩
  · -- the table of level 1 stays
    rw [show ([2, 1] : List Nat) = [2] ++ [1] from rfl, unFold_snoc, unFold_one, hfree] at hend hr
    dsimp only at hend hr
    have hb : unBrk s.root F P st2 1 = true := by
      rcases hend with e | e
      · cases e
      · rw [hb2, Bool.false_or] at e; exact e
    unfold unStep at hr
    rw [if_pos hb] at hr
    obtain ⟨rfl, rfl⟩ := Prod.mk.inj hr
    rw [b1] at hb
    refine ⟨hnB1.1, hnB1.2, hbb.1, hbb.2, hsw2, s2, half1.full (.inr ?_), rt2, E2, A2⟩
    refine not_all (fun hall => ?_)
    rw [(half1.blank (by omega) o21).2 hall] at hb
    cases hb
  · -- both go
    have hb1 : unBrk s.root F P st2 1 = false := by
      rw [show ([2, 1, 0] : List Nat).dropLast = [2] ++ [1] from rfl, unFold_snoc, unFold_one, hfree, hb2, Bool.false_or] at hgo
      exact hgo
    have hz1 : (unPut F P st2.1 1).zero (s2.fr 1 (nd qn 1)) = true := by
      rw [b1] at hb1
      simpa using hb1
    have hc1 := (half1.blank (by omega) o21).1 hz1
    have hT1 := half1.dropT (l := 0) (by omega) o21 hc1
    have hnd0 : nd qn 1 / 16 = 0 := by rw [nd1]; omega
    rw [hnd0] at hT1
    have hfree1 : unStep s.root F P st2 1 = ((unPut F P st2.1 1).scrub (s2.fr 1 (nd qn 1)) 1, st2.2.take ((s2.fr 1 (nd qn 1)).toNat, 0)) := by
      unfold unStep
      rw [if_neg (by rw [hb1]; decide), f21]
      exact unFree_yes (s := (unPut F P st2.1 1, st2.2)) ((half1.gv _).2 (.inl ⟨1, _, by omega, o21, rfl⟩)) (half1.ok.frb o21).1
    obtain ⟨st1, hst1⟩ : ∃ st1, st1 = ((unPut F P st2.1 1).scrub (s2.fr 1 (nd qn 1)) 1, st2.2.take ((s2.fr 1 (nd qn 1)).toNat, 0)) := ⟨_, rfl⟩
    rw [← hst1] at hfree1
    have f0 : F 0 = s.root := by rw [hF 0 (by omega)]; rfl
    have e0 : unPut F P st1.1 0 = ((unPut F P st2.1 1).scrub (s2.fr 1 (nd qn 1)) 1).put (s2.fr 0 0) ((nd qn 1 % 16 : Nat) : Int) En.zero := by
      show st1.1.put (F 0) (P 0) En.zero = _
      rw [f0, hP 0 (by omega), s2.fr0, rt2, hst1]
    rw [← e0] at hT1
    have hb0 : unBrk s.root F P st1 0 = true := by unfold unBrk; rw [f0]; simp
    rw [show ([2, 1, 0] : List Nat) = ([2] ++ [1]) ++ [0] from rfl, unFold_snoc, unFold_snoc, unFold_one, hfree] at hr
    dsimp only at hr
    rw [hfree1] at hr
    unfold unStep at hr
    rw [if_pos hb0] at hr
    obtain ⟨rfl, rfl⟩ := Prod.mk.inj hr
    have half0 : SpHalf (s2.set 1 (nd qn 1) En.zero) (unPut F P st1.1 0) st1.2 Y (0, 0) := by
      have := hT1.1
      rw [hst1] at this ⊢
      exact this
    refine ⟨by rw [e0, Mem.put_n, Mem.scrub_n]; exact hnB1.1, by rw [e0, Mem.put_B, Mem.scrub_B]; exact hnB1.2, by rw [hst1]; exact hbb.1, by rw [hst1]; exact hbb.2, hsw2.trans hT1.2, _, half0.full (.inl rfl), rt2, fun q' => by rw [s2.set_ne _ (by omega)]; exact E2 q', fun l d hl => ?_⟩
    by_cases e : l = 1 ∧ d = nd qn 1
    · rw [e.1, e.2, Sp.set_same]; exact .inr rfl
    · rw [s2.set_ne _ e]; exact A2 l d hl

/-! New -/
theorem SpInv.new {m : Mem} {b : Bud} (hm : m.ok) (hg : m.good) (hb : b.Ok) (hn : m.n = b.n) (hl : 1 ≤ b.left) {Y : Nat × Nat → Prop} (hY : ∀ x, x ∈ b.gave ↔ Y x) (y0 : ∀ x, Y x → x.2 = 0) :
    SpInv ⟨((b.al 1).1.getD 0 0 : Nat), fun _ _ => En.zero⟩ (m.clears (b.al 1).1) (b.al 1).2 Y ∧ SameW Y m (m.clears (b.al 1).1) := by
  have ha := al_ok hb 1 hl
  obtain ⟨r, hr⟩ : ∃ r, (b.al 1).1 = [r] := List.length_eq_one_iff.1 ha.len
  rw [hr] at ha ⊢
  have hrn := ha.fr r (by simp)
  have hcl : ∀ f p : Nat, f < m.n → p < 16 → (m.clears [r]).word (f : Nat) (p : Nat) = if f ∈ [r] then 0 else m.word (f : Nat) (p : Nat) := fun f p hf hp => m.clears_word hm [r] (fun g hg => by simp at hg; omega) f p hf hp
  have hfree : ((r, 0) : Nat × Nat) ∉ b.gave := fun hmm => by
    have := ((hb.fr r).1 hrn.2).2.2 _ hmm
    rw [inBlk_no] at this
    exact this ⟨Nat.le_refl _, by simp⟩
  have hon : ∀ l d, (Sp.mk ((([r] : List Nat).getD 0 0 : Nat)) fun _ _ => En.zero).on l d = true → l = 0 ∧ d = 0 := by
    intro l d h
    cases l with
    | zero => exact ⟨rfl, by simpa [Sp.on] using h⟩
    | succ l => rw [Sp.onS] at h; cases h
  refine ⟨⟨⟨?_, ?_, fun _ _ _ => rfl, ?_, ?_, ?_, ?_, ?_⟩, ?_, ?_, m.clears_ok hm _, m.clears_good hm hg _, ha.ok, by rw [Mem.clears_n, ha.n]; exact hn, y0, ?_, ?_⟩, ?_⟩
  · show (0 : Int) ≤ (r : Nat); omega
  · show ((r : Nat) : Int) < (m.clears [r]).n; rw [Mem.clears_n]; omega
  · intro l d hv; cases hv
  · intro l d hv; cases hv
  · intro d hv; cases hv
  · intro l d hv; cases hv
  · intro l d l' d' _ _ h1 h2 _
    obtain ⟨rfl, rfl⟩ := hon l d h1
    obtain ⟨rfl, rfl⟩ := hon l' d' h2
    exact ⟨rfl, rfl⟩
  · intro l d p hl ho hp
    obtain ⟨rfl, rfl⟩ := hon l d ho
    show (m.clears [r]).word ((r : Nat) : Int) p = 0
    rw [hcl r p (by omega) hp, if_pos (by simp)]
  · intro l d h1 h2 ho
    have := (hon l d ho).1
    omega
  · intro x
    rw [ha.gave, List.mem_append, hY]
    constructor
    · rintro (hy | hx)
      · exact .inr hy
      · simp at hx
        exact .inl ⟨0, 0, by omega, rfl, by rw [hx]; rfl⟩
    · rintro (⟨l, d, _, ho, rfl⟩ | hy)
      · obtain ⟨rfl, rfl⟩ := hon l d ho
        right
        simp [Sp.fr]
      · exact .inl hy
  · intro l d _ ho
    obtain ⟨rfl, rfl⟩ := hon l d ho
    intro hy
    exact hfree ((hY _).2 hy)
  · intro x hx p hp
    have h1 := hb.blk x ((hY x).2 hx)
    have h2 := y0 x hx
    rw [h2] at h1
    rw [hcl x.1 p (by omega) hp, if_neg]
    intro e
    simp at e
    exact hfree ((hY _).2 (by rw [← e, show ((x.1, 0) : Nat × Nat) = x from by rw [← h2]]; exact hx))
/-! Close -/
structure Freed (m : Mem) (b : Bud) (Y : Nat × Nat → Prop) (m' : Mem) (b' : Bud) : Prop where
  mo : m'.ok
  hg : m'.good
  bk : b'.Ok
  n : m'.n = m.n
  B : m'.B = m.B
  bn : b'.n = b.n
  res : b'.res = b.res
  w : SameW Y m m'
theorem frees_ok {m : Mem} {b : Bud} {Y : Nat × Nat → Prop} (hm : m.ok) (hg : m.good) (hb : b.Ok) (hn : m.n = b.n) (hY : ∀ x, Y x → x ∈ b.gave ∧ x.2 = 0) : ∀ (L : List Int), L.Nodup → (∀ f, f ∈ L → 0 ≤ f ∧ ((f.toNat, 0) : Nat × Nat) ∈ b.gave ∧ ¬ Y (f.toNat, 0)) →
    Freed m b Y (frees (m, b) L).1 (frees (m, b) L).2 ∧ ∀ x, x ∈ (frees (m, b) L).2.gave ↔ x ∈ b.gave ∧ ∀ f, f ∈ L → x ≠ (f.toNat, 0) := by
  intro L
  induction L using snoc_induction with
  | h0 => exact fun _ _ => ⟨⟨hm, hg, hb, rfl, rfl, rfl, rfl, SameW.refl _ _⟩, fun x => by simp [frees]⟩
  | h1 L f ih =>
    intro hnd hall
    rw [List.nodup_append] at hnd
    obtain ⟨F, hG⟩ := ih hnd.1 (fun g hg => hall g (by simp [hg]))
    obtain ⟨h0, h1, h2⟩ := hall f (by simp)
    have hin : ((f.toNat, 0) : Nat × Nat) ∈ (frees (m, b) L).2.gave := (hG _).2 ⟨h1, fun g hg e => by
      have := (hall g (by simp [hg])).1
      have e1 : f.toNat = g.toNat := (Prod.mk.inj e).1
      exact hnd.2.2 g hg f (by simp) (by omega)⟩
    have hex : (frees (m, b) L).1.ex f 1 = true := by
      have := hb.blk _ h1
      refine decide_eq_true ?_
      have := F.n
      simp at *
      omega
    rw [frees_snoc, unFree_yes hin h0]
    refine ⟨⟨Mem.ok_scrub _ F.mo _ _, Mem.scrub_good _ F.mo F.hg _, F.bk.take hin, by rw [Mem.scrub_n]; exact F.n, by rw [Mem.scrub_B]; exact F.B, F.bn, F.res, F.w.trans ?_⟩, ?_⟩
    · intro x hx p hp
      have hx1 := hb.blk _ (hY x hx).1
      rw [(hY x hx).2] at hx1
      rw [Mem.word_scrub _ F.mo _ _ _ hex (by rw [Mem.slot_iff, F.n]; omega), if_neg]
      intro e
      refine h2 ?_
      rw [← e, Int.toNat_natCast, ← (hY x hx).2]
      exact hx
    · intro x
      show x ∈ (frees (m, b) L).2.gave.erase _ ↔ _
      rw [mem_erase_iff F.bk.nodup, hG]
      constructor
      · rintro ⟨⟨a1, a2⟩, a3⟩
        exact ⟨a1, fun g hg => by rcases List.mem_append.1 hg with hg | hg; exact a2 g hg; simp at hg; subst hg; exact a3⟩
      · rintro ⟨a1, a2⟩
        exact ⟨⟨a1, fun g hg => a2 g (by simp [hg])⟩, a2 f (by simp)⟩
theorem SpInv.close {s : Sp} {m : Mem} {b : Bud} {Y : Nat × Nat → Prop} (h : SpInv s m b Y) :
    Freed m b Y (frees (m, b) (s.tabs.mergeSort leI)).1 (frees (m, b) (s.tabs.mergeSort leI)).2 ∧ ∀ x, x ∈ (frees (m, b) (s.tabs.mergeSort leI)).2.gave ↔ Y x := by
  have hp := List.mergeSort_perm s.tabs leI
  have hmem : ∀ f, f ∈ s.tabs.mergeSort leI ↔ ∃ l d, l ≤ 2 ∧ s.on l d = true ∧ f = s.fr l d := fun f => by rw [hp.mem_iff]; exact h.ok.mem_tabs
  obtain ⟨F, hG⟩ := frees_ok (Y := Y) h.mo h.hg h.bk h.bn (fun x hx => ⟨(h.gv x).2 (.inr hx), h.y0 x hx⟩) (s.tabs.mergeSort leI) (hp.nodup_iff.2 h.ok.tabs_nodup) (fun f hf => by
    obtain ⟨l, d, hl, ho, rfl⟩ := (hmem f).1 hf
    exact ⟨(h.ok.frb ho).1, h.has hl ho, h.ap l d hl ho⟩)
  refine ⟨F, fun x => ?_⟩
  rw [hG, h.gv]
  constructor
  · rintro ⟨⟨l, d, hl, ho, rfl⟩ | hy, hne⟩
    · exact absurd rfl (hne _ ((hmem _).2 ⟨l, d, hl, ho, rfl⟩))
    · exact hy
  · intro hy
    refine ⟨.inr hy, fun f hf e => ?_⟩
    obtain ⟨l, d, hl, ho, rfl⟩ := (hmem f).1 hf
    exact h.ap l d hl ho (e ▸ hy)
theorem SpInv.tabs_len {s : Sp} {m : Mem} {b : Bud} (h : SpInv s m b (fun _ => False)) : b.gave.length = s.tabs.length := by
  have hp : b.gave.Perm (s.tabs.map fun f => ((f.toNat, 0) : Nat × Nat)) := by
    refine (List.perm_ext_iff_of_nodup h.bk.nodup ?_).2 ?_
    · have := h.ok.tabs_nodup
      rw [List.nodup_iff_pairwise_ne] at this ⊢
      rw [List.pairwise_map]
      refine this.imp_of_mem ?_
      intro a c ha hc hne e
      have e1 : a.toNat = c.toNat := (Prod.mk.inj e).1
      obtain ⟨l, d, hl, ho, rfl⟩ := h.ok.mem_tabs.1 ha
      obtain ⟨l', d', hl', ho', rfl⟩ := h.ok.mem_tabs.1 hc
      have := h.ok.frb ho
      have := h.ok.frb ho'
      exact hne (by omega)
    · intro x
      rw [h.gv, List.mem_map]
      constructor
      · rintro (⟨l, d, hl, ho, rfl⟩ | hy)
        · exact ⟨_, h.ok.mem_tabs.2 ⟨l, d, hl, ho, rfl⟩, rfl⟩
        · exact hy.elim
      · rintro ⟨f, hf, rfl⟩
        obtain ⟨l, d, hl, ho, rfl⟩ := h.ok.mem_tabs.1 hf
        exact .inl ⟨l, d, hl, ho, rfl⟩
  rw [hp.length_eq, List.length_map]
theorem SpInv.left_len {s : Sp} {m : Mem} {b : Bud} (h : SpInv s m b (fun _ => False)) : b.left + s.tabs.length + b.res = m.n := by
  have := Go.Proofs.YtfdnfllefednjaaDoor.left_len _ (b := b) rfl h.bk (fun x hx => h.zero hx)
  rw [h.tabs_len] at this
  rw [h.bn]; exact this
end Go.Proofs.YtfdnfllefednjaaDoor

/-
  Package tables: contracts over whole spaces.
-/
namespace Go.Proofs.YtfdnfllefednjaaDoor
open Go.ChangeShapes Go.WideShapes Go.ChangeAt Go.RowKit Go.Shelf Go.Sort

/-- a whole space, its memory and its allocator, by their places -/
structure Spc (w : World) (S MA A GB MB : Nat) (s : Sp) (m : Mem) (b : Bud) (Y : Nat × Nat → Prop) : Prop where
  S : SpAt w S MA A s.root
  D : Duo w A MA GB m b
  T : Tab w
  I : SpInv s m b Y
  B : m.B = MB
theorem Spc.kept {U : Nat → Prop} {w w' : World} {S MA A GB MB : Nat} {s : Sp} {m : Mem} {b : Bud} {Y : Nat × Nat → Prop} (h : Spc w S MA A GB MB s m b Y) (u : Upd U w w') (h1 : ¬ U S) (h2 : ¬ U A) (h3 : ¬ U GB) (h4 : ¬ U MA) (h5 : ¬ U MB) (h6 : ¬ U 0) : Spc w' S MA A GB MB s m b Y :=
  ⟨h.S.kept u h1, h.D.kept u h2 h3 h4 (by rw [h.B]; exact h5), h.T.keptS u h6, h.I, h.B⟩
theorem Spc.still {w w' : World} {S MA A GB MB : Nat} {s : Sp} {m : Mem} {b : Bud} {Y : Nat × Nat → Prop} (h : Spc w S MA A GB MB s m b Y) (u : Upd (fun _ => False) w w') : Spc w' S MA A GB MB s m b Y :=
  h.kept u id id id id id id
theorem Spc.tab {w : World} {S MA A GB MB : Nat} {s : Sp} {m : Mem} {b : Bud} {Y : Nat × Nat → Prop} (h : Spc w S MA A GB MB s m b Y) : ¬ (0 = GB ∨ 0 = MB) := by
  rintro (e | e)
  · exact h.T.apartG h.D.B e
  · exact h.T.apart h.D.M (e.trans h.B.symm)
theorem Spc.own {w : World} {S MA A GB MB : Nat} {s : Sp} {m : Mem} {b : Bud} {Y : Nat × Nat → Prop} (h : Spc w S MA A GB MB s m b Y) : ¬ (S = GB ∨ S = MB) := by rw [← h.B]; exact h.S.apart h.D
theorem Spc.lts {w : World} {S MA A GB MB : Nat} {s : Sp} {m : Mem} {b : Bud} {Y : Nat × Nat → Prop} (h : Spc w S MA A GB MB s m b Y) : S < w.heap.size ∧ A < w.heap.size ∧ MA < w.heap.size ∧ GB < w.heap.size ∧ MB < w.heap.size :=
  ⟨lt_of_heap h.S, h.D.B.lts.1, lt_of_heap h.D.M.head, h.D.B.lts.2, by rw [← h.B]; exact lt_of_heap h.D.M.body⟩
theorem frame_wf {f : Int} {n : Nat} (hn : n ≤ 256) (h : 0 ≤ f ∧ f < n) : (Lit.int .i64 f).wf = true := by
  obtain ⟨j, rfl⟩ := Int.eq_ofNat_of_zero_le h.1
  exact wf_frame (by omega)

/-- what Map answers -/
def Sp.mapX (s : Sp) (m : Mem) (b : Bud) (q f : Int) : Int :=
  if ¬ (0 ≤ q ∧ q ≤ 4095) ∨ m.ex f 1 = false then 1 else if (s.E 3 q.toNat).v = true then 4 else if b.left < 3 - s.dep q.toNat then 6 else 0
theorem SpInv.mapX {s : Sp} {m : Mem} {b : Bud} {Y : Nat × Nat → Prop} (h : SpInv s m b Y) {q f : Int} {wb : Bool} {x : Int} {m' : Mem} {b' : Bud} (hM : MapTo m b s.root q f wb x m' b') : x = s.mapX m b q f := by
  have hw := h.wX q
  have hN : 0 ≤ q ∧ q ≤ 4095 → m.wN s.root q = s.dep q.toNat := fun hq => by
    obtain ⟨j, rfl⟩ := Int.eq_ofNat_of_zero_le hq.1
    rw [Int.toNat_natCast]
    exact (Sp.walk h.i h.ok h.hn (by omega)).1
  unfold Sp.mapX
  have h2 := h.map hM
  cases hM with
  | arg h1 => rw [if_pos (.inr h1)]
  | twice h1 hx =>
    rw [hx] at hw
    split at hw
    · rename_i hq
      split at hw
      · rename_i hv
        rw [if_neg (by rw [h1]; simp; omega), if_pos hv]
      · cases hw
    · cases hw
  | walk h1 h0 hx =>
    split at hw
    · split at hw
      · exact absurd hw h0
      · exact absurd hw hx
    · rename_i hq
      rw [if_pos (.inl hq), hw]
  | mem h1 hx hl =>
    rw [hx] at hw
    split at hw
    · rename_i hq
      split at hw
      · cases hw
      · rename_i hv
        rw [hN hq] at hl
        rw [if_neg (by rw [h1]; simp; omega), if_neg hv, if_pos hl]
    · cases hw
  | yes h1 hx k hk hl n0 hn L hL =>
    rcases h2 with ⟨hne, _, _, h3⟩ | ⟨h0, qn, rfl, hq, _, hv, hl', _⟩
    · exfalso
      rcases h3 with h3 | h3 | h3
      · rw [h1] at h3; cases h3
      · exact h3 hx
      · omega
    · rw [h0, if_neg (by rw [h1]; simp; omega), Int.toNat_natCast, if_neg (by rw [hv]; decide), if_neg (by omega)]

/-- what becomes of a space by Map -/
structure MapR (s : Sp) (m : Mem) (b : Bud) (Y : Nat × Nat → Prop) (q f : Int) (wb : Bool) (x : Int) (s' : Sp) (m' : Mem) (b' : Bud) : Prop where
  xe : x = s.mapX m b q f
  n : m'.n = m.n
  res : b'.res = b.res
  w : SameW Y m m'
  r : (x ≠ 0 ∧ s' = s ∧ m' = m ∧ b' = b) ∨ (x = 0 ∧ ∃ qn : Nat, q = qn ∧ qn < 4096 ∧ (0 ≤ f ∧ f < m.n) ∧ (s.E 3 qn).v = false ∧ 3 - s.dep qn ≤ b.left ∧ b' = (b.al (3 - s.dep qn)).2 ∧ s'.root = s.root ∧ ∀ q', s'.E 3 q' = if q' = qn then ⟨true, wb, false, f⟩ else s.E 3 q')
  e : x = 0 → ∀ qn : Nat, q = qn → ∀ l d, l ≤ 2 → s'.E l d = if s.dep qn ≤ l ∧ d = nd qn l then tbE ((b.al (3 - s.dep qn)).1.getD (l - s.dep qn) 0 : Nat) else s.E l d
theorem spc_map {w : World} {S MA A GB MB : Nat} {s : Sp} {m : Mem} {b : Bud} {Y : Nat × Nat → Prop} (h : Spc w S MA A GB MB s m b Y) (q f : Int) (wb : Bool) (hf : (Lit.int .i64 f).wf = true) :
    Calls Tryd.prog 30 #[.pointer (some ⟨S, 0, none⟩), .int .i64 q, .int .i64 f, .bool wb] w fun e w' =>
      ∃ x s' m' b', e = .returned (.int .i64 x) ∧ Spc w' S MA A GB MB s' m' b' Y ∧ Upd (fun k => k = GB ∨ k = MB) w w' ∧ MapR s m b Y q f wb x s' m' b' := by
  refine (smap_any S MA A GB s.root m b q f wb w h.S h.D h.T h.I.hg hf).mono ?_
  rintro e w' ⟨x, m', b', rfl, hM, d, u⟩
  rw [h.B] at u
  have hx := h.I.mapX hM
  rcases h.I.map hM with ⟨h0, rfl, rfl, _⟩ | ⟨h0, qn, hq, hq', hf', hv, hl, hb, hn, hB, hw, s', hI, hr, hE, hE12⟩
  · exact ⟨x, s, m', b', rfl, ⟨h.S.kept u h.own, d, h.T.keptS u h.tab, h.I, h.B⟩, u, hx, rfl, rfl, SameW.refl _ _, .inl ⟨h0, rfl, rfl, rfl⟩, fun e => absurd e h0⟩
  · exact ⟨x, s', m', b', rfl, ⟨by rw [hr]; exact h.S.kept u h.own, d, h.T.keptS u h.tab, hI, by rw [hB]; exact h.B⟩, u, hx, hn, by rw [hb]; exact (al_ok h.I.bk _ hl).res, hw, .inr ⟨h0, qn, hq, hq', hf', hv, hl, hb, hr, hE⟩, fun _ q2 e2 => by
    have e3 : qn = q2 := by omega
    rw [← e3]
    exact hE12⟩
/-- .. by Unmap -/
structure UnR (s : Sp) (m : Mem) (b : Bud) (Y : Nat × Nat → Prop) (q : Int) (f x : Int) (s' : Sp) (m' : Mem) (b' : Bud) : Prop where
  xe : x = if 0 ≤ q ∧ q ≤ 4095 then (if (s.E 3 q.toNat).v = true then 0 else 10) else 1
  n : m'.n = m.n
  res : b'.res = b.res
  w : SameW Y m m'
  r : (x ≠ 0 ∧ f = 0 ∧ s' = s ∧ m' = m ∧ b' = b) ∨ (x = 0 ∧ ∃ qn : Nat, q = qn ∧ qn < 4096 ∧ (s.E 3 qn).v = true ∧ f = (s.E 3 qn).f ∧ s'.root = s.root ∧ ∀ q', s'.E 3 q' = if q' = qn then En.zero else s.E 3 q')
  e : ∀ l d, l ≤ 2 → s'.E l d = s.E l d ∨ s'.E l d = En.zero
theorem spc_unmap {w : World} {S MA A GB MB : Nat} {s : Sp} {m : Mem} {b : Bud} {Y : Nat × Nat → Prop} (h : Spc w S MA A GB MB s m b Y) (q : Int) :
    Calls Tryd.prog 31 #[.pointer (some ⟨S, 0, none⟩), .int .i64 q] w fun e w' =>
      ∃ f x s' m' b', e = .returned (.tuple #[.int .i64 f, .int .i64 x]) ∧ Spc w' S MA A GB MB s' m' b' Y ∧ Upd (fun k => k = GB ∨ k = MB) w w' ∧ UnR s m b Y q f x s' m' b' := by
  refine (sunmap_any S MA A GB s.root m b q w h.S h.D h.T h.I.hg (frame_wf h.I.hn ⟨h.I.ok.rlo, h.I.ok.rhi⟩)).mono ?_
  have hx := h.I.wX q
  rintro e w' (⟨h0, rfl, u⟩ | ⟨h0, pre, hp, hend, hgo, rfl, d, u⟩)
  · exact ⟨0, _, s, m, b, rfl, h.still u, u.none, hx, rfl, rfl, SameW.refl _ _, .inl ⟨h0, rfl, rfl, rfl, rfl⟩, fun _ _ _ => .inl rfl⟩
  · rw [h.B] at u
    obtain ⟨qn, hq, hq', hv, hE, hn, hB, hbn, hres, hw, s', hI, hr, hE', hE12⟩ := h.I.unmap h0 hp hend hgo rfl
    refine ⟨_, 0, s', _, _, rfl, ⟨by rw [hr]; exact h.S.kept u h.own, d, h.T.keptS u h.tab, hI, by rw [hB]; exact h.B⟩, u, h0.symm.trans hx, hn, hres, hw, .inr ⟨rfl, qn, hq, hq', hv, by rw [hE], hr, hE'⟩, hE12⟩
/-- .. by Protect -/
structure PrR (s : Sp) (m : Mem) (Y : Nat × Nat → Prop) (q : Int) (wb : Bool) (x : Int) (s' : Sp) (m' : Mem) : Prop where
  xe : x = if 0 ≤ q ∧ q ≤ 4095 then (if (s.E 3 q.toNat).v = true then 0 else 10) else 1
  n : m'.n = m.n
  w : SameW Y m m'
  r : (x ≠ 0 ∧ s' = s ∧ m' = m) ∨ (x = 0 ∧ ∃ qn : Nat, q = qn ∧ qn < 4096 ∧ (s.E 3 qn).v = true ∧ s'.root = s.root ∧ ∀ q', s'.E 3 q' = if q' = qn then { s.E 3 qn with r := wb } else s.E 3 q')
theorem spc_protect {w : World} {S MA A GB MB : Nat} {s : Sp} {m : Mem} {b : Bud} {Y : Nat × Nat → Prop} (h : Spc w S MA A GB MB s m b Y) (q : Int) (wb : Bool) :
    Calls Tryd.prog 32 #[.pointer (some ⟨S, 0, none⟩), .int .i64 q, .bool wb] w fun e w' =>
      ∃ x s' m', e = .returned (.int .i64 x) ∧ Spc w' S MA A GB MB s' m' b Y ∧ Upd (fun k => k = GB ∨ k = MB) w w' ∧ PrR s m Y q wb x s' m' := by
  refine (sprotect_any S MA A s.root m q wb w h.S h.D.M h.T h.I.hg).mono ?_
  have hx := h.I.wX q
  rintro e w' (⟨h0, rfl, u⟩ | ⟨h0, rfl, hm, u⟩)
  · exact ⟨_, s, m, rfl, h.still u, u.none, hx, rfl, SameW.refl _ _, .inl ⟨h0, rfl, rfl⟩⟩
  · obtain ⟨qn, hq, hq', hv, hpB, hw, s', hI, hr, hE⟩ := h.I.protect h0 wb
    have d := h.D.cleared hm u (Mem.put_n _ _ _ _)
    have u' : Upd (fun k => k = GB ∨ k = MB) w w' := u.mono (fun _ _ e => .inr (e.trans h.B))
    refine ⟨0, s', _, by rw [hpB]; rfl, ⟨by rw [hr]; exact h.S.kept u' h.own, d, h.T.keptS u' h.tab, hI, by rw [Mem.put_B]; exact h.B⟩, u', h0.symm.trans hx, Mem.put_n _ _ _ _, hw, .inr ⟨rfl, qn, hq, hq', hv, hr, hE⟩⟩
/-- what Find tells -/
def Sp.findE (s : Sp) (q : Int) : En := if 0 ≤ q ∧ q ≤ 4095 then s.E 3 q.toNat else En.zero
def Sp.findX (s : Sp) (q : Int) : Int := if 0 ≤ q ∧ q ≤ 4095 then (if (s.E 3 q.toNat).v = true then 0 else 10) else 1
theorem spc_find {w : World} {S MA A GB MB : Nat} {s : Sp} {m : Mem} {b : Bud} {Y : Nat × Nat → Prop} (h : Spc w S MA A GB MB s m b Y) (q : Int) :
    Calls Tryd.prog 34 #[.pointer (some ⟨S, 0, none⟩), .int .i64 q] w fun e w' => e = .returned (.tuple #[(s.findE q).val, .int .i64 (s.findX q)]) ∧ Upd (fun _ => False) w w' := by
  have := sfind_any S MA A s.root m q w h.S h.D.M h.T h.I.hg
  rw [h.I.wE, h.I.wX] at this
  exact this
theorem spc_walk {w : World} {S MA A GB MB : Nat} {s : Sp} {m : Mem} {b : Bud} {Y : Nat × Nat → Prop} (h : Spc w S MA A GB MB s m b Y) (q : Int) :
    Calls Tryd.prog 65 #[.pointer (some ⟨MA, 0, none⟩), .int .i64 s.root, .int .i64 q] w fun e w' => ∃ o n cap, e = .returned (.tuple #[(s.findE q).val, .slice o n cap, .int .i64 (s.findX q)]) ∧ Upd (fun _ => False) w w' := by
  refine (walk_row (root := s.root) (q := q) w.heap.size (Nat.le_refl _) h.D.M h.T h.I.hg).mono ?_
  rintro e w' ⟨o, cap, rfl, _, u⟩
  rw [h.I.wE, h.I.wX]
  exact ⟨o, _, cap, rfl, u⟩
theorem spc_root {w : World} {S MA A GB MB : Nat} {s : Sp} {m : Mem} {b : Bud} {Y : Nat × Nat → Prop} (h : Spc w S MA A GB MB s m b Y) :
    Calls Tryd.prog 41 #[.pointer (some ⟨S, 0, none⟩)] w fun e w' => e = .returned (.int .i64 s.root) ∧ w = w' := sroot_any S MA A s.root w h.S
def Sp.pgi (s : Sp) : List Int := s.pgs.map fun q => ((q : Nat) : Int)
def Sp.tbs (s : Sp) : List Int := s.tabs.mergeSort leI
theorem Sp.pgi_len (s : Sp) : s.pgi.length = s.pgs.length := by simp [Sp.pgi]
theorem Sp.tbs_len (s : Sp) : s.tbs.length = s.tabs.length := (List.mergeSort_perm s.tabs leI).length_eq
theorem Sp.lev_len (s : Sp) (l : Nat) : (s.lev l).length ≤ 16 ^ l := by
  unfold Sp.lev
  have := List.length_filter_le (fun d => (s.E l d).v) (List.range (16 ^ l))
  rwa [List.length_range] at this
theorem SpInv.tabs_bd {s : Sp} {m : Mem} {b : Bud} {Y : Nat × Nat → Prop} (h : SpInv s m b Y) : s.tabs.length ≤ 273 := by
  have h1 := s.lev_len 1
  have h2 := s.lev_len 2
  rw [h.ok.tabs_len]
  omega
theorem spc_new {w : World} {MA A GB MB : Nat} {m : Mem} {b : Bud} (hd : Duo w A MA GB m b) (T : Tab w) (hB : m.B = MB) (hg : m.good) {Y : Nat × Nat → Prop} (hY : ∀ x, x ∈ b.gave ↔ Y x) (y0 : ∀ x, Y x → x.2 = 0) :
    Calls Tryd.prog 38 #[.pointer (some ⟨MA, 0, none⟩), .pointer (some ⟨A, 0, none⟩)] w fun e w' =>
      (b.left < 1 ∧ e = .returned (.tuple #[.pointer none, .int .i64 6]) ∧ Upd (fun _ => False) w w') ∨
      (1 ≤ b.left ∧ ∃ S s m', w.heap.size ≤ S ∧ e = .returned (.tuple #[.pointer (some ⟨S, 0, none⟩), .int .i64 0]) ∧ Spc w' S MA A GB MB s m' (b.al 1).2 Y ∧ Upd (fun k => k = GB ∨ k = MB) w w' ∧ m'.n = m.n ∧ s.root = ((b.al 1).1.getD 0 0 : Nat) ∧ (∀ l d, s.E l d = En.zero) ∧ SameW Y m m') := by
  refine (snew_any MA A GB m b w hd).mono ?_
  rintro e w' (⟨h0, rfl, u⟩ | ⟨h0, S, hS, rfl, s0, d, u⟩)
  · exact .inl ⟨h0, rfl, u⟩
  · rw [hB] at u
    obtain ⟨hI, hw⟩ := SpInv.new hd.M.okm hg hd.B.ok hd.n h0 hY y0
    refine .inr ⟨h0, S, _, _, hS, rfl, ⟨s0, d, T.keptS u ?_, hI, by rw [Mem.clears_B]; exact hB⟩, u, Mem.clears_n _ _, rfl, fun _ _ => rfl, hw⟩
    rintro (e | e)
    · exact T.apartG hd.B e
    · exact T.apart hd.M (e.trans hB.symm)
end Go.Proofs.YtfdnfllefednjaaDoor

/-
  The laws' begun and awake.
-/
namespace Go.Proofs.YtfdnfllefednjaaDoor
open Go.ChangeShapes Go.WideShapes Go.ChangeAt Go.RowKit Go.Shelf Go.Sort

/-- nothing of it was there before block B -/
structure SpcNew (B S MA A GB MB : Nat) : Prop where
  s : B ≤ S
  ma : B ≤ MA
  a : B ≤ A
  gb : B ≤ GB
  mb : B ≤ MB
theorem bud0_left (n : Nat) (h1 : 1 ≤ n) (h2 : n ≤ 256) : (bud0 n 0).left = n := by
  have := left_len _ (b := bud0 n 0) rfl (bud0_ok h1 h2 (by omega)) (fun x hx => by simp [bud0] at hx)
  simpa [bud0] using this
theorem SpInv.bare {s : Sp} {m : Mem} {b : Bud} {Y : Nat × Nat → Prop} (h : SpInv s m b Y) (h0 : ∀ q, (s.E 3 q).v = false) : s.tabs.length = 1 := by
  have l2 : ∀ d, (s.E 2 d).v = false := fun d => by
    cases hv : (s.E 2 d).v
    · rfl
    · obtain ⟨p, _, hp⟩ := h.nee 2 d (by omega) (by omega) (by rw [s.onS]; exact hv)
      rw [h0] at hp; cases hp
  have l1 : ∀ d, (s.E 1 d).v = false := fun d => by
    cases hv : (s.E 1 d).v
    · rfl
    · obtain ⟨p, _, hp⟩ := h.nee 1 d (by omega) (by omega) (by rw [s.onS]; exact hv)
      rw [l2] at hp; cases hp
  rw [h.ok.tabs_len]
  unfold Sp.lev
  rw [List.filter_eq_nil_iff.2 (fun d _ => by rw [l1]; decide), List.filter_eq_nil_iff.2 (fun d _ => by rw [l2]; decide)]
  rfl
theorem leI_sorted (l : List Int) : (l.mergeSort leI).Pairwise (fun a c => leI a c = true) :=
  List.pairwise_mergeSort (fun a b c h1 h2 => by unfold leI at *; simp at *; omega) (fun a b => by unfold leI; simp; omega) l
/-- the least is first -/
theorem tbs_zero {s : Sp} {n : Nat} (h : s.Ok n) (h0 : s.root = 0) : s.tbs.getD 0 0 = 0 := by
  have hs := leI_sorted s.tabs
  have hm : (0 : Int) ∈ s.tbs := (List.mergeSort_perm s.tabs leI).mem_iff.2 (by rw [← h0]; exact List.mem_cons_self)
  have hall : ∀ f, f ∈ s.tbs → 0 ≤ f := fun f hf => by
    obtain ⟨l, d, _, ho, rfl⟩ := h.mem_tabs.1 ((List.mergeSort_perm s.tabs leI).mem_iff.1 hf)
    exact (h.frb ho).1
  change s.tbs.Pairwise _ at hs
  generalize s.tbs = L at hs hm hall
  cases L with
  | nil => cases hm
  | cons a L =>
    show a = 0
    rw [List.pairwise_cons] at hs
    have ha := hall a (by simp)
    rcases List.mem_cons.1 hm with e | e
    · exact e.symm
    · have := hs.1 0 e
      unfold leI at this
      simp at this
      omega
theorem al8 : ((bud0 8 0).al 1).1.getD 0 0 = 0 := by decide
end Go.Proofs.YtfdnfllefednjaaDoor

/-
  Layer 8's laws over a row of calls: what lies in a row's place; worlds behind a call.
-/
namespace Go.Proofs.YtfdnfllefednjaaDoor
open Go.ChangeShapes Go.WideShapes Go.ChangeAt Go.RowKit Go.Shelf Go.Sort

/-- one call of the row -/
structure TopIn (w : World) (b o : Nat) (d q f : Int) (wb : Bool) : Prop where
  c0 : w.cell? ⟨b, o, none⟩ = some (.int .i64 d)
  c1 : w.cell? ⟨b, o + 1, none⟩ = some (.int .i64 q)
  c2 : w.cell? ⟨b, o + 2, none⟩ = some (.int .i64 f)
  c3 : w.cell? ⟨b, o + 3, none⟩ = some (.bool wb)
theorem TopIn.kept {T : Nat → Prop} {w w' : World} {b o : Nat} {d q f : Int} {wb : Bool} (h : TopIn w b o d q f wb) (u : Upd T w w') (hb : ¬ T b) : TopIn w' b o d q f wb :=
  ⟨u.cell h.c0 hb, u.cell h.c1 hb, u.cell h.c2 hb, u.cell h.c3 hb⟩
abbrev topKs : List (Option IntKind) := [some .i64, some .i64, some .i64, none]
theorem top4 {w : World} {ao : Option Addr} {n b off : Nat} {E : Nat → Nat → Value} (R : Fr.RowArg w ao n b off topKs E) (i : Nat) (hi : i < n) :
    ∃ (d q f : Int) (wb : Bool), TopIn w b (off + i * 4) d q f wb ∧ (Lit.int .i64 q).wf = true ∧ (Lit.int .i64 f).wf = true := by
  obtain ⟨d, e0, w0⟩ := R.ok i hi 0 _ rfl
  obtain ⟨q, e1, w1⟩ := R.ok i hi 1 _ rfl
  obtain ⟨f, e2, w2⟩ := R.ok i hi 2 _ rfl
  obtain ⟨wb, e3⟩ := R.ok i hi 3 _ rfl
  refine ⟨d, q, f, wb, ⟨?_, ?_, ?_, ?_⟩, w1, w2⟩
  · have := R.cell i hi 0 (by decide); rw [e0] at this; simpa [Nat.add_assoc] using this
  · have := R.cell i hi 1 (by decide); rw [e1] at this; simpa [Nat.add_assoc] using this
  · have := R.cell i hi 2 (by decide); rw [e2] at this; simpa [Nat.add_assoc] using this
  · have := R.cell i hi 3 (by decide); rw [e3] at this; simpa [Nat.add_assoc] using this
theorem rows_below {w w' : World} {ao : Option Addr} {n b off : Nat} {ks : List (Option IntKind)} {E : Nat → Nat → Value} (R : Fr.RowArg w ao n b off ks E) (u : Upd (fun _ => False) w w') : Fr.RowArg w' ao n b off ks E := R.kept (u.below (Nat.le_refl _) fun _ _ => id)
theorem Sp.pgi_getD (s : Sp) (i : Nat) : s.pgi.getD i 0 = ((s.pgs.getD i 0 : Nat) : Int) := by
  unfold Sp.pgi
  rw [List.getD_eq_getElem?_getD, List.getD_eq_getElem?_getD, List.getElem?_map]
  cases s.pgs[i]? <;> rfl
theorem Sp.pgs_at (s : Sp) {i : Nat} (h : i < s.pgs.length) : s.pgs.getD i 0 < 4096 ∧ (s.E 3 (s.pgs.getD i 0)).v = true := Sp.mem_pgs.1 (getD_mem h)
theorem Sp.pgs_up (s : Sp) {i j : Nat} (hij : i < j) (h : j < s.pgs.length) : s.pgs.getD i 0 < s.pgs.getD j 0 := by
  have := List.pairwise_iff_getElem.1 s.pgs_rises i j (by omega) h hij
  rw [List.getD_eq_getElem?_getD, List.getD_eq_getElem?_getD, List.getElem?_eq_getElem h, List.getElem?_eq_getElem (by omega)]
  exact this
theorem Sp.find_page (s : Sp) {i : Nat} (h : i < s.pgs.length) : s.findX (s.pgs.getD i 0 : Nat) = 0 := by
  have := s.pgs_at h
  unfold Sp.findX
  rw [if_pos (by omega), Int.toNat_natCast, if_pos this.2]
theorem Sp.pgs_len (s : Sp) : s.pgs.length ≤ 4096 := by
  have := List.length_filter_le (fun q => (s.E 3 q).v) (List.range 4096)
  rwa [List.length_range] at this
end Go.Proofs.YtfdnfllefednjaaDoor
