/-
  Texts that the laws stand on, joined: TbF, TbQ, TbN, TbJ, TbK, TbR, TbS.
-/
import Derived.LoopIn
import Derived.LoopNIn
import Derived.OrdersIn
import Derived.OwnWalkIn
import Derived.RangeFuncBound
import Derived.RangeFuncCalls
import Derived.RangeFuncLeaves
import Derived.RangeFuncNested
import Derived.Shelf.Abstract
import Derived.Shelf.RegionOpen
import Derived.StillTail
import Derived.TacticsInMore
import Derived.WalkKit
import Derived.Test.YtfdnfllefednjaaDoorPart6

/-
  Package tables: Map, over the words of the memory.
-/
namespace Go.Proofs.YtfdnfllefednjaaDoor
open Go.ChangeShapes Go.WideShapes Go.ChangeAt Go.RowKit Go.Shelf

theorem Mem.wX_ten (m : Mem) (root q : Int) (h : m.wX root q = 10) : 1 ≤ m.wN root q ∧ m.wN root q ≤ 3 := by
  unfold Mem.wX at h
  unfold Mem.wN
  cases hb : m.wB root q
  · rw [hb] at h; simp at h
  · simp only [if_true]
    split
    · omega
    · split <;> omega
theorem Mem.lk_n (m : Mem) (a q : Int) (n0 : Nat) (c : List Nat) : ∀ j, (m.lk a q n0 c j).1.n = m.n
  | 0 => rfl
  | j + 1 => by rw [Mem.lk, Mem.put_n, m.lk_n a q n0 c j]
theorem Tab.apartG {w : World} {A MA GB : Nat} {b : Bud} (T : Tab w) (h : BudAt w A MA GB b) : ¬ 0 = GB := by
  intro e
  obtain ⟨D, ⟨es, clock, hb, _⟩, _⟩ := h.mp
  have h1 := (T 0 (by omega)).1
  rw [e] at h1
  unfold World.cell? at h1
  rw [hb] at h1
  simp at h1
/-- what Map answers, and what the words are behind it -/
inductive MapTo (m : Mem) (b : Bud) (root q f : Int) (wb : Bool) : Int → Mem → Bud → Prop
  | arg (h : m.ex f 1 = false) : MapTo m b root q f wb 1 m b
  | twice (h : m.ex f 1 = true) (hx : m.wX root q = 0) : MapTo m b root q f wb 4 m b
  | walk (h : m.ex f 1 = true) (h0 : m.wX root q ≠ 0) (hx : m.wX root q ≠ 10) : MapTo m b root q f wb (m.wX root q) m b
  | mem (h : m.ex f 1 = true) (hx : m.wX root q = 10) (hl : b.left < 3 - m.wN root q) : MapTo m b root q f wb 6 m b
  | yes (h : m.ex f 1 = true) (hx : m.wX root q = 10) (k : Nat) (hk : m.wN root q + k = 3) (hl : k ≤ b.left) (n0 : Nat) (hn : m.wN root q = n0 + 1) (L : Mem × Int) (hL : L = (m.clears (b.al k).1).lk (m.wF root q n0) q n0 (b.al k).1 k) :
      MapTo m b root q f wb (errB (L.1.putB L.2 (idxI q 2) ⟨true, wb, false, f⟩)) (L.1.put L.2 (idxI q 2) ⟨true, wb, false, f⟩) (b.al k).2

set_option maxRecDepth 100000 in
set_option maxHeartbeats 2000000 in
theorem smap_any (S MA A GB : Nat) (root : Int) (m : Mem) (b : Bud) (q f : Int) (wb : Bool) (w : World) (h : SpAt w S MA A root) (hd : Duo w A MA GB m b) (T : Tab w) (hg : m.good) (hf : (Lit.int .i64 f).wf = true) :
    Calls Tryd.prog 30 #[.pointer (some ⟨S, 0, none⟩), .int .i64 q, .int .i64 f, .bool wb] w fun e w' =>
      ∃ (x : Int) (m' : Mem) (b' : Bud), e = .returned (.int .i64 x) ∧ MapTo m b root q f wb x m' b' ∧ Duo w' A MA GB m' b' ∧ Upd (fun k => k = GB ∨ k = m.B) w w' := by
  have cW := Lib.hid (fun (W : World) (hW : w.heap.size ≤ W.heap.size) (h : MemAt W MA m) (T : Tab W) => walk_row (root := root) (q := q) w.heap.size hW h T hg)
  have hm := hd.M
  have HM := Lib.hid (fun x m' b' (y : MapTo m b root q f wb x m' b') => y)
  have h10 := Lib.hid (m.wX_ten root q)
  have hS2 := Lib.hid (fun k n => m.wS_at root q k n)
  clear hg
  generalize eX : m.wX root q = X at cW h10
  generalize eN : m.wN root q = n at cW h10
  generalize eE : m.wE root q = E at cW
  generalize exs : m.wS root q n = xs at cW
  obtain ⟨ev, er, et, ef⟩ := E
  have HX := Lib.hid eX
  have HN := Lib.hid eN
  have Hxs := Lib.hid exs
  have Hw := Lib.hid hf
  have hap := h.apart hd
  clear eX eN exs eE hf
  have c0 := h.c0
  have c2 := h.c2
  go_enter Tryd.func30, Tryd.ntmps30
  go_upto_region 1 with fail
  have hS := Lib.hid (show ∀ (W' : World), Upd (fun _ => False) w W' → W'.cell? ⟨S, 0, none⟩ = some (.pointer (some ⟨MA, 0, none⟩)) ∧ W'.cell? ⟨S, 2, none⟩ = some (.int .i64 root) ∧ Upd (fun _ => False) w W' from fun W' u => ⟨u.cell c0 id, u.cell c2 id, u⟩)
  go_cut [9, 10, 11] (fun s6 s7 s8 wx => ∃ (D : Nat) (o : Option Addr) (cap : Nat), s6 = .pointer (some ⟨D, 0, none⟩) ∧ s7 = .slice o n cap ∧ s8 = .int .i64 X ∧ Hid (wx.ownsRow w.heap.size 128 2 (.slice o n cap) n xs) ∧ Upd (fun _ => False) w wx)
  case first =>
    go_region_held3 (fun w' => w'.cell? ⟨S, 0, none⟩ = some (.pointer (some ⟨MA, 0, none⟩)) ∧ w'.cell? ⟨S, 2, none⟩ = some (.int .i64 root) ∧ Upd (fun _ => False) w w')
      (first
        | assumption
        | exact hS.out _ (Upd.refl _ _).drew
        | exact hS.out _ ((Upd.refl _ _).drew.alloc _)
        | exact hS.out _ u7
        | exact hS.out _ (u7.alloc _)
        | exact hS.out _ ((((u7.setCell (.inr (Nat.le_refl _)) _).setCell (.inr (Nat.le_refl _)) _).setCell (.inr (Nat.le_refl _)) _).setCell (.inr (Nat.le_refl _)) _)
        | exact hS.out _ (((((u7.alloc _).setCell (.inr u7.size) _).setCell (.inr u7.size) _).setCell (.inr u7.size) _).setCell (.inr u7.size) _))
      (first
        | (go_at_call 65; go_split_ands; rename_i s1 s2 s3; refine (cW.out (w.alloc (.cells #[.bool false, .bool false, .bool false, .int .i64 0] 34)).drew s3.size (hm.kept s3 id id) (T.kept s3)).mono ?_; rintro e w6 ⟨o, cap, rfl, r6, u6⟩; have u7 := s3.trans u6; have e7 : Hid (EntAt w6 w.heap.size false false false 0) := Lib.hid (u6.at (heap_alloc_last w _) id); obtain ⟨e0, e1, e2, e3, z0, z1, z2, z3⟩ := e7.out.eight)
        | (go_at_call 65; go_split_ands; rename_i s1 s2 s3; refine (cW.out _ s3.size (hm.kept s3 id id) (T.kept s3)).mono ?_; rintro e w6 ⟨o, cap, rfl, r6, u6⟩; have u7 := s3.trans u6))
    all_goals (go_wp2_with fail)
    all_goals go_meet
    all_goals
      first
        | exact ⟨w.heap.size, o, cap, rfl, rfl, rfl, Lib.hid (wk_kept r6.out (((((Upd.refl (· = w.heap.size) w6).setCell (.inl rfl) _).setCell (.inl rfl) _).setCell (.inl rfl) _).setCell (.inl rfl) _) (wk_ne r6.out e7.out (by decide))), (((u7.setCell (.inr (Nat.le_refl _)) _).setCell (.inr (Nat.le_refl _)) _).setCell (.inr (Nat.le_refl _)) _).setCell (.inr (Nat.le_refl _)) _⟩
        | exact ⟨w6.heap.size, o, cap, rfl, rfl, rfl, Lib.hid (wk_kept r6.out ((Upd.refl (fun _ => False) w6).alloc _) (fun _ _ => id)), u7.alloc _⟩
  case rest =>
    obtain ⟨D, o, cap, rfl, rfl, rfl, hrow, u8⟩ := hcut
    clear hS cW c0 c2
    have h1 := h.kept u8 id
    have d1 := hd.still u8
    have T1 := T.kept u8
    have hn2 := m.n
    cases hx : m.ex f 1
    · have hx' := Lib.hid hx
      clear hx
      go_wp2_with fail
      refine (lacks_any S MA A root m f _ h1 d1.M).mono ?_
      rintro e w1 ⟨rfl, rfl⟩
      rw [hx'.out]
      go_wp2
      go_ret
      exact ⟨1, m, b, rfl, .arg hx'.out, d1, u8.none⟩
    have hx' := Lib.hid hx
    clear hx
    by_cases hX0 : X = 0
    · subst hX0
      go_wp2_with fail
      refine (lacks_any S MA A root m f _ h1 d1.M).mono ?_
      rintro e w1 ⟨rfl, rfl⟩
      rw [hx'.out]
      go_wp2
      go_ret
      exact ⟨4, m, b, rfl, .twice hx'.out HX.out, d1, u8.none⟩
    by_cases hXt : X = 10
    · subst hXt
      obtain ⟨hn0, hn3⟩ := h10.out rfl
      obtain ⟨n0, rfl⟩ : ∃ n0, n = n0 + 1 := ⟨n - 1, by omega⟩
      obtain ⟨k, hk⟩ : ∃ k, n0 + 1 + k = 3 := ⟨2 - n0, by omega⟩
      have hsub : (3 : Int) - (n0 + 1) = k := by omega
      have hsw : IntKind.i64.wrap ((3 : Int) - (n0 + 1)) = k := by rw [hsub, IntWalk.i64_in _ (by omega)]
      go_wp2_with fail
      refine (lacks_any S MA A root m f _ h1 d1.M).mono ?_
      rintro e w1 ⟨rfl, rfl⟩
      rw [hx'.out]
      have hbk := d1.B.ok
      have hd1n := d1.n
      have hBlt := Nat.lt_of_lt_of_le (lt_of_heap hd.M.body) u8.size
      have hGlt := hd.B.lts.2
      have hBw := lt_of_heap hd.M.body
      go_wp2_with fail
      refine (create_any S MA A GB root m b k _ h1 d1 (by omega)).mono ?_
      rintro e w2 (⟨hl, rfl, u2⟩ | ⟨hl, v, rfl, hrow2, d2, u2⟩)
      · go_wp2
        go_ret
        exact ⟨6, m, b, rfl, .mem hx'.out HX.out (by rw [HN.out]; omega), d1.still u2, (u8.trans u2).none⟩
      · have ha := al_ok hbk k hl
        obtain ⟨oc, capc, rfl, hcells⟩ := slice1 hrow2
        obtain ⟨g, rfl, hgN, hcs⟩ := row2_at hrow.out (by omega)
        obtain ⟨s0, s1⟩ := m.wS_at root q n0 (n0 + 1) (by omega)
        rw [Hxs.out] at s0 s1
        have hgX : ¬ (g = GB ∨ g = m.B) := by omega
        have e0 := u2.cell (hcs _ _ s0) hgX
        have e1 := u2.cell (hcs _ _ s1) hgX
        have h2 := h1.kept u2 hap
        have T2 := T1.keptS u2 (by
          rintro (e | e)
          · exact T1.apartG d1.B e
          · exact T1.apart d1.M e)
        have hcl := link_any S MA A root (m.clears (b.al k).1) q (m.wF root q n0) n0 k cap capc g oc (b.al k).1 w2 h2 d2.M T2 e0 e1 (by rw [Mem.clears_B]; exact fun e => hap (.inr e))
          (fun i hi => by
            obtain ⟨bb, hbb, hcc⟩ := hcells i _ (nat1_at _ _ (by rw [ha.len]; exact hi))
            refine ⟨bb, hbb, ?_, hcc⟩
            rw [Mem.clears_B]
            have := (hrow2.lt bb (by rw [hbb]; rfl)).1
            omega) (by omega)
          (fun i => by
            by_cases hi : i < (b.al k).1.length
            · have := (ha.fr ((b.al k).1.getD i 0) (by rw [List.getD_eq_getElem?_getD, List.getElem?_eq_getElem hi]; simp)).1
              have := hbk.hi
              omega
            · rw [List.getD_eq_getElem?_getD, List.getElem?_eq_none (by omega)]; simp)
        rw [Mem.clears_B, show n0 + k = 2 from by omega] at hcl
        have hLB := (m.clears (b.al k).1).lk_B (m.wF root q n0) q n0 (b.al k).1 k
        have hLn := (m.clears (b.al k).1).lk_n (m.wF root q n0) q n0 (b.al k).1 k
        rw [Mem.clears_B] at hLB
        rw [Mem.clears_n] at hLn
        have UU := (u8.none (T := fun k => k = GB ∨ k = m.B)).trans u2
        obtain ⟨L, hL⟩ : ∃ L, L = (m.clears (b.al k).1).lk (m.wF root q n0) q n0 (b.al k).1 k := ⟨_, rfl⟩
        rw [← hL] at hcl hLB hLn
        have Hcl := Lib.hid hcl
        have HL := Lib.hid hL
        clear hL
        clear hcl hcs s0 s1 hcells hrow hrow2 e0 e1 u2 hsw hsub
        go_wp2_with fail
        refine Hcl.out.mono ?_
        rintro e w3 ⟨rfl, M3, u3⟩
        rw [show ((2 : Nat) : Int) = 2 from rfl]
        have d3 : Duo w3 A MA GB L.1 (b.al k).2 := d2.cleared M3 (by rw [Mem.clears_B]; exact u3) (by rw [Mem.clears_n]; exact hLn)
        have h3 := h2.kept u3 (fun e => hap (.inr e))
        have T3 := T2.keptS u3 (by have := T2.apart d2.M; rwa [Mem.clears_B] at this)
        have U3 := UU.trans (u3.mono (T := fun k => k = GB ∨ k = m.B) (fun _ _ e => .inr e))
        clear u3 UU d2 h2 T2 Hcl M3
        obtain ⟨M, y⟩ := L
        dsimp only at d3 hLB hLn ⊢
        obtain ⟨pl, hpl⟩ : ∃ pl, pl = idxI q 2 := ⟨_, rfl⟩
        rw [← hpl]
        have Hpl := Lib.hid hpl
        clear hpl
        have a1 := heap_alloc_last w3 (.cells #[.int .i64 y, .int .i64 pl] 128)
        have a2 := (Upd.refl (fun _ => False) w3).alloc (.cells #[.int .i64 y, .int .i64 pl] 128)
        go_upto_region 12 with fail
        have d4 := d3.still a2
        have h4 := h3.kept a2 id
        have T4 := T3.kept a2
        have U4 := U3.trans (a2.none)
        clear d3 h3 T3 U3 a2
        generalize w3.alloc (.cells #[.int .i64 y, .int .i64 pl] 128) = w4 at a1 d4 h4 T4 U4 ⊢
        generalize w3.heap.size = st' at a1 ⊢
        refine wp_region_tail 11 (by kernel_rfl) (by kernel_rfl) ?_
        simp only [List.take_succ_cons, List.take_zero, List.drop_succ_cons, List.drop_zero]
        intro w5 hw5
        have U5 : Upd (fun k => k = GB ∨ k = m.B) w w5 := by rw [hw5]; exact U4.drew
        have h5 : SpAt w5 S MA A root := by rw [hw5]; exact h4
        have d5 : Duo w5 A MA GB M (b.al k).2 := by rw [hw5]; exact d4.still (Upd.refl (fun _ => False) w4).drew
        have T5 : Tab w5 := by rw [hw5]; exact T4.drew 1
        have a5 : w5.heap[st']? = some (.cells #[.int .i64 y, .int .i64 pl] 128 (0, 0)) := by rw [hw5]; exact a1
        clear hw5 U4 h4 d4 T4 a1
        have c0 := h5.c0
        obtain ⟨b0, b1⟩ := box2 a5
        repeat still_step
        refine wpStill_nil ?_
        go_wp2_with fail
        refine (wput_any MA M y pl ⟨true, wb, false, f⟩ _ d5.M T5 Hw.out).mono ?_
        rintro z w6 ⟨rfl, M6, u6⟩
        go_wp2
        go_ret
        obtain rfl := Hpl.out
        exact ⟨_, _, _, rfl, .yes hx'.out HX.out k (by rw [HN.out]; omega) hl n0 HN.out (M, y) HL.out, d5.cleared M6 u6 (Mem.put_n _ _ _ _), U5.trans (u6.mono (fun _ _ e => .inr (e.trans hLB)))⟩
    · go_wp2_with fail
      refine (lacks_any S MA A root m f _ h1 d1.M).mono ?_
      rintro e w1 ⟨rfl, rfl⟩
      rw [hx'.out]
      go_wp2
      go_ret
      exact ⟨X, m, b, rfl, HX.out ▸ .walk hx'.out (by rw [HX.out]; exact hX0) (by rw [HX.out]; exact hXt), d1, u8.none⟩
end Go.Proofs.YtfdnfllefednjaaDoor

/-
  Package tables, in plain numbers: what a space is to its memory and its allocator, and what Map does to it.
-/
namespace Go.Proofs.YtfdnfllefednjaaDoor

/-- a space that is whole; the blocks in Y are given to others -/
structure SpInv (s : Sp) (m : Mem) (b : Bud) (Y : Nat × Nat → Prop) : Prop where
  ok : s.Ok m.n
  i : s.In m
  nee : s.need
  mo : m.ok
  hg : m.good
  bk : b.Ok
  bn : m.n = b.n
  y0 : ∀ x, Y x → x.2 = 0
  gv : ∀ x, x ∈ b.gave ↔ (∃ l d, l ≤ 2 ∧ s.on l d = true ∧ x = ((s.fr l d).toNat, 0)) ∨ Y x
  ap : ∀ l d, l ≤ 2 → s.on l d = true → ¬ Y ((s.fr l d).toNat, 0)
/-- the words of others' frames are as they were -/
def SameW (Y : Nat × Nat → Prop) (m m' : Mem) : Prop := ∀ x, Y x → ∀ p : Nat, p < 16 → m'.word (x.1 : Nat) p = m.word (x.1 : Nat) p
theorem SameW.refl (Y : Nat × Nat → Prop) (m : Mem) : SameW Y m m := fun _ _ _ _ => rfl
theorem SameW.trans {Y : Nat × Nat → Prop} {a b c : Mem} (h : SameW Y a b) (k : SameW Y b c) : SameW Y a c := fun x hx p hp => (k x hx p hp).trans (h x hx p hp)
theorem SpInv.hn {s : Sp} {m : Mem} {b : Bud} {Y : Nat × Nat → Prop} (h : SpInv s m b Y) : m.n ≤ 256 := by have := h.bn; have := h.bk.hi; omega
theorem SpInv.zero {s : Sp} {m : Mem} {b : Bud} {Y : Nat × Nat → Prop} (h : SpInv s m b Y) {x : Nat × Nat} (hx : x ∈ b.gave) : x.2 = 0 := by
  rcases (h.gv x).1 hx with ⟨l, d, _, _, rfl⟩ | hy
  · rfl
  · exact h.y0 _ hy
theorem SpInv.has {s : Sp} {m : Mem} {b : Bud} {Y : Nat × Nat → Prop} (h : SpInv s m b Y) {l d : Nat} (hl : l ≤ 2) (ho : s.on l d = true) : ((s.fr l d).toNat, 0) ∈ b.gave := (h.gv _).2 (.inl ⟨l, d, hl, ho, rfl⟩)
theorem SpInv.ylt {s : Sp} {m : Mem} {b : Bud} {Y : Nat × Nat → Prop} (h : SpInv s m b Y) {x : Nat × Nat} (hx : Y x) : x.1 < m.n := by
  have h1 := h.bk.blk x ((h.gv x).2 (.inr hx))
  have h2 := h.y0 x hx
  rw [h2] at h1
  have := h.bn
  omega
/-- a free frame is nobody's -/
theorem SpInv.free {s : Sp} {m : Mem} {b : Bud} {Y : Nat × Nat → Prop} (h : SpInv s m b Y) {c : Nat} (hc : b.F c = true) : ((c, 0) : Nat × Nat) ∉ b.gave := fun hm => by
  have := ((h.bk.fr c).1 hc).2.2 _ hm
  rw [inBlk_no] at this
  exact this ⟨Nat.le_refl _, by simp⟩
theorem SpInv.free_fr {s : Sp} {m : Mem} {b : Bud} {Y : Nat × Nat → Prop} (h : SpInv s m b Y) {c : Nat} (hc : b.F c = true) {l d : Nat} (hl : l ≤ 2) (ho : s.on l d = true) : s.fr l d ≠ (c : Nat) := fun e => by
  have := h.has hl ho
  rw [e, Int.toNat_natCast] at this
  exact h.free hc this
theorem SpInv.y_fr {s : Sp} {m : Mem} {b : Bud} {Y : Nat × Nat → Prop} (h : SpInv s m b Y) {x : Nat × Nat} (hx : Y x) {l d : Nat} (hl : l ≤ 2) (ho : s.on l d = true) : s.fr l d ≠ (x.1 : Nat) := fun e => by
  have := h.ap l d hl ho
  rw [e, Int.toNat_natCast] at this
  have h2 := h.y0 x hx
  exact this (by rw [← h2]; exact hx)

/-- the first j tables linked -/
structure LK (s : Sp) (m : Mem) (c : List Nat) (q n0 j : Nat) (M : Mem) (y : Int) (t : Sp) : Prop where
  ok : t.Ok M.n
  i : t.In M
  mo : M.ok
  hg : M.good
  n : M.n = m.n
  B : M.B = m.B
  rt : t.root = s.root
  on : t.on (n0 + j) (nd q (n0 + j)) = true
  y : y = t.fr (n0 + j) (nd q (n0 + j))
  off : ∀ l, n0 + j < l → l ≤ 3 → (t.E l (nd q l)).v = false
  e3 : ∀ d, t.E 3 d = s.E 3 d
  e12 : ∀ l d, l ≤ 2 → t.E l d = if n0 < l ∧ l ≤ n0 + j ∧ d = nd q l then tbE (c.getD (l - n0 - 1) 0 : Nat) else s.E l d
  zero : ∀ i, j ≤ i → i < c.length → ∀ p : Nat, p < 16 → M.word (c.getD i 0 : Nat) p = 0
  tab : ∀ l d, l ≤ 2 → (t.on l d = true ↔ s.on l d = true ∨ (n0 < l ∧ l ≤ n0 + j ∧ d = nd q l))
  old : ∀ l d, l ≤ 2 → s.on l d = true → t.fr l d = s.fr l d
  new : ∀ l, n0 < l → l ≤ n0 + j → t.fr l (nd q l) = (c.getD (l - n0 - 1) 0 : Nat)
  words : ∀ f p : Nat, f < m.n → p < 16 → (∀ l d, l ≤ 2 → t.on l d = true → t.fr l d ≠ (f : Nat)) → M.word f p = m.word f p
theorem tbE_ok {c : Nat} (h : c < 256) : (tbE (c : Nat)).ok = true := by
  unfold En.ok rightB tbE
  simp; omega
theorem getD_mem {c : List Nat} {i : Nat} (h : i < c.length) : c.getD i 0 ∈ c := by
  rw [List.getD_eq_getElem?_getD, List.getElem?_eq_getElem h]; simp
theorem getD_ne {c : List Nat} (hn : c.Nodup) {i j : Nat} (hi : i < c.length) (hj : j < c.length) (h : i ≠ j) : c.getD i 0 ≠ c.getD j 0 := by
  rw [List.getD_eq_getElem?_getD, List.getD_eq_getElem?_getD, List.getElem?_eq_getElem hi, List.getElem?_eq_getElem hj]
  intro e
  simp at e
  rcases Nat.lt_or_gt_of_ne h with g | g
  · exact (List.pairwise_iff_getElem.1 hn i j hi hj g) e
  · exact (List.pairwise_iff_getElem.1 hn j i hj hi g) e.symm
theorem LK.step {s : Sp} {m : Mem} {c : List Nat} {q n0 j : Nat} {M : Mem} {y : Int} {t : Sp} (h : LK s m c q n0 j M y t) (hq : q < 4096) (hj : n0 + j + 1 ≤ 2) (hc : j < c.length) (hn : m.n ≤ 256) (hcn : ∀ f, f ∈ c → f < m.n) (hnd : c.Nodup) (hfr : ∀ f, f ∈ c → ∀ l d, l ≤ 2 → s.on l d = true → s.fr l d ≠ (f : Nat)) :
    LK s m c q n0 (j + 1) (M.put y (idxI q ((n0 + j : Nat) : Int)) (tbE (c.getD j 0 : Nat))) (c.getD j 0 : Nat) (t.set (n0 + j + 1) (nd q (n0 + j + 1)) (tbE (c.getD j 0 : Nat))) := by
  have hm := getD_mem hc
  have hcj := hcn _ hm
  have hM := h.n
  obtain ⟨L, hL⟩ : ∃ L, L = n0 + j := ⟨_, rfl⟩
  have hst := nd_step q L (by omega)
  have hp : nd q (L + 1) % 16 < 16 := Nat.mod_lt _ (by decide)
  have ho : t.on L (nd q L) = true := by rw [hL]; exact h.on
  have hoff : (t.E (L + 1) (16 * nd q L + nd q (L + 1) % 16)).v = false := by rw [hst]; exact h.off (L + 1) (by omega) (by omega)
  have hidx : idxI q ((n0 + j : Nat) : Int) = ((nd q (L + 1) % 16 : Nat) : Int) := by rw [← hL]; exact idx_nat q L hq (by omega)
  have hfresh : ∀ l d, l ≤ 2 → t.on l d = true → t.fr l d ≠ (c.getD j 0 : Nat) := by
    intro l d hl hon
    rcases (h.tab l d hl).1 hon with hs | ⟨h1, h2, rfl⟩
    · rw [h.old l d hl hs]; exact hfr _ hm l d hl hs
    · rw [h.new l h1 h2]
      have := getD_ne hnd (i := l - n0 - 1) (j := j) (by omega) hc (by omega)
      omega
  have hok := h.ok.table (l := L) (d := nd q L) (p := nd q (L + 1) % 16) (c := (c.getD j 0 : Nat)) (by omega) ho hp hoff (by omega) (by omega) hfresh
  have hin := h.i.set h.ok h.mo (l := L) (d := nd q L) (p := nd q (L + 1) % 16) (by omega) ho hp (tbE (c.getD j 0 : Nat)) (tbE_ok (by omega)) (fun h2 _ => ⟨by show (0 : Int) ≤ (c.getD j 0 : Nat); omega, by show ((c.getD j 0 : Nat) : Int) < _; omega, fun p' hp' => ⟨h.zero j (Nat.le_refl _) hc p' hp', by
      rw [hst]
      cases hv : (t.E (L + 2) (16 * nd q (L + 1) + p')).v
      · rfl
      · have := (h.ok.lv _ _ hv).2.2.2
        rw [show L + 2 - 1 = L + 1 from rfl, show (16 * nd q (L + 1) + p') / 16 = nd q (L + 1) from by omega, t.onS, ← hst, hoff] at this
        cases this⟩, fun e => hfresh L _ (by omega) ho e.symm⟩)
  rw [hst] at hok hin
  have hy : y = t.fr L (nd q L) := by rw [hL]; exact h.y
  rw [hidx, hy, ← hL]
  have hs : M.slot (t.fr L (nd q L)) ((nd q (L + 1) % 16 : Nat) : Int) = true := by
    rw [Mem.slot_iff]; have := h.ok.frb ho; omega
  have hset : ∀ l d, ¬ (l = L + 1 ∧ d = nd q (L + 1)) → (t.set (L + 1) (nd q (L + 1)) (tbE (c.getD j 0 : Nat))).on l d = t.on l d := fun l d hx => t.set_on _ hx
  have hsetf : ∀ l d, ¬ (l = L + 1 ∧ d = nd q (L + 1)) → (t.set (L + 1) (nd q (L + 1)) (tbE (c.getD j 0 : Nat))).fr l d = t.fr l d := fun l d hx => t.set_fr _ hx
  have honew : (t.set (L + 1) (nd q (L + 1)) (tbE (c.getD j 0 : Nat))).on (L + 1) (nd q (L + 1)) = true := by rw [Sp.set_on_same]; rfl
  have hfnew : (t.set (L + 1) (nd q (L + 1)) (tbE (c.getD j 0 : Nat))).fr (L + 1) (nd q (L + 1)) = (c.getD j 0 : Nat) := by rw [Sp.set_fr_same]; rfl
  refine ⟨by rw [Mem.put_n]; exact hok, hin, Mem.put_ok _ h.mo _ _ _, M.put_good h.mo h.hg _ _ _, by rw [Mem.put_n]; exact h.n, by rw [Mem.put_B]; exact h.B, h.rt, ?_, ?_, ?_, ?_, ?_, ?_, ?_, ?_, ?_, ?_⟩
  · rw [show n0 + (j + 1) = L + 1 from by omega]; exact honew
  · rw [show n0 + (j + 1) = L + 1 from by omega]; exact hfnew.symm
  · intro l h1 h2
    rw [t.set_ne _ (by omega)]
    exact h.off l (by omega) h2
  · intro d
    rw [t.set_ne _ (by omega)]
    exact h.e3 d
  · intro l d hl
    by_cases hx : l = L + 1 ∧ d = nd q (L + 1)
    · obtain ⟨rfl, rfl⟩ := hx
      rw [Sp.set_same, if_pos ⟨by omega, by omega, rfl⟩, show L + 1 - n0 - 1 = j from by omega]
    · rw [t.set_ne _ hx, h.e12 l d hl]
      by_cases hc1 : n0 < l ∧ l ≤ n0 + j ∧ d = nd q l
      · rw [if_pos hc1, if_pos ⟨hc1.1, by omega, hc1.2.2⟩]
      · rw [if_neg hc1, if_neg]
        rintro ⟨a1, a2, a3⟩
        by_cases e : l = L + 1
        · subst e; exact hx ⟨rfl, a3⟩
        · exact hc1 ⟨a1, by omega, a3⟩
  · intro i h1 h2 p hp'
    have hci := hcn _ (getD_mem h2)
    rw [M.word_put h.mo _ _ _ _ _ hs (by rw [Mem.slot_iff]; omega) (tbE_ok (by omega)), if_neg, h.zero i (by omega) h2 p hp']
    rintro ⟨e, _⟩
    rcases (h.tab L _ (by omega)).1 ho with hso | ⟨g1, g2, _⟩
    · rw [h.old L _ (by omega) hso] at e
      exact hfr _ (getD_mem h2) L _ (by omega) hso e.symm
    · rw [h.new L g1 g2] at e
      have := getD_ne hnd (i := i) (j := L - n0 - 1) h2 (by omega) (by omega)
      omega
  · intro l d hl
    by_cases hx : l = L + 1 ∧ d = nd q (L + 1)
    · obtain ⟨rfl, rfl⟩ := hx
      exact ⟨fun _ => .inr ⟨by omega, by omega, rfl⟩, fun _ => honew⟩
    · rw [hset l d hx, h.tab l d hl]
      constructor
      · rintro (a | ⟨a1, a2, a3⟩)
        · exact .inl a
        · exact .inr ⟨a1, by omega, a3⟩
      · rintro (a | ⟨a1, a2, rfl⟩)
        · exact .inl a
        · by_cases e : l = L + 1
          · subst e; exact absurd ⟨rfl, rfl⟩ hx
          · exact .inr ⟨a1, by omega, rfl⟩
  · intro l d hl hso
    rw [hsetf l d ?_, h.old l d hl hso]
    rintro ⟨rfl, rfl⟩
    have := (h.tab _ _ hl).2 (.inl hso)
    rw [t.onS, ← hst, hoff] at this
    cases this
  · intro l h1 h2
    by_cases e : l = L + 1
    · subst e
      rw [hfnew, show L + 1 - n0 - 1 = j from by omega]
    · rw [hsetf l _ (by omega), h.new l h1 (by omega)]
  · intro f p hf hp' hne
    rw [M.word_put h.mo _ _ _ _ _ hs (by rw [Mem.slot_iff]; omega) (tbE_ok (by omega)), if_neg]
    · refine h.words f p hf hp' fun l d hl hon => ?_
      have := hne l d hl (by
        by_cases hx : l = L + 1 ∧ d = nd q (L + 1)
        · rw [hx.1, hx.2]; exact honew
        · rw [hset l d hx]; exact hon)
      rwa [hsetf l d ?_] at this
      rintro ⟨rfl, rfl⟩
      rw [t.onS, ← hst, hoff] at hon
      cases hon
    · rintro ⟨e, _⟩
      have := hne L (nd q L) (by omega) (by rw [hset L _ (by omega)]; exact ho)
      rw [hsetf L _ (by omega)] at this
      exact this e.symm
theorem LK.all {s : Sp} {m : Mem} {c : List Nat} {q n0 : Nat} (hq : q < 4096) (hn : m.n ≤ 256) (hcn : ∀ f, f ∈ c → f < m.n) (hnd : c.Nodup) (hfr : ∀ f, f ∈ c → ∀ l d, l ≤ 2 → s.on l d = true → s.fr l d ≠ (f : Nat)) {a : Int} (h0 : LK s m c q n0 0 m a s) :
    ∀ j, n0 + j ≤ 2 → j ≤ c.length → ∃ t, LK s m c q n0 j (m.lk a q n0 c j).1 (m.lk a q n0 c j).2 t
  | 0, _, _ => ⟨s, h0⟩
  | j + 1, h1, h2 => by
    obtain ⟨t, ht⟩ := LK.all hq hn hcn hnd hfr h0 j (by omega) (by omega)
    exact ⟨_, ht.step hq (by omega) (by omega) hn hcn hnd hfr⟩
/-- what Map answers, and what becomes of the space -/
theorem SpInv.map {s : Sp} {m : Mem} {b : Bud} {Y : Nat × Nat → Prop} (h : SpInv s m b Y) {q f : Int} {wb : Bool} {x : Int} {m' : Mem} {b' : Bud} (hM : MapTo m b s.root q f wb x m' b') :
    (x ≠ 0 ∧ m' = m ∧ b' = b ∧ (m.ex f 1 = false ∨ m.wX s.root q ≠ 10 ∨ b.left < 3 - m.wN s.root q)) ∨ (x = 0 ∧ ∃ qn : Nat, q = qn ∧ qn < 4096 ∧ (0 ≤ f ∧ f < m.n) ∧ (s.E 3 qn).v = false ∧ 3 - s.dep qn ≤ b.left ∧ b' = (b.al (3 - s.dep qn)).2 ∧ m'.n = m.n ∧ m'.B = m.B ∧ SameW Y m m' ∧
      ∃ s', SpInv s' m' b' Y ∧ s'.root = s.root ∧ (∀ q', s'.E 3 q' = if q' = qn then ⟨true, wb, false, f⟩ else s.E 3 q') ∧ ∀ l d, l ≤ 2 → s'.E l d = if s.dep qn ≤ l ∧ d = nd qn l then tbE ((b.al (3 - s.dep qn)).1.getD (l - s.dep qn) 0 : Nat) else s.E l d) := by
  cases hM with
  | arg h1 => exact .inl ⟨by decide, rfl, rfl, .inl h1⟩
  | twice h1 h2 => exact .inl ⟨by decide, rfl, rfl, .inr (.inl (by rw [h2]; decide))⟩
  | walk h1 h2 h3 => exact .inl ⟨h2, rfl, rfl, .inr (.inl h3)⟩
  | mem h1 h2 h3 => exact .inl ⟨by decide, rfl, rfl, .inr (.inr h3)⟩
  | yes hx h10 k hk hl n0 hN L hL =>
    right
    have hB : m.wB s.root q = true := by
      cases hb : m.wB s.root q
      · have := (m.walk_no s.root q hb).2.1; omega
      · rfl
    have hpg : 0 ≤ q ∧ q ≤ 4095 := by
      unfold Mem.wB pageB at hB
      simp at hB
      omega
    obtain ⟨qn, rfl⟩ := Int.eq_ofNat_of_zero_le hpg.1
    have hq : qn < 4096 := by omega
    obtain ⟨w1, w2, w3, w4⟩ := Sp.walk h.i h.ok h.hn hq
    have hf : 0 ≤ f ∧ f < m.n := by unfold Mem.ex at hx; simp at hx; omega
    have hv : (s.E 3 qn).v = false := by
      cases hv : (s.E 3 qn).v
      · rfl
      · rw [w2, hv] at h10; simp at h10
    have hdb := s.dep_bd qn
    rw [w1] at hN hk
    have ha := al_ok h.bk k hl
    obtain ⟨c, hc⟩ : ∃ c, c = (b.al k).1 := ⟨_, rfl⟩
    rw [← hc] at ha hL
    have hcn : ∀ f, f ∈ c → f < m.n := fun f hf => by have := (ha.fr f hf).1; have := h.bn; omega
    have hfr : ∀ f, f ∈ c → ∀ l d, l ≤ 2 → s.on l d = true → s.fr l d ≠ (f : Nat) := fun f hf l d hl ho => h.free_fr (ha.fr f hf).2 hl ho
    have hcl : ∀ f p : Nat, f < m.n → p < 16 → (m.clears c).word (f : Nat) (p : Nat) = if f ∈ c then 0 else m.word (f : Nat) (p : Nat) := fun f p hf hp => m.clears_word h.mo c hcn f p hf hp
    have hIn : s.In (m.clears c) := by
      intro l d p hl ho hp
      have hb := h.ok.frb ho
      obtain ⟨g, hg⟩ := Int.eq_ofNat_of_zero_le hb.1
      rw [← h.i l d p hl ho hp, hg, hcl g p (by omega) hp, if_neg]
      intro hgc
      exact hfr g hgc l d hl ho hg
    have h0 : LK s (m.clears c) c qn n0 0 (m.clears c) (m.wF s.root qn n0) s := by
      refine ⟨by rw [Mem.clears_n]; exact h.ok, hIn, m.clears_ok h.mo c, m.clears_good h.mo h.hg c, rfl, rfl, rfl, s.dep_on hq _ (by omega), w4 n0 (by omega), ?_, fun _ => rfl, fun l d _ => by rw [if_neg (by omega)], ?_, ?_, fun _ _ _ _ => rfl, fun l h1 h2 => by omega, fun _ _ _ _ _ => rfl⟩
      · intro l h1 h2
        by_cases e : l = 3
        · subst e; rw [nd3]; exact hv
        · have := Sp.dep_off h.ok (q := qn) l (by omega) (by omega)
          obtain ⟨l', rfl⟩ : ∃ l', l = l' + 1 := ⟨l - 1, by omega⟩
          rwa [s.onS] at this
      · intro i _ hi p hp
        rw [hcl _ p (hcn _ (getD_mem hi)) hp, if_pos (getD_mem hi)]
      · intro l d hl
        exact ⟨.inl, fun x => x.elim id (fun y => by omega)⟩
    obtain ⟨t, ht⟩ := LK.all hq (by rw [Mem.clears_n]; exact h.hn) (by rw [Mem.clears_n]; exact hcn) ha.nd hfr h0 k (by omega) (by rw [ha.len]; exact Nat.le_refl _)
    have hLt : LK s (m.clears c) c qn n0 k L.1 L.2 t := by rw [hL]; exact ht
    clear ht h0
    have hk2 : n0 + k = 2 := by omega
    have ho2 : t.on 2 (nd qn 2) = true := by have := hLt.on; rwa [hk2] at this
    have hy2 : L.2 = t.fr 2 (nd qn 2) := by have := hLt.y; rwa [hk2] at this
    have hn' := hLt.n
    rw [Mem.clears_n] at hn'
    have hp : nd qn 3 % 16 < 16 := Nat.mod_lt _ (by decide)
    have hst := nd_step qn 2 (by omega)
    have hidx := idx_nat qn 2 hq (by omega)
    have h33 : nd qn (2 + 1) = qn := nd3 qn
    rw [h33] at hst hidx
    rw [nd3] at hp
    have heok : En.ok ⟨true, wb, false, f⟩ = true := by
      unfold En.ok rightB
      have := h.hn
      simp; omega
    have hs : L.1.slot L.2 (idxI qn 2) = true := by
      have := hLt.ok.frb ho2
      rw [show idxI (qn : Nat) 2 = ((qn % 16 : Nat) : Int) from hidx, hy2, Mem.slot_iff]
      omega
    have hpB : L.1.putB L.2 (idxI qn 2) ⟨true, wb, false, f⟩ = true := by unfold Mem.putB; rw [hs, heok]; rfl
    have hok3 := hLt.ok.page ho2 hp ⟨true, wb, false, f⟩ rfl rfl hf.1 (by rw [hn']; exact hf.2)
    have hin3 := hLt.i.set hLt.ok hLt.mo (l := 2) (by omega) ho2 hp ⟨true, wb, false, f⟩ heok (fun h2 => by omega)
    rw [hst] at hok3 hin3
    rw [← hy2, ← hidx] at hin3
    have hdk : 3 - s.dep qn = k := by omega
    refine ⟨by unfold errB; rw [hpB]; rfl, qn, rfl, hq, hf, hv, by omega, by rw [hdk], by rw [Mem.put_n]; exact hn', by rw [Mem.put_B, hLt.B, Mem.clears_B], ?_, ?_⟩
    · intro x hY p hp'
      have hx1 := h.ylt hY
      have hnc : x.1 ∉ c := fun hxc => h.free (ha.fr _ hxc).2 ((h.gv _).2 (.inr (by have := h.y0 x hY; rw [show ((x.1, 0) : Nat × Nat) = x from by rw [← this]]; exact hY)))
      have hne : ∀ l d, l ≤ 2 → t.on l d = true → t.fr l d ≠ (x.1 : Nat) := by
        intro l d hl hon
        rcases (hLt.tab l d hl).1 hon with hso | ⟨g1, g2, rfl⟩
        · rw [hLt.old l d hl hso]; exact h.y_fr hY hl hso
        · rw [hLt.new l g1 g2]
          intro e
          have : c.getD (l - n0 - 1) 0 = x.1 := by omega
          exact hnc (this ▸ getD_mem (by rw [ha.len]; omega))
      rw [L.1.word_put hLt.mo _ _ _ _ _ hs (by rw [Mem.slot_iff, hn']; omega) heok, if_neg (fun e => hne 2 _ (by omega) ho2 (hy2 ▸ e.1.symm)), hLt.words x.1 p (by rw [Mem.clears_n]; exact hx1) hp' hne, hcl _ p hx1 hp', if_neg hnc]
    · have hE3 : ∀ q', (t.set 3 qn ⟨true, wb, false, f⟩).E 3 q' = if q' = qn then ⟨true, wb, false, f⟩ else s.E 3 q' := by
        intro q'
        by_cases e : q' = qn
        · rw [if_pos e, e, Sp.set_same]
        · rw [if_neg e, t.set_ne _ (by omega), hLt.e3]
      have hon : ∀ l d, l ≤ 2 → (t.set 3 qn ⟨true, wb, false, f⟩).on l d = t.on l d := fun l d hl => t.set_on _ (by omega)
      have hfr' : ∀ l d, l ≤ 2 → (t.set 3 qn ⟨true, wb, false, f⟩).fr l d = t.fr l d := fun l d hl => t.set_fr _ (by omega)
      refine ⟨t.set 3 qn ⟨true, wb, false, f⟩, ⟨by rw [Mem.put_n]; exact hok3, hin3, ?_, Mem.put_ok _ hLt.mo _ _ _, Mem.put_good _ hLt.mo hLt.hg _ _ _, ?_, ?_, h.y0, ?_, ?_⟩, hLt.rt, hE3, fun l d hl' => by
        rw [t.set_ne _ (by omega), hLt.e12 l d hl', hdk, ← hc]
        by_cases hx' : s.dep qn ≤ l ∧ d = nd qn l
        · rw [if_pos hx', if_pos ⟨by omega, by omega, hx'.2⟩, show l - n0 - 1 = l - s.dep qn from by omega]
        · rw [if_neg hx', if_neg (fun y => hx' ⟨by omega, y.2.2⟩)]⟩
      · intro l d h1 h2 ho'
        rw [hon l d h2] at ho'
        by_cases e : d = nd qn l
        · refine ⟨nd qn (l + 1) % 16, Nat.mod_lt _ (by decide), ?_⟩
          rw [e, nd_step qn l (by omega)]
          by_cases e2 : l = 2
          · subst e2; rw [h33, Sp.set_same]
          · obtain rfl : l = 1 := by omega
            rw [← Sp.onS, hon _ _ (by omega)]
            exact ho2
        · have hso : s.on l d = true := by
            rcases (hLt.tab l d h2).1 ho' with hso | ⟨_, _, e'⟩
            · exact hso
            · exact absurd e' e
          obtain ⟨p, hp', hpv⟩ := h.nee l d h1 h2 hso
          refine ⟨p, hp', ?_⟩
          by_cases e2 : l = 2
          · subst e2
            rw [hE3]
            split
            · rfl
            · exact hpv
          · obtain rfl : l = 1 := by omega
            rw [← Sp.onS] at hpv ⊢
            rw [hon _ _ (by omega)]
            exact (hLt.tab _ _ (by omega)).2 (.inl hpv)
      · exact (al_ok h.bk k hl).ok
      · rw [Mem.put_n, hn', h.bn]; exact ((al_ok h.bk k hl).n).symm
      · intro x
        rw [(al_ok h.bk k hl).gave, List.mem_append, h.gv, ← hc]
        constructor
        · rintro ((⟨l, d, hl', hso, rfl⟩ | hy) | hxc)
          · exact .inl ⟨l, d, hl', by rw [hon l d hl']; exact (hLt.tab l d hl').2 (.inl hso), by rw [hfr' l d hl', hLt.old l d hl' hso]⟩
          · exact .inr hy
          · obtain ⟨g, hg, rfl⟩ := List.mem_map.1 hxc
            obtain ⟨i, hi, rfl⟩ := List.getElem_of_mem hg
            rw [ha.len] at hi
            refine .inl ⟨n0 + i + 1, nd qn (n0 + i + 1), by omega, by rw [hon _ _ (by omega)]; exact (hLt.tab _ _ (by omega)).2 (.inr ⟨by omega, by omega, rfl⟩), ?_⟩
            rw [hfr' _ _ (by omega), hLt.new _ (by omega) (by omega), show n0 + i + 1 - n0 - 1 = i from by omega, List.getD_eq_getElem?_getD, List.getElem?_eq_getElem (by rw [ha.len]; exact hi)]
            simp
        · rintro (⟨l, d, hl', ho', rfl⟩ | hy)
          · rw [hon l d hl'] at ho'
            rw [hfr' l d hl']
            rcases (hLt.tab l d hl').1 ho' with hso | ⟨g1, g2, rfl⟩
            · exact .inl (.inl ⟨l, d, hl', hso, by rw [hLt.old l d hl' hso]⟩)
            · refine .inr (List.mem_map.2 ⟨c.getD (l - n0 - 1) 0, getD_mem (by rw [ha.len]; omega), ?_⟩)
              rw [hLt.new l g1 g2, Int.toNat_natCast]
          · exact .inl (.inr hy)
      · intro l d hl' ho' hy
        rw [hon l d hl'] at ho'
        rw [hfr' l d hl'] at hy
        rcases (hLt.tab l d hl').1 ho' with hso | ⟨g1, g2, rfl⟩
        · rw [hLt.old l d hl' hso] at hy; exact h.ap l d hl' hso hy
        · rw [hLt.new l g1 g2, Int.toNat_natCast] at hy
          exact h.free (ha.fr _ (getD_mem (by rw [ha.len]; omega))).2 ((h.gv _).2 (.inr hy))
end Go.Proofs.YtfdnfllefednjaaDoor

/-
  A region in the body of a loop over an iterator, walked as one outside: regions with no defer, in a fence that is wide.
-/
namespace Go.Proofs.YtfdnfllefednjaaDoor

/-- no operation of the region is a defer -/
def noDefer (ops : Array Oper) : Bool := ops.all fun o => match o.op with | .defer _ => false | _ => true
theorem noDefer_at {ops : Array Oper} (h : noDefer ops = true) {i : Nat} {o : Oper} (ho : ops[i]? = some o) : ∀ c, o.op ≠ .defer c := by
  intro c hc
  unfold noDefer at h
  rw [Array.all_eq_true] at h
  obtain ⟨hi, rfl⟩ := Array.getElem?_eq_some_iff.1 ho
  have := h i hi
  rw [hc] at this
  cases this

theorem rowsIn_round {l n : Nat} {P : Program} {row : String} {args : Array Value} {w : World} {R : Value → World → Prop} (h : Rows P row args w R) : RowsIn (Fence.wide.inRound l) n P row args w R :=
  fun c cs _ => let ⟨v, w', r, s⟩ := h c cs; ⟨v, w', r, stepsIn_wide.2 s⟩

theorem op_round {l n : Nat} {P : Program} {Q : Exit → Act → World → Prop} {o : Oper} {a : Act} {w : World} {K : Act → World → Prop} (hd : ∀ c, o.op ≠ .defer c) (h : o.wp P a w K Q) : o.wpIn (Fence.wide.inRound l) n P a w K Q := by
  refine ⟨fun _ _ => trivial, ?_⟩
  rw [Oper.semAt_eq _ _ _ hd]
  unfold Oper.wp at h
  generalize (execOp a.eval o).run P w = r at h ⊢
  cases r with
  | ok x w' =>
    cases x <;> simp only [Oper.upon, Oper.uponIn] at h ⊢
    all_goals first
      | exact h
      | exact ⟨fun x => (by cases x), callsIn_wide.2 h⟩
      | exact ⟨fun x => (by cases x), rowsIn_round h⟩
  | halt x w' => cases x <;> simp only [Oper.upon, Oper.uponIn] at h ⊢ <;> exact h

theorem ops_round {l n : Nat} {P : Program} {ops : Array Oper} {Q : Exit → Act → World → Prop} (hd : noDefer ops = true) (hQ : ¬ LetsOut Q) : ∀ (is : List Nat) (a : Act) (w : World), wpOps P ops Q is a w → wpOpsIn (Fence.wide.inRound l) n P ops Q is a w
  | [], _, _, h => h
  | i :: is, a, w, h => by
    unfold wpOps at h
    unfold wpOpsIn
    cases ho : ops[i]? with
    | none => simp only [ho] at h ⊢; exact ops_round hd hQ is a w h
    | some o =>
      simp only [ho] at h ⊢
      split at h
      · rename_i hw
        rw [if_pos hw]
        rcases h with h | ⟨_, h⟩
        · exact Oper.wpIn_mono (fun a w => ops_round hd hQ is a w) (op_round (noDefer_at hd ho) h)
        · exact absurd h hQ
      · rename_i hw
        rw [if_neg hw]
        exact ⟨fun _ _ => trivial, ops_round hd hQ is _ w h⟩

/-- a region that draws in a round: all but a tail only reads -/
theorem round_tail {l n : Nat} {P : Program} {id : Nat} {Q : Exit → Act → World → Prop} {a : Act} {w : World} {ls : List Oper} (k : Nat) (hm : P.follows .mixedOrders = true) (hB : Region.lexTailB .any ls.toArray k = true) (hd : noDefer ls.toArray = true) (hQ : ¬ LetsOut Q)
    (h : ∀ w2, w2 = w.drew → wpStill P ls.toArray w2 (fun a' => wpList P ls.toArray Q (ls.drop k) a' w2) (ls.take k) a) : (Code.region id ls.toArray true).wpIn (Fence.wide.inRound l) n P Q a w := by
  refine wpIn_region_draw fun t => ops_round hd hQ _ _ _ ?_
  simp only [Region.schedule, hm, Bool.true_or, if_true]
  refine wpAny_sound _ t _ a _ ?_
  have h := h _ rfl
  simp only [Region.lexTailB, Bool.and_eq_true, decide_eq_true_eq] at hB
  obtain ⟨⟨⟨⟨hsel, hn⟩, hs⟩, hc⟩, hlex⟩ := hB
  have hk : k < ls.length := by simpa using hn
  have e1 : (ls.take k).length = k := by simp; omega
  have e2 : (ls.drop k).length = ls.toArray.size - k := by simp
  have inv : HeadInv .any ls.toArray k (Array.replicate ls.toArray.size false) := ⟨by simp, fun j oj _ hl => (by rw [getD_replicate_false] at hl; cases hl), fun t _ ht => getD_in (by simpa using ht) (getD_replicate_false _ _)⟩
  have H := wpAnyL_lex (md := .any) (g := ls.toArray.size - k) hsel hs hc hn (ls.take k) 0 _ a (fun j hj => by
      rw [e1] at hj; simp [hj]) (by simpa using e1) inv (by rw [e1]; exact hlex) h
  have H2 := wpAny_of_head (Q' := Q) (g := ls.toArray.size - k) (fun listed a' hL => by
    have := wpAny_of_seq (md := .any) (Q' := Q) (ls.drop k) k listed a' w.drew (fun j => by simp [List.getElem?_drop]) (by rw [e2]; exact hL.1) hL.2
    rwa [e2] at this) _ _ _ H
  rw [e1, show k + (ls.toArray.size - k) = ls.toArray.size by omega] at H2
  exact H2
/-- a region in one order, in a round -/
theorem round_plain {l n : Nat} {P : Program} {id : Nat} {Q : Exit → Act → World → Prop} {a : Act} {w : World} {ls : List Oper} (hd : noDefer ls.toArray = true) (hQ : ¬ LetsOut Q) (h : wpList P ls.toArray Q ls a w) : (Code.region id ls.toArray false).wpIn (Fence.wide.inRound l) n P Q a w :=
  wpIn_region (ops_round hd hQ _ _ _ (by rw [List.range_eq_range', ← Array.length_toList, wpOps_eq_wpList ls.toArray.toList 0 (by simp)]; simpa using h))
/-! guarded operations whose guard is decided -/
theorem wpStill_off {P : Program} {ops : Array Oper} {w : World} {Q : Act → Prop} {a : Act} {o : Oper} {rest : List Oper} (hw : Region.wanted o (yielded ops a.tmps) = false) (h : wpStill P ops w Q rest (a.put o.dst undef)) : wpStill P ops w Q (o :: rest) a :=
  wpStill_step fun K hK => by rw [hw]; exact hK _ h
theorem wpStill_on {P : Program} {ops : Array Oper} {w : World} {Q : Act → Prop} {a : Act} {o : Oper} {rest : List Oper} (hw : Region.wanted o (yielded ops a.tmps) = true) (h : wpStill P ops w Q ({ o with guard := none } :: rest) a) : wpStill P ops w Q (o :: rest) a := by
  unfold wpStill at h ⊢
  rw [if_pos hw]
  exact h
theorem wpList_off {P : Program} {ops : Array Oper} {w : World} {Q : Exit → Act → World → Prop} {a : Act} {o : Oper} {rest : List Oper} (hw : Region.wanted o (yielded ops a.tmps) = false) (h : wpList P ops Q rest (a.put o.dst undef) w) : wpList P ops Q (o :: rest) a w := by
  unfold wpList
  rw [if_neg (by rw [hw]; decide)]
  exact h
theorem wpList_on {P : Program} {ops : Array Oper} {w : World} {Q : Exit → Act → World → Prop} {a : Act} {o : Oper} {rest : List Oper} (hw : Region.wanted o (yielded ops a.tmps) = true) (h : wpList P ops Q ({ o with guard := none } :: rest) a w) : wpList P ops Q (o :: rest) a w := by
  unfold wpList at h ⊢
  rw [if_pos hw]
  exact h
theorem fold2 (T : Array Value) (p q : Nat) (a b : Value) : ((#[p, q] : Array Tmp).zip #[a, b]).foldl (fun t (p, v) => t.setIfInBounds p v) T = (T.setIfInBounds p a).setIfInBounds q b := by
  simp
end Go.Proofs.YtfdnfllefednjaaDoor

/-
  Package tables: the range over the steps of a walk, from the last one on (slices.Backward over three steps).
-/
namespace Go.Proofs.YtfdnfllefednjaaDoor
open Go.ChangeShapes Go.WideShapes Go.ChangeAt Go.RowKit Go.Shelf

attribute [local go_sem] Oper.semAt_some

/-- three steps in a row of cells -/
def Steps3 (w : World) (g : Nat) (F P : Nat → Int) : Prop :=
  w.cell? ⟨g, 0, none⟩ = some (.int .i64 (F 0)) ∧ w.cell? ⟨g, 1, none⟩ = some (.int .i64 (P 0)) ∧ w.cell? ⟨g, 2, none⟩ = some (.int .i64 (F 1)) ∧ w.cell? ⟨g, 3, none⟩ = some (.int .i64 (P 1)) ∧
  w.cell? ⟨g, 4, none⟩ = some (.int .i64 (F 2)) ∧ w.cell? ⟨g, 5, none⟩ = some (.int .i64 (P 2))
theorem Steps3.kept {T : Nat → Prop} {w w' : World} {g : Nat} {F P : Nat → Int} (h : Steps3 w g F P) (u : Upd T w w') (hg : ¬ T g) : Steps3 w' g F P :=
  ⟨u.cell h.1 hg, u.cell h.2.1 hg, u.cell h.2.2.1 hg, u.cell h.2.2.2.1 hg, u.cell h.2.2.2.2.1 hg, u.cell h.2.2.2.2.2 hg⟩
/-- what a round that goes on keeps: the row and the box that names it -/
def Keeps2 (g Bn : Nat) (W W' : World) : Prop := ∀ k, k = g ∨ k = Bn → W'.heap[k]? = W.heap[k]?
theorem keeps2_t {A Bn : Nat} {X Y Z : World} (h : Keeps2 A Bn X Y) (h' : Keeps2 A Bn Y Z) : Keeps2 A Bn X Z := fun k hk => (h' k hk).trans (h k hk)
theorem keeps2_b {A Bn : Nat} {w : World} (hA : A < w.heap.size) (hB : Bn < w.heap.size) (W : World) (l : Nat) (o o' : Obj) (hl : w.heap.size ≤ l) (_ : W.heap[l]? = some o) (_ : o.isCells = false) (_ : o.isWalk = false) : Keeps2 A Bn W (W.putObj l o') := by
  intro k hk
  exact Array.getElem?_setIfInBounds_ne (by omega)
theorem keeps2_upd {T : Nat → Prop} {A Bn : Nat} {W W' : World} (u : Upd T W W') (h1 : A < W.heap.size) (h2 : Bn < W.heap.size) (h3 : ¬ T A) (h4 : ¬ T Bn) : Keeps2 A Bn W W' := by
  rintro k (rfl | rfl)
  · exact u.block _ h1 h3
  · exact u.block _ h2 h4
theorem Steps3.keeps {w w' : World} {g Bn : Nat} {F P : Nat → Int} (h : Steps3 w g F P) (k : Keeps2 g Bn w w') : Steps3 w' g F P := by
  have e := k g (.inl rfl)
  have c : ∀ j v, w.cell? ⟨g, j, none⟩ = some v → w'.cell? ⟨g, j, none⟩ = some v := fun j v h => by rw [World.cell?_of_block (w := w) e]; exact h
  exact ⟨c _ _ h.1, c _ _ h.2.1, c _ _ h.2.2.1, c _ _ h.2.2.2.1, c _ _ h.2.2.2.2.1, c _ _ h.2.2.2.2.2⟩

set_option maxHeartbeats 400000 in
theorem backward_any (o : Option Addr) (k cap : Nat) (w : World) :
    Calls Tryd.prog 69 #[.slice o k cap] w fun e w' => e = .returned (.func (.func 91) #[] #[.pointer (some ⟨w.heap.size, 0, none⟩)]) ∧ w' = w.alloc (.cells #[.slice o k cap] 119) := by
  go_enter Tryd.func69, Tryd.ntmps69
  go_wp2
  go_ret
  exact ⟨rfl, rfl⟩

def enc3 (F P : Nat → Int) (k : Nat) : Array Value := #[.int .i64 k, .agg #[.int .i64 (F k), .int .i64 (P k)]]
def back3 : List Nat := [2, 1, 0]

set_option maxRecDepth 100000 in
set_option maxHeartbeats 2000000 in
theorem back_in (n : Nat) (hn : 1 ≤ n) (l Bn g cap : Nat) (F P : Nat → Int) (J Jx : List Nat → World → Prop) (W : World)
    (_hJd : ∀ s X k, J s X → J s (X.drewN k))
    (hY : ∀ pre (x : Nat) W, J pre W → pre.length < 3 → YieldAt Fence.wide (n - 1) Tryd.prog l (enc3 F P x) W fun e W' =>
      (e = .returned (.bool true) ∧ J (pre ++ [x]) W' ∧ Keeps2 g Bn W W') ∨ (e = .returned (.bool false) ∧ Jx (pre ++ [x]) W'))
    (hBn : Boxed W Bn 119 (.slice (some ⟨g, 0, none⟩) 3 cap)) (hA : Steps3 W g F P) (h0 : J [] W) :
    CallsIn Fence.wide n Tryd.prog 91 #[.func (.yield l) #[] #[], .pointer (some ⟨Bn, 0, none⟩)] W fun e W' => (∃ v, e = .returned v) ∧
      ((∃ ys, ys = back3 ∧ J ys W') ∨ (∃ pre, pre <+: back3 ∧ Jx pre W')) := by
  refine callsIn_of_wp Tryd.func91 rfl trivial ?_ rfl
  simp only [Tryd.ntmps91, List.size_toArray, List.length_cons, List.length_nil, Nat.reduceAdd, Nat.reduceSub, Array.replicate_succ, Array.replicate_zero, List.push_toArray, List.append_toArray, List.nil_append, List.cons_append]
  have hc := hBn.cell
  gi_wp2
  clear hc
  gi_loopw [3] (fun p wr => ∃ k : Nat, k ≤ 3 ∧ p = .int .i64 (2 - k) ∧ J (back3.take k) wr ∧ Steps3 wr g F P ∧ Boxed wr Bn 119 (.slice (some ⟨g, 0, none⟩) 3 cap))
    (fun p _ => (intOf p + 1).toNat)
  case atStart => exact ⟨0, by omega, rfl, h0, hA, hBn⟩
  case round =>
    obtain ⟨k, hk, rfl, hJ, hS, hB⟩ := hrel
    have hc := hB.cell
    obtain ⟨s0, s1, s2, s3, s4, s5⟩ := hS
    have hS : Steps3 wr g F P := ⟨s0, s1, s2, s3, s4, s5⟩
    obtain rfl | rfl | rfl | rfl : k = 0 ∨ k = 1 ∨ k = 2 ∨ k = 3 := by omega
    · obtain ⟨fn, tmps, assign, body, hy, hR⟩ := hY [] 2 _ hJ (by decide)
      change (Instr.yield l #[.int .i64 2, .agg #[.int .i64 (F 2), .int .i64 (P 2)]]).run Tryd.prog wr = _ at hy
      clear s0 s1 s2 s3
      gi_wp2
      refine hR.mono ?_
      rintro e W3 (⟨rfl, hJ3, hk3⟩ | ⟨rfl, hJx3⟩)
      · gi_wp2
        go_roundw
        case rel => exact ⟨1, by omega, rfl, hJ3, hS.keeps hk3, (hk3 Bn (.inr rfl)).trans hB⟩
        case measure => simp [intOf]
      · gi_wp2
        refine bodyPost_ret (results_none rfl _ _ _) rfl ?_
        exact ⟨⟨_, rfl⟩, .inr ⟨_, by decide, hJx3⟩⟩
    · obtain ⟨fn, tmps, assign, body, hy, hR⟩ := hY [2] 1 _ hJ (by decide)
      change (Instr.yield l #[.int .i64 1, .agg #[.int .i64 (F 1), .int .i64 (P 1)]]).run Tryd.prog wr = _ at hy
      clear s0 s1 s4 s5
      gi_wp2
      refine hR.mono ?_
      rintro e W3 (⟨rfl, hJ3, hk3⟩ | ⟨rfl, hJx3⟩)
      · gi_wp2
        go_roundw
        case rel => exact ⟨2, by omega, rfl, hJ3, hS.keeps hk3, (hk3 Bn (.inr rfl)).trans hB⟩
        case measure => simp [intOf]
      · gi_wp2
        refine bodyPost_ret (results_none rfl _ _ _) rfl ?_
        exact ⟨⟨_, rfl⟩, .inr ⟨_, by decide, hJx3⟩⟩
    · obtain ⟨fn, tmps, assign, body, hy, hR⟩ := hY [2, 1] 0 _ hJ (by decide)
      change (Instr.yield l #[.int .i64 0, .agg #[.int .i64 (F 0), .int .i64 (P 0)]]).run Tryd.prog wr = _ at hy
      clear s2 s3 s4 s5
      gi_wp2
      refine hR.mono ?_
      rintro e W3 (⟨rfl, hJ3, hk3⟩ | ⟨rfl, hJx3⟩)
      · gi_wp2
        go_roundw
        case rel => exact ⟨3, by omega, rfl, hJ3, hS.keeps hk3, (hk3 Bn (.inr rfl)).trans hB⟩
        case measure => simp [intOf]
      · gi_wp2
        refine bodyPost_ret (results_none rfl _ _ _) rfl ?_
        exact ⟨⟨_, rfl⟩, .inr ⟨_, by decide, hJx3⟩⟩
    · gi_wp2
      go_end0
      exact ⟨⟨_, rfl⟩, .inl ⟨_, rfl, hJ⟩⟩

theorem back_stops (n : Nat) (hn : 1 ≤ n) (Bn g cap : Nat) (F P : Nat → Int) (w : World) (hg : g < w.heap.size) (hB : Boxed w Bn 119 (.slice (some ⟨g, 0, none⟩) 3 cap)) (hA : Steps3 w g F P) :
    SeqStopsK Fence.wide n Tryd.prog 91 #[.pointer (some ⟨Bn, 0, none⟩)] (enc3 F P) (Keeps2 g Bn) (fun ys => ys = back3) (fun pre => pre <+: back3) 3 w := fun l J Jx W hW hJ _ hY h0 =>
  back_in n hn l Bn g cap F P J Jx W (fun s X k h => hJ s X _ none h ⟨rfl, rfl, rfl, Nat.le_refl _, fun _ _ _ => rfl⟩ (by simp)) hY ((hW.block Bn hB.lt).trans hB) (hA.keeps (Bn := Bn) (fun k hk => hW.block k (by rcases hk with rfl | rfl; exact hg; exact hB.lt))) h0
end Go.Proofs.YtfdnfllefednjaaDoor

/-
  Package tables: Unmap, over the words of the memory.
-/
namespace Go.Proofs.YtfdnfllefednjaaDoor
open Go.ChangeShapes Go.WideShapes Go.ChangeAt Go.RowKit Go.Shelf

attribute [local go_sem] Oper.semAt_some

/-! what one round does to the memory and the allocator -/
section
variable (root : Int) (F P : Nat → Int)
def unPut (m : Mem) (k : Nat) : Mem := m.put (F k) (P k) En.zero
def unBrk (s : Mem × Bud) (k : Nat) : Bool := decide (F k = root) || !(unPut F P s.1 k).zero (F k)
open Classical in
noncomputable def unFree (f : Int) (s : Mem × Bud) : Mem × Bud := if ((f.toNat, 0) : Nat × Nat) ∈ s.2.gave ∧ 0 ≤ f then (s.1.scrub f 1, s.2.take (f.toNat, 0)) else s
noncomputable def unStep (s : Mem × Bud) (k : Nat) : Mem × Bud := if unBrk root F P s k = true then (unPut F P s.1 k, s.2) else unFree (F k) (unPut F P s.1 k, s.2)
noncomputable def unFold (s : Mem × Bud) (l : List Nat) : (Mem × Bud) × Bool := l.foldl (fun t k => (unStep root F P t.1 k, t.2 || unBrk root F P t.1 k)) (s, false)
theorem unFold_snoc (s : Mem × Bud) (l : List Nat) (k : Nat) : unFold root F P s (l ++ [k]) = (unStep root F P (unFold root F P s l).1 k, (unFold root F P s l).2 || unBrk root F P (unFold root F P s l).1 k) := by
  unfold unFold; rw [List.foldl_append]; rfl
end
theorem unFree_B (f : Int) (s : Mem × Bud) : (unFree f s).1.B = s.1.B := by unfold unFree; split; exact Mem.scrub_B ..; rfl
theorem unFree_good (f : Int) (s : Mem × Bud) (h : s.1.ok) (hg : s.1.good) : (unFree f s).1.good := by unfold unFree; split; exact Mem.scrub_good _ h hg _; exact hg
/-- free, whatever frame it is -/
theorem sfree_all (S MA A GB : Nat) (root : Int) (m : Mem) (b : Bud) (f : Int) (w : World) (h : SpAt w S MA A root) (hd : Duo w A MA GB m b) (hwf : (Lit.int .i64 f).wf = true) :
    Calls Tryd.prog 71 #[.pointer (some ⟨S, 0, none⟩), .int .i64 f] w fun e w' => e = .returned (.tuple #[]) ∧ Duo w' A MA GB (unFree f (m, b)).1 (unFree f (m, b)).2 ∧ Upd (fun k => k = GB ∨ k = m.B) w w' := by
  by_cases hf : ((f.toNat, 0) : Nat × Nat) ∈ b.gave ∧ 0 ≤ f
  · refine (sfree_any S MA A GB root m b f w h hd hf.2 hf.1).mono ?_
    rintro e w' ⟨rfl, d, u⟩
    unfold unFree
    rw [if_pos hf]
    exact ⟨rfl, d, u⟩
  · have hc := h.c1
    have hb : Calls Tryd.prog 92 #[.pointer (some ⟨A, 0, none⟩), .int .i64 f, .int .i64 0] w fun e w' => e = .returned (.int .i64 2) ∧ w = w' := (bFree_any A MA GB m b f 0 w hd.B hd.M hwf).mono (by
      rintro e w' (⟨_, h1, h2⟩ | ⟨x, hx, e1, e2, _⟩)
      · exact ⟨h1, h2⟩
      · have h0 : x.2 = 0 := by omega
        exact absurd ⟨by rw [← e1, Int.toNat_natCast, ← h0]; exact hx, by omega⟩ hf)
    have hu : unFree f (m, b) = (m, b) := by unfold unFree; rw [if_neg hf]
    rw [hu]
    clear hu
    clear hf hwf
    go_enter Tryd.func71, Tryd.ntmps71
    go_wp2_with (go_at_call 92; refine hb.mono ?_; rintro e w' ⟨rfl, rfl⟩)
    go_end0
    exact ⟨rfl, hd, Upd.refl _ _⟩

theorem getE_wf (m : Mem) (f p : Int) : (Lit.int .i64 (m.getE f p).f).wf = true := by
  have : 0 ≤ (m.getE f p).f ∧ (m.getE f p).f ≤ 255 := by
    unfold Mem.getE; split
    · unfold enOf ofF; simp only; split
      · rename_i h0; unfold pF; omega
      · omega
    · exact ⟨by decide, by decide⟩
  obtain ⟨j, hj⟩ := Int.eq_ofNat_of_zero_le this.1
  rw [hj]
  exact wf_frame (by omega)
theorem own_un {α : Type} {A MA GB : Nat} (st : α → Mem × Bud) (R : α → Prop) (T : Nat → Prop) (w3 : World) (B : Nat) (hA : A < w3.heap.size) (hM : MA < w3.heap.size) (hG : GB < w3.heap.size) (hB : B < w3.heap.size) (hR : ∀ s, R s → (st s).1.B = B) :
    OwnFrom w3.heap.size (fun s W => Duo W A MA GB (st s).1 (st s).2 ∧ Upd T w3 W ∧ R s) := by
  rintro s W W' row ⟨d, u, r⟩ hg hr
  have u' : Upd (fun k => some k = row) W W' := ⟨hg.os, hg.tape, hg.output, hg.size, fun k hk hn => hg.block k hk hn⟩
  have no : ∀ k, k < w3.heap.size → ¬ some k = row := fun k hk e => by have := (hr k e.symm).1; omega
  refine ⟨d.kept u' (no _ hA) (no _ hG) (no _ hM) (no _ (by rw [hR s r]; exact hB)), ⟨u'.os.trans u.os, u'.tape.trans u.tape, u'.output.trans u.output, Nat.le_trans u.size u'.size, fun k hk hn => ?_⟩, r⟩
  rw [u'.block k (Nat.lt_of_lt_of_le hk u.size) (no k hk)]
  exact u.block k hk hn

theorem Upd.putObjS {S : Nat → Prop} {a b : World} (h : Upd S a b) {l : Nat} (hl : S l ∨ a.heap.size ≤ l) (o : Obj) : Upd S a (b.putObj l o) :=
  ⟨h.os, h.tape, h.output, by have := h.size; simpa [World.putObj] using this, fun k hk hn => by
    have : (b.putObj l o).heap[k]? = b.heap[k]? := Array.getElem?_setIfInBounds_ne (by
      rintro rfl
      rcases hl with hl | hl
      · exact hn hl
      · omega)
    rw [this]; exact h.block k hk hn⟩
theorem Upd.putObj {S : Nat → Prop} {a b : World} (h : Upd S a b) {l : Nat} (hl : a.heap.size ≤ l) (o : Obj) : Upd S a (b.putObj l o) := h.putObjS (.inr hl) o
set_option maxRecDepth 100000 in
set_option maxHeartbeats 1000000 in
theorem sunmap_any (S MA A GB : Nat) (root : Int) (m : Mem) (b : Bud) (q : Int) (w : World) (h : SpAt w S MA A root) (hd : Duo w A MA GB m b) (T : Tab w) (hg : m.good) (hr : (Lit.int .i64 root).wf = true) :
    Calls Tryd.prog 31 #[.pointer (some ⟨S, 0, none⟩), .int .i64 q] w fun e w' =>
      (m.wX root q ≠ 0 ∧ e = .returned (.tuple #[.int .i64 0, .int .i64 (m.wX root q)]) ∧ Upd (fun _ => False) w w') ∨
      (m.wX root q = 0 ∧ ∃ pre, pre <+: back3 ∧ (pre = back3 ∨ (unFold root (m.wF root q) (fun k => idxI q k) (m, b) pre).2 = true) ∧ (unFold root (m.wF root q) (fun k => idxI q k) (m, b) pre.dropLast).2 = false ∧ e = .returned (.tuple #[.int .i64 (m.wE root q).f, .int .i64 0]) ∧
        Duo w' A MA GB (unFold root (m.wF root q) (fun k => idxI q k) (m, b) pre).1.1 (unFold root (m.wF root q) (fun k => idxI q k) (m, b) pre).1.2 ∧ Upd (fun k => k = GB ∨ k = m.B) w w') := by
  have cW := Lib.hid (fun (W : World) (hW : w.heap.size ≤ W.heap.size) (h : MemAt W MA m) (T : Tab W) => walk_row (root := root) (q := q) w.heap.size hW h T hg)
  have hm := hd.M
  have h3 := Lib.hid (fun e => (m.wX_ok root q e).1)
  have hS2 := Lib.hid (fun k n => m.wS_at root q k n)
  generalize eX : m.wX root q = X at cW h3 ⊢
  generalize eN : m.wN root q = n at cW h3
  generalize eE : m.wE root q = E at cW ⊢
  generalize exs : m.wS root q n = xs at cW
  obtain ⟨ev, er, et, ef⟩ := E
  have Hxs := Lib.hid exs
  have Hg := Lib.hid hg
  have Hr := Lib.hid hr
  have hap := h.apart hd
  have hWf : Hid (∀ k, Hid ((Lit.int .i64 (m.wF root q k)).wf = true)) := Lib.hid (fun k => Lib.hid (by
    cases k with
    | zero => exact hr
    | succ k => exact getE_wf m _ _))
  have hlt : Hid (S < w.heap.size ∧ A < w.heap.size ∧ MA < w.heap.size ∧ GB < w.heap.size ∧ m.B < w.heap.size) := Lib.hid ⟨lt_of_heap h, hd.B.lts.1, lt_of_heap hd.M.head, hd.B.lts.2, lt_of_heap hd.M.body⟩
  clear eX eN exs eE hg hr
  refine (callsIn_wide (n := 3)).1 ?_
  refine callsIn_of_wp_marks Tryd.func31 rfl trivial ?_ rfl
  simp only [Tryd.ntmps31, List.size_toArray, List.length_cons, List.length_nil, Nat.reduceAdd, Nat.reduceSub, Array.replicate_succ, Array.replicate_zero, List.push_toArray, List.append_toArray, List.nil_append, List.cons_append]
  refine wpIn_wide.2 ?_
  have uB := (Upd.refl (fun _ => False) w).alloc (.cells #[.pointer (some ⟨S, 0, none⟩)] 68)
  have bx := Boxed.new w 68 (.pointer (some ⟨S, 0, none⟩))
  go_upto_region 1 with fail
  have sz1 : Hid (w.heap.size ≤ (w.alloc (.cells #[.pointer (some ⟨S, 0, none⟩)] 68)).heap.size) := Lib.hid (by simp)
  have h1 := h.kept uB id
  have d1 := hd.still uB
  have T1 := T.kept uB
  clear h hd T hm
  generalize w.alloc (.cells #[.pointer (some ⟨S, 0, none⟩)] 68) = w1 at uB bx sz1 h1 d1 T1 ⊢
  have hm := d1.M
  have c0 := h1.c0
  have c2 := h1.c2
  have cb := bx.cell
  generalize hX : w.heap.size = X0 at cW sz1 bx cb hlt ⊢
  have HX := Lib.hid hX
  clear hX
  have hS := Lib.hid (show ∀ (W' : World), Upd (fun _ => False) w1 W' → W'.cell? ⟨X0, 0, none⟩ = some (.pointer (some ⟨S, 0, none⟩)) ∧ W'.cell? ⟨S, 0, none⟩ = some (.pointer (some ⟨MA, 0, none⟩)) ∧ W'.cell? ⟨S, 2, none⟩ = some (.int .i64 root) ∧ Upd (fun _ => False) w1 W' from fun W' u => ⟨u.cell cb id, u.cell c0 id, u.cell c2 id, u⟩)
  go_cut [6, 7, 8] from 12 to 24 (fun s6 s7 s8 wx => ∃ (D : Nat) (o : Option Addr) (cap : Nat), s6 = .pointer (some ⟨D, 0, none⟩) ∧ s7 = .slice o n cap ∧ s8 = .int .i64 X ∧ Hid (wx.ownsRow X0 128 2 (.slice o n cap) n xs) ∧ Upd (fun _ => False) w1 wx ∧ Hid (EntAt wx D ev er et ef) ∧ Hid (X0 ≤ D))
  case first =>
    go_region_held3 (fun w' => w'.cell? ⟨X0, 0, none⟩ = some (.pointer (some ⟨S, 0, none⟩)) ∧ w'.cell? ⟨S, 0, none⟩ = some (.pointer (some ⟨MA, 0, none⟩)) ∧ w'.cell? ⟨S, 2, none⟩ = some (.int .i64 root) ∧ Upd (fun _ => False) w1 w')
      (first
        | assumption
        | exact hS.out _ (Upd.refl _ _).drew
        | exact hS.out _ ((Upd.refl _ _).drew.alloc _)
        | exact hS.out _ u7
        | exact hS.out _ (u7.alloc _)
        | exact hS.out _ ((((u7.setCell (.inr (Nat.le_refl _)) _).setCell (.inr (Nat.le_refl _)) _).setCell (.inr (Nat.le_refl _)) _).setCell (.inr (Nat.le_refl _)) _)
        | exact hS.out _ (((((u7.alloc _).setCell (.inr u7.size) _).setCell (.inr u7.size) _).setCell (.inr u7.size) _).setCell (.inr u7.size) _))
      (first
        | (go_at_call 65; go_split_ands; rename_i s0 s1 s2 s3; refine (cW.out (w1.alloc (.cells #[.bool false, .bool false, .bool false, .int .i64 0] 34)).drew (Nat.le_trans sz1.out s3.size) (hm.kept s3 id id) (T1.kept s3)).mono ?_; rintro e w6 ⟨o, cap, rfl, r6, u6⟩; have u7 := s3.trans u6; have e7 : Hid (EntAt w6 w1.heap.size false false false 0) := Lib.hid (u6.at (heap_alloc_last w1 _) id); obtain ⟨e0, e1, e2, e3, z0, z1, z2, z3⟩ := e7.out.eight)
        | (go_at_call 65; go_split_ands; rename_i s0 s1 s2 s3; refine (cW.out _ (Nat.le_trans sz1.out s3.size) (hm.kept s3 id id) (T1.kept s3)).mono ?_; rintro e w6 ⟨o, cap, rfl, r6, u6⟩; have u7 := s3.trans u6))
    all_goals (go_wp2_with fail)
    all_goals go_meet
    all_goals
      first
        | exact ⟨w1.heap.size, o, cap, rfl, rfl, rfl, Lib.hid (wk_kept r6.out (((((Upd.refl (· = w1.heap.size) w6).setCell (.inl rfl) _).setCell (.inl rfl) _).setCell (.inl rfl) _).setCell (.inl rfl) _) (wk_ne r6.out e7.out (by decide))), (((u7.setCell (.inr (Nat.le_refl _)) _).setCell (.inr (Nat.le_refl _)) _).setCell (.inr (Nat.le_refl _)) _).setCell (.inr (Nat.le_refl _)) _, Lib.hid (e7.out.set ev er et ef), sz1⟩
        | exact ⟨w6.heap.size, o, cap, rfl, rfl, rfl, Lib.hid (wk_kept r6.out ((Upd.refl (fun _ => False) w6).alloc _) (fun _ _ => id)), u7.alloc _, Lib.hid (heap_alloc_last w6 _), Lib.hid (Nat.le_trans sz1.out u7.size)⟩
  case rest =>
    obtain ⟨D, o, cap, rfl, rfl, rfl, hrow, u8, hE, hDX⟩ := hcut
    clear hS cW c0 c2 cb hm
    have h2 := h1.kept u8 id
    have d2 := d1.still u8
    have T2 := T1.kept u8
    have b2 : Boxed wc X0 68 (.pointer (some ⟨S, 0, none⟩)) := u8.at bx id
    have U2 := uB.trans u8
    clear h1 d1 T1 bx uB u8 sz1
    by_cases hX : X = 0
    · obtain rfl := h3.out hX
      subst hX
      obtain ⟨g, rfl, hgN, hcs⟩ := row2_at hrow.out (by omega)
      have hst : Steps3 wc g (m.wF root q) (fun k => idxI q k) := by
        have a0 := hS2.out 0 3 (by omega)
        have a1 := hS2.out 1 3 (by omega)
        have a2 := hS2.out 2 3 (by omega)
        rw [Hxs.out] at a0 a1 a2
        exact ⟨hcs _ _ a0.1, hcs _ _ a0.2, hcs _ _ a1.1, hcs _ _ a1.2, hcs _ _ a2.1, hcs _ _ a2.2⟩
      have hgl : g < wc.heap.size := World.block_lt_of_cell? wc _ hst.1
      clear hcs hS2 h3 Hxs hrow
      go_wp2_with fail
      refine (backward_any _ _ _ _).mono ?_
      rintro e w3 ⟨rfl, rfl⟩
      have bS := Boxed.new wc 119 (.slice (some ⟨g, 0, none⟩) 3 cap)
      have uS := (Upd.refl (fun _ => False) wc).alloc (.cells #[.slice (some ⟨g, 0, none⟩) 3 cap] 119)
      go_wp2_with fail
      rename_i K hK
      have h3 := h2.kept uS id
      have d3 := d2.still uS
      have T3 := T2.kept uS
      have b3 : Boxed _ X0 68 (.pointer (some ⟨S, 0, none⟩)) := uS.at b2 id
      have U3 := U2.trans uS
      have hE3 := Lib.hid (hE.out.kept uS id)
      have st3 := hst.kept uS id
      have hg3 := Nat.lt_of_lt_of_le hgl uS.size
      have hDl : D < _ := lt_of_heap hE3.out
      have hNl := bS.lt
      clear h2 d2 T2 b2 U2 hE hst uS
      generalize wc.alloc (.cells #[.slice (some ⟨g, 0, none⟩) 3 cap] 119) = w3 at bS h3 d3 T3 b3 U3 hE3 st3 hg3 hDl hNl ⊢
      have hNX : Hid (X0 ≤ wc.heap.size) := Lib.hid (Nat.le_trans hgN (Nat.le_of_lt hgl))
      clear hgl
      generalize wc.heap.size = N at bS hNl hNX ⊢
      have ⟨l1, l2, l3, l4, l5⟩ := hlt.out
      have s3 : X0 ≤ w3.heap.size := by have := lt_of_heap b3; omega
      refine (wpIn_wide (n := 3)).1 ?_
      refine wpIn_rangeFunc_ownH rfl (by decide) (gf := 91) (lb := #[.pointer (some ⟨N, 0, none⟩)]) rfl trivial (enters_of Tryd.func91 (by kernel_rfl) rfl)
        (back_stops (3 - 1) (by decide) N g cap (m.wF root q) (fun k => idxI q k) w3 hg3 bS st3) keeps2_t (keeps2_b hg3 hNl) (Below.refl _ _) (fun _ => rfl)
        (fun pre W => Duo W A MA GB (unFold root (m.wF root q) (fun k => idxI q k) (m, b) pre).1.1 (unFold root (m.wF root q) (fun k => idxI q k) (m, b) pre).1.2 ∧ Upd (fun k => k = GB ∨ k = m.B) w3 W ∧ ((unFold root (m.wF root q) (fun k => idxI q k) (m, b) pre).1.1.B = m.B ∧ (unFold root (m.wF root q) (fun k => idxI q k) (m, b) pre).1.1.good ∧ (unFold root (m.wF root q) (fun k => idxI q k) (m, b) pre).2 = false))
        (fun c pre W => Duo W A MA GB (unFold root (m.wF root q) (fun k => idxI q k) (m, b) pre).1.1 (unFold root (m.wF root q) (fun k => idxI q k) (m, b) pre).1.2 ∧ Upd (fun k => k = GB ∨ k = m.B) w3 W ∧ ((unFold root (m.wF root q) (fun k => idxI q k) (m, b) pre).1.1.B = m.B ∧ c = .exit 0 ∧ (unFold root (m.wF root q) (fun k => idxI q k) (m, b) pre).2 = true ∧ (unFold root (m.wF root q) (fun k => idxI q k) (m, b) pre.dropLast).2 = false))
        (own_un (fun pre => (unFold root (m.wF root q) (fun k => idxI q k) (m, b) pre).1) _ _ w3 m.B (by omega) (by omega) (by omega) (by omega) (fun _ r => r.1))
        (fun c => own_un (fun pre => (unFold root (m.wF root q) (fun k => idxI q k) (m, b) pre).1) _ _ w3 m.B (by omega) (by omega) (by omega) (by omega) (fun _ r => r.1))
        ⟨d3, Upd.refl _ _, rfl, Hg.out, rfl⟩
        (fun x a' W => ∃ B1, w3.heap.size ≤ B1 ∧ W.heap[B1]? = some (.cells #[.int .i64 (m.wF root q x), .int .i64 (idxI q x)] 128 (0, 0)) ∧ a' = { tmps := #[.pointer (some ⟨S, 0, none⟩), .int .i64 q, .pointer (some ⟨X0, 0, none⟩), undef, .int .i64 0, .int .i64 0, .pointer (some ⟨D, 0, none⟩), .slice (some ⟨g, 0, none⟩) 3 cap, .int .i64 0, undef, .pointer (some ⟨B1, 0, none⟩), u11, u12, u13, u14, u15, u16, u17, u18, u19, u20, u21, u22, u23, u24, .int .i64 0, .bool false, undef, .slice (some ⟨g, 0, none⟩) 3 cap, .func (.func 91) #[] #[.pointer (some ⟨N, 0, none⟩)], .int .i64 x, .agg #[.int .i64 (m.wF root q x), .int .i64 (idxI q x)], undef, undef, undef, undef, undef, undef, undef, undef, undef, undef, undef, undef, undef, undef, undef, undef, undef, undef, undef, undef, undef, undef, undef, undef, undef, undef, undef, undef, undef, undef, undef, undef, undef], defers := [] })
        ?ax ?assign ?body ?done ?stop
      case ax =>
        rintro x a' - W W' row ⟨B1, hB1, hc, e⟩ hg hr
        refine ⟨B1, hB1, ?_, e⟩
        rw [hg.block B1 (lt_of_heap hc) (fun e => by obtain ⟨_, o, ho, hk⟩ := hr B1 e.symm; rw [hc] at ho; cases ho; cases hk)]
        exact hc
      case assign =>
        rintro l pre x W K2 hI hK2
        have a1 := heap_alloc_last W (.cells #[.int .i64 0, .int .i64 0] 128)
        rw [show enc3 (m.wF root q) (fun k => idxI q k) x = #[.int .i64 x, .agg #[.int .i64 (m.wF root q x), .int .i64 (idxI q x)]] from rfl, fold2]
        simp only [List.setIfInBounds_toArray, List.set_cons_succ, List.set_cons_zero]
        have th := Lib.hid (two_there a1)
        have a2 := heap_alloc_last W (.cells #[.int .i64 (m.wF root q x), .int .i64 (idxI q x)] 128)
        have u1 : Upd (fun _ => False) W (W.alloc (.cells #[.int .i64 (m.wF root q x), .int .i64 (idxI q x)] 128)) := (Upd.refl _ _).alloc _
        have HK2 := Lib.hid hK2
        obtain ⟨dI, uI, eB, hgI, hbr⟩ := hI
        have k1 : KeepsFrom w3.heap.size W (W.alloc (.cells #[.int .i64 (m.wF root q x), .int .i64 (idxI q x)] 128)) := ⟨u1.size, fun k o _ ho _ => u1.at ho id⟩
        have hsz := uI.size
        refine round_plain (by kernel_rfl) ?_ ?_
        · rintro ⟨_, _, h⟩
          exact h
        go_wp2_with (with_reducible refine wpList_store_sz rfl 128 (.tmp 10) (.tmp 31) rfl W.heap.size 0 #[.int .i64 (m.wF root q x), .int .i64 (idxI q x)] rfl rfl 2 rfl th.out (by kernel_rfl) rfl [.int .i64 (m.wF root q x), .int .i64 (idxI q x)] rfl ?_)
        refine HK2.out _ _ k1 (keeps2_upd u1 (by omega) (by omega) id id) ⟨dI.still u1, uI.trans (u1.mono (fun _ _ x => x.elim)), eB, hgI, hbr⟩ ⟨W.heap.size, hsz, a2, rfl⟩
      case body =>
        rintro l pre x a' W hl1 hl2 ⟨dI, uI, eB, hgI, hbr⟩ ⟨B1, hB1, hc1, rfl⟩ hlen
        have uW : Upd (fun k => k = GB ∨ k = m.B) w3 W := uI
        have hW := h3.kept uW hap
        have bW : Boxed W X0 68 (.pointer (some ⟨S, 0, none⟩)) := uW.at b3 (by omega)
        have TW := T3.keptS uW (by
          rintro (e | e)
          · exact T3.apartG d3.B e
          · exact T3.apart d3.M e)
        have HI := Lib.hid (unFold_snoc root (m.wF root q) (fun k => idxI q k) (m, b) pre x)
        have Hpre : Hid ((unFold root (m.wF root q) (fun k => idxI q k) (m, b) (pre ++ [x]).dropLast).2 = false) := Lib.hid (by rw [List.dropLast_concat]; exact hbr)
        generalize hs : unFold root (m.wF root q) (fun k => idxI q k) (m, b) pre = sp at dI eB hgI hbr HI
        obtain ⟨⟨mm, bb⟩, br⟩ := sp
        dsimp only at dI eB hgI hbr
        subst hbr
        clear hs
        gi_wp2_with fail
        rename_i K6 hK6
        refine round_tail 9 (by kernel_rfl) (by kernel_rfl) (by kernel_rfl) ?_ ?_
        · rintro ⟨_, _, h⟩
          exact h
        simp only [List.take_succ_cons, List.take_zero, List.drop_succ_cons, List.drop_zero]
        intro W5 hW5
        have U5 : Upd (fun k => k = GB ∨ k = m.B) w3 W5 := by rw [hW5]; exact uW.drew
        have u5 : Upd (fun _ => False) W W5 := by rw [hW5]; exact (Upd.refl _ _).drew
        have h5 : SpAt W5 S MA A root := hW.kept u5 id
        have d5 : Duo W5 A MA GB mm bb := dI.still u5
        have T5 : Tab W5 := TW.kept u5
        have a5 := u5.at hc1 id
        have b5 : Boxed W5 X0 68 (.pointer (some ⟨S, 0, none⟩)) := u5.at bW id
        have HS := Lib.hid (show W.heap.size ≤ W5.heap.size from u5.size)
        have HU := Lib.hid u5
        clear hW5 u5 hW dI TW bW
        have c0 := h5.c0
        have cb := b5.cell
        obtain ⟨b0, b1⟩ := box2 a5
        repeat still_step
        refine wpStill_nil ?_
        go_wp2_with fail
        refine (wput_any MA mm (m.wF root q x) (idxI q x) En.zero _ d5.M T5 (by decide)).mono ?_
        rintro z W6 ⟨rfl, M6, u6⟩
        go_wp2_with fail
        try refine hK6 _ _ ?_
        have U6 := U5.trans (u6.mono (T := fun k => k = GB ∨ k = m.B) (fun _ _ e => .inr (e.trans eB)))
        have h6 := h5.kept u6 (fun e => hap (.inr (e.trans eB)))
        have d6 : Duo W6 A MA GB (unPut (m.wF root q) (fun k => idxI q k) mm x) bb := d5.cleared M6 u6 (Mem.put_n _ _ _ _)
        have T6 := T5.keptS u6 (T5.apart d5.M)
        have a6 := u6.at a5 (by omega)
        have b6 : Boxed W6 X0 68 (.pointer (some ⟨S, 0, none⟩)) := u6.at b5 (by omega)
        have HU6 := Lib.hid ((HU.out.mono (T := fun k => k = GB ∨ k = m.B) (fun _ _ x => x.elim)).trans (u6.mono (T := fun k => k = GB ∨ k = m.B) (fun _ _ e => .inr (e.trans eB))))
        have hg6 : Hid ((unPut (m.wF root q) (fun k => idxI q k) mm x).good ∧ (unPut (m.wF root q) (fun k => idxI q k) mm x).B = m.B) := Lib.hid ⟨mm.put_good d5.M.okm hgI _ _ _, (Mem.put_B _ _ _ _).trans eB⟩
        clear U5 h5 d5 T5 a5 b5 HU c0 cb b0 b1 u6 M6 HS
        have hwx : Hid ((Lit.int .i64 (m.wF root q x)).wf = true) := hWf.out x
        have HA := Lib.hid (show unBrk root (m.wF root q) (fun k => idxI q k) (mm, bb) x = true → unFold root (m.wF root q) (fun k => idxI q k) (m, b) (pre ++ [x]) = ((unPut (m.wF root q) (fun k => idxI q k) mm x, bb), true) from fun h => by
          rw [HI.out, h]; unfold unStep; rw [if_pos h]; rfl)
        have HB := Lib.hid (show unBrk root (m.wF root q) (fun k => idxI q k) (mm, bb) x = false → unFold root (m.wF root q) (fun k => idxI q k) (m, b) (pre ++ [x]) = (unFree (m.wF root q x) (unPut (m.wF root q) (fun k => idxI q k) mm x, bb), false) from fun h => by
          rw [HI.out, h]; unfold unStep; rw [if_neg (by rw [h]; decide)]; rfl)
        have HZ : Hid (unBrk root (m.wF root q) (fun k => idxI q k) (mm, bb) x = (decide (m.wF root q x = root) || !(unPut (m.wF root q) (fun k => idxI q k) mm x).zero (m.wF root q x))) := Lib.hid rfl
        clear HI hgI eB
        obtain ⟨res, hres⟩ : ∃ res, unFold root (m.wF root q) (fun k => idxI q k) (m, b) (pre ++ [x]) = res := ⟨_, rfl⟩
        rw [hres] at HA HB
        have Hres := Lib.hid hres
        clear hres
        generalize unBrk root (m.wF root q) (fun k => idxI q k) (mm, bb) x = brk at HA HB HZ
        generalize unPut (m.wF root q) (fun k => idxI q k) mm x = m1 at d6 hg6 HA HB HZ
        have hb1 : Hid (B1 ≠ GB ∧ B1 ≠ m.B) := Lib.hid ⟨by omega, by omega⟩
        have hkf : Hid (∀ W', Upd (fun k => k = GB ∨ k = m.B) W W' → KeepsFrom w3.heap.size W W' ∧ Keeps2 g N W W') := Lib.hid (fun W' u => by
          have := uW.size
          exact ⟨⟨u.size, fun k o hk ho _ => u.at ho (by omega)⟩, keeps2_upd u (by omega) (by omega) (by have := hNX.out; omega) (by have := hNX.out; omega)⟩)
        generalize m.wF root q x = f at a6 hwx HA HB HZ ⊢
        generalize idxI q x = pl at a6 HA HB HZ ⊢
        by_cases hF : f = root
        · subst hF
          have hbk : Hid (brk = true) := Lib.hid (by rw [HZ.out]; simp)
          have HR := Lib.hid (HA.out hbk.out)
          clear HA HB HZ
          gi_wp2_with fail
          rename_i K7 hK7
          refine round_tail 14 (by kernel_rfl) (by kernel_rfl) (by kernel_rfl) ?_ ?_
          · rintro ⟨_, _, h⟩
            exact h
          simp only [List.take_succ_cons, List.take_zero, List.drop_succ_cons, List.drop_zero]
          intro W7 hW7
          have u7 : Upd (fun _ => False) W6 W7 := by rw [hW7]; exact (Upd.refl _ _).drew
          have U7 := U6.trans (u7.mono (T := fun k => k = GB ∨ k = m.B) (fun _ _ x => x.elim))
          have HU7 := Lib.hid (HU6.out.trans (u7.mono (T := fun k => k = GB ∨ k = m.B) (fun _ _ x => x.elim)))
          have h7 := h6.kept u7 id
          have d7 := d6.still u7
          have T7 := T6.kept u7
          have a7 := u7.at a6 id
          have b7 : Boxed W7 X0 68 (.pointer (some ⟨S, 0, none⟩)) := u7.at b6 id
          clear hW7 u7 U6 h6 d6 T6 a6 b6 HU6
          have c0 := h7.c0
          have c2 := h7.c2
          have cb := b7.cell
          obtain ⟨b0, b1⟩ := box2 a7
          iterate 8 still_step
          iterate 6 (with_reducible refine wpStill_off (by simp [Region.wanted, yielded]) ?_; simp only [Act.put, List.setIfInBounds_toArray, List.set_cons_succ, List.set_cons_zero])
          with_reducible refine wpStill_nil ?_
          iterate 2 (with_reducible refine wpList_off (by simp [Region.wanted, yielded]) ?_; simp only [Act.put, List.setIfInBounds_toArray, List.set_cons_succ, List.set_cons_zero])
          go_wp2_with fail
          try refine hK7 _ _ ?_
          gi_wp2
          have R := Hres.out.trans HR.out
          exact ⟨(hkf.out _ HU7.out).1, by rw [R]; exact d7, U7, by rw [R]; exact hg6.out.2, rfl, by rw [R], Hpre.out⟩
        · have hd : decide (f = root) = false := by simp [hF]
          gi_wp2_with fail
          rename_i K7 hK7
          refine round_tail 14 (by kernel_rfl) (by kernel_rfl) (by kernel_rfl) ?_ ?_
          · rintro ⟨_, _, h⟩
            exact h
          simp only [List.take_succ_cons, List.take_zero, List.drop_succ_cons, List.drop_zero]
          intro W7 hW7
          have u7 : Upd (fun _ => False) W6 W7 := by rw [hW7]; exact (Upd.refl _ _).drew
          have U7 := U6.trans (u7.mono (T := fun k => k = GB ∨ k = m.B) (fun _ _ x => x.elim))
          have HU7 := Lib.hid (HU6.out.trans (u7.mono (T := fun k => k = GB ∨ k = m.B) (fun _ _ x => x.elim)))
          have h7 := h6.kept u7 id
          have d7 := d6.still u7
          have T7 := T6.kept u7
          have a7 := u7.at a6 id
          have b7 : Boxed W7 X0 68 (.pointer (some ⟨S, 0, none⟩)) := u7.at b6 id
          clear hW7 u7 U6 h6 d6 T6 a6 b6 HU6
          have c0 := h7.c0
          have c2 := h7.c2
          have cb := b7.cell
          obtain ⟨b0, b1⟩ := box2 a7
          iterate 8 still_step
          iterate 6 (with_reducible refine wpStill_on (by simp [Region.wanted, yielded, hF]) ?_; still_step)
          with_reducible refine wpStill_nil ?_
          with_reducible refine wpList_on ?_ ?_
          · simp [Region.wanted, yielded, hF]
          go_wp2_with fail
          refine (wblank_any MA m1 f _ d7.M T7 hg6.out.1).mono ?_
          rintro z W8 ⟨rfl, u8⟩
          have U8 := U7.trans (u8.mono (T := fun k => k = GB ∨ k = m.B) (fun _ _ x => x.elim))
          have HU8 := Lib.hid (HU7.out.trans (u8.mono (T := fun k => k = GB ∨ k = m.B) (fun _ _ x => x.elim)))
          have h8 := h7.kept u8 id
          have d8 := d7.still u8
          have T8 := T7.kept u8
          have a8 := u8.at a7 id
          have b8 : Boxed W8 X0 68 (.pointer (some ⟨S, 0, none⟩)) := u8.at b7 id
          clear c0 c2 cb b0 b1 U7 HU7 h7 d7 T7 a7 b7 u8
          cases hz : m1.zero f
          · have hbk : Hid (brk = true) := Lib.hid (by rw [HZ.out, hz]; simp)
            have HR := Lib.hid (HA.out hbk.out)
            clear HA HB HZ
            go_wp2_with fail
            try refine hK7 _ _ ?_
            gi_wp2
            have R := Hres.out.trans HR.out
            exact ⟨(hkf.out _ HU8.out).1, by rw [R]; exact d8, U8, by rw [R]; exact hg6.out.2, rfl, by rw [R], Hpre.out⟩
          · have hbk : Hid (brk = false) := Lib.hid (by rw [HZ.out, hz, hd]; rfl)
            have HR := Lib.hid (HB.out hbk.out)
            clear HA HB HZ
            go_wp2_with fail
            try refine hK7 _ _ ?_
            have hmo := d8.M.okm
            have cb := b8.cell
            obtain ⟨b0, b1⟩ := box2 a8
            gi_wp2
            refine ⟨trivial, (callsIn_wide.2 (sfree_all S MA A GB root m1 bb f _ h8 d8 hwx.out)).mono ?_⟩
            rintro z W9 ⟨rfl, d9, u9⟩
            have u9' : Upd (fun k => k = GB ∨ k = m.B) W8 W9 := u9.mono (fun _ _ e => by rwa [hg6.out.2] at e)
            clear u9 cb b0 b1 d8
            gi_wp2
            have R := Hres.out.trans HR.out
            have hk9 := hkf.out _ (HU8.out.trans u9')
            exact ⟨hk9.1, hk9.2, by rw [R]; exact d9, U8.trans u9', by rw [R]; exact (unFree_B f (m1, bb)).trans hg6.out.2, by rw [R]; exact unFree_good f (m1, bb) hmo hg6.out.1, by rw [R]⟩
      case done =>
        rintro D2 ys W hD rfl ⟨dI, uI, eB, hgI, hbr⟩ hdef
        have hEW := Lib.hid (hE3.out.kept uI (by have := hDX.out; omega))
        obtain ⟨e0, e1, e2, e3, z0, z1, z2, z3⟩ := hEW.out.eight
        have uF : Upd (fun k => k = GB ∨ k = m.B) w W := (U3.none).trans uI
        have uF2 := uF.putObj (l := D2) (by have := U3.size; omega) (.deferred none)
        have dF : Duo (W.putObj D2 (.deferred none)) A MA GB _ _ := dI.kept (S := (· = D2)) (Upd.putObjS (S := (· = D2)) (Upd.refl _ W) (.inl rfl) (.deferred none)) (by omega) (by omega) (by omega) (by rw [eB]; omega)
        refine hK _ _ ?_
        go_wp2
        refine ⟨by simp, .inl ⟨_, _, rfl, run_takeDeferred hdef, ?_⟩⟩
        refine ⟨_, results_tmp2 rfl _ _ _, ?_⟩
        have hdl : (unFold root (m.wF root q) (fun k => idxI q k) (m, b) back3.dropLast).2 = false := by
          rw [show back3 = [2, 1] ++ [0] from rfl, unFold_snoc] at hbr
          rw [show back3.dropLast = [2, 1] from rfl]
          cases hx : (unFold root (m.wF root q) (fun k => idxI q k) (m, b) [2, 1]).2
          · rfl
          · rw [hx] at hbr; cases hbr
        first | exact .inr ⟨rfl, back3, List.prefix_refl _, .inl rfl, hdl, rfl, dF, uF2⟩ | exact ⟨back3, List.prefix_refl _, .inl rfl, hdl, rfl, dF, uF2⟩
      case stop =>
        rintro D2 c pre W hD hpre ⟨dI, uI, eB, rfl, hbr⟩ hdef
        have hEW := Lib.hid (hE3.out.kept uI (by have := hDX.out; omega))
        obtain ⟨e0, e1, e2, e3, z0, z1, z2, z3⟩ := hEW.out.eight
        have uF : Upd (fun k => k = GB ∨ k = m.B) w W := (U3.none).trans uI
        have uF2 := uF.putObj (l := D2) (by have := U3.size; omega) (.deferred none)
        have dF : Duo (W.putObj D2 (.deferred none)) A MA GB _ _ := dI.kept (S := (· = D2)) (Upd.putObjS (S := (· = D2)) (Upd.refl _ W) (.inl rfl) (.deferred none)) (by omega) (by omega) (by omega) (by rw [eB]; omega)
        gi_wp2
        go_wp2
        refine ⟨by simp, .inl ⟨_, _, rfl, run_takeDeferred hdef, ?_⟩⟩
        refine ⟨_, results_tmp2 rfl _ _ _, ?_⟩
        first | exact .inr ⟨rfl, pre, hpre, .inr hbr.1, hbr.2, rfl, dF, uF2⟩ | exact ⟨pre, hpre, .inr hbr.1, hbr.2, rfl, dF, uF2⟩
    · go_wp2
      refine ⟨_, results_tmp2 rfl _ _ _, ?_⟩
      first | exact .inl ⟨hX, rfl, U2⟩ | exact ⟨hX, rfl, U2⟩ | exact ⟨rfl, U2⟩
end Go.Proofs.YtfdnfllefednjaaDoor

/-
  Package tables: New and Close.
-/
namespace Go.Proofs.YtfdnfllefednjaaDoor
open Go.ChangeShapes Go.WideShapes Go.ChangeAt Go.RowKit Go.Shelf Go.Sort

set_option maxHeartbeats 400000 in
theorem snew_nil (o o' : Option Addr) (w : World) (h : o = none ∨ o' = none) :
    Calls Tryd.prog 38 #[.pointer o, .pointer o'] w fun e w' => e = .returned (.tuple #[.pointer none, .int .i64 1]) ∧ w = w' := by
  rcases h with rfl | rfl
  · go_enter Tryd.func38, Tryd.ntmps38
    go_wp2
    go_ret2
    exact ⟨rfl, rfl⟩
  · cases o with
    | none =>
      go_enter Tryd.func38, Tryd.ntmps38
      go_wp2
      go_ret2
      exact ⟨rfl, rfl⟩
    | some a =>
      go_enter Tryd.func38, Tryd.ntmps38
      go_wp2
      go_ret2
      exact ⟨rfl, rfl⟩

set_option maxRecDepth 100000 in
set_option maxHeartbeats 1000000 in
theorem snew_any (MA A GB : Nat) (m : Mem) (b : Bud) (w : World) (hd : Duo w A MA GB m b) :
    Calls Tryd.prog 38 #[.pointer (some ⟨MA, 0, none⟩), .pointer (some ⟨A, 0, none⟩)] w fun e w' =>
      (b.left < 1 ∧ e = .returned (.tuple #[.pointer none, .int .i64 6]) ∧ Upd (fun _ => False) w w') ∨
      (1 ≤ b.left ∧ ∃ S, w.heap.size ≤ S ∧ e = .returned (.tuple #[.pointer (some ⟨S, 0, none⟩), .int .i64 0]) ∧ SpAt w' S MA A ((b.al 1).1.getD 0 0 : Nat) ∧ Duo w' A MA GB (m.clears (b.al 1).1) (b.al 1).2 ∧ Upd (fun k => k = GB ∨ k = m.B) w w') := by
  have hl := hd.B.lts
  have hB := lt_of_heap hd.M.body
  have hM := lt_of_heap hd.M.head
  have u0 := (Upd.refl (fun _ => False) w).alloc (.cells #[.pointer (some ⟨MA, 0, none⟩), .pointer (some ⟨A, 0, none⟩), .int .i64 0] 123)
  have s0 : SpAt (w.alloc (.cells #[.pointer (some ⟨MA, 0, none⟩), .pointer (some ⟨A, 0, none⟩), .int .i64 0] 123)) w.heap.size MA A 0 := heap_alloc_last w _
  have d0 := hd.still u0
  have ok := Lib.hid hd.B.ok
  go_enter Tryd.func38, Tryd.ntmps38
  go_upto_region 2 with fail
  generalize w.alloc (.cells #[.pointer (some ⟨MA, 0, none⟩), .pointer (some ⟨A, 0, none⟩), .int .i64 0] 123) = w0 at u0 s0 d0 ⊢
  generalize hS : w.heap.size = S at s0 hl hB hM ⊢
  have HS := Lib.hid (Nat.le_of_eq hS)
  clear hS
  go_wp2_with fail
  refine (create_any S MA A GB 0 m b 1 _ s0 d0 (by omega)).mono ?_
  rintro e w1 (⟨hlt, rfl, u1⟩ | ⟨hlt, v, rfl, hrow, d1, u1⟩)
  · go_wp2
    go_ret2
    exact .inl ⟨hlt, rfl, u0.trans u1⟩
  · obtain ⟨o, cap, rfl, hcells⟩ := slice1 hrow
    have ha := al_ok ok.out 1 hlt
    obtain ⟨g, rfl, hc⟩ := hcells 0 _ (nat1_at _ _ (by rw [ha.len]; omega))
    have s1 := s0.kept u1 (by omega)
    have cz := s1.c2
    have fz : w1.frozen? ⟨S, 2, none⟩ = false := by unfold World.frozen?; rw [show w1.heap[S]? = _ from s1]; rfl
    clear hcells hrow
    obtain ⟨r, hr⟩ : ∃ r, (b.al 1).1.getD 0 0 = r := ⟨_, rfl⟩
    rw [hr] at hc
    have Hr := Lib.hid hr
    clear hr
    have s2 : SpAt (w1.setCell ⟨S, 2, none⟩ (.int .i64 (r : Nat))) S MA A (r : Nat) := by
      have := heap_setCell_same (C := [.pointer (some ⟨MA, 0, none⟩), .pointer (some ⟨A, 0, none⟩), .int .i64 0]) s1 2 (.int .i64 (r : Nat))
      unfold SpAt
      rw [this]
      rfl
    have u2 : Upd (· = S) w1 (w1.setCell ⟨S, 2, none⟩ (.int .i64 (r : Nat))) := (Upd.refl (· = S) w1).setCell (.inl rfl) _
    have d2 := d1.kept u2 (by omega) (by omega) (by omega) (by rw [Mem.clears_B]; omega)
    go_wp2
    go_ret2
    refine .inr ⟨hlt, S, HS.out, rfl, by rw [Hr.out]; exact s2, d2, ?_⟩
    exact ((u0.none).trans u1).setCell (.inr HS.out) _

/-- frames freed one by one -/
noncomputable def frees (s : Mem × Bud) (l : List Int) : Mem × Bud := l.foldl (fun t f => unFree f t) s
theorem frees_snoc (s : Mem × Bud) (l : List Int) (f : Int) : frees s (l ++ [f]) = unFree f (frees s l) := by unfold frees; rw [List.foldl_append]; rfl
theorem frees_B (s : Mem × Bud) (l : List Int) : (frees s l).1.B = s.1.B := by
  induction l using snoc_induction with
  | h0 => rfl
  | h1 l x ih => rw [frees_snoc, unFree_B, ih]
theorem take_snocI (l : List Int) (k : Nat) (h : k < l.length) : l.take (k + 1) = l.take k ++ [l.getD k 0] := by
  rw [List.take_add_one, List.getElem?_eq_getElem h]
  simp [List.getD_eq_getElem?_getD, List.getElem?_eq_getElem h]
theorem i64s_at (c : List Int) (k : Nat) (h : k < c.length) : (i64s c)[k]? = some (.int .i64 (c.getD k 0)) := by
  simp [i64s, List.getD_eq_getElem?_getD, List.getElem?_eq_getElem h]
end Go.Proofs.YtfdnfllefednjaaDoor

/-
  Package tables, in plain numbers: what Protect, Unmap, New and Close do to a space.
-/
namespace Go.Proofs.YtfdnfllefednjaaDoor

/-- what a walk tells of a whole space -/
theorem SpInv.wX {s : Sp} {m : Mem} {b : Bud} {Y : Nat × Nat → Prop} (h : SpInv s m b Y) (q : Int) : m.wX s.root q = if 0 ≤ q ∧ q ≤ 4095 then (if (s.E 3 q.toNat).v = true then 0 else 10) else 1 := by
  by_cases hq : 0 ≤ q ∧ q ≤ 4095
  · obtain ⟨j, rfl⟩ := Int.eq_ofNat_of_zero_le hq.1
    rw [if_pos hq, Int.toNat_natCast]
    exact (Sp.walk h.i h.ok h.hn (by omega)).2.1
  · rw [if_neg hq]
    refine (m.walk_no s.root q ?_).2.1
    unfold Mem.wB
    rw [show pageB q = false from decide_eq_false (by omega), Bool.and_false]
theorem SpInv.wE {s : Sp} {m : Mem} {b : Bud} {Y : Nat × Nat → Prop} (h : SpInv s m b Y) (q : Int) : m.wE s.root q = if 0 ≤ q ∧ q ≤ 4095 then s.E 3 q.toNat else En.zero := by
  by_cases hq : 0 ≤ q ∧ q ≤ 4095
  · obtain ⟨j, rfl⟩ := Int.eq_ofNat_of_zero_le hq.1
    rw [if_pos hq, Int.toNat_natCast]
    exact (Sp.walk h.i h.ok h.hn (by omega)).2.2.1
  · rw [if_neg hq]
    refine (m.walk_no s.root q ?_).2.2
    unfold Mem.wB
    rw [show pageB q = false from decide_eq_false (by omega), Bool.and_false]
theorem SpInv.found {s : Sp} {m : Mem} {b : Bud} {Y : Nat × Nat → Prop} (h : SpInv s m b Y) {q : Int} (hx : m.wX s.root q = 0) :
    ∃ qn : Nat, q = qn ∧ qn < 4096 ∧ (s.E 3 qn).v = true ∧ m.wE s.root q = s.E 3 qn ∧ (∀ k, k < 3 → m.wF s.root q k = s.fr k (nd qn k)) ∧ ∀ k, k < 3 → s.on k (nd qn k) = true := by
  rw [h.wX] at hx
  split at hx
  · rename_i hq
    split at hx
    · rename_i hv
      obtain ⟨j, rfl⟩ := Int.eq_ofNat_of_zero_le hq.1
      rw [Int.toNat_natCast] at hv
      obtain ⟨_, _, w3, w4⟩ := Sp.walk h.i h.ok h.hn (q := j) (by omega)
      have hd := (Sp.page_dep h.ok hv).1
      exact ⟨j, rfl, by omega, hv, w3, fun k hk => w4 k (by omega), fun k hk => s.dep_on (by omega) k (by omega)⟩
    · cases hx
  · cases hx
/-- words of others behind a Put into one of a space's tables -/
theorem SameW.put {s : Sp} {m : Mem} {Y : Nat × Nat → Prop} (hok : s.Ok m.n) (hm : m.ok) (hlt : ∀ x, Y x → x.1 < m.n) (hy : ∀ x, Y x → ∀ l d, l ≤ 2 → s.on l d = true → s.fr l d ≠ (x.1 : Nat)) {l d p : Nat} (hl : l ≤ 2) (ho : s.on l d = true) (hp : p < 16) (e : En) (he : e.ok = true) : SameW Y m (m.put (s.fr l d) (p : Nat) e) := by
  intro x hx p' hp'
  have := hlt x hx
  rw [m.word_put hm _ _ _ _ _ (by rw [Mem.slot_iff]; have := hok.frb ho; omega) (by rw [Mem.slot_iff]; omega) he, if_neg (fun c => hy x hx l d hl ho c.1.symm)]
theorem SpInv.protect {s : Sp} {m : Mem} {b : Bud} {Y : Nat × Nat → Prop} (h : SpInv s m b Y) {q : Int} (hx : m.wX s.root q = 0) (wb : Bool) :
    ∃ qn : Nat, q = qn ∧ qn < 4096 ∧ (s.E 3 qn).v = true ∧ m.putB (m.wF s.root q 2) (idxI q 2) { m.wE s.root q with r := wb } = true ∧ SameW Y m (m.put (m.wF s.root q 2) (idxI q 2) { m.wE s.root q with r := wb }) ∧
      ∃ s', SpInv s' (m.put (m.wF s.root q 2) (idxI q 2) { m.wE s.root q with r := wb }) b Y ∧ s'.root = s.root ∧ ∀ q', s'.E 3 q' = if q' = qn then { s.E 3 qn with r := wb } else s.E 3 q' := by
  obtain ⟨qn, rfl, hq, hv, hE, hF, hon⟩ := h.found hx
  rw [hE, hF 2 (by omega)]
  have ho2 := hon 2 (by omega)
  have hidx := idx_nat qn 2 hq (by omega)
  rw [show nd qn (2 + 1) = qn from nd3 qn] at hidx
  rw [show idxI (qn : Nat) 2 = ((qn % 16 : Nat) : Int) from hidx]
  have hst := nd_step qn 2 (by omega)
  rw [show nd qn (2 + 1) = qn from nd3 qn] at hst
  have hp : qn % 16 < 16 := Nat.mod_lt _ (by decide)
  have hf := h.ok.f _ _ hv
  have heok : En.ok { s.E 3 qn with r := wb } = true := by
    unfold En.ok rightB
    have h1 := h.hn
    have h2 := h.ok.pg _ hv
    simp [hv, h2]; omega
  have hs : m.slot (s.fr 2 (nd qn 2)) ((qn % 16 : Nat) : Int) = true := by rw [Mem.slot_iff]; have := h.ok.frb ho2; omega
  have hok := h.ok.page ho2 hp { s.E 3 qn with r := wb } hv (h.ok.pg _ hv) hf.1 hf.2
  have hin := h.i.set h.ok h.mo (l := 2) (by omega) ho2 hp { s.E 3 qn with r := wb } heok (fun h2 => by omega)
  rw [hst] at hok hin
  have hE3 : ∀ q', (s.set 3 qn { s.E 3 qn with r := wb }).E 3 q' = if q' = qn then { s.E 3 qn with r := wb } else s.E 3 q' := by
    intro q'
    by_cases e : q' = qn
    · rw [if_pos e, e, Sp.set_same]
    · rw [if_neg e, s.set_ne _ (by omega)]
  have honn : ∀ l d, l ≤ 2 → (s.set 3 qn { s.E 3 qn with r := wb }).on l d = s.on l d := fun l d hl => s.set_on _ (by omega)
  have hfrn : ∀ l d, l ≤ 2 → (s.set 3 qn { s.E 3 qn with r := wb }).fr l d = s.fr l d := fun l d hl => s.set_fr _ (by omega)
  refine ⟨qn, rfl, hq, hv, by unfold Mem.putB; rw [hs, heok]; rfl, SameW.put h.ok h.mo (fun x hx => h.ylt hx) (fun x hx l d => h.y_fr hx) (by omega) ho2 hp _ heok, s.set 3 qn { s.E 3 qn with r := wb }, ⟨by rw [Mem.put_n]; exact hok, hin, ?_, Mem.put_ok _ h.mo _ _ _, Mem.put_good _ h.mo h.hg _ _ _, h.bk, by rw [Mem.put_n]; exact h.bn, h.y0, ?_, ?_⟩, rfl, hE3⟩
  · intro l d h1 h2 ho
    rw [honn l d h2] at ho
    obtain ⟨p, hp', hc⟩ := h.nee l d h1 h2 ho
    refine ⟨p, hp', ?_⟩
    by_cases e : l = 2
    · subst e
      rw [hE3]
      split
      · exact hv
      · exact hc
    · rw [s.set_ne _ (by omega)]; exact hc
  · intro x
    rw [h.gv]
    constructor
    · rintro (⟨l, d, hl, ho, rfl⟩ | hy)
      · exact .inl ⟨l, d, hl, by rw [honn l d hl]; exact ho, by rw [hfrn l d hl]⟩
      · exact .inr hy
    · rintro (⟨l, d, hl, ho, rfl⟩ | hy)
      · exact .inl ⟨l, d, hl, by rw [← honn l d hl]; exact ho, by rw [hfrn l d hl]⟩
      · exact .inr hy
  · intro l d hl ho
    rw [honn l d hl] at ho
    rw [hfrn l d hl]
    exact h.ap l d hl ho

/-! Unmap -/
/-- a space in which one table may be without an entry -/
structure SpHalf (s : Sp) (m : Mem) (b : Bud) (Y : Nat × Nat → Prop) (X : Nat × Nat) : Prop where
  ok : s.Ok m.n
  i : s.In m
  nee : ∀ l d, 1 ≤ l → l ≤ 2 → (l, d) ≠ X → s.on l d = true → ∃ p, p < 16 ∧ (s.E (l + 1) (16 * d + p)).v = true
  mo : m.ok
  hg : m.good
  bk : b.Ok
  bn : m.n = b.n
  y0 : ∀ x, Y x → x.2 = 0
  gv : ∀ x, x ∈ b.gave ↔ (∃ l d, l ≤ 2 ∧ s.on l d = true ∧ x = ((s.fr l d).toNat, 0)) ∨ Y x
  ap : ∀ l d, l ≤ 2 → s.on l d = true → ¬ Y ((s.fr l d).toNat, 0)
theorem SpHalf.full {s : Sp} {m : Mem} {b : Bud} {Y : Nat × Nat → Prop} {X : Nat × Nat} (h : SpHalf s m b Y X) (hX : X.1 = 0 ∨ ∃ p, p < 16 ∧ (s.E (X.1 + 1) (16 * X.2 + p)).v = true) : SpInv s m b Y :=
  ⟨h.ok, h.i, fun l d h1 h2 ho => by
    by_cases e : (l, d) = X
    · subst e
      rcases hX with hX | hX
      · simp at hX; omega
      · exact hX
    · exact h.nee l d h1 h2 e ho, h.mo, h.hg, h.bk, h.bn, h.y0, h.gv, h.ap⟩
theorem SpInv.half {s : Sp} {m : Mem} {b : Bud} {Y : Nat × Nat → Prop} (h : SpInv s m b Y) (X : Nat × Nat) : SpHalf s m b Y X :=
  ⟨h.ok, h.i, fun l d h1 h2 _ ho => h.nee l d h1 h2 ho, h.mo, h.hg, h.bk, h.bn, h.y0, h.gv, h.ap⟩
theorem En.word_zero {e : En} (h : e.ok = true) (hw : e.word = 0) : e.v = false := by
  have := (of_word e h).2
  rw [hw] at this
  rw [← this]
  decide
theorem SpHalf.hn {s : Sp} {m : Mem} {b : Bud} {Y : Nat × Nat → Prop} {X : Nat × Nat} (h : SpHalf s m b Y X) : m.n ≤ 256 := by have := h.bn; have := h.bk.hi; omega
theorem SpHalf.ylt {s : Sp} {m : Mem} {b : Bud} {Y : Nat × Nat → Prop} {X : Nat × Nat} (h : SpHalf s m b Y X) {x : Nat × Nat} (hx : Y x) : x.1 < m.n := by
  have h1 := h.bk.blk x ((h.gv x).2 (.inr hx))
  have h2 := h.y0 x hx
  rw [h2] at h1
  have := h.bn
  omega
theorem SpHalf.y_fr {s : Sp} {m : Mem} {b : Bud} {Y : Nat × Nat → Prop} {X : Nat × Nat} (h : SpHalf s m b Y X) {x : Nat × Nat} (hx : Y x) {l d : Nat} (hl : l ≤ 2) (ho : s.on l d = true) : s.fr l d ≠ (x.1 : Nat) := fun e => by
  have := h.ap l d hl ho
  rw [e, Int.toNat_natCast] at this
  have h2 := h.y0 x hx
  exact this (by rw [← h2]; exact hx)
/-- is a table blank? -/
theorem SpHalf.blank {s : Sp} {m : Mem} {b : Bud} {Y : Nat × Nat → Prop} {X : Nat × Nat} (h : SpHalf s m b Y X) {l d : Nat} (hl : l ≤ 2) (ho : s.on l d = true) : m.zero (s.fr l d) = true ↔ ∀ p, p < 16 → (s.E (l + 1) (16 * d + p)).v = false := by
  have hb := h.ok.frb ho
  have hex : m.ex (s.fr l d) 1 = true := decide_eq_true (by omega)
  obtain ⟨g, hg⟩ := Int.eq_ofNat_of_zero_le hb.1
  have hat : ∀ p : Nat, m.word (s.fr l d) (p : Nat) = m.at ((s.fr l d).toNat * 16 + p) := by
    intro p
    unfold Mem.word
    rw [hg]
    congr 1
  constructor
  · intro hz p hp
    refine En.word_zero (h.ok.eok h.hn _ _) ?_
    rw [← h.i l d p hl ho hp, hat, ← m.fr_getD _ _ hp]
    unfold Mem.zero at hz
    rw [hex] at hz
    have : m.fr (s.fr l d).toNat = noughts := by simpa using hz
    rw [this]
    unfold noughts
    rw [List.getD_eq_getElem?_getD, List.getElem?_replicate]
    simp [hp]
  · intro hc
    refine m.zero_of h.mo _ hex fun p hp => ?_
    rw [← hat, h.i l d p hl ho hp, h.ok.none _ _ (hc p hp)]
    rfl
theorem mem_erase_iff {l : List (Nat × Nat)} (hn : l.Nodup) {x y : Nat × Nat} : x ∈ l.erase y ↔ x ∈ l ∧ x ≠ y := by
  constructor
  · intro hx
    exact ⟨List.mem_of_mem_erase hx, fun e => by subst e; exact (hn.not_mem_erase) hx⟩
  · rintro ⟨h1, h2⟩
    exact (List.mem_erase_of_ne h2).2 h1
/-- a table that is blank goes: its frame is freed, its entry in the table above is taken away -/
theorem SpHalf.dropT {s : Sp} {m : Mem} {b : Bud} {Y : Nat × Nat → Prop} {l d : Nat} (h : SpHalf s m b Y (l + 1, d)) (hl : l + 1 ≤ 2) (ho : s.on (l + 1) d = true) (hc : ∀ p, p < 16 → (s.E (l + 2) (16 * d + p)).v = false) :
    SpHalf (s.set (l + 1) d En.zero) ((m.scrub (s.fr (l + 1) d) 1).put (s.fr l (d / 16)) ((d % 16 : Nat) : Int) En.zero) (b.take ((s.fr (l + 1) d).toNat, 0)) Y (l, d / 16) ∧ SameW Y m ((m.scrub (s.fr (l + 1) d) 1).put (s.fr l (d / 16)) ((d % 16 : Nat) : Int) En.zero) := by
  have hv : (s.E (l + 1) d).v = true := by rw [← s.onS]; exact ho
  have hou : s.on l (d / 16) = true := (h.ok.lv _ _ hv).2.2.2
  have hb := h.ok.frb ho
  have hex : m.ex (s.fr (l + 1) d) 1 = true := decide_eq_true (by omega)
  have hz := (h.blank (by omega) ho).2 hc
  have hp : d % 16 < 16 := Nat.mod_lt _ (by decide)
  have hdd : 16 * (d / 16) + d % 16 = d := by omega
  have hin2 : s.In (m.scrub (s.fr (l + 1) d) 1) := by
    intro l' d' p' hl' ho' hp'
    have hb' := h.ok.frb ho'
    rw [m.word_scrub h.mo _ _ _ hex (by rw [Mem.slot_iff]; omega)]
    split
    · rename_i e
      obtain ⟨rfl, rfl⟩ := h.ok.inj _ _ _ _ hl' hl ho' ho e
      rw [h.ok.none _ _ (hc p' hp')]
      rfl
    · exact h.i l' d' p' hl' ho' hp'
  have hmo2 := Mem.ok_scrub m h.mo (s.fr (l + 1) d) 1
  have hok2 : s.Ok (m.scrub (s.fr (l + 1) d) 1).n := by rw [Mem.scrub_n]; exact h.ok
  have hin3 := hin2.set hok2 hmo2 (l := l) (d := d / 16) (p := d % 16) (by omega) hou hp En.zero rfl (fun _ e => by cases e)
  rw [hdd] at hin3
  have hok3 := h.ok.drop (l := l) (d := d) (fun _ p hp => hc p hp)
  have hgv := (h.gv _).2 (.inl ⟨l + 1, d, hl, ho, rfl⟩)
  have hon : ∀ l' d', (s.set (l + 1) d En.zero).on l' d' = true ↔ s.on l' d' = true ∧ ¬ (l' = l + 1 ∧ d' = d) := by
    intro l' d'
    by_cases hx : l' = l + 1 ∧ d' = d
    · rw [hx.1, hx.2, Sp.set_on_same]
      simp [En.zero]
    · rw [s.set_on _ hx]; simp [hx]
  have hfr : ∀ l' d', ¬ (l' = l + 1 ∧ d' = d) → (s.set (l + 1) d En.zero).fr l' d' = s.fr l' d' := fun l' d' hx => s.set_fr _ hx
  refine ⟨⟨by rw [Mem.put_n, Mem.scrub_n]; exact hok3, hin3, ?_, Mem.put_ok _ hmo2 _ _ _, Mem.put_good _ hmo2 (Mem.scrub_good _ h.mo h.hg _) _ _ _, h.bk.take hgv, by rw [Mem.put_n, Mem.scrub_n]; exact h.bn, h.y0, ?_, ?_⟩, ?_⟩
  · intro l' d' h1 h2 hne ho'
    obtain ⟨ho1, hx⟩ := (hon l' d').1 ho'
    obtain ⟨p, hp', hcv⟩ := h.nee l' d' h1 h2 (fun e => hx (by simpa using e)) ho1
    refine ⟨p, hp', ?_⟩
    rw [s.set_ne _ ?_]
    · exact hcv
    · rintro ⟨e1, e2⟩
      refine hne ?_
      have : d' = d / 16 := by omega
      rw [this, show l' = l from by omega]
  · intro x
    show x ∈ b.gave.erase _ ↔ _
    rw [mem_erase_iff h.bk.nodup, h.gv]
    constructor
    · rintro ⟨⟨l', d', hl', ho', rfl⟩ | hy, hne⟩
      · have hx : ¬ (l' = l + 1 ∧ d' = d) := fun e => hne (by rw [e.1, e.2])
        exact .inl ⟨l', d', hl', (hon l' d').2 ⟨ho', hx⟩, by rw [hfr l' d' hx]⟩
      · exact .inr hy
    · rintro (⟨l', d', hl', ho', rfl⟩ | hy)
      · obtain ⟨ho1, hx⟩ := (hon l' d').1 ho'
        rw [hfr l' d' hx]
        refine ⟨.inl ⟨l', d', hl', ho1, rfl⟩, fun e => hx ?_⟩
        have e1 : (s.fr l' d').toNat = (s.fr (l + 1) d).toNat := (Prod.mk.inj e).1
        have := h.ok.frb ho1
        exact h.ok.inj _ _ _ _ hl' hl ho1 ho (by omega)
      · exact ⟨.inr hy, fun e => h.ap _ _ hl ho (e ▸ hy)⟩
  · intro l' d' hl' ho'
    obtain ⟨ho1, hx⟩ := (hon l' d').1 ho'
    rw [hfr l' d' hx]
    exact h.ap l' d' hl' ho1
  · refine SameW.trans (b := m.scrub (s.fr (l + 1) d) 1) ?_ (SameW.put hok2 hmo2 (fun x hx => by rw [Mem.scrub_n]; exact h.ylt hx) (fun x hx l d => h.y_fr hx) (by omega) hou hp _ rfl)
    intro x hx p' hp'
    have := h.ylt hx
    rw [m.word_scrub h.mo _ _ _ hex (by rw [Mem.slot_iff]; omega), if_neg (fun e => h.y_fr hx hl ho e.symm)]
end Go.Proofs.YtfdnfllefednjaaDoor
