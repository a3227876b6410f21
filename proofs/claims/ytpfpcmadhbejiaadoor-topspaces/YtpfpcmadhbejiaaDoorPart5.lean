/-
  Texts that the laws stand on, joined: TbB, TbH, TbI, TbP, TbD, TbE, TbF, TbQ, TbN.
-/
import Derived.Maps.AppendAt
import Derived.OrdersIn
import Derived.OwnWalkIn
import Derived.RangeFuncBox
import Derived.RangeFuncNested
import Derived.Sort.OwnSortedInts
import Derived.StillTail
import Derived.Test.YtpfpcmadhbejiaaDoorPart4

/-
  Package tables: tables created: the frames that are allocated, one by one, and cleared.
-/
namespace Go.Proofs.YtpfpcmadhbejiaaDoor
open Go.ChangeShapes Go.WideShapes Go.ChangeAt Go.RowKit Go.Shelf

/-- so many frames allocated one by one -/
def Bud.al (b : Bud) : Nat → List Nat × Bud
  | 0 => ([], b)
  | k + 1 => match (b.al k).2.sel 0 with
    | some x => ((b.al k).1 ++ [x.1], (b.al k).2.give (x.1, 0))
    | none => b.al k
theorem sel0_some {b : Bud} (h : 1 ≤ b.left) : ∃ x, b.sel 0 = some x := by
  unfold Bud.left cnt at h
  obtain ⟨j, hj⟩ := List.exists_mem_of_length_pos (l := (List.range b.n).filter b.F) (by omega)
  rw [List.mem_filter, List.mem_range] at hj
  obtain ⟨k, hk⟩ := exists_mx hj.2 hj.1
  have hm : (st j k, k) ∈ blocks b.F b.n := mem_blocks.2 hk
  cases hs : b.sel 0 with
  | some x => exact ⟨x, rfl⟩
  | none => have := pick_none hs _ hm; simp at this
structure AlOk (b : Bud) (k : Nat) (c : List Nat) (b' : Bud) : Prop where
  len : c.length = k
  ok : b'.Ok
  n : b'.n = b.n
  res : b'.res = b.res
  left : b'.left + k = b.left
  gave : b'.gave = b.gave ++ c.map fun f => (f, 0)
  fr : ∀ f, f ∈ c → f < b.n ∧ b.F f = true
  nd : c.Nodup
  F : ∀ j, b'.F j = true ↔ b.F j = true ∧ j ∉ c
theorem al_ok {b : Bud} (h : b.Ok) : ∀ k, k ≤ b.left → AlOk b k (b.al k).1 (b.al k).2
  | 0, _ => ⟨rfl, h, rfl, rfl, rfl, by simp [Bud.al], by simp [Bud.al], by simp [Bud.al], by simp [Bud.al]⟩
  | k + 1, hk => by
    have ih := al_ok h k (by omega)
    obtain ⟨x, hx⟩ := sel0_some (b := (b.al k).2) (by have := ih.left; omega)
    have e : b.al (k + 1) = ((b.al k).1 ++ [x.1], (b.al k).2.give (x.1, 0)) := by rw [Bud.al, hx]
    rw [e]
    obtain ⟨g1, g2⟩ := sel_give ih.ok (by omega) hx
    have hF : (b.al k).2.F x.1 = true := g2.fr x.1 (Nat.le_refl _) (by simp)
    have hF' := (ih.F x.1).1 hF
    have hle := g2.le
    have hl := left_give g2
    have := ih.left
    have := ih.n
    simp at hle hl
    refine ⟨by simp [ih.len], g1, ih.n, ih.res, by simp; omega, ?_, ?_, ?_, ?_⟩
    · show (b.al k).2.gave ++ [(x.1, 0)] = _
      rw [ih.gave]; simp
    · intro f hf
      rcases List.mem_append.1 hf with hf | hf
      · exact ih.fr f hf
      · simp at hf; subst hf; exact ⟨by omega, hF'.1⟩
    · rw [List.nodup_append]
      refine ⟨ih.nd, by simp, fun a ha y hy => ?_⟩
      simp at hy; subst hy
      rintro rfl
      exact hF'.2 ha
    · intro j
      show (cutF (b.al k).2.F (x.1, 0)) j = true ↔ _
      unfold cutF
      rw [Bool.and_eq_true, ih.F j]
      have : (!inBlk (x.1, 0) j) = true ↔ j ≠ x.1 := by
        rw [Bool.not_eq_true', inBlk_no]; simp; omega
      rw [this]
      simp [and_assoc]
/-- frames cleared one by one -/
def Mem.clears (m : Mem) (c : List Nat) : Mem := c.foldl (fun (m : Mem) (f : Nat) => m.scrub (f : Int) 1) m
theorem Mem.clears_snoc (m : Mem) (c : List Nat) (f : Nat) : m.clears (c ++ [f]) = (m.clears c).scrub (f : Int) 1 := by simp [Mem.clears]
theorem Mem.clears_n (m : Mem) (c : List Nat) : (m.clears c).n = m.n := by
  induction c using snoc_induction with
  | h0 => rfl
  | h1 l x ih => rw [m.clears_snoc, Mem.scrub_n, ih]
theorem Mem.clears_B (m : Mem) (c : List Nat) : (m.clears c).B = m.B := by
  induction c using snoc_induction with
  | h0 => rfl
  | h1 l x ih => rw [m.clears_snoc, Mem.scrub_B, ih]
theorem Mem.clears_ok (m : Mem) (h : m.ok) (c : List Nat) : (m.clears c).ok := by
  induction c using snoc_induction with
  | h0 => exact h
  | h1 l x ih => rw [m.clears_snoc]; exact Mem.ok_scrub _ ih _ _
theorem Mem.word_scrub (m : Mem) (h : m.ok) (f g p : Int) (hf : m.ex f 1 = true) (hs : m.slot g p = true) : (m.scrub f 1).word g p = if g = f then 0 else m.word g p := by
  have hs' : (m.scrub f 1).slot g p = true := by unfold Mem.slot; rw [Mem.scrub_ex]; exact hs
  rw [← Mem.slot_rd _ _ _ hs', ← Mem.slot_rd _ _ _ hs, m.scrub_rd h f 1 _ hf (m.slot_has _ _ hs)]
  rw [Mem.slot_iff] at hs
  by_cases e : g = f
  · rw [if_pos (by omega), if_pos e]
  · rw [if_neg (by omega), if_neg e]
theorem Mem.scrub_good (m : Mem) (h : m.ok) (hg : m.good) (f : Int) : (m.scrub f 1).good := by
  intro i
  cases hf : m.ex f 1
  · unfold Mem.scrub; rw [hf]; exact hg i
  · by_cases hi : i < 16 * m.n
    · have hh : m.has (i : Int) = true := decide_eq_true (by omega)
      have hh' : (m.scrub f 1).has (i : Int) = true := by rw [Mem.scrub_has]; exact hh
      have e1 : (m.scrub f 1).rd (i : Int) = (m.scrub f 1).at i := by unfold Mem.rd; rw [if_pos hh']; rfl
      have e2 : m.rd (i : Int) = m.at i := by unfold Mem.rd; rw [if_pos hh]; rfl
      rw [← e1, m.scrub_rd h f 1 _ hf hh, e2]
      split
      · omega
      · exact hg i
    · have : (m.scrub f 1).at i = 0 := by
        have := Mem.ok_scrub m h f 1
        unfold Mem.ok at this
        rw [Mem.scrub_n] at this
        unfold Mem.at
        rw [List.getD_eq_getElem?_getD, List.getElem?_eq_none (by omega)]; rfl
      rw [this]; omega
theorem Mem.clears_good (m : Mem) (h : m.ok) (hg : m.good) (c : List Nat) : (m.clears c).good := by
  induction c using snoc_induction with
  | h0 => exact hg
  | h1 l x ih => rw [m.clears_snoc]; exact Mem.scrub_good _ (m.clears_ok h l) ih _
theorem Mem.slot_of_n {m m' : Mem} (h : m'.n = m.n) (f p : Int) : m'.slot f p = m.slot f p := by unfold Mem.slot Mem.ex; rw [h]
theorem Mem.clears_word (m : Mem) (h : m.ok) (c : List Nat) (hc : ∀ f, f ∈ c → f < m.n) (g p : Nat) (hg : g < m.n) (hp : p < 16) : (m.clears c).word (g : Nat) (p : Nat) = if g ∈ c then 0 else m.word (g : Nat) (p : Nat) := by
  induction c using snoc_induction with
  | h0 => simp [Mem.clears]
  | h1 l x ih =>
    have hs : (m.clears l).slot g p = true := by rw [Mem.slot_iff, m.clears_n]; omega
    have hx := hc x (by simp)
    rw [m.clears_snoc, Mem.word_scrub _ (m.clears_ok h l) _ _ _ (decide_eq_true (by rw [m.clears_n]; omega)) hs, ih fun f hf => hc f (by simp [hf])]
    by_cases e : g = x
    · subst e; simp
    · rw [if_neg (by omega)]
      simp [e]

theorem SpAt.apart {w : World} {S MA A GB : Nat} {root : Int} {m : Mem} {b : Bud} (h : SpAt w S MA A root) (hd : Duo w A MA GB m b) : ¬ (S = GB ∨ S = m.B) := by
  rintro (rfl | rfl)
  · obtain ⟨D, ⟨es, clock, hb, _⟩, _⟩ := hd.B.mp
    have h' : w.heap[S]? = _ := h
    rw [h'] at hb
    cases hb
  · have h' : w.heap[m.B]? = _ := h
    rw [hd.M.body] at h'
    simp at h'
def nat1 (c : List Nat) : List Value := c.map fun f => .int .i64 (f : Nat)
theorem nat1_at (c : List Nat) (k : Nat) (h : k < c.length) : (nat1 c)[k]? = some (.int .i64 (c.getD k 0 : Nat)) := by
  simp [nat1, List.getD_eq_getElem?_getD, List.getElem?_eq_getElem h]
theorem info_int8 : (Tryd.prog.info? 3).map (fun i => (i.zero, i.size, i.bytes)) = some (some (.int .i64 0), 1, 8) := by kernel_rfl
theorem take_snocN (l : List Nat) (k : Nat) (h : k < l.length) : l.take (k + 1) = l.take k ++ [l.getD k 0] := by
  rw [List.take_add_one, List.getElem?_eq_getElem h]
  simp [List.getD_eq_getElem?_getD, List.getElem?_eq_getElem h]
theorem Duo.cleared {w w' : World} {A MA GB : Nat} {m m' : Mem} {b : Bud} (h : Duo w A MA GB m b) (hm : MemAt w' MA m') (u : Upd (· = m.B) w w') (hn : m'.n = m.n) : Duo w' A MA GB m' b := by
  have := h.ne
  exact ⟨h.B.kept u (by omega) (by omega), hm, by rw [hn]; exact h.n⟩

theorem upd_own {W w4 : World} {X : Obj} {N sz k : Nat} {e : TypeId} {v : Value} {xs : List Value} (hrow : W.ownsRow N e sz v k xs) (hgr : (W.alloc X).grownBy w4 v.ownBlock) : Upd (N ≤ ·) W w4 :=
  ⟨hgr.os, hgr.tape, hgr.output, by have h1 := hgr.size; simp at h1; omega, fun k hk hs => by
    rw [hgr.block k (by simp; omega) (fun e => by have := (hrow.lt k e.symm).1; omega), Below.heap_alloc _ _ _ (by omega)]⟩

set_option maxRecDepth 100000 in
set_option maxHeartbeats 2000000 in
theorem create_any (S MA A GB : Nat) (root : Int) (m : Mem) (b : Bud) (k : Nat) (w : World) (h : SpAt w S MA A root) (hd : Duo w A MA GB m b) (hk : k ≤ 3) :
    Calls Tryd.prog 31 #[.pointer (some ⟨S, 0, none⟩), .int .i64 k] w fun e w' =>
      (b.left < k ∧ e = .returned (.tuple #[.slice none 0 0, .int .i64 6]) ∧ Upd (fun _ => False) w w') ∨
      (k ≤ b.left ∧ ∃ v, e = .returned (.tuple #[v, .int .i64 0]) ∧ w'.ownsRow w.heap.size 3 1 v k (nat1 (b.al k).1) ∧ Duo w' A MA GB (m.clears (b.al k).1) (b.al k).2 ∧ Upd (fun j => j = GB ∨ j = m.B) w w') := by
  have hc := h.c1
  have hleft := hd.B.ok
  by_cases hlt : b.left < k
  · go_enter Tryd.func31, Tryd.ntmps31
    go_wp2_with (go_at_call 17; refine (bLeft_any A MA GB m b _ hd.B hd.M hd.n).mono ?_; rintro e w' ⟨rfl, u⟩)
    go_ret2
    exact .inl ⟨hlt, rfl, u⟩
  · have ha := al_ok hd.B.ok k (by omega)
    obtain ⟨i0, hi, hz0, hz1, hz2⟩ := info_parts info_int8
    obtain ⟨N, hN⟩ : ∃ N, w.heap.size = N := ⟨_, rfl⟩
    have hap := h.apart hd
    have hlts := hd.B.lts
    have hBlt := lt_of_heap hd.M.body
    have hMlt := lt_of_heap hd.M.head
    have hSlt := lt_of_heap h
    go_enter Tryd.func31, Tryd.ntmps31
    go_wp2_with (go_at_call 17; refine (bLeft_any A MA GB m b _ hd.B hd.M hd.n).mono ?_; rintro e w' ⟨rfl, u⟩)
    have h' := h.kept u id
    have hd' := hd.still u
    have hNu := u.size
    go_loopw [6, 17] (fun v t wr => ∃ j : Nat, j ≤ k ∧ t = .int .i64 j ∧ wr.ownsRow N 3 1 v j (nat1 (b.al j).1) ∧ Duo wr A MA GB m (b.al j).2 ∧ SpAt wr S MA A root ∧ Upd (fun j => j = GB ∨ j = m.B) w wr) (fun _ t _ => k - (intOf t).toNat)
    case atStart => exact ⟨0, by omega, rfl, World.ownsRow_nil _ _ _ _, hd', h', u.mono (fun _ _ x => x.elim)⟩
    case round =>
      rename_i v _ _
      clear h' hd' u
      obtain ⟨j, hj, rfl, hrow, hdr, hsr, hU⟩ := hrel
      obtain ⟨o, cap, rfl⟩ := wk_slice hrow
      have hsz := hU.size
      by_cases hjk : j < k
      · have hcr := hsr.c1
        have aj := al_ok hd.B.ok j (by omega)
        obtain ⟨x, hx⟩ := sel0_some (b := (b.al j).2) (by have := aj.left; omega)
        have hnext := Lib.hid (show b.al (j + 1) = ((b.al j).1 ++ [x.1], (b.al j).2.give (x.1, 0)) from by rw [Bud.al, hx])
        go_wp2_with first
          | (go_at_call 50
             refine (bAlloc_any A MA GB m (b.al j).2 0 _ hdr.B hdr.M hdr.n (by omega)).mono ?_
             rintro e w1 (⟨hno, _⟩ | ⟨x', hx', rfl, hB1, u1⟩)
             · rw [hx] at hno; cases hno
             obtain rfl : x' = x := by rw [hx] at hx'; exact (Option.some.inj hx').symm
             have hd1 := hdr.gb hB1 u1 rfl
             have hs1 := hsr.kept u1 (fun e => hap (.inl e))
             have hrow1 := wk_kept hrow u1 (fun q hq => by have := (hrow.lt q hq).1; omega)
             have hU1 := hU.trans (u1.mono (T := fun j => j = GB ∨ j = m.B) (fun _ _ e => .inl e)))
          | (at_builtin; refine wpList_append_own _ rfl _ _ 44 rfl N 3 i0 (.int .i64 0) 1 8 Tryd.underlying44 hi hz0 hz1 hz2 rfl (by decide) _ _ _ rfl (hrow1.alloc _) ⟨w1.heap.size, 0, none⟩ 1 1 [.int .i64 x'.1] rfl rfl (cell_one_new _ _ _) (by simp [Value.oneCell']) (by simp [maxLen]; omega) (by omega) (by have := hU1.size; simp; omega) ?_; intro v' w2 hown' hgrow _; obtain ⟨g', cap', rfl⟩ := ownsRow_succ hown')
        go_roundw
        case rel =>
          refine ⟨j + 1, by omega, by go_num, ?_, ?_, ?_, ?_⟩
          · rw [hnext.out]
            unfold nat1 at hown' ⊢
            rw [List.map_append]
            exact hown'
          · rw [hnext.out]
            exact hd1.kept (upd_own hrow1 hgrow) (by omega) (by omega) (by omega) (by omega)
          · exact hs1.kept (upd_own hrow1 hgrow) (by omega)
          · exact upd_app hU1 hrow1 (by omega) hgrow
        case measure => simp [intOf]; omega
      · obtain rfl : j = k := by omega
        have hR := slice1 hrow
        obtain ⟨o', cap', e1, hcell⟩ := hR
        cases e1
        have hlenc := ha.len
        go_wp2_with first
          | (go_at_call 51
             refine (contf_any 30 (enters_of Tryd.func30 (by kernel_rfl) rfl) S o j cap (fun i => ((b.al j).1.getD i 0 : Nat)) _ (by omega) ?_ ?_).mono ?_
             · exact fun i hi => hcell i _ (nat1_at _ _ (by omega))
             · intro i hi
               refine (lacks_any S MA A root m _ _ hsr hdr.M).mono ?_
               rintro e w1 ⟨rfl, rfl⟩
               refine ⟨?_, rfl⟩
               have hm := ha.fr ((b.al j).1.getD i 0) (by rw [List.getD_eq_getElem?_getD, List.getElem?_eq_getElem (by omega)]; simp)
               have : m.ex ((b.al j).1.getD i 0 : Nat) 1 = true := decide_eq_true (by have := hd.n; omega)
               rw [this]; rfl
             rintro e w1 ⟨rfl, rfl⟩)
          | (go_at_call 41
             refine (each_any 52 (enters_of Tryd.func52 (by kernel_rfl) rfl) S o j cap (fun i => ((b.al j).1.getD i 0 : Nat)) (fun i W => Duo W A MA GB (m.clears ((b.al j).1.take i)) (b.al j).2 ∧ SpAt W S MA A root ∧ W.ownsRow N 3 1 (.slice o j cap) j (nat1 (b.al j).1) ∧ Upd (fun q => q = GB ∨ q = m.B) w W) _ (by omega) ⟨by simpa [Mem.clears] using hdr, hsr, hrow, hU⟩ ?_ ?_).mono ?_
             · rintro i W ⟨-, -, hrW, -⟩ hi
               obtain ⟨o2, cap2, e2, hc2⟩ := slice1 hrW
               cases e2
               exact hc2 i _ (nat1_at _ _ (by omega))
             · rintro i W ⟨hdW, hsW, hrW, hUW⟩ hi
               refine (sclear_any S MA A root _ _ W hsW hdW.M).mono ?_
               rintro e W' ⟨rfl, hmW, uW⟩
               rw [Mem.clears_B] at uW
               refine ⟨rfl, ?_, hsW.kept uW (fun e => hap (.inr e)), wk_kept hrW uW (fun q hq => by have := (hrW.lt q hq).1; omega), hUW.trans (uW.mono (fun _ _ e => .inr e))⟩
               rw [take_snocN _ _ (by omega), Mem.clears_snoc]
               exact hdW.cleared hmW (by rw [Mem.clears_B]; exact uW) (by rw [Mem.scrub_n])
             rintro e w1 ⟨rfl, hd1, hs1, hrow1, hU1⟩)
        go_ret2
        rw [List.take_of_length_le (by omega)] at hd1
        exact .inr ⟨by omega, _, rfl, hN ▸ hrow1, hd1, hU1⟩
end Go.Proofs.YtpfpcmadhbejiaaDoor

/-
  Package tables: what the visits collect: Pages, Tables, Close.
-/
namespace Go.Proofs.YtpfpcmadhbejiaaDoor
open Go.ChangeShapes Go.WideShapes Go.ChangeAt Go.RowKit Go.Shelf

/-- what Pages, Tables and Close take of an entry -/
def selP (x : Nat × En) : Option Int := if x.2.t = true then none else some (x.1 : Nat)
def selT (x : Nat × En) : Option Int := if x.2.t = true then some x.2.f else none
def selC (x : Nat × En) : Option Int := if x.2.t = true then none else some x.2.f
def i64s (l : List Int) : List Value := l.map fun f => .int .i64 f
/-- what is held while a visit collects -/
structure Coll (w : World) (N B MA A S : Nat) (root : Int) (m : Mem) (L0 : List Int) (sel : Nat × En → Option Int) (pre : List (Nat × En)) (W : World) : Prop where
  box : ∃ o cap, Boxed W B 44 (.slice o (L0 ++ pre.filterMap sel).length cap) ∧ W.ownsRow N 3 1 (.slice o (L0 ++ pre.filterMap sel).length cap) (L0 ++ pre.filterMap sel).length (i64s (L0 ++ pre.filterMap sel))
  M : MemAt W MA m
  T : Tab W
  S : SpAt W S MA A root
  U : Upd (fun _ => False) w W
theorem Coll.keep {w : World} {N B MA A S : Nat} {root : Int} {m : Mem} {L0 : List Int} {sel : Nat × En → Option Int} {pre : List (Nat × En)} {W W' : World} (h : Coll w N B MA A S root m L0 sel pre W) (u : Upd (fun _ => False) W W') : Coll w N B MA A S root m L0 sel pre W' := by
  obtain ⟨⟨o, cap, hb, hr⟩, M, T, hS, U⟩ := h
  exact ⟨⟨o, cap, u.at hb id, wk_kept hr u (fun _ _ => id)⟩, M.kept u id id, T.kept u, hS.kept u id, U.trans u⟩
theorem collN (L0 : List Int) (sel : Nat × En → Option Int) (pre : List (Nat × En)) (h : pre.length < 5000) (h0 : L0.length ≤ 1) : (L0 ++ pre.filterMap sel).length ≤ 5000 := by
  have := List.length_filterMap_le sel pre
  rw [List.length_append]; omega
/-- one number more -/
theorem Coll.push {w : World} {N B MA A S : Nat} {root : Int} {m : Mem} {L0 : List Int} {sel : Nat × En → Option Int} {pre : List (Nat × En)} {W w1 : World} {o : Option Addr} {cap : Nat} {x : Nat × En} {y : Int} {X : Obj} {v' : Value}
    (hwN : w.heap.size = N) (hB : N ≤ B) (hTw : Tab w) (h : Coll w N B MA A S root m L0 sel pre W) (hbox : Boxed W B 44 (.slice o (L0 ++ pre.filterMap sel).length cap)) (hrow : W.ownsRow N 3 1 (.slice o (L0 ++ pre.filterMap sel).length cap) (L0 ++ pre.filterMap sel).length (i64s (L0 ++ pre.filterMap sel)))
    (hs : sel x = some y) (hown : w1.ownsRow N 3 1 v' ((L0 ++ pre.filterMap sel).length + 1) (i64s (L0 ++ pre.filterMap sel) ++ [.int .i64 y])) (hgrow : (W.alloc X).grownBy w1 (Value.slice o (L0 ++ pre.filterMap sel).length cap).ownBlock) :
    Boxed w1 B 44 (.slice o (L0 ++ pre.filterMap sel).length cap) ∧ Coll w N B MA A S root m L0 sel (pre ++ [x]) (w1.setCell ⟨B, 0, none⟩ v') ∧ (∀ (D : Nat) (c : Array Value), W.heap[D]? = some (Obj.cells c 37 (0, 0)) → (w1.setCell ⟨B, 0, none⟩ v').heap[D]? = some (Obj.cells c 37 (0, 0))) := by
  have hsz := h.U.size
  obtain ⟨hv1, hv2, hr2, hk2, hb2⟩ := hbox.appended (by decide) hrow (by omega) hB hown hgrow
  have heq : L0 ++ (pre ++ [x]).filterMap sel = (L0 ++ pre.filterMap sel) ++ [y] := by simp [hs]
  have U0 : Upd (N ≤ ·) W (w1.setCell ⟨B, 0, none⟩ v') := (upd_own hrow hgrow).setCell (.inl hB) _
  have hMA := lt_of_heap h.M.head
  have keepOld : ∀ (k : Nat) (t : Nat) (c : Array Value), t ≠ 3 → t ≠ 44 → W.heap[k]? = some (.cells c t (0, 0)) → (w1.setCell ⟨B, 0, none⟩ v').heap[k]? = some (.cells c t (0, 0)) := by
    intro k t c h1 h2 hk
    have n1 : ∀ j, (Value.slice o (L0 ++ pre.filterMap sel).length cap).ownBlock = some j → ¬ j = k := wk_ne hrow hk h1
    have n2 : ¬ k = B := by
      rintro rfl
      have hb : W.heap[k]? = _ := hbox
      rw [hb] at hk
      simp at hk
      exact h2 hk.2.symm
    have hkl := lt_of_heap hk
    rw [Below.heap_setCell _ _ _ _ n2, hgrow.block k (by simp; omega) (fun e => n1 k e.symm rfl), Below.heap_alloc _ _ _ hkl]
    exact hk
  refine ⟨hv1, ⟨?_, ?_, ?_, ?_, ?_⟩, fun D c hD => keepOld D _ c (by decide) (by decide) hD⟩
  · obtain ⟨g', cap', rfl⟩ := ownsRow_succ hown
    rw [heq]
    refine ⟨some ⟨g', 0, none⟩, cap', ?_, ?_⟩
    · rw [show ((L0 ++ pre.filterMap sel) ++ [y]).length = (L0 ++ pre.filterMap sel).length + 1 from by rw [List.length_append]; rfl]; exact hv2
    · rw [show ((L0 ++ pre.filterMap sel) ++ [y]).length = (L0 ++ pre.filterMap sel).length + 1 from by rw [List.length_append]; rfl]
      unfold i64s at hr2 ⊢
      rw [List.map_append]
      exact hr2
  · exact ⟨keepOld _ _ _ (by decide) (by decide) h.M.head, keepOld _ _ _ (by decide) (by decide) h.M.body, h.M.len, h.M.lo, h.M.hi⟩
  · exact h.T.keptS U0 (by have := World.block_lt_of_cell? w _ (hTw 0 (by omega)).1; simp at this; omega)
  · exact keepOld _ _ _ (by decide) (by decide) h.S
  · exact h.U.new (U0.mono (fun _ _ e => by omega))

theorem Coll.skip {w : World} {N B MA A S : Nat} {root : Int} {m : Mem} {L0 : List Int} {sel : Nat × En → Option Int} {pre : List (Nat × En)} {W : World} {x : Nat × En} (h : Coll w N B MA A S root m L0 sel pre W) (hs : sel x = none) : Coll w N B MA A S root m L0 sel (pre ++ [x]) W := by
  have e : (pre ++ [x]).filterMap sel = pre.filterMap sel := by simp [hs]
  exact ⟨by rw [e]; exact h.box, h.M, h.T, h.S, h.U⟩

set_option maxRecDepth 100000 in
set_option maxHeartbeats 1000000 in
theorem pages_sees (w : World) (N B MA A S : Nat) (root : Int) (m : Mem) (L0 : List Int) (hwN : w.heap.size = N) (hB : N ≤ B) (hTw : Tab w) (hL0 : L0.length ≤ 1) :
    Sees 37 B MA A S root m (Coll w N B MA A S root m L0 selP) := by
  refine ⟨fun pre W h => ⟨h.M, h.T, h.S⟩, fun pre W W' h u => h.keep u, fun pre x W hlen h => ?_⟩
  obtain ⟨i0, hi, hz0, hz1, hz2⟩ := info_parts info_int8
  obtain ⟨pg, ev, er, et, ef⟩ := x
  have hln := collN L0 selP pre hlen hL0
  have u0 := (Upd.refl (fun _ => False) W).alloc (.cells #[.bool ev, .bool er, .bool et, .int .i64 ef] 37)
  have h1 := h.keep u0
  have hE0 := Lib.hid (show ∀ D v r t f, EntAt W D v r t f → EntAt (W.alloc (.cells #[.bool ev, .bool er, .bool et, .int .i64 ef] 37)) D v r t f from fun D v r t f hD => u0.at hD id)
  have a1 := heap_alloc_last W (.cells #[.bool ev, .bool er, .bool et, .int .i64 ef] 37)
  clear u0 h
  have hb2 := (show EntAt (W.alloc (.cells #[.bool ev, .bool er, .bool et, .int .i64 ef] 37)) W.heap.size ev er et ef from a1).range 2 _ rfl
  have hb3 := (show EntAt (W.alloc (.cells #[.bool ev, .bool er, .bool et, .int .i64 ef] 37)) W.heap.size ev er et ef from a1).range 3 _ rfl
  rw [Nat.zero_add] at hb2 hb3
  clear a1
  cases et
  · go_enter Tryd.func37, Tryd.ntmps37
    go_upto_region 1 with fail
    generalize W.alloc (.cells #[.bool ev, .bool er, .bool false, .int .i64 ef] 37) = W1 at h1 hE0 hb2 hb3 ⊢
    generalize W.heap.size = D at hb2 hb3 ⊢
    obtain ⟨o, cap, hbox, hrow⟩ := h1.box
    have hsz := h1.U.size
    obtain ⟨n, hn⟩ : ∃ n, n = (L0 ++ pre.filterMap selP).length := ⟨_, rfl⟩
    rw [← hn] at hbox hrow hln
    have hcb := hbox.cell
    have Hn := Lib.hid hn
    clear hn
    go_wp2_with (at_builtin; refine wpList_append_own _ rfl _ _ 44 rfl N 3 i0 (.int .i64 0) 1 8 Tryd.underlying44 hi hz0 hz1 hz2 rfl (by decide) _ _ _ rfl (hrow.alloc _) ⟨W1.heap.size, 0, none⟩ 1 1 [.int .i64 (pg : Nat)] rfl rfl (cell_one_new _ _ _) (by simp [Value.oneCell']) (by simp [maxLen]; omega) (by omega) (by simp; omega) ?_; intro v' w2 hown' hgrow _; obtain ⟨g', cap', rfl⟩ := ownsRow_succ hown'; have hv1 := (hbox.appended (by decide) hrow (by omega) hB hown' hgrow).1; have hc1 := hv1.cell; have hf1 := hv1.frozen)
    go_end0
    have e := Hn.out
    subst e
    obtain ⟨p1, p2, p3⟩ := Coll.push (x := (pg, ⟨ev, er, false, ef⟩)) (y := (pg : Nat)) hwN hB hTw h1 hbox hrow rfl hown' hgrow
    exact ⟨rfl, p2, fun D' v r t f hD => p3 D' _ (hE0.out D' v r t f hD)⟩
  · go_enter Tryd.func37, Tryd.ntmps37
    go_upto_region 1 with fail
    generalize W.alloc (.cells #[.bool ev, .bool er, .bool true, .int .i64 ef] 37) = W1 at h1 hE0 hb2 hb3 ⊢
    generalize W.heap.size = D at hb2 hb3 ⊢
    go_wp2
    go_end0
    exact ⟨rfl, h1.skip rfl, hE0.out⟩

set_option maxRecDepth 100000 in
set_option maxHeartbeats 1000000 in
theorem tables_sees (w : World) (N B MA A S : Nat) (root : Int) (m : Mem) (L0 : List Int) (hwN : w.heap.size = N) (hB : N ≤ B) (hTw : Tab w) (hL0 : L0.length ≤ 1) :
    Sees 38 B MA A S root m (Coll w N B MA A S root m L0 selT) := by
  refine ⟨fun pre W h => ⟨h.M, h.T, h.S⟩, fun pre W W' h u => h.keep u, fun pre x W hlen h => ?_⟩
  obtain ⟨i0, hi, hz0, hz1, hz2⟩ := info_parts info_int8
  obtain ⟨pg, ev, er, et, ef⟩ := x
  have hln := collN L0 selT pre hlen hL0
  have u0 := (Upd.refl (fun _ => False) W).alloc (.cells #[.bool ev, .bool er, .bool et, .int .i64 ef] 37)
  have h1 := h.keep u0
  have hE0 := Lib.hid (show ∀ D v r t f, EntAt W D v r t f → EntAt (W.alloc (.cells #[.bool ev, .bool er, .bool et, .int .i64 ef] 37)) D v r t f from fun D v r t f hD => u0.at hD id)
  have a1 := heap_alloc_last W (.cells #[.bool ev, .bool er, .bool et, .int .i64 ef] 37)
  clear u0 h
  have hb2 := (show EntAt (W.alloc (.cells #[.bool ev, .bool er, .bool et, .int .i64 ef] 37)) W.heap.size ev er et ef from a1).range 2 _ rfl
  have hb3 := (show EntAt (W.alloc (.cells #[.bool ev, .bool er, .bool et, .int .i64 ef] 37)) W.heap.size ev er et ef from a1).range 3 _ rfl
  rw [Nat.zero_add] at hb2 hb3
  clear a1
  cases et
  · go_enter Tryd.func38, Tryd.ntmps38
    go_upto_region 1 with fail
    generalize W.alloc (.cells #[.bool ev, .bool er, .bool false, .int .i64 ef] 37) = W1 at h1 hE0 hb2 hb3 ⊢
    generalize W.heap.size = D at hb2 hb3 ⊢
    go_wp2
    go_end0
    exact ⟨rfl, h1.skip rfl, hE0.out⟩
  · go_enter Tryd.func38, Tryd.ntmps38
    go_upto_region 1 with fail
    generalize W.alloc (.cells #[.bool ev, .bool er, .bool true, .int .i64 ef] 37) = W1 at h1 hE0 hb2 hb3 ⊢
    generalize W.heap.size = D at hb2 hb3 ⊢
    obtain ⟨o, cap, hbox, hrow⟩ := h1.box
    have hsz := h1.U.size
    obtain ⟨n, hn⟩ : ∃ n, n = (L0 ++ pre.filterMap selT).length := ⟨_, rfl⟩
    rw [← hn] at hbox hrow hln
    have hcb := hbox.cell
    have Hn := Lib.hid hn
    clear hn
    go_wp2_with (at_builtin; refine wpList_append_own _ rfl _ _ 44 rfl N 3 i0 (.int .i64 0) 1 8 Tryd.underlying44 hi hz0 hz1 hz2 rfl (by decide) _ _ _ rfl (hrow.alloc _) ⟨W1.heap.size, 0, none⟩ 1 1 [.int .i64 ef] rfl rfl (cell_one_new _ _ _) (by simp [Value.oneCell']) (by simp [maxLen]; omega) (by omega) (by simp; omega) ?_; intro v' w2 hown' hgrow _; obtain ⟨g', cap', rfl⟩ := ownsRow_succ hown'; have hv1 := (hbox.appended (by decide) hrow (by omega) hB hown' hgrow).1; have hc1 := hv1.cell; have hf1 := hv1.frozen)
    go_end0
    have e := Hn.out
    subst e
    obtain ⟨p1, p2, p3⟩ := Coll.push (x := (pg, ⟨ev, er, true, ef⟩)) (y := ef) hwN hB hTw h1 hbox hrow rfl hown' hgrow
    exact ⟨rfl, p2, fun D' v r t f hD => p3 D' _ (hE0.out D' v r t f hD)⟩

set_option maxRecDepth 100000 in
set_option maxHeartbeats 1000000 in
theorem close_sees (w : World) (N B MA A S : Nat) (root : Int) (m : Mem) (L0 : List Int) (hwN : w.heap.size = N) (hB : N ≤ B) (hTw : Tab w) (hL0 : L0.length ≤ 1) :
    Sees 40 B MA A S root m (Coll w N B MA A S root m L0 selC) := by
  refine ⟨fun pre W h => ⟨h.M, h.T, h.S⟩, fun pre W W' h u => h.keep u, fun pre x W hlen h => ?_⟩
  obtain ⟨i0, hi, hz0, hz1, hz2⟩ := info_parts info_int8
  obtain ⟨pg, ev, er, et, ef⟩ := x
  have hln := collN L0 selC pre hlen hL0
  have u0 := (Upd.refl (fun _ => False) W).alloc (.cells #[.bool ev, .bool er, .bool et, .int .i64 ef] 37)
  have h1 := h.keep u0
  have hE0 := Lib.hid (show ∀ D v r t f, EntAt W D v r t f → EntAt (W.alloc (.cells #[.bool ev, .bool er, .bool et, .int .i64 ef] 37)) D v r t f from fun D v r t f hD => u0.at hD id)
  have a1 := heap_alloc_last W (.cells #[.bool ev, .bool er, .bool et, .int .i64 ef] 37)
  clear u0 h
  have hb2 := (show EntAt (W.alloc (.cells #[.bool ev, .bool er, .bool et, .int .i64 ef] 37)) W.heap.size ev er et ef from a1).range 2 _ rfl
  have hb3 := (show EntAt (W.alloc (.cells #[.bool ev, .bool er, .bool et, .int .i64 ef] 37)) W.heap.size ev er et ef from a1).range 3 _ rfl
  rw [Nat.zero_add] at hb2 hb3
  clear a1
  cases et
  · go_enter Tryd.func40, Tryd.ntmps40
    go_upto_region 1 with fail
    generalize W.alloc (.cells #[.bool ev, .bool er, .bool false, .int .i64 ef] 37) = W1 at h1 hE0 hb2 hb3 ⊢
    generalize W.heap.size = D at hb2 hb3 ⊢
    obtain ⟨o, cap, hbox, hrow⟩ := h1.box
    have hsz := h1.U.size
    obtain ⟨n, hn⟩ : ∃ n, n = (L0 ++ pre.filterMap selC).length := ⟨_, rfl⟩
    rw [← hn] at hbox hrow hln
    have hcb := hbox.cell
    have Hn := Lib.hid hn
    clear hn
    go_wp2_with (at_builtin; refine wpList_append_own _ rfl _ _ 44 rfl N 3 i0 (.int .i64 0) 1 8 Tryd.underlying44 hi hz0 hz1 hz2 rfl (by decide) _ _ _ rfl (hrow.alloc _) ⟨W1.heap.size, 0, none⟩ 1 1 [.int .i64 ef] rfl rfl (cell_one_new _ _ _) (by simp [Value.oneCell']) (by simp [maxLen]; omega) (by omega) (by simp; omega) ?_; intro v' w2 hown' hgrow _; obtain ⟨g', cap', rfl⟩ := ownsRow_succ hown'; have hv1 := (hbox.appended (by decide) hrow (by omega) hB hown' hgrow).1; have hc1 := hv1.cell; have hf1 := hv1.frozen)
    go_end0
    have e := Hn.out
    subst e
    obtain ⟨p1, p2, p3⟩ := Coll.push (x := (pg, ⟨ev, er, false, ef⟩)) (y := ef) hwN hB hTw h1 hbox hrow rfl hown' hgrow
    exact ⟨rfl, p2, fun D' v r t f hD => p3 D' _ (hE0.out D' v r t f hD)⟩
  · go_enter Tryd.func40, Tryd.ntmps40
    go_upto_region 1 with fail
    generalize W.alloc (.cells #[.bool ev, .bool er, .bool true, .int .i64 ef] 37) = W1 at h1 hE0 hb2 hb3 ⊢
    generalize W.heap.size = D at hb2 hb3 ⊢
    go_wp2
    go_end0
    exact ⟨rfl, h1.skip rfl, hE0.out⟩
end Go.Proofs.YtpfpcmadhbejiaaDoor

/-
  Package tables: Pages and Tables.
-/
namespace Go.Proofs.YtpfpcmadhbejiaaDoor
open Go.ChangeShapes Go.WideShapes Go.ChangeAt Go.RowKit Go.Shelf Go.Sort

theorem Coll.start {w : World} {MA A S : Nat} {root : Int} {m : Mem} (hm : MemAt w MA m) (T : Tab w) (h : SpAt w S MA A root) (sel : Nat × En → Option Int) :
    Coll w w.heap.size w.heap.size MA A S root m [] sel [] (w.alloc (.cells #[.slice none 0 0] 44)) := by
  have u := (Upd.refl (fun _ => False) w).alloc (.cells #[.slice none 0 0] 44)
  exact ⟨⟨none, 0, Boxed.new w _ _, World.ownsRow_nil _ _ _ _⟩, hm.kept u id id, T.kept u, h.kept u id, u⟩
set_option maxHeartbeats 400000 in
theorem spages_any (S MA A : Nat) (m : Mem) (s : Sp) (w : World) (h : SpAt w S MA A s.root) (hm : MemAt w MA m) (T : Tab w) (hIn : s.In m) (hOk : s.Ok m.n) (hg : m.good) (hn : m.n ≤ 256) :
    Calls Tryd.prog 15 #[.pointer (some ⟨S, 0, none⟩)] w fun e w' => ∃ v, e = .returned v ∧ w'.ownsRow w.heap.size 3 1 v ((s.vis 3 0 0).filterMap selP).length (i64s ((s.vis 3 0 0).filterMap selP)) ∧ Upd (fun _ => False) w w' := by
  have hv := Lib.hid (svisit_any 37 w.heap.size MA A S m s _ (enters_of Tryd.func37 (by kernel_rfl) rfl) (pages_sees w w.heap.size w.heap.size MA A S s.root m [] rfl (Nat.le_refl _) T (by simp)) hIn hOk hg hn _ (Coll.start hm T h selP))
  clear hIn hOk hg
  go_enter Tryd.func15, Tryd.ntmps15
  go_wp2_with (go_at_call 36; refine hv.out.mono ?_; rintro e w1 ⟨rfl, j⟩; obtain ⟨o, cap, hbox, hrow⟩ := j.box; have hc := hbox.cell; have hU := j.U)
  go_ret
  exact ⟨_, rfl, hrow, hU⟩

def leI (x y : Int) : Bool := decide (x ≤ y)
theorem ssort_any (N cap : Nat) (o : Option Addr) (ss : List Int) (w : World) (hrow : w.ownsRow N 3 1 (.slice o ss.length cap) ss.length (i64s ss)) (hne : 0 < ss.length) (hlen : ss.length ≤ 5001) :
    Calls Tryd.prog 39 #[.slice o ss.length cap] w fun e w' => e = .returned (.tuple #[]) ∧ w'.ownsRow N 3 1 (.slice o ss.length cap) ss.length (i64s (ss.mergeSort leI)) ∧ Upd (fun j => (Value.slice o ss.length cap).ownBlock = some j) w w' := by
  rcases hrow.2 with ⟨hnil, h0⟩ | ⟨g, cap', cur, e1, hbase, hb, h1, h2, h3, h4⟩
  · omega
  · cases e1
    have hH : Holds (Value.int .i64) w g 0 ss.toArray := holds_of_blockI hb (by rw [Nat.mul_one] at h4; exact h4)
    have hc := AnyM.slices_Sort_int sortA g 0 cap ss w hH (lt_of_heap hb) (by omega)
    change Calls Tryd.prog 39 _ _ _ at hc
    refine hc.mono ?_
    rintro e w' ⟨rfl, n, os, rfl⟩
    have hg := grownBy_sortedI (w := w) (g := g) (n := n) (os := os) (ss.mergeSort leI).toArray
    exact ⟨rfl, ownsRow_sortedI (by simp) hbase hb h1 h2 h3, ⟨hg.os, hg.tape, hg.output, hg.size, fun k hk hs => hg.block k hk (fun e => hs (by rw [e]; rfl))⟩⟩
theorem Coll.start1 {w : World} {MA A S : Nat} {root : Int} {m : Mem} (hm : MemAt w MA m) (T : Tab w) (h : SpAt w S MA A root) (r : Int) (sel : Nat × En → Option Int) :
    Coll w w.heap.size (w.heap.size + 1) MA A S root m [r] sel [] ((w.alloc (.cells #[.int .i64 r] 3)).alloc (.cells #[.slice (some ⟨w.heap.size, 0, none⟩) 1 1] 44)) := by
  have u1 := (Upd.refl (fun _ => False) w).alloc (.cells #[.int .i64 r] 3)
  have u := u1.alloc (.cells #[.slice (some ⟨w.heap.size, 0, none⟩) 1 1] 44)
  have b1 := heap_alloc_last w (.cells #[.int .i64 r] 3)
  have b2 : Boxed ((w.alloc (.cells #[.int .i64 r] 3)).alloc (.cells #[.slice (some ⟨w.heap.size, 0, none⟩) 1 1] 44)) (w.heap.size + 1) 44 (.slice (some ⟨w.heap.size, 0, none⟩) 1 1) := by
    have := Boxed.new (w.alloc (.cells #[.int .i64 r] 3)) 44 (.slice (some ⟨w.heap.size, 0, none⟩) 1 1)
    rwa [World.size_alloc] at this
  have b1' := ((Upd.refl (fun _ => False) (w.alloc (.cells #[.int .i64 r] 3))).alloc (.cells #[.slice (some ⟨w.heap.size, 0, none⟩) 1 1] 44)).at b1 id
  exact ⟨⟨some ⟨w.heap.size, 0, none⟩, 1, b2, rfl, .inr ⟨w.heap.size, 1, _, rfl, Nat.le_refl _, b1', by simp, by simp [maxLen], by simp, by simp [i64s]⟩⟩, hm.kept u id id, T.kept u, h.kept u id, u⟩
def Sp.tabs (s : Sp) : List Int := s.root :: (s.vis 3 0 0).filterMap selT
set_option maxRecDepth 100000 in
set_option maxHeartbeats 1000000 in
theorem stables_any (S MA A : Nat) (m : Mem) (s : Sp) (w : World) (h : SpAt w S MA A s.root) (hm : MemAt w MA m) (T : Tab w) (hIn : s.In m) (hOk : s.Ok m.n) (hg : m.good) (hn : m.n ≤ 256) :
    Calls Tryd.prog 16 #[.pointer (some ⟨S, 0, none⟩)] w fun e w' => ∃ v, e = .returned v ∧ w'.ownsRow w.heap.size 3 1 v s.tabs.length (i64s (s.tabs.mergeSort leI)) ∧ Upd (fun _ => False) w w' := by
  have c2 := h.c2
  have hlen : s.tabs.length ≤ 5001 := by
    have := List.length_filterMap_le selT (s.vis 3 0 0)
    have := s.vis_bd
    unfold Sp.tabs
    simp; omega
  have hE := Lib.hid (show s.tabs = [s.root] ++ (s.vis 3 0 0).filterMap selT from rfl)
  have u1 := (Upd.refl (fun _ => False) w).alloc (.cells #[.int .i64 s.root] 3)
  have hv := Lib.hid (fun W (h0 : Coll w w.heap.size (w.heap.size + 1) MA A S s.root m [s.root] selT [] W) => svisit_any 38 (w.heap.size + 1) MA A S m s _ (enters_of Tryd.func38 (by kernel_rfl) rfl) (tables_sees w w.heap.size (w.heap.size + 1) MA A S s.root m [s.root] rfl (by omega) T (by simp)) hIn hOk hg hn _ h0)
  clear hIn hOk hg
  go_enter Tryd.func16, Tryd.ntmps16
  go_upto_region 2 with fail
  have hst := Coll.start1 hm T h s.root selT
  clear u1
  generalize (w.alloc (.cells #[.int .i64 s.root] 3)).alloc (.cells #[.slice (some ⟨w.heap.size, 0, none⟩) 1 1] 44) = W2 at hst ⊢
  have hv2 := Lib.hid (hv.out W2 hst)
  clear hv hst c2
  have hR := Lib.hid (Nat.le_refl w.heap.size)
  generalize eN : w.heap.size = N at hv2 ⊢
  have HN := Lib.hid eN
  clear eN hR
  go_wp2_with first
    | (go_at_call 36; refine hv2.out.mono ?_; rintro e w1 ⟨rfl, j⟩; obtain ⟨o, cap, hbox, hrow⟩ := j.box; have hU := j.U; rw [← hE.out] at hbox hrow; have hc := hbox.cell)
    | (go_at_call 39; refine (ssort_any N cap o s.tabs w1 hrow (by unfold Sp.tabs; simp) hlen).mono ?_; rintro e w2 ⟨rfl, hrow2, u2⟩; have hc2 := u2.cell hc (fun e => hbox.not_row (by decide) hrow e.symm); have hU2 := hU.since u2 (fun q hq => by have := (hrow.lt q hq).1; have := HN.out; omega))
  go_ret
  exact ⟨_, rfl, by rw [HN.out]; exact hrow2, hU2⟩
end Go.Proofs.YtpfpcmadhbejiaaDoor

/-
  Package tables, in plain numbers: the lists that the visits tell, page by page and table by table.
-/
namespace Go.Proofs.YtpfpcmadhbejiaaDoor

/-- the pages, and the tables of a level -/
def Sp.pgs (s : Sp) : List Nat := (List.range 4096).filter fun q => (s.E 3 q).v
def Sp.lev (s : Sp) (l : Nat) : List Nat := (List.range (16 ^ l)).filter fun d => (s.E l d).v

theorem range_flat {α : Type} (g : Nat → List α) (k : Nat) : ∀ a, (List.range a).flatMap (fun p => (List.range k).flatMap fun q => g (k * p + q)) = (List.range (k * a)).flatMap g
  | 0 => by simp
  | a + 1 => by
    rw [List.range_succ, List.flatMap_append, range_flat g k a, Nat.mul_succ, List.range_add, List.flatMap_append]
    simp [List.flatMap_map]
theorem flat_perm {α β : Type} (A B : α → List β) : ∀ l : List α, (l.flatMap fun x => A x ++ B x).Perm (l.flatMap A ++ l.flatMap B)
  | [] => by simp
  | x :: l => by
    simp only [List.flatMap_cons]
    refine (List.Perm.append_left _ (flat_perm A B l)).trans ?_
    simp only [List.append_assoc]
    refine List.Perm.append_left _ ?_
    rw [← List.append_assoc, ← List.append_assoc]
    exact List.Perm.append_right _ List.perm_append_comm
theorem flat_if {α β : Type} (p : α → Bool) (f : α → β) : ∀ l : List α, (l.flatMap fun x => if p x = true then [f x] else []) = (l.filter p).map f
  | [] => rfl
  | x :: l => by
    rw [List.flatMap_cons, flat_if p f l, List.filter_cons]
    split <;> simp
theorem flat_congr {α β : Type} {f g : α → List β} : ∀ {l : List α}, (∀ x, x ∈ l → f x = g x) → l.flatMap f = l.flatMap g
  | [], _ => rfl
  | x :: l, h => by
    rw [List.flatMap_cons, List.flatMap_cons, h x (by simp), flat_congr (l := l) fun y hy => h y (by simp [hy])]
theorem flat_nil {α β : Type} {f : α → List β} {l : List α} (h : ∀ x, x ∈ l → f x = []) : l.flatMap f = [] := by
  rw [flat_congr h]; induction l with
  | nil => rfl
  | cons x l ih => rw [List.flatMap_cons, ih fun y hy => h y (by simp [hy])]; rfl

theorem Sp.vis_fm (s : Sp) {β : Type} (sel : Nat × En → Option β) (k l d : Nat) : (s.vis (k + 1) l d).filterMap sel = (List.range 16).flatMap fun p => if (s.E (l + 1) (16 * d + p)).v = true then (sel (16 * d + p, s.E (l + 1) (16 * d + p))).toList ++ (s.vis k (l + 1) (16 * d + p)).filterMap sel else [] := by
  rw [Sp.vis, List.filterMap_flatMap]
  refine flat_congr fun p _ => ?_
  split
  · rw [List.filterMap_cons]
    split <;> rename_i h <;> rw [h] <;> rfl
  · rfl
theorem Sp.Ok.low {s : Sp} {n : Nat} (h : s.Ok n) {l d p : Nat} (hv : (s.E (l + 1) d).v = false) (hp : p < 16) : (s.E (l + 2) (16 * d + p)).v = false := by
  cases hc : (s.E (l + 2) (16 * d + p)).v
  · rfl
  · have := (h.lv _ _ hc).2.2.2
    rw [show l + 2 - 1 = l + 1 from rfl, show (16 * d + p) / 16 = d from by omega, s.onS, hv] at this
    cases this
/-- a list of the pages -/
theorem Sp.Ok.vis_pages {s : Sp} {n : Nat} (h : s.Ok n) {β : Type} (sel : Nat × En → Option β) (f : Nat → β) (hn : ∀ q e, e.t = true → sel (q, e) = Option.none) (hs : ∀ q, (s.E 3 q).v = true → sel (q, s.E 3 q) = some (f q)) :
    (s.vis 3 0 0).filterMap sel = s.pgs.map f := by
  have h1 : ∀ d, (s.vis 1 2 d).filterMap sel = (List.range 16).flatMap fun p => if (s.E 3 (16 * d + p)).v = true then [f (16 * d + p)] else [] := by
    intro d
    rw [s.vis_fm]
    refine flat_congr fun p _ => ?_
    split
    · rename_i hv
      rw [hs _ hv]
      rfl
    · rfl
  have h2 : ∀ d, (s.vis 2 1 d).filterMap sel = (List.range 16).flatMap fun p => (List.range 16).flatMap fun q => if (s.E 3 (16 * (16 * d + p) + q)).v = true then [f (16 * (16 * d + p) + q)] else [] := by
    intro d
    rw [s.vis_fm]
    refine flat_congr fun p _ => ?_
    split
    · rename_i hv
      rw [hn _ _ (h.tb _ _ hv (by omega)).1, h1]
      rfl
    · rename_i hv
      refine (flat_nil fun q hq => ?_).symm
      rw [List.mem_range] at hq
      rw [h.low (by simpa using hv) hq]
      rfl
  rw [s.vis_fm]
  have e : ∀ p, p ∈ List.range 16 → (if (s.E (0 + 1) (16 * 0 + p)).v = true then (sel (16 * 0 + p, s.E (0 + 1) (16 * 0 + p))).toList ++ (s.vis 2 (0 + 1) (16 * 0 + p)).filterMap sel else []) = (List.range 16).flatMap fun p2 => (fun x => (List.range 16).flatMap fun q => (fun y => if (s.E 3 y).v = true then [f y] else []) (16 * x + q)) (16 * p + p2) := by
    intro p hp
    simp only [Nat.mul_zero, Nat.zero_add]
    split
    · rename_i hv
      rw [hn _ _ (h.tb _ _ hv (by omega)).1, h2]
      rfl
    · rename_i hv
      refine (flat_nil fun q hq => flat_nil fun r hr => ?_).symm
      rw [List.mem_range] at hq hr
      dsimp only
      rw [h.low (h.low (by simpa using hv) hq) hr]
      rfl
  rw [flat_congr e, range_flat (fun x => (List.range 16).flatMap fun q => (fun y => if (s.E 3 y).v = true then [f y] else []) (16 * x + q)) 16 16, range_flat (fun y => if (s.E 3 y).v = true then [f y] else []) 16]
  exact flat_if (fun y => (s.E 3 y).v) f _
theorem Sp.Ok.vis_selP {s : Sp} {n : Nat} (h : s.Ok n) : (s.vis 3 0 0).filterMap selP = s.pgs.map fun q => ((q : Nat) : Int) :=
  h.vis_pages selP _ (fun q e hx => by unfold selP; rw [hx]; rfl) (fun q hv => by unfold selP; rw [h.pg _ hv]; rfl)
theorem Sp.Ok.vis_selC {s : Sp} {n : Nat} (h : s.Ok n) : (s.vis 3 0 0).filterMap selC = s.pgs.map fun q => (s.E 3 q).f :=
  h.vis_pages selC _ (fun q e hx => by unfold selC; rw [hx]; rfl) (fun q hv => by unfold selC; rw [h.pg _ hv]; rfl)
/-- the tables -/
theorem Sp.Ok.tabs_perm {s : Sp} {n : Nat} (h : s.Ok n) : s.tabs.Perm (s.root :: ((s.lev 1).map (fun d => (s.E 1 d).f) ++ (s.lev 2).map fun d => (s.E 2 d).f)) := by
  refine List.Perm.cons _ ?_
  have h1 : ∀ d, (s.vis 1 2 d).filterMap selT = [] := by
    intro d
    rw [s.vis_fm]
    refine flat_nil fun p _ => ?_
    split
    · rename_i hv
      have : selT (16 * d + p, s.E (2 + 1) (16 * d + p)) = Option.none := by unfold selT; rw [h.pg _ hv]; rfl
      rw [this]
      rfl
    · rfl
  have h2 : ∀ d, (s.vis 2 1 d).filterMap selT = (List.range 16).flatMap fun p => (fun x => if (s.E 2 x).v = true then [(s.E 2 x).f] else []) (16 * d + p) := by
    intro d
    rw [s.vis_fm]
    refine flat_congr fun p _ => ?_
    dsimp only
    split
    · rename_i hv
      have : selT (16 * d + p, s.E (1 + 1) (16 * d + p)) = some (s.E 2 (16 * d + p)).f := by unfold selT; rw [(h.tb _ _ hv (by omega)).1]; rfl
      rw [this, h1]
      rfl
    · rfl
  rw [s.vis_fm]
  have e : ∀ p, p ∈ List.range 16 → (if (s.E (0 + 1) (16 * 0 + p)).v = true then (selT (16 * 0 + p, s.E (0 + 1) (16 * 0 + p))).toList ++ (s.vis 2 (0 + 1) (16 * 0 + p)).filterMap selT else []) = (if (s.E 1 p).v = true then [(s.E 1 p).f] else []) ++ (List.range 16).flatMap fun p2 => (fun x => if (s.E 2 x).v = true then [(s.E 2 x).f] else []) (16 * p + p2) := by
    intro p hp
    simp only [Nat.mul_zero, Nat.zero_add]
    split
    · rename_i hv
      have : selT (p, s.E (0 + 1) p) = some (s.E 1 p).f := by unfold selT; rw [(h.tb _ _ hv (by omega)).1]; rfl
      rw [this, h2]
      rfl
    · rename_i hv
      rw [List.nil_append]
      refine (flat_nil fun q hq => ?_).symm
      rw [List.mem_range] at hq
      rw [h.low (by simpa using hv) hq]
      rfl
  rw [flat_congr e]
  refine (flat_perm _ _ _).trans ?_
  rw [range_flat (fun x => if (s.E 2 x).v = true then [(s.E 2 x).f] else []) 16 16]
  rw [flat_if (fun p => (s.E 1 p).v) (fun p => (s.E 1 p).f), flat_if (fun p => (s.E 2 p).v) (fun p => (s.E 2 p).f)]
  exact List.Perm.refl _
theorem Sp.Ok.tabs_len {s : Sp} {n : Nat} (h : s.Ok n) : s.tabs.length = 1 + (s.lev 1).length + (s.lev 2).length := by
  rw [h.tabs_perm.length_eq]
  simp; omega
theorem Sp.mem_lev {s : Sp} {l d : Nat} : d ∈ s.lev l ↔ d < 16 ^ l ∧ (s.E l d).v = true := by
  unfold Sp.lev
  rw [List.mem_filter, List.mem_range]
theorem Sp.mem_pgs {s : Sp} {q : Nat} : q ∈ s.pgs ↔ q < 4096 ∧ (s.E 3 q).v = true := by
  unfold Sp.pgs
  rw [List.mem_filter, List.mem_range]
theorem Sp.Ok.mem_tabs {s : Sp} {n : Nat} (h : s.Ok n) {f : Int} : f ∈ s.tabs ↔ ∃ l d, l ≤ 2 ∧ s.on l d = true ∧ f = s.fr l d := by
  rw [h.tabs_perm.mem_iff]
  simp only [List.mem_cons, List.mem_append, List.mem_map, Sp.mem_lev]
  constructor
  · rintro (rfl | ⟨d, ⟨_, hv⟩, rfl⟩ | ⟨d, ⟨_, hv⟩, rfl⟩)
    · exact ⟨0, 0, by omega, rfl, rfl⟩
    · exact ⟨1, d, by omega, by rw [s.onS]; exact hv, by rw [s.frS]⟩
    · exact ⟨2, d, by omega, by rw [s.onS]; exact hv, by rw [s.frS]⟩
  · rintro ⟨l, d, hl, ho, rfl⟩
    match l, hl with
    | 0, _ => exact .inl rfl
    | 1, _ => rw [s.onS] at ho; exact .inr (.inl ⟨d, ⟨(h.lv _ _ ho).2.2.1, ho⟩, by rw [s.frS]⟩)
    | 2, _ => rw [s.onS] at ho; exact .inr (.inr ⟨d, ⟨(h.lv _ _ ho).2.2.1, ho⟩, by rw [s.frS]⟩)
theorem nodup_mapF {l : List Nat} {f : Nat → Int} (hl : l.Nodup) (hf : ∀ a b, a ∈ l → b ∈ l → f a = f b → a = b) : (l.map f).Nodup := by
  induction l with
  | nil => simp
  | cons x l ih =>
    rw [List.nodup_cons] at hl
    rw [List.map_cons, List.nodup_cons]
    refine ⟨fun hm => ?_, ih hl.2 fun a b ha hb => hf a b (by simp [ha]) (by simp [hb])⟩
    obtain ⟨y, hy, e⟩ := List.mem_map.1 hm
    have := hf y x (by simp [hy]) (by simp) e
    subst this
    exact hl.1 hy
theorem Sp.Ok.tabs_nodup {s : Sp} {n : Nat} (h : s.Ok n) : s.tabs.Nodup := by
  rw [h.tabs_perm.nodup_iff]
  have onE : ∀ l d, d ∈ s.lev (l + 1) → s.on (l + 1) d = true := fun l d hd => by rw [s.onS]; exact (Sp.mem_lev.1 hd).2
  have lv : ∀ l, l + 1 ≤ 2 → ((s.lev (l + 1)).map fun d => (s.E (l + 1) d).f).Nodup := fun l hl =>
    nodup_mapF ((List.nodup_range).filter _) fun a b ha hb e => (h.inj _ _ _ _ hl hl (onE l a ha) (onE l b hb) (by rw [s.frS, s.frS]; exact e)).2
  rw [List.nodup_cons, List.nodup_append]
  refine ⟨?_, lv 0 (by omega), lv 1 (by omega), ?_⟩
  · intro hm
    rcases List.mem_append.1 hm with hm | hm <;> obtain ⟨d, hd, e⟩ := List.mem_map.1 hm
    · have := (h.inj 1 d 0 0 (by omega) (by omega) (onE 0 d hd) rfl (by rw [s.frS, s.fr0]; exact e)).1; omega
    · have := (h.inj 2 d 0 0 (by omega) (by omega) (onE 1 d hd) rfl (by rw [s.frS, s.fr0]; exact e)).1; omega
  · rintro a ha b hb rfl
    obtain ⟨d, hd, e⟩ := List.mem_map.1 ha
    obtain ⟨d', hd', e'⟩ := List.mem_map.1 hb
    have := (h.inj 1 d 2 d' (by omega) (by omega) (onE 0 d hd) (onE 1 d' hd') (by rw [s.frS, s.frS]; exact e.trans e'.symm)).1
    omega
theorem Sp.pgs_rises (s : Sp) : s.pgs.Pairwise (· < ·) := (List.pairwise_lt_range).filter _
/-- all frames that are not free are given, one by one -/
theorem left_len : ∀ (k : Nat) {b : Bud}, b.gave.length = k → b.Ok → (∀ x, x ∈ b.gave → x.2 = 0) → b.left + b.gave.length + b.res = b.n
  | 0, b, hl, h, h0 => by
    have hn : b.gave = [] := List.eq_nil_of_length_eq_zero hl
    have hF : ∀ k, k ≤ b.n → cnt b.F k = k - b.res := by
      intro k
      induction k with
      | zero => intro _; simp [cnt]
      | succ k ih =>
        intro hk
        rw [cnt_succ, ih (by omega)]
        by_cases hr : b.res ≤ k
        · have : b.F k = true := (h.fr k).2 ⟨hr, by omega, by rw [hn]; simp⟩
          rw [this]; simp; omega
        · have : b.F k = false := by
            cases hf : b.F k
            · rfl
            · have := (h.fr k).1 hf; omega
          rw [this]; simp; omega
    have := hF b.n (Nat.le_refl _)
    have := h.rs
    unfold Bud.left
    omega
  | k + 1, b, hl, h, h0 => by
    obtain ⟨x, hx⟩ := List.exists_mem_of_length_pos (l := b.gave) (by omega)
    have e : (b.take x).gave = b.gave.erase x := rfl
    have hle : (b.gave.erase x).length = k := by rw [List.length_erase_of_mem hx]; omega
    have ih := left_len k (b := b.take x) (by rw [e]; exact hle) (h.take hx) (fun y hy => h0 y (List.mem_of_mem_erase hy))
    have hlt := left_take h hx
    rw [h0 x hx] at hlt
    rw [e, hle] at ih
    have : (b.take x).res = b.res := rfl
    have : (b.take x).n = b.n := rfl
    simp at hlt
    omega
end Go.Proofs.YtpfpcmadhbejiaaDoor

/-
  Package tables: Protect, over the words of the memory.
-/
namespace Go.Proofs.YtpfpcmadhbejiaaDoor
open Go.ChangeShapes Go.WideShapes Go.ChangeAt Go.RowKit Go.Shelf

theorem row2_at {w : World} {base : Nat} {e : TypeId} {o : Option Addr} {k cap : Nat} {xs : List Value} (h : w.ownsRow base e 2 (.slice o k cap) k xs) (hk : 0 < k) : ∃ g, o = some ⟨g, 0, none⟩ ∧ base ≤ g ∧ ∀ (j : Nat) (u : Value), xs[j]? = some u → w.cell? ⟨g, j, none⟩ = some u := by
  rcases h.2 with ⟨e1, e2⟩ | ⟨g, cap', cur, e1, hb, _⟩
  · omega
  · cases e1
    exact ⟨g, rfl, hb, fun j u hu => by have := h.cells (g := g) rfl j u hu; rwa [add_mid0, Nat.zero_add] at this⟩
theorem EntAt.setW {w : World} {D : Nat} {v r t : Bool} {f : Int} (h : EntAt w D v r t f) (r' : Bool) : EntAt (w.setCell ⟨D, 1, none⟩ (.bool r')) D v r' t f := by
  unfold EntAt
  have := heap_setCell_same (C := [.bool v, .bool r, .bool t, .int .i64 f]) h 1 (.bool r')
  rw [this]
  rfl
/-- a row of steps is not an entry's box -/
theorem wk_set {w : World} {base k : Nat} {v : Value} {xs : List Value} {D : Nat} {a b c : Bool} {f : Int} (h : w.ownsRow base 66 2 v k xs) (hD : EntAt w D a b c f) (vs : List Value) : (w.setCells D 0 vs).ownsRow base 66 2 v k xs :=
  wk_kept h (Upd.setCells (S := (· = D)) (.inl rfl) vs 0 (Upd.refl _ w)) (wk_ne h hD (by decide))
set_option maxRecDepth 100000 in
set_option maxHeartbeats 1000000 in
theorem sprotect_any (S MA A : Nat) (root : Int) (m : Mem) (q : Int) (wb : Bool) (w : World) (h : SpAt w S MA A root) (hm : MemAt w MA m) (T : Tab w) (hg : m.good) :
    Calls Tryd.prog 10 #[.pointer (some ⟨S, 0, none⟩), .int .i64 q, .bool wb] w fun e w' =>
      (m.wX root q ≠ 0 ∧ e = .returned (.int .i64 (m.wX root q)) ∧ Upd (fun _ => False) w w') ∨
      (m.wX root q = 0 ∧ e = .returned (.int .i64 (errB (m.putB (m.wF root q 2) (idxI q 2) { m.wE root q with r := wb }))) ∧ MemAt w' MA (m.put (m.wF root q 2) (idxI q 2) { m.wE root q with r := wb }) ∧ Upd (· = m.B) w w') := by
  have cW := Lib.hid (fun (W : World) (hW : w.heap.size ≤ W.heap.size) (h : MemAt W MA m) (T : Tab W) => walk_row (root := root) (q := q) w.heap.size hW h T hg)
  have h3 := m.wX_three root q
  have hS2 := m.wS_at root q 2
  have hwf : (Lit.int .i64 (m.wE root q).f).wf = true := by
    have : 0 ≤ (m.wE root q).f ∧ (m.wE root q).f ≤ 255 := by
      unfold Mem.wE
      split
      · unfold Mem.getE; split
        · unfold enOf ofF; simp only; split
          · rename_i h0; unfold pF; omega
          · omega
        · exact ⟨by decide, by decide⟩
      · exact ⟨by decide, by decide⟩
    obtain ⟨j, hj⟩ := Int.eq_ofNat_of_zero_le this.1
    rw [hj]
    exact wf_frame (by omega)
  clear hg
  generalize m.wF root q 2 = a at hS2 ⊢
  generalize idxI q 2 = p at hS2 ⊢
  generalize m.wN root q = n at cW h3
  have hS3 := fun e => hS2 n (by rw [h3 e]; omega)
  clear hS2
  generalize m.wX root q = X at cW h3 hS3 ⊢
  generalize m.wE root q = E at cW hwf ⊢
  generalize m.wS root q n = xs at cW hS3
  obtain ⟨ev, er, et, ef⟩ := E
  have H3 := Lib.hid h3
  have HS := Lib.hid hS3
  have Hw := Lib.hid hwf
  clear h3 hS3 hwf
  have c0 := h.c0
  have c2 := h.c2
  go_enter Tryd.func10, Tryd.ntmps10
  go_upto_region 1 with fail
  have hS := Lib.hid (show ∀ (W' : World), Upd (fun _ => False) w W' → W'.cell? ⟨S, 0, none⟩ = some (.pointer (some ⟨MA, 0, none⟩)) ∧ W'.cell? ⟨S, 2, none⟩ = some (.int .i64 root) ∧ Upd (fun _ => False) w W' from fun W' u => ⟨u.cell c0 id, u.cell c2 id, u⟩)
  go_cut [7, 8, 9] (fun s6 s7 s8 wx => ∃ (D : Nat) (o : Option Addr) (cap : Nat), s6 = .pointer (some ⟨D, 0, none⟩) ∧ s7 = .slice o n cap ∧ s8 = .int .i64 X ∧ Hid (EntAt wx D ev er et ef) ∧ Hid (wx.ownsRow w.heap.size 66 2 (.slice o n cap) n xs) ∧ Hid (w.heap.size ≤ D) ∧ Upd (fun _ => False) w wx)
  case first =>
    go_region_held3 (fun w' => w'.cell? ⟨S, 0, none⟩ = some (.pointer (some ⟨MA, 0, none⟩)) ∧ w'.cell? ⟨S, 2, none⟩ = some (.int .i64 root) ∧ Upd (fun _ => False) w w')
      (first
        | assumption
        | exact hS.out _ (Upd.refl _ _).drew
        | exact hS.out _ ((Upd.refl _ _).drew.alloc _)
        | exact hS.out _ u7
        | exact hS.out _ (u7.alloc _)
        | exact hS.out _ ((((u7.setCell (.inr (Nat.le_refl _)) _).setCell (.inr (Nat.le_refl _)) _).setCell (.inr (Nat.le_refl _)) _).setCell (.inr (Nat.le_refl _)) _)
        | exact hS.out _ (((((u7.alloc _).setCell (.inr u7.size) _).setCell (.inr u7.size) _).setCell (.inr u7.size) _).setCell (.inr u7.size) _))
      (first
        | (go_at_call 13; go_split_ands; rename_i s1 s2 s3; refine (cW.out (w.alloc (.cells #[.bool false, .bool false, .bool false, .int .i64 0] 37)).drew s3.size (hm.kept s3 id id) (T.kept s3)).mono ?_; rintro e w6 ⟨o, cap, rfl, r6, u6⟩; have u7 := s3.trans u6; have e7 : Hid (EntAt w6 w.heap.size false false false 0) := Lib.hid (u6.at (heap_alloc_last w _) id); obtain ⟨e0, e1, e2, e3, z0, z1, z2, z3⟩ := e7.out.eight)
        | (go_at_call 13; go_split_ands; rename_i s1 s2 s3; refine (cW.out _ s3.size (hm.kept s3 id id) (T.kept s3)).mono ?_; rintro e w6 ⟨o, cap, rfl, r6, u6⟩; have u7 := s3.trans u6))
    all_goals (go_wp2_with fail)
    all_goals go_meet
    all_goals
      first
        | exact ⟨w.heap.size, o, cap, rfl, rfl, rfl, Lib.hid (e7.out.set ev er et ef), Lib.hid (wk_kept r6.out (((((Upd.refl (· = w.heap.size) w6).setCell (.inl rfl) _).setCell (.inl rfl) _).setCell (.inl rfl) _).setCell (.inl rfl) _) (wk_ne r6.out e7.out (by decide))), Lib.hid (Nat.le_refl _), (((u7.setCell (.inr (Nat.le_refl _)) _).setCell (.inr (Nat.le_refl _)) _).setCell (.inr (Nat.le_refl _)) _).setCell (.inr (Nat.le_refl _)) _⟩
        | exact ⟨w6.heap.size, o, cap, rfl, rfl, rfl, Lib.hid (heap_alloc_last w6 _), Lib.hid (wk_kept r6.out ((Upd.refl (fun _ => False) w6).alloc _) (fun _ _ => id)), Lib.hid u7.size, u7.alloc _⟩
  case rest =>
    obtain ⟨D, o, cap, rfl, rfl, rfl, hD, hrow, hDN, u8⟩ := hcut
    clear hS cW c0 c2
    by_cases hX : X = 0
    · obtain rfl := H3.out hX
      obtain ⟨s0, s1⟩ := HS.out hX
      subst hX
      obtain ⟨g, rfl, hgN, hcs⟩ := row2_at hrow.out (by omega)
      have gD : ¬ g = D := wk_ne hrow.out hD.out (by decide) g rfl
      have d0 := hcs _ _ s0
      have d1 := hcs _ _ s1
      obtain ⟨e0, e1, e2, e3, z0, z1, z2, z3⟩ := hD.out.eight
      have hD2 := Lib.hid (hD.out.setW wb)
      have u9 := u8.setCell (p := ⟨D, 1, none⟩) (.inr hDN.out) (.bool wb)
      have u9' := (Upd.refl (· = D) wc).setCell (p := ⟨D, 1, none⟩) (.inl rfl) (.bool wb)
      have d0' := u9'.cell d0 gD
      have d1' := u9'.cell d1 gD
      clear s0 s1 hcs hrow H3 HS
      go_upto_region 5 with fail
      clear e0 e1 e2 e3 z0 z1 z2 z3 hD d0 d1 u9' u8
      generalize wc.setCell ⟨D, 1, none⟩ (.bool wb) = w1 at hD2 u9 d0' d1' ⊢
      have a1 := heap_alloc_last w1 (.cells #[.int .i64 a, .int .i64 p] 66)
      have a2 := (Upd.refl (fun _ => False) w1).alloc (.cells #[.int .i64 a, .int .i64 p] 66)
      go_upto_region 6 with fail
      have U := u9.trans a2
      have hD3 := Lib.hid (hD2.out.kept a2 id)
      clear hD2 d0' d1' u9 a2
      generalize w1.alloc (.cells #[.int .i64 a, .int .i64 p] 66) = w2 at a1 U hD3 ⊢
      generalize w1.heap.size = st' at a1 ⊢
      have h2 := h.kept U id
      have M2 := hm.kept U id id
      have T2 := T.kept U
      clear h hm T
      refine wp_region_tail 9 (by kernel_rfl) (by kernel_rfl) ?_
      simp only [List.take_succ_cons, List.take_zero, List.drop_succ_cons, List.drop_zero]
      intro w3 hw3
      have U3 : Upd (fun _ => False) w w3 := by rw [hw3]; exact U.drew
      have h3 : SpAt w3 S MA A root := by rw [hw3]; exact h2
      have M3 : MemAt w3 MA m := by rw [hw3]; exact M2.drew
      have T3 : Tab w3 := by rw [hw3]; exact T2.drew 1
      have a3 : w3.heap[st']? = some (.cells #[.int .i64 a, .int .i64 p] 66 (0, 0)) := by rw [hw3]; exact a1
      have D3 : Hid (EntAt w3 D ev wb et ef) := by rw [hw3]; exact hD3
      clear hw3 U h2 M2 T2 a1 hD3
      have c0 := h3.c0
      obtain ⟨b0, b1⟩ := box2 a3
      repeat (first | (with_reducible refine wpStill_load_sz rfl 37 (.tmp 7) rfl D 0 rfl [.bool ev, .bool wb, .bool et, .int .i64 ef] _ D3.out.range Tryd.underlying37 rfl 4 (ent_len _ _ _ _) size_ent ?_) | still_step)
      refine wpStill_nil ?_
      go_wp2_with fail
      refine (wput_any MA m a p ⟨ev, wb, et, ef⟩ _ M3 T3 Hw.out).mono ?_
      rintro z w4 ⟨rfl, M4, u4⟩
      go_wp2
      go_ret
      have := (U3.mono (T := (· = m.B)) (fun _ _ x => x.elim)).trans u4
      first | exact .inr ⟨rfl, rfl, M4, this⟩ | exact ⟨rfl, rfl, M4, this⟩ | exact ⟨rfl, M4, this⟩
    · go_wp2
      go_ret
      first | exact .inl ⟨hX, rfl, u8⟩ | exact ⟨hX, rfl, u8⟩ | exact ⟨rfl, u8⟩
end Go.Proofs.YtpfpcmadhbejiaaDoor

/-
  Package tables: link, over the words of the memory.
-/
namespace Go.Proofs.YtpfpcmadhbejiaaDoor
open Go.ChangeShapes Go.WideShapes Go.ChangeAt Go.RowKit Go.Shelf

/-- the first j tables linked: the memory behind it, and in which frame the next entry is put -/
def Mem.lk (m : Mem) (a q : Int) (n0 : Nat) (c : List Nat) : Nat → Mem × Int
  | 0 => (m, a)
  | j + 1 => ((m.lk a q n0 c j).1.put (m.lk a q n0 c j).2 (idxI q ((n0 + j : Nat) : Int)) (tbE (c.getD j 0 : Nat)), (c.getD j 0 : Nat))
theorem Mem.lk_B (m : Mem) (a q : Int) (n0 : Nat) (c : List Nat) : ∀ j, (m.lk a q n0 c j).1.B = m.B
  | 0 => rfl
  | j + 1 => by rw [Mem.lk, Mem.put_B, m.lk_B a q n0 c j]
theorem two_set {w : World} {b t : Nat} {x y : Value} (h : w.heap[b]? = some (.cells #[x, y] t (0, 0))) (x' y' : Value) : (w.setCells b 0 [x', y']).heap[b]? = some (.cells #[x', y'] t (0, 0)) := by
  have := heap_setCells_same b _ [x', y'] 0 w [x, y] h (by simp)
  rw [this, splice_all _ _ (by simp)]
theorem Tab.ne2 {w : World} (T : Tab w) {b t : Nat} {x y : Value} (h : w.heap[b]? = some (.cells #[x, y] t (0, 0))) : ¬ 0 = b := by
  intro e
  have h1 := (T 8 (by omega)).1
  rw [e, cell_of_row w b _ _ _ _ h] at h1
  simp at h1
theorem two_there {w : World} {b t : Nat} {x y : Value} (h : w.heap[b]? = some (.cells #[x, y] t (0, 0))) : w.there b 0 2 := fun j hj => by
  obtain ⟨a1, a2⟩ := box2 h
  match j, hj with
  | 0, _ => exact ⟨by rw [a1]; rfl, by unfold World.frozen?; rw [h]; simp⟩
  | 1, _ => exact ⟨by rw [a2]; rfl, by unfold World.frozen?; rw [h]; simp⟩
theorem ret_two {fn : Func} {p : Tmp} (h : fn.results = #[.cell p 66]) (tmps : Array Value) (w : World) (b : Nat) (x y : Int) (hp : tmps.getD p undef = .pointer (some ⟨b, 0, none⟩)) (he : w.heap[b]? = some (.cells #[.int .i64 x, .int .i64 y] 66 (0, 0))) :
    (results fn tmps).run Tryd.prog w = .ok (.agg #[.int .i64 x, .int .i64 y]) w :=
  results_cell_row h tmps w b _ _ _ _ hp he Tryd.underlying66 rfl (by kernel_rfl)

set_option maxRecDepth 100000 in
set_option maxHeartbeats 1000000 in
theorem link_any (S MA A : Nat) (root : Int) (m : Mem) (q a : Int) (n0 k cap capc g : Nat) (oc : Option Addr) (c : List Nat) (w : World) (h : SpAt w S MA A root) (hm : MemAt w MA m) (T : Tab w)
    (d0 : w.cell? ⟨g, n0 * 2, none⟩ = some (.int .i64 a)) (d1 : w.cell? ⟨g, n0 * 2 + 1, none⟩ = some (.int .i64 (idxI q n0))) (hS : S ≠ m.B)
    (hc : ∀ i, i < k → ∃ b, oc = some ⟨b, 0, none⟩ ∧ ¬ b = m.B ∧ w.cell? ⟨b, i, none⟩ = some (.int .i64 (c.getD i 0 : Nat))) (hk : n0 + k ≤ 2) (hcb : ∀ i, c.getD i 0 ≤ 256) :
    Calls Tryd.prog 32 #[.pointer (some ⟨S, 0, none⟩), .int .i64 q, .slice (some ⟨g, 0, none⟩) (n0 + 1) cap, .slice oc k capc] w fun e w' =>
      e = .returned (.agg #[.int .i64 (m.lk a q n0 c k).2, .int .i64 (idxI q ((n0 + k : Nat) : Int))]) ∧ MemAt w' MA (m.lk a q n0 c k).1 ∧ Upd (· = m.B) w w' := by
  have hkk : (n0 : Int) + 1 - 1 = n0 := by omega
  have hw1 : IntKind.i64.wrap ((n0 : Int) + 1 - 1) = n0 := by rw [hkk, IntWalk.i64_in _ (by omega)]
  have hw2 : IntKind.i64.wrap (n0 : Int) = n0 := IntWalk.i64_in _ (by omega)
  have hBw := lt_of_heap hm.body
  have i0 : (n0 : Int) < (n0 : Int) + 1 := by omega
  have i1 : (0 : Int) ≤ n0 := by omega
  have hcc := Lib.hid hc
  have U1 := (Upd.refl (fun _ => False) w).alloc (.cells #[.int .i64 0, .int .i64 0] 66)
  have d0' := U1.cell d0 id
  have d1' := U1.cell d1 id
  have r0 := heap_alloc_last w (.cells #[.int .i64 0, .int .i64 0] 66)
  clear hc d0 d1
  go_enter Tryd.func32, Tryd.ntmps32
  go_upto_region 1 with fail
  generalize w.alloc (.cells #[.int .i64 0, .int .i64 0] 66) = w1 at U1 d0' d1' r0 ⊢
  have hs1 := U1.size
  generalize eR : w.heap.size = R at r0 hs1 hBw ⊢
  have hR := Lib.hid (Nat.le_of_eq eR)
  clear eR
  go_upto_region 2 with fail
  have a1 := heap_alloc_last w1 (.cells #[.int .i64 a, .int .i64 (idxI q n0)] 66)
  have a2 := (Upd.refl (fun _ => False) w1).alloc (.cells #[.int .i64 a, .int .i64 (idxI q n0)] 66)
  have U2 := (U1.trans a2).mono (T := (· = m.B)) (fun _ _ x => x.elim)
  have r2 := a2.at r0 id
  have hM2 := hm.kept (U1.trans a2) id id
  have T2 := T.kept (U1.trans a2)
  have h2 := h.kept (U1.trans a2) id
  have hrl := lt_of_heap r0
  have hX := Lib.hid (show ¬ w1.heap.size = m.B ∧ ¬ R = m.B ∧ ¬ R = w1.heap.size ∧ R ≤ w1.heap.size from by omega)
  clear a2 U1 d0' d1' r0 hm T h hs1 hrl
  generalize w1.alloc (.cells #[.int .i64 a, .int .i64 (idxI q n0)] 66) = w2 at a1 U2 r2 hM2 T2 h2 ⊢
  generalize w1.heap.size = X at a1 hX ⊢
  clear w1
  go_wp2_with fail
  go_loopw [22] (fun t wr => ∃ j : Nat, j ≤ k ∧ t = .int .i64 j ∧ MemAt wr MA (m.lk a q n0 c j).1 ∧ wr.heap[X]? = some (.cells #[.int .i64 (m.lk a q n0 c j).2, .int .i64 (idxI q ((n0 + j : Nat) : Int))] 66 (0, 0)) ∧ wr.heap[R]? = some (.cells #[.int .i64 0, .int .i64 0] 66 (0, 0)) ∧ Tab wr ∧ SpAt wr S MA A root ∧ Upd (· = m.B) w wr) (fun t _ => k - (intOf t).toNat)
  case atStart => exact ⟨0, by omega, rfl, hM2, a1, r2, T2, h2, U2⟩
  case round =>
    obtain ⟨j, hj, rfl, hM, ha, hr, hT, hs, hU⟩ := hrel
    clear hM2 a1 r2 T2 h2 U2
    by_cases hlt : j < k
    · obtain ⟨b, rfl, hb, hcell⟩ := hcc.out j hlt
      have hcell' := hU.cell hcell hb
      have hlk := Lib.hid (m.lk_B a q n0 c j)
      have hstep : Hid (m.lk a q n0 c (j + 1) = ((m.lk a q n0 c j).1.put (m.lk a q n0 c j).2 (idxI q ((n0 + j : Nat) : Int)) (tbE (c.getD j 0 : Nat)), ((c.getD j 0 : Nat) : Int))) := Lib.hid rfl
      have hcb' := Lib.hid (hcb j)
      clear hcell hcb
      generalize c.getD j 0 = f at hcell' hstep hcb' ⊢
      generalize m.lk a q n0 c j = L at hM ha hlk hstep ⊢
      obtain ⟨M, y⟩ := L
      dsimp only at hM ha hlk hstep ⊢
      generalize hpl : idxI q ((n0 + j : Nat) : Int) = pl at ha hstep ⊢
      have Hpl := Lib.hid hpl
      clear hpl
      go_upto_region 5 with fail
      refine wp_region_tail 10 (by kernel_rfl) (by kernel_rfl) ?_
      simp only [List.take_succ_cons, List.take_zero, List.drop_succ_cons, List.drop_zero]
      intro w3 hw3
      have U3 : Upd (· = m.B) w w3 := by rw [hw3]; exact hU.drew
      have h3 : SpAt w3 S MA A root := by rw [hw3]; exact hs
      have M3 : MemAt w3 MA M := by rw [hw3]; exact hM.drew
      have T3 : Tab w3 := by rw [hw3]; exact hT.drew 1
      have a3 : w3.heap[X]? = some (.cells #[.int .i64 y, .int .i64 pl] 66 (0, 0)) := by rw [hw3]; exact ha
      have r3 : w3.heap[R]? = some (.cells #[.int .i64 0, .int .i64 0] 66 (0, 0)) := by rw [hw3]; exact hr
      clear hw3 hU hs hM hT ha hr
      have c0 := h3.c0
      obtain ⟨b0, b1⟩ := box2 a3
      repeat still_step
      refine wpStill_nil ?_
      go_wp2_with fail
      refine (wput_any MA M y pl ⟨true, false, true, f⟩ _ M3 T3 (wf_frame hcb'.out)).mono ?_
      rintro z w4 ⟨rfl, M4, u4⟩
      rw [hlk.out] at u4
      have T4 := T3.keptS u4 (by rw [← hlk.out]; exact T3.apart M3)
      have h4 := h3.kept u4 hS
      have a4 := u4.at a3 hX.out.1
      have r4 := u4.at r3 hX.out.2.1
      have U4 := U3.trans u4
      clear u4 a3 r3 h3 T3 M3 U3 c0 b0 b1
      go_wp2_with fail
      refine (eindex_any q ((n0 : Int) + 1 + (j : Int)) w4 T4).mono ?_
      rintro z w5 ⟨rfl, n5, rfl⟩
      have ei : Hid (idxI q ((n0 : Int) + 1 + (j : Int)) = idxI q ((n0 + (j + 1) : Nat) : Int)) := Lib.hid (by rw [show (n0 : Int) + 1 + (j : Int) = ((n0 + (j + 1) : Nat) : Int) from by omega])
      generalize idxI q ((n0 : Int) + 1 + (j : Int)) = i5 at ei ⊢
      have a5 : (w4.drewN n5).heap[X]? = _ := a4
      go_wp2_with (with_reducible refine wpList_store_sz rfl 66 (.tmp 9) (.tmp 49) rfl X 0 #[.int .i64 f, .int .i64 i5] rfl rfl 2 rfl (two_there a5) size_step (two_one _ _) [.int .i64 f, .int .i64 i5] rfl ?_)
      have u6 := Upd.setCells (S := (· = X)) (.inl rfl) [.int .i64 f, .int .i64 i5] 0 (Upd.refl (· = X) (w4.drewN n5))
      go_roundw
      case rel =>
        refine ⟨j + 1, by omega, by go_num, ?_, ?_, ?_, ?_, ?_, ?_⟩
        · rw [hstep.out]
          exact MemAt.kept (S := (· = X)) (M4.kept ((Upd.refl (fun _ => False) w4).drewN n5) id id) u6 (by rintro rfl; rw [M4.head] at a4; simp at a4) (by rw [Mem.put_B, hlk.out]; exact fun e => hX.out.1 e.symm)
        · rw [hstep.out, ← ei.out]
          exact two_set a5 _ _
        · exact u6.at r4 hX.out.2.2.1
        · exact Tab.keptS (T4.kept ((Upd.refl (fun _ => False) w4).drewN n5)) u6 (T4.ne2 a4)
        · exact SpAt.kept (h4.kept ((Upd.refl (fun _ => False) w4).drewN n5) id) u6 (by rintro rfl; have h4' : w4.heap[S]? = _ := h4; rw [h4'] at a4; simp at a4)
        · exact Upd.setCells (.inr (Nat.le_trans hR.out hX.out.2.2.2)) _ _ (U4.drewN n5)
      case measure => simp [intOf]; omega
    · obtain rfl : j = k := by omega
      go_wp2_with first
        | (with_reducible refine wpList_load_sz rfl 66 (.tmp 9) rfl X 0 rfl [.int .i64 (m.lk a q n0 c j).2, .int .i64 (idxI q ((n0 + j : Nat) : Int))] _ (row_range ha) Tryd.underlying66 rfl 2 rfl size_step ?_)
        | (with_reducible refine wpList_store_sz rfl 66 (.tmp 8) (.tmp 51) rfl R 0 #[.int .i64 (m.lk a q n0 c j).2, .int .i64 (idxI q ((n0 + j : Nat) : Int))] rfl rfl 2 rfl (two_there hr) size_step (two_one _ _) [.int .i64 (m.lk a q n0 c j).2, .int .i64 (idxI q ((n0 + j : Nat) : Int))] rfl ?_)
      (try simp only [Exit.inBlock, Exit.then])
      have u6 := Upd.setCells (S := (· = R)) (.inl rfl) [.int .i64 (m.lk a q n0 c j).2, .int .i64 (idxI q ((n0 + j : Nat) : Int))] 0 (Upd.refl (· = R) wr)
      refine bodyPost_ret (ret_two rfl _ _ R _ _ rfl (two_set hr _ _)) rfl ⟨rfl, ?_, Upd.setCells (.inr hR.out) _ _ hU⟩
      exact hM.kept u6 (by rintro rfl; rw [hM.head] at hr; simp at hr) (by rw [m.lk_B]; exact fun e => hX.out.2.1 e.symm)
end Go.Proofs.YtpfpcmadhbejiaaDoor

/-
  Package tables: Map, over the words of the memory.
-/
namespace Go.Proofs.YtpfpcmadhbejiaaDoor
open Go.ChangeShapes Go.WideShapes Go.ChangeAt Go.RowKit Go.Shelf

theorem Mem.wX_ten (m : Mem) (root q : Int) (h : m.wX root q = 10) : 1 ≤ m.wN root q ∧ m.wN root q ≤ 3 := by
  unfold Mem.wX at h
  unfold Mem.wN
  cases hb : m.wB root q
  · rw [hb] at h; simp at h
  · simp only [if_true]
    split
    · omega
    · split <;> omega
theorem Mem.lk_n (m : Mem) (a q : Int) (n0 : Nat) (c : List Nat) : ∀ j, (m.lk a q n0 c j).1.n = m.n
  | 0 => rfl
  | j + 1 => by rw [Mem.lk, Mem.put_n, m.lk_n a q n0 c j]
theorem Tab.apartG {w : World} {A MA GB : Nat} {b : Bud} (T : Tab w) (h : BudAt w A MA GB b) : ¬ 0 = GB := by
  intro e
  obtain ⟨D, ⟨es, clock, hb, _⟩, _⟩ := h.mp
  have h1 := (T 0 (by omega)).1
  rw [e] at h1
  unfold World.cell? at h1
  rw [hb] at h1
  simp at h1
/-- what Map answers, and what the words are behind it -/
inductive MapTo (m : Mem) (b : Bud) (root q f : Int) (wb : Bool) : Int → Mem → Bud → Prop
  | arg (h : m.ex f 1 = false) : MapTo m b root q f wb 1 m b
  | twice (h : m.ex f 1 = true) (hx : m.wX root q = 0) : MapTo m b root q f wb 4 m b
  | walk (h : m.ex f 1 = true) (h0 : m.wX root q ≠ 0) (hx : m.wX root q ≠ 10) : MapTo m b root q f wb (m.wX root q) m b
  | mem (h : m.ex f 1 = true) (hx : m.wX root q = 10) (hl : b.left < 3 - m.wN root q) : MapTo m b root q f wb 6 m b
  | yes (h : m.ex f 1 = true) (hx : m.wX root q = 10) (k : Nat) (hk : m.wN root q + k = 3) (hl : k ≤ b.left) (n0 : Nat) (hn : m.wN root q = n0 + 1) (L : Mem × Int) (hL : L = (m.clears (b.al k).1).lk (m.wF root q n0) q n0 (b.al k).1 k) :
      MapTo m b root q f wb (errB (L.1.putB L.2 (idxI q 2) ⟨true, wb, false, f⟩)) (L.1.put L.2 (idxI q 2) ⟨true, wb, false, f⟩) (b.al k).2

set_option maxRecDepth 100000 in
set_option maxHeartbeats 2000000 in
theorem smap_any (S MA A GB : Nat) (root : Int) (m : Mem) (b : Bud) (q f : Int) (wb : Bool) (w : World) (h : SpAt w S MA A root) (hd : Duo w A MA GB m b) (T : Tab w) (hg : m.good) (hf : (Lit.int .i64 f).wf = true) :
    Calls Tryd.prog 11 #[.pointer (some ⟨S, 0, none⟩), .int .i64 q, .int .i64 f, .bool wb] w fun e w' =>
      ∃ (x : Int) (m' : Mem) (b' : Bud), e = .returned (.int .i64 x) ∧ MapTo m b root q f wb x m' b' ∧ Duo w' A MA GB m' b' ∧ Upd (fun k => k = GB ∨ k = m.B) w w' := by
  have cW := Lib.hid (fun (W : World) (hW : w.heap.size ≤ W.heap.size) (h : MemAt W MA m) (T : Tab W) => walk_row (root := root) (q := q) w.heap.size hW h T hg)
  have hm := hd.M
  have HM := Lib.hid (fun x m' b' (y : MapTo m b root q f wb x m' b') => y)
  have h10 := Lib.hid (m.wX_ten root q)
  have hS2 := Lib.hid (fun k n => m.wS_at root q k n)
  clear hg
  generalize eX : m.wX root q = X at cW h10
  generalize eN : m.wN root q = n at cW h10
  generalize eE : m.wE root q = E at cW
  generalize exs : m.wS root q n = xs at cW
  obtain ⟨ev, er, et, ef⟩ := E
  have HX := Lib.hid eX
  have HN := Lib.hid eN
  have Hxs := Lib.hid exs
  have Hw := Lib.hid hf
  have hap := h.apart hd
  clear eX eN exs eE hf
  have c0 := h.c0
  have c2 := h.c2
  go_enter Tryd.func11, Tryd.ntmps11
  go_upto_region 1 with fail
  have hS := Lib.hid (show ∀ (W' : World), Upd (fun _ => False) w W' → W'.cell? ⟨S, 0, none⟩ = some (.pointer (some ⟨MA, 0, none⟩)) ∧ W'.cell? ⟨S, 2, none⟩ = some (.int .i64 root) ∧ Upd (fun _ => False) w W' from fun W' u => ⟨u.cell c0 id, u.cell c2 id, u⟩)
  go_cut [9, 10, 11] (fun s6 s7 s8 wx => ∃ (D : Nat) (o : Option Addr) (cap : Nat), s6 = .pointer (some ⟨D, 0, none⟩) ∧ s7 = .slice o n cap ∧ s8 = .int .i64 X ∧ Hid (wx.ownsRow w.heap.size 66 2 (.slice o n cap) n xs) ∧ Upd (fun _ => False) w wx)
  case first =>
    go_region_held3 (fun w' => w'.cell? ⟨S, 0, none⟩ = some (.pointer (some ⟨MA, 0, none⟩)) ∧ w'.cell? ⟨S, 2, none⟩ = some (.int .i64 root) ∧ Upd (fun _ => False) w w')
      (first
        | assumption
        | exact hS.out _ (Upd.refl _ _).drew
        | exact hS.out _ ((Upd.refl _ _).drew.alloc _)
        | exact hS.out _ u7
        | exact hS.out _ (u7.alloc _)
        | exact hS.out _ ((((u7.setCell (.inr (Nat.le_refl _)) _).setCell (.inr (Nat.le_refl _)) _).setCell (.inr (Nat.le_refl _)) _).setCell (.inr (Nat.le_refl _)) _)
        | exact hS.out _ (((((u7.alloc _).setCell (.inr u7.size) _).setCell (.inr u7.size) _).setCell (.inr u7.size) _).setCell (.inr u7.size) _))
      (first
        | (go_at_call 13; go_split_ands; rename_i s1 s2 s3; refine (cW.out (w.alloc (.cells #[.bool false, .bool false, .bool false, .int .i64 0] 37)).drew s3.size (hm.kept s3 id id) (T.kept s3)).mono ?_; rintro e w6 ⟨o, cap, rfl, r6, u6⟩; have u7 := s3.trans u6; have e7 : Hid (EntAt w6 w.heap.size false false false 0) := Lib.hid (u6.at (heap_alloc_last w _) id); obtain ⟨e0, e1, e2, e3, z0, z1, z2, z3⟩ := e7.out.eight)
        | (go_at_call 13; go_split_ands; rename_i s1 s2 s3; refine (cW.out _ s3.size (hm.kept s3 id id) (T.kept s3)).mono ?_; rintro e w6 ⟨o, cap, rfl, r6, u6⟩; have u7 := s3.trans u6))
    all_goals (go_wp2_with fail)
    all_goals go_meet
    all_goals
      first
        | exact ⟨w.heap.size, o, cap, rfl, rfl, rfl, Lib.hid (wk_kept r6.out (((((Upd.refl (· = w.heap.size) w6).setCell (.inl rfl) _).setCell (.inl rfl) _).setCell (.inl rfl) _).setCell (.inl rfl) _) (wk_ne r6.out e7.out (by decide))), (((u7.setCell (.inr (Nat.le_refl _)) _).setCell (.inr (Nat.le_refl _)) _).setCell (.inr (Nat.le_refl _)) _).setCell (.inr (Nat.le_refl _)) _⟩
        | exact ⟨w6.heap.size, o, cap, rfl, rfl, rfl, Lib.hid (wk_kept r6.out ((Upd.refl (fun _ => False) w6).alloc _) (fun _ _ => id)), u7.alloc _⟩
  case rest =>
    obtain ⟨D, o, cap, rfl, rfl, rfl, hrow, u8⟩ := hcut
    clear hS cW c0 c2
    have h1 := h.kept u8 id
    have d1 := hd.still u8
    have T1 := T.kept u8
    have hn2 := m.n
    cases hx : m.ex f 1
    · have hx' := Lib.hid hx
      clear hx
      go_wp2_with fail
      refine (lacks_any S MA A root m f _ h1 d1.M).mono ?_
      rintro e w1 ⟨rfl, rfl⟩
      rw [hx'.out]
      go_wp2
      go_ret
      exact ⟨1, m, b, rfl, .arg hx'.out, d1, u8.none⟩
    have hx' := Lib.hid hx
    clear hx
    by_cases hX0 : X = 0
    · subst hX0
      go_wp2_with fail
      refine (lacks_any S MA A root m f _ h1 d1.M).mono ?_
      rintro e w1 ⟨rfl, rfl⟩
      rw [hx'.out]
      go_wp2
      go_ret
      exact ⟨4, m, b, rfl, .twice hx'.out HX.out, d1, u8.none⟩
    by_cases hXt : X = 10
    · subst hXt
      obtain ⟨hn0, hn3⟩ := h10.out rfl
      obtain ⟨n0, rfl⟩ : ∃ n0, n = n0 + 1 := ⟨n - 1, by omega⟩
      obtain ⟨k, hk⟩ : ∃ k, n0 + 1 + k = 3 := ⟨2 - n0, by omega⟩
      have hsub : (3 : Int) - (n0 + 1) = k := by omega
      have hsw : IntKind.i64.wrap ((3 : Int) - (n0 + 1)) = k := by rw [hsub, IntWalk.i64_in _ (by omega)]
      go_wp2_with fail
      refine (lacks_any S MA A root m f _ h1 d1.M).mono ?_
      rintro e w1 ⟨rfl, rfl⟩
      rw [hx'.out]
      have hbk := d1.B.ok
      have hd1n := d1.n
      have hBlt := Nat.lt_of_lt_of_le (lt_of_heap hd.M.body) u8.size
      have hGlt := hd.B.lts.2
      have hBw := lt_of_heap hd.M.body
      go_wp2_with fail
      refine (create_any S MA A GB root m b k _ h1 d1 (by omega)).mono ?_
      rintro e w2 (⟨hl, rfl, u2⟩ | ⟨hl, v, rfl, hrow2, d2, u2⟩)
      · go_wp2
        go_ret
        exact ⟨6, m, b, rfl, .mem hx'.out HX.out (by rw [HN.out]; omega), d1.still u2, (u8.trans u2).none⟩
      · have ha := al_ok hbk k hl
        obtain ⟨oc, capc, rfl, hcells⟩ := slice1 hrow2
        obtain ⟨g, rfl, hgN, hcs⟩ := row2_at hrow.out (by omega)
        obtain ⟨s0, s1⟩ := m.wS_at root q n0 (n0 + 1) (by omega)
        rw [Hxs.out] at s0 s1
        have hgX : ¬ (g = GB ∨ g = m.B) := by omega
        have e0 := u2.cell (hcs _ _ s0) hgX
        have e1 := u2.cell (hcs _ _ s1) hgX
        have h2 := h1.kept u2 hap
        have T2 := T1.keptS u2 (by
          rintro (e | e)
          · exact T1.apartG d1.B e
          · exact T1.apart d1.M e)
        have hcl := link_any S MA A root (m.clears (b.al k).1) q (m.wF root q n0) n0 k cap capc g oc (b.al k).1 w2 h2 d2.M T2 e0 e1 (by rw [Mem.clears_B]; exact fun e => hap (.inr e))
          (fun i hi => by
            obtain ⟨bb, hbb, hcc⟩ := hcells i _ (nat1_at _ _ (by rw [ha.len]; exact hi))
            refine ⟨bb, hbb, ?_, hcc⟩
            rw [Mem.clears_B]
            have := (hrow2.lt bb (by rw [hbb]; rfl)).1
            omega) (by omega)
          (fun i => by
            by_cases hi : i < (b.al k).1.length
            · have := (ha.fr ((b.al k).1.getD i 0) (by rw [List.getD_eq_getElem?_getD, List.getElem?_eq_getElem hi]; simp)).1
              have := hbk.hi
              omega
            · rw [List.getD_eq_getElem?_getD, List.getElem?_eq_none (by omega)]; simp)
        rw [Mem.clears_B, show n0 + k = 2 from by omega] at hcl
        have hLB := (m.clears (b.al k).1).lk_B (m.wF root q n0) q n0 (b.al k).1 k
        have hLn := (m.clears (b.al k).1).lk_n (m.wF root q n0) q n0 (b.al k).1 k
        rw [Mem.clears_B] at hLB
        rw [Mem.clears_n] at hLn
        have UU := (u8.none (T := fun k => k = GB ∨ k = m.B)).trans u2
        obtain ⟨L, hL⟩ : ∃ L, L = (m.clears (b.al k).1).lk (m.wF root q n0) q n0 (b.al k).1 k := ⟨_, rfl⟩
        rw [← hL] at hcl hLB hLn
        have Hcl := Lib.hid hcl
        have HL := Lib.hid hL
        clear hL
        clear hcl hcs s0 s1 hcells hrow hrow2 e0 e1 u2 hsw hsub
        go_wp2_with fail
        refine Hcl.out.mono ?_
        rintro e w3 ⟨rfl, M3, u3⟩
        rw [show ((2 : Nat) : Int) = 2 from rfl]
        have d3 : Duo w3 A MA GB L.1 (b.al k).2 := d2.cleared M3 (by rw [Mem.clears_B]; exact u3) (by rw [Mem.clears_n]; exact hLn)
        have h3 := h2.kept u3 (fun e => hap (.inr e))
        have T3 := T2.keptS u3 (by have := T2.apart d2.M; rwa [Mem.clears_B] at this)
        have U3 := UU.trans (u3.mono (T := fun k => k = GB ∨ k = m.B) (fun _ _ e => .inr e))
        clear u3 UU d2 h2 T2 Hcl M3
        obtain ⟨M, y⟩ := L
        dsimp only at d3 hLB hLn ⊢
        obtain ⟨pl, hpl⟩ : ∃ pl, pl = idxI q 2 := ⟨_, rfl⟩
        rw [← hpl]
        have Hpl := Lib.hid hpl
        clear hpl
        have a1 := heap_alloc_last w3 (.cells #[.int .i64 y, .int .i64 pl] 66)
        have a2 := (Upd.refl (fun _ => False) w3).alloc (.cells #[.int .i64 y, .int .i64 pl] 66)
        go_upto_region 12 with fail
        have d4 := d3.still a2
        have h4 := h3.kept a2 id
        have T4 := T3.kept a2
        have U4 := U3.trans (a2.none)
        clear d3 h3 T3 U3 a2
        generalize w3.alloc (.cells #[.int .i64 y, .int .i64 pl] 66) = w4 at a1 d4 h4 T4 U4 ⊢
        generalize w3.heap.size = st' at a1 ⊢
        refine wp_region_tail 11 (by kernel_rfl) (by kernel_rfl) ?_
        simp only [List.take_succ_cons, List.take_zero, List.drop_succ_cons, List.drop_zero]
        intro w5 hw5
        have U5 : Upd (fun k => k = GB ∨ k = m.B) w w5 := by rw [hw5]; exact U4.drew
        have h5 : SpAt w5 S MA A root := by rw [hw5]; exact h4
        have d5 : Duo w5 A MA GB M (b.al k).2 := by rw [hw5]; exact d4.still (Upd.refl (fun _ => False) w4).drew
        have T5 : Tab w5 := by rw [hw5]; exact T4.drew 1
        have a5 : w5.heap[st']? = some (.cells #[.int .i64 y, .int .i64 pl] 66 (0, 0)) := by rw [hw5]; exact a1
        clear hw5 U4 h4 d4 T4 a1
        have c0 := h5.c0
        obtain ⟨b0, b1⟩ := box2 a5
        repeat still_step
        refine wpStill_nil ?_
        go_wp2_with fail
        refine (wput_any MA M y pl ⟨true, wb, false, f⟩ _ d5.M T5 Hw.out).mono ?_
        rintro z w6 ⟨rfl, M6, u6⟩
        go_wp2
        go_ret
        obtain rfl := Hpl.out
        exact ⟨_, _, _, rfl, .yes hx'.out HX.out k (by rw [HN.out]; omega) hl n0 HN.out (M, y) HL.out, d5.cleared M6 u6 (Mem.put_n _ _ _ _), U5.trans (u6.mono (fun _ _ e => .inr (e.trans hLB)))⟩
    · go_wp2_with fail
      refine (lacks_any S MA A root m f _ h1 d1.M).mono ?_
      rintro e w1 ⟨rfl, rfl⟩
      rw [hx'.out]
      go_wp2
      go_ret
      exact ⟨X, m, b, rfl, HX.out ▸ .walk hx'.out (by rw [HX.out]; exact hX0) (by rw [HX.out]; exact hXt), d1, u8.none⟩
end Go.Proofs.YtpfpcmadhbejiaaDoor

/-
  Package tables, in plain numbers: what a space is to its memory and its allocator, and what Map does to it.
-/
namespace Go.Proofs.YtpfpcmadhbejiaaDoor

/-- a space that is whole; the blocks in Y are given to others -/
structure SpInv (s : Sp) (m : Mem) (b : Bud) (Y : Nat × Nat → Prop) : Prop where
  ok : s.Ok m.n
  i : s.In m
  nee : s.need
  mo : m.ok
  hg : m.good
  bk : b.Ok
  bn : m.n = b.n
  y0 : ∀ x, Y x → x.2 = 0
  gv : ∀ x, x ∈ b.gave ↔ (∃ l d, l ≤ 2 ∧ s.on l d = true ∧ x = ((s.fr l d).toNat, 0)) ∨ Y x
  ap : ∀ l d, l ≤ 2 → s.on l d = true → ¬ Y ((s.fr l d).toNat, 0)
/-- the words of others' frames are as they were -/
def SameW (Y : Nat × Nat → Prop) (m m' : Mem) : Prop := ∀ x, Y x → ∀ p : Nat, p < 16 → m'.word (x.1 : Nat) p = m.word (x.1 : Nat) p
theorem SameW.refl (Y : Nat × Nat → Prop) (m : Mem) : SameW Y m m := fun _ _ _ _ => rfl
theorem SameW.trans {Y : Nat × Nat → Prop} {a b c : Mem} (h : SameW Y a b) (k : SameW Y b c) : SameW Y a c := fun x hx p hp => (k x hx p hp).trans (h x hx p hp)
theorem SpInv.hn {s : Sp} {m : Mem} {b : Bud} {Y : Nat × Nat → Prop} (h : SpInv s m b Y) : m.n ≤ 256 := by have := h.bn; have := h.bk.hi; omega
theorem SpInv.zero {s : Sp} {m : Mem} {b : Bud} {Y : Nat × Nat → Prop} (h : SpInv s m b Y) {x : Nat × Nat} (hx : x ∈ b.gave) : x.2 = 0 := by
  rcases (h.gv x).1 hx with ⟨l, d, _, _, rfl⟩ | hy
  · rfl
  · exact h.y0 _ hy
theorem SpInv.has {s : Sp} {m : Mem} {b : Bud} {Y : Nat × Nat → Prop} (h : SpInv s m b Y) {l d : Nat} (hl : l ≤ 2) (ho : s.on l d = true) : ((s.fr l d).toNat, 0) ∈ b.gave := (h.gv _).2 (.inl ⟨l, d, hl, ho, rfl⟩)
theorem SpInv.ylt {s : Sp} {m : Mem} {b : Bud} {Y : Nat × Nat → Prop} (h : SpInv s m b Y) {x : Nat × Nat} (hx : Y x) : x.1 < m.n := by
  have h1 := h.bk.blk x ((h.gv x).2 (.inr hx))
  have h2 := h.y0 x hx
  rw [h2] at h1
  have := h.bn
  omega
/-- a free frame is nobody's -/
theorem SpInv.free {s : Sp} {m : Mem} {b : Bud} {Y : Nat × Nat → Prop} (h : SpInv s m b Y) {c : Nat} (hc : b.F c = true) : ((c, 0) : Nat × Nat) ∉ b.gave := fun hm => by
  have := ((h.bk.fr c).1 hc).2.2 _ hm
  rw [inBlk_no] at this
  exact this ⟨Nat.le_refl _, by simp⟩
theorem SpInv.free_fr {s : Sp} {m : Mem} {b : Bud} {Y : Nat × Nat → Prop} (h : SpInv s m b Y) {c : Nat} (hc : b.F c = true) {l d : Nat} (hl : l ≤ 2) (ho : s.on l d = true) : s.fr l d ≠ (c : Nat) := fun e => by
  have := h.has hl ho
  rw [e, Int.toNat_natCast] at this
  exact h.free hc this
theorem SpInv.y_fr {s : Sp} {m : Mem} {b : Bud} {Y : Nat × Nat → Prop} (h : SpInv s m b Y) {x : Nat × Nat} (hx : Y x) {l d : Nat} (hl : l ≤ 2) (ho : s.on l d = true) : s.fr l d ≠ (x.1 : Nat) := fun e => by
  have := h.ap l d hl ho
  rw [e, Int.toNat_natCast] at this
  have h2 := h.y0 x hx
  exact this (by rw [← h2]; exact hx)

/-- the first j tables linked -/
structure LK (s : Sp) (m : Mem) (c : List Nat) (q n0 j : Nat) (M : Mem) (y : Int) (t : Sp) : Prop where
  ok : t.Ok M.n
  i : t.In M
  mo : M.ok
  hg : M.good
  n : M.n = m.n
  B : M.B = m.B
  rt : t.root = s.root
  on : t.on (n0 + j) (nd q (n0 + j)) = true
  y : y = t.fr (n0 + j) (nd q (n0 + j))
  off : ∀ l, n0 + j < l → l ≤ 3 → (t.E l (nd q l)).v = false
  e3 : ∀ d, t.E 3 d = s.E 3 d
  zero : ∀ i, j ≤ i → i < c.length → ∀ p : Nat, p < 16 → M.word (c.getD i 0 : Nat) p = 0
  tab : ∀ l d, l ≤ 2 → (t.on l d = true ↔ s.on l d = true ∨ (n0 < l ∧ l ≤ n0 + j ∧ d = nd q l))
  old : ∀ l d, l ≤ 2 → s.on l d = true → t.fr l d = s.fr l d
  new : ∀ l, n0 < l → l ≤ n0 + j → t.fr l (nd q l) = (c.getD (l - n0 - 1) 0 : Nat)
  words : ∀ f p : Nat, f < m.n → p < 16 → (∀ l d, l ≤ 2 → t.on l d = true → t.fr l d ≠ (f : Nat)) → M.word f p = m.word f p
theorem tbE_ok {c : Nat} (h : c < 256) : (tbE (c : Nat)).ok = true := by
  unfold En.ok rightB tbE
  simp; omega
theorem getD_mem {c : List Nat} {i : Nat} (h : i < c.length) : c.getD i 0 ∈ c := by
  rw [List.getD_eq_getElem?_getD, List.getElem?_eq_getElem h]; simp
theorem getD_ne {c : List Nat} (hn : c.Nodup) {i j : Nat} (hi : i < c.length) (hj : j < c.length) (h : i ≠ j) : c.getD i 0 ≠ c.getD j 0 := by
  rw [List.getD_eq_getElem?_getD, List.getD_eq_getElem?_getD, List.getElem?_eq_getElem hi, List.getElem?_eq_getElem hj]
  intro e
  simp at e
  rcases Nat.lt_or_gt_of_ne h with g | g
  · exact (List.pairwise_iff_getElem.1 hn i j hi hj g) e
  · exact (List.pairwise_iff_getElem.1 hn j i hj hi g) e.symm
theorem LK.step {s : Sp} {m : Mem} {c : List Nat} {q n0 j : Nat} {M : Mem} {y : Int} {t : Sp} (h : LK s m c q n0 j M y t) (hq : q < 4096) (hj : n0 + j + 1 ≤ 2) (hc : j < c.length) (hn : m.n ≤ 256) (hcn : ∀ f, f ∈ c → f < m.n) (hnd : c.Nodup) (hfr : ∀ f, f ∈ c → ∀ l d, l ≤ 2 → s.on l d = true → s.fr l d ≠ (f : Nat)) :
    LK s m c q n0 (j + 1) (M.put y (idxI q ((n0 + j : Nat) : Int)) (tbE (c.getD j 0 : Nat))) (c.getD j 0 : Nat) (t.set (n0 + j + 1) (nd q (n0 + j + 1)) (tbE (c.getD j 0 : Nat))) := by
  have hm := getD_mem hc
  have hcj := hcn _ hm
  have hM := h.n
  obtain ⟨L, hL⟩ : ∃ L, L = n0 + j := ⟨_, rfl⟩
  have hst := nd_step q L (by omega)
  have hp : nd q (L + 1) % 16 < 16 := Nat.mod_lt _ (by decide)
  have ho : t.on L (nd q L) = true := by rw [hL]; exact h.on
  have hoff : (t.E (L + 1) (16 * nd q L + nd q (L + 1) % 16)).v = false := by rw [hst]; exact h.off (L + 1) (by omega) (by omega)
  have hidx : idxI q ((n0 + j : Nat) : Int) = ((nd q (L + 1) % 16 : Nat) : Int) := by rw [← hL]; exact idx_nat q L hq (by omega)
  have hfresh : ∀ l d, l ≤ 2 → t.on l d = true → t.fr l d ≠ (c.getD j 0 : Nat) := by
    intro l d hl hon
    rcases (h.tab l d hl).1 hon with hs | ⟨h1, h2, rfl⟩
    · rw [h.old l d hl hs]; exact hfr _ hm l d hl hs
    · rw [h.new l h1 h2]
      have := getD_ne hnd (i := l - n0 - 1) (j := j) (by omega) hc (by omega)
      omega
  have hok := h.ok.table (l := L) (d := nd q L) (p := nd q (L + 1) % 16) (c := (c.getD j 0 : Nat)) (by omega) ho hp hoff (by omega) (by omega) hfresh
  have hin := h.i.set h.ok h.mo (l := L) (d := nd q L) (p := nd q (L + 1) % 16) (by omega) ho hp (tbE (c.getD j 0 : Nat)) (tbE_ok (by omega)) (fun h2 _ => ⟨by show (0 : Int) ≤ (c.getD j 0 : Nat); omega, by show ((c.getD j 0 : Nat) : Int) < _; omega, fun p' hp' => ⟨h.zero j (Nat.le_refl _) hc p' hp', by
      rw [hst]
      cases hv : (t.E (L + 2) (16 * nd q (L + 1) + p')).v
      · rfl
      · have := (h.ok.lv _ _ hv).2.2.2
        rw [show L + 2 - 1 = L + 1 from rfl, show (16 * nd q (L + 1) + p') / 16 = nd q (L + 1) from by omega, t.onS, ← hst, hoff] at this
        cases this⟩, fun e => hfresh L _ (by omega) ho e.symm⟩)
  rw [hst] at hok hin
  have hy : y = t.fr L (nd q L) := by rw [hL]; exact h.y
  rw [hidx, hy, ← hL]
  have hs : M.slot (t.fr L (nd q L)) ((nd q (L + 1) % 16 : Nat) : Int) = true := by
    rw [Mem.slot_iff]; have := h.ok.frb ho; omega
  have hset : ∀ l d, ¬ (l = L + 1 ∧ d = nd q (L + 1)) → (t.set (L + 1) (nd q (L + 1)) (tbE (c.getD j 0 : Nat))).on l d = t.on l d := fun l d hx => t.set_on _ hx
  have hsetf : ∀ l d, ¬ (l = L + 1 ∧ d = nd q (L + 1)) → (t.set (L + 1) (nd q (L + 1)) (tbE (c.getD j 0 : Nat))).fr l d = t.fr l d := fun l d hx => t.set_fr _ hx
  have honew : (t.set (L + 1) (nd q (L + 1)) (tbE (c.getD j 0 : Nat))).on (L + 1) (nd q (L + 1)) = true := by rw [Sp.set_on_same]; rfl
  have hfnew : (t.set (L + 1) (nd q (L + 1)) (tbE (c.getD j 0 : Nat))).fr (L + 1) (nd q (L + 1)) = (c.getD j 0 : Nat) := by rw [Sp.set_fr_same]; rfl
  refine ⟨by rw [Mem.put_n]; exact hok, hin, Mem.put_ok _ h.mo _ _ _, M.put_good h.mo h.hg _ _ _, by rw [Mem.put_n]; exact h.n, by rw [Mem.put_B]; exact h.B, h.rt, ?_, ?_, ?_, ?_, ?_, ?_, ?_, ?_, ?_⟩
  · rw [show n0 + (j + 1) = L + 1 from by omega]; exact honew
  · rw [show n0 + (j + 1) = L + 1 from by omega]; exact hfnew.symm
  · intro l h1 h2
    rw [t.set_ne _ (by omega)]
    exact h.off l (by omega) h2
  · intro d
    rw [t.set_ne _ (by omega)]
    exact h.e3 d
  · intro i h1 h2 p hp'
    have hci := hcn _ (getD_mem h2)
    rw [M.word_put h.mo _ _ _ _ _ hs (by rw [Mem.slot_iff]; omega) (tbE_ok (by omega)), if_neg, h.zero i (by omega) h2 p hp']
    rintro ⟨e, _⟩
    rcases (h.tab L _ (by omega)).1 ho with hso | ⟨g1, g2, _⟩
    · rw [h.old L _ (by omega) hso] at e
      exact hfr _ (getD_mem h2) L _ (by omega) hso e.symm
    · rw [h.new L g1 g2] at e
      have := getD_ne hnd (i := i) (j := L - n0 - 1) h2 (by omega) (by omega)
      omega
  · intro l d hl
    by_cases hx : l = L + 1 ∧ d = nd q (L + 1)
    · obtain ⟨rfl, rfl⟩ := hx
      exact ⟨fun _ => .inr ⟨by omega, by omega, rfl⟩, fun _ => honew⟩
    · rw [hset l d hx, h.tab l d hl]
      constructor
      · rintro (a | ⟨a1, a2, a3⟩)
        · exact .inl a
        · exact .inr ⟨a1, by omega, a3⟩
      · rintro (a | ⟨a1, a2, rfl⟩)
        · exact .inl a
        · by_cases e : l = L + 1
          · subst e; exact absurd ⟨rfl, rfl⟩ hx
          · exact .inr ⟨a1, by omega, rfl⟩
  · intro l d hl hso
    rw [hsetf l d ?_, h.old l d hl hso]
    rintro ⟨rfl, rfl⟩
    have := (h.tab _ _ hl).2 (.inl hso)
    rw [t.onS, ← hst, hoff] at this
    cases this
  · intro l h1 h2
    by_cases e : l = L + 1
    · subst e
      rw [hfnew, show L + 1 - n0 - 1 = j from by omega]
    · rw [hsetf l _ (by omega), h.new l h1 (by omega)]
  · intro f p hf hp' hne
    rw [M.word_put h.mo _ _ _ _ _ hs (by rw [Mem.slot_iff]; omega) (tbE_ok (by omega)), if_neg]
    · refine h.words f p hf hp' fun l d hl hon => ?_
      have := hne l d hl (by
        by_cases hx : l = L + 1 ∧ d = nd q (L + 1)
        · rw [hx.1, hx.2]; exact honew
        · rw [hset l d hx]; exact hon)
      rwa [hsetf l d ?_] at this
      rintro ⟨rfl, rfl⟩
      rw [t.onS, ← hst, hoff] at hon
      cases hon
    · rintro ⟨e, _⟩
      have := hne L (nd q L) (by omega) (by rw [hset L _ (by omega)]; exact ho)
      rw [hsetf L _ (by omega)] at this
      exact this e.symm
theorem LK.all {s : Sp} {m : Mem} {c : List Nat} {q n0 : Nat} (hq : q < 4096) (hn : m.n ≤ 256) (hcn : ∀ f, f ∈ c → f < m.n) (hnd : c.Nodup) (hfr : ∀ f, f ∈ c → ∀ l d, l ≤ 2 → s.on l d = true → s.fr l d ≠ (f : Nat)) {a : Int} (h0 : LK s m c q n0 0 m a s) :
    ∀ j, n0 + j ≤ 2 → j ≤ c.length → ∃ t, LK s m c q n0 j (m.lk a q n0 c j).1 (m.lk a q n0 c j).2 t
  | 0, _, _ => ⟨s, h0⟩
  | j + 1, h1, h2 => by
    obtain ⟨t, ht⟩ := LK.all hq hn hcn hnd hfr h0 j (by omega) (by omega)
    exact ⟨_, ht.step hq (by omega) (by omega) hn hcn hnd hfr⟩
/-- what Map answers, and what becomes of the space -/
theorem SpInv.map {s : Sp} {m : Mem} {b : Bud} {Y : Nat × Nat → Prop} (h : SpInv s m b Y) {q f : Int} {wb : Bool} {x : Int} {m' : Mem} {b' : Bud} (hM : MapTo m b s.root q f wb x m' b') :
    (x ≠ 0 ∧ m' = m ∧ b' = b ∧ (m.ex f 1 = false ∨ m.wX s.root q ≠ 10 ∨ b.left < 3 - m.wN s.root q)) ∨ (x = 0 ∧ ∃ qn : Nat, q = qn ∧ qn < 4096 ∧ (0 ≤ f ∧ f < m.n) ∧ (s.E 3 qn).v = false ∧ 3 - s.dep qn ≤ b.left ∧ b' = (b.al (3 - s.dep qn)).2 ∧ m'.n = m.n ∧ m'.B = m.B ∧ SameW Y m m' ∧
      ∃ s', SpInv s' m' b' Y ∧ s'.root = s.root ∧ ∀ q', s'.E 3 q' = if q' = qn then ⟨true, wb, false, f⟩ else s.E 3 q') := by
  cases hM with
  | arg h1 => exact .inl ⟨by decide, rfl, rfl, .inl h1⟩
  | twice h1 h2 => exact .inl ⟨by decide, rfl, rfl, .inr (.inl (by rw [h2]; decide))⟩
  | walk h1 h2 h3 => exact .inl ⟨h2, rfl, rfl, .inr (.inl h3)⟩
  | mem h1 h2 h3 => exact .inl ⟨by decide, rfl, rfl, .inr (.inr h3)⟩
  | yes hx h10 k hk hl n0 hN L hL =>
    right
    have hB : m.wB s.root q = true := by
      cases hb : m.wB s.root q
      · have := (m.walk_no s.root q hb).2.1; omega
      · rfl
    have hpg : 0 ≤ q ∧ q ≤ 4095 := by
      unfold Mem.wB pageB at hB
      simp at hB
      omega
    obtain ⟨qn, rfl⟩ := Int.eq_ofNat_of_zero_le hpg.1
    have hq : qn < 4096 := by omega
    obtain ⟨w1, w2, w3, w4⟩ := Sp.walk h.i h.ok h.hn hq
    have hf : 0 ≤ f ∧ f < m.n := by unfold Mem.ex at hx; simp at hx; omega
    have hv : (s.E 3 qn).v = false := by
      cases hv : (s.E 3 qn).v
      · rfl
      · rw [w2, hv] at h10; simp at h10
    have hdb := s.dep_bd qn
    rw [w1] at hN hk
    have ha := al_ok h.bk k hl
    obtain ⟨c, hc⟩ : ∃ c, c = (b.al k).1 := ⟨_, rfl⟩
    rw [← hc] at ha hL
    have hcn : ∀ f, f ∈ c → f < m.n := fun f hf => by have := (ha.fr f hf).1; have := h.bn; omega
    have hfr : ∀ f, f ∈ c → ∀ l d, l ≤ 2 → s.on l d = true → s.fr l d ≠ (f : Nat) := fun f hf l d hl ho => h.free_fr (ha.fr f hf).2 hl ho
    have hcl : ∀ f p : Nat, f < m.n → p < 16 → (m.clears c).word (f : Nat) (p : Nat) = if f ∈ c then 0 else m.word (f : Nat) (p : Nat) := fun f p hf hp => m.clears_word h.mo c hcn f p hf hp
    have hIn : s.In (m.clears c) := by
      intro l d p hl ho hp
      have hb := h.ok.frb ho
      obtain ⟨g, hg⟩ := Int.eq_ofNat_of_zero_le hb.1
      rw [← h.i l d p hl ho hp, hg, hcl g p (by omega) hp, if_neg]
      intro hgc
      exact hfr g hgc l d hl ho hg
    have h0 : LK s (m.clears c) c qn n0 0 (m.clears c) (m.wF s.root qn n0) s := by
      refine ⟨by rw [Mem.clears_n]; exact h.ok, hIn, m.clears_ok h.mo c, m.clears_good h.mo h.hg c, rfl, rfl, rfl, s.dep_on hq _ (by omega), w4 n0 (by omega), ?_, fun _ => rfl, ?_, ?_, fun _ _ _ _ => rfl, fun l h1 h2 => by omega, fun _ _ _ _ _ => rfl⟩
      · intro l h1 h2
        by_cases e : l = 3
        · subst e; rw [nd3]; exact hv
        · have := Sp.dep_off h.ok (q := qn) l (by omega) (by omega)
          obtain ⟨l', rfl⟩ : ∃ l', l = l' + 1 := ⟨l - 1, by omega⟩
          rwa [s.onS] at this
      · intro i _ hi p hp
        rw [hcl _ p (hcn _ (getD_mem hi)) hp, if_pos (getD_mem hi)]
      · intro l d hl
        exact ⟨.inl, fun x => x.elim id (fun y => by omega)⟩
    obtain ⟨t, ht⟩ := LK.all hq (by rw [Mem.clears_n]; exact h.hn) (by rw [Mem.clears_n]; exact hcn) ha.nd hfr h0 k (by omega) (by rw [ha.len]; exact Nat.le_refl _)
    have hLt : LK s (m.clears c) c qn n0 k L.1 L.2 t := by rw [hL]; exact ht
    clear ht h0
    have hk2 : n0 + k = 2 := by omega
    have ho2 : t.on 2 (nd qn 2) = true := by have := hLt.on; rwa [hk2] at this
    have hy2 : L.2 = t.fr 2 (nd qn 2) := by have := hLt.y; rwa [hk2] at this
    have hn' := hLt.n
    rw [Mem.clears_n] at hn'
    have hp : nd qn 3 % 16 < 16 := Nat.mod_lt _ (by decide)
    have hst := nd_step qn 2 (by omega)
    have hidx := idx_nat qn 2 hq (by omega)
    have h33 : nd qn (2 + 1) = qn := nd3 qn
    rw [h33] at hst hidx
    rw [nd3] at hp
    have heok : En.ok ⟨true, wb, false, f⟩ = true := by
      unfold En.ok rightB
      have := h.hn
      simp; omega
    have hs : L.1.slot L.2 (idxI qn 2) = true := by
      have := hLt.ok.frb ho2
      rw [show idxI (qn : Nat) 2 = ((qn % 16 : Nat) : Int) from hidx, hy2, Mem.slot_iff]
      omega
    have hpB : L.1.putB L.2 (idxI qn 2) ⟨true, wb, false, f⟩ = true := by unfold Mem.putB; rw [hs, heok]; rfl
    have hok3 := hLt.ok.page ho2 hp ⟨true, wb, false, f⟩ rfl rfl hf.1 (by rw [hn']; exact hf.2)
    have hin3 := hLt.i.set hLt.ok hLt.mo (l := 2) (by omega) ho2 hp ⟨true, wb, false, f⟩ heok (fun h2 => by omega)
    rw [hst] at hok3 hin3
    rw [← hy2, ← hidx] at hin3
    have hdk : 3 - s.dep qn = k := by omega
    refine ⟨by unfold errB; rw [hpB]; rfl, qn, rfl, hq, hf, hv, by omega, by rw [hdk], by rw [Mem.put_n]; exact hn', by rw [Mem.put_B, hLt.B, Mem.clears_B], ?_, ?_⟩
    · intro x hY p hp'
      have hx1 := h.ylt hY
      have hnc : x.1 ∉ c := fun hxc => h.free (ha.fr _ hxc).2 ((h.gv _).2 (.inr (by have := h.y0 x hY; rw [show ((x.1, 0) : Nat × Nat) = x from by rw [← this]]; exact hY)))
      have hne : ∀ l d, l ≤ 2 → t.on l d = true → t.fr l d ≠ (x.1 : Nat) := by
        intro l d hl hon
        rcases (hLt.tab l d hl).1 hon with hso | ⟨g1, g2, rfl⟩
        · rw [hLt.old l d hl hso]; exact h.y_fr hY hl hso
        · rw [hLt.new l g1 g2]
          intro e
          have : c.getD (l - n0 - 1) 0 = x.1 := by omega
          exact hnc (this ▸ getD_mem (by rw [ha.len]; omega))
      rw [L.1.word_put hLt.mo _ _ _ _ _ hs (by rw [Mem.slot_iff, hn']; omega) heok, if_neg (fun e => hne 2 _ (by omega) ho2 (hy2 ▸ e.1.symm)), hLt.words x.1 p (by rw [Mem.clears_n]; exact hx1) hp' hne, hcl _ p hx1 hp', if_neg hnc]
    · have hE3 : ∀ q', (t.set 3 qn ⟨true, wb, false, f⟩).E 3 q' = if q' = qn then ⟨true, wb, false, f⟩ else s.E 3 q' := by
        intro q'
        by_cases e : q' = qn
        · rw [if_pos e, e, Sp.set_same]
        · rw [if_neg e, t.set_ne _ (by omega), hLt.e3]
      have hon : ∀ l d, l ≤ 2 → (t.set 3 qn ⟨true, wb, false, f⟩).on l d = t.on l d := fun l d hl => t.set_on _ (by omega)
      have hfr' : ∀ l d, l ≤ 2 → (t.set 3 qn ⟨true, wb, false, f⟩).fr l d = t.fr l d := fun l d hl => t.set_fr _ (by omega)
      refine ⟨t.set 3 qn ⟨true, wb, false, f⟩, ⟨by rw [Mem.put_n]; exact hok3, hin3, ?_, Mem.put_ok _ hLt.mo _ _ _, Mem.put_good _ hLt.mo hLt.hg _ _ _, ?_, ?_, h.y0, ?_, ?_⟩, hLt.rt, hE3⟩
      · intro l d h1 h2 ho'
        rw [hon l d h2] at ho'
        by_cases e : d = nd qn l
        · refine ⟨nd qn (l + 1) % 16, Nat.mod_lt _ (by decide), ?_⟩
          rw [e, nd_step qn l (by omega)]
          by_cases e2 : l = 2
          · subst e2; rw [h33, Sp.set_same]
          · obtain rfl : l = 1 := by omega
            rw [← Sp.onS, hon _ _ (by omega)]
            exact ho2
        · have hso : s.on l d = true := by
            rcases (hLt.tab l d h2).1 ho' with hso | ⟨_, _, e'⟩
            · exact hso
            · exact absurd e' e
          obtain ⟨p, hp', hpv⟩ := h.nee l d h1 h2 hso
          refine ⟨p, hp', ?_⟩
          by_cases e2 : l = 2
          · subst e2
            rw [hE3]
            split
            · rfl
            · exact hpv
          · obtain rfl : l = 1 := by omega
            rw [← Sp.onS] at hpv ⊢
            rw [hon _ _ (by omega)]
            exact (hLt.tab _ _ (by omega)).2 (.inl hpv)
      · exact (al_ok h.bk k hl).ok
      · rw [Mem.put_n, hn', h.bn]; exact ((al_ok h.bk k hl).n).symm
      · intro x
        rw [(al_ok h.bk k hl).gave, List.mem_append, h.gv, ← hc]
        constructor
        · rintro ((⟨l, d, hl', hso, rfl⟩ | hy) | hxc)
          · exact .inl ⟨l, d, hl', by rw [hon l d hl']; exact (hLt.tab l d hl').2 (.inl hso), by rw [hfr' l d hl', hLt.old l d hl' hso]⟩
          · exact .inr hy
          · obtain ⟨g, hg, rfl⟩ := List.mem_map.1 hxc
            obtain ⟨i, hi, rfl⟩ := List.getElem_of_mem hg
            rw [ha.len] at hi
            refine .inl ⟨n0 + i + 1, nd qn (n0 + i + 1), by omega, by rw [hon _ _ (by omega)]; exact (hLt.tab _ _ (by omega)).2 (.inr ⟨by omega, by omega, rfl⟩), ?_⟩
            rw [hfr' _ _ (by omega), hLt.new _ (by omega) (by omega), show n0 + i + 1 - n0 - 1 = i from by omega, List.getD_eq_getElem?_getD, List.getElem?_eq_getElem (by rw [ha.len]; exact hi)]
            simp
        · rintro (⟨l, d, hl', ho', rfl⟩ | hy)
          · rw [hon l d hl'] at ho'
            rw [hfr' l d hl']
            rcases (hLt.tab l d hl').1 ho' with hso | ⟨g1, g2, rfl⟩
            · exact .inl (.inl ⟨l, d, hl', hso, by rw [hLt.old l d hl' hso]⟩)
            · refine .inr (List.mem_map.2 ⟨c.getD (l - n0 - 1) 0, getD_mem (by rw [ha.len]; omega), ?_⟩)
              rw [hLt.new l g1 g2, Int.toNat_natCast]
          · exact .inl (.inr hy)
      · intro l d hl' ho' hy
        rw [hon l d hl'] at ho'
        rw [hfr' l d hl'] at hy
        rcases (hLt.tab l d hl').1 ho' with hso | ⟨g1, g2, rfl⟩
        · rw [hLt.old l d hl' hso] at hy; exact h.ap l d hl' hso hy
        · rw [hLt.new l g1 g2, Int.toNat_natCast] at hy
          exact h.free (ha.fr _ (getD_mem (by rw [ha.len]; omega))).2 ((h.gv _).2 (.inr hy))
end Go.Proofs.YtpfpcmadhbejiaaDoor

/-
  A region in the body of a loop over an iterator, walked as one outside: regions with no defer, in a fence that is wide.
-/
namespace Go.Proofs.YtpfpcmadhbejiaaDoor

/-- no operation of the region is a defer -/
def noDefer (ops : Array Oper) : Bool := ops.all fun o => match o.op with | .defer _ => false | _ => true
theorem noDefer_at {ops : Array Oper} (h : noDefer ops = true) {i : Nat} {o : Oper} (ho : ops[i]? = some o) : ∀ c, o.op ≠ .defer c := by
  intro c hc
  unfold noDefer at h
  rw [Array.all_eq_true] at h
  obtain ⟨hi, rfl⟩ := Array.getElem?_eq_some_iff.1 ho
  have := h i hi
  rw [hc] at this
  cases this

theorem rowsIn_round {l n : Nat} {P : Program} {row : String} {args : Array Value} {w : World} {R : Value → World → Prop} (h : Rows P row args w R) : RowsIn (Fence.wide.inRound l) n P row args w R :=
  fun c cs _ => let ⟨v, w', r, s⟩ := h c cs; ⟨v, w', r, stepsIn_wide.2 s⟩

theorem op_round {l n : Nat} {P : Program} {Q : Exit → Act → World → Prop} {o : Oper} {a : Act} {w : World} {K : Act → World → Prop} (hd : ∀ c, o.op ≠ .defer c) (h : o.wp P a w K Q) : o.wpIn (Fence.wide.inRound l) n P a w K Q := by
  refine ⟨fun _ _ => trivial, ?_⟩
  rw [Oper.semAt_eq _ _ _ hd]
  unfold Oper.wp at h
  generalize (execOp a.eval o).run P w = r at h ⊢
  cases r with
  | ok x w' =>
    cases x <;> simp only [Oper.upon, Oper.uponIn] at h ⊢
    all_goals first
      | exact h
      | exact ⟨fun x => (by cases x), callsIn_wide.2 h⟩
      | exact ⟨fun x => (by cases x), rowsIn_round h⟩
  | halt x w' => cases x <;> simp only [Oper.upon, Oper.uponIn] at h ⊢ <;> exact h

theorem ops_round {l n : Nat} {P : Program} {ops : Array Oper} {Q : Exit → Act → World → Prop} (hd : noDefer ops = true) (hQ : ¬ LetsOut Q) : ∀ (is : List Nat) (a : Act) (w : World), wpOps P ops Q is a w → wpOpsIn (Fence.wide.inRound l) n P ops Q is a w
  | [], _, _, h => h
  | i :: is, a, w, h => by
    unfold wpOps at h
    unfold wpOpsIn
    cases ho : ops[i]? with
    | none => simp only [ho] at h ⊢; exact ops_round hd hQ is a w h
    | some o =>
      simp only [ho] at h ⊢
      split at h
      · rename_i hw
        rw [if_pos hw]
        rcases h with h | ⟨_, h⟩
        · exact Oper.wpIn_mono (fun a w => ops_round hd hQ is a w) (op_round (noDefer_at hd ho) h)
        · exact absurd h hQ
      · rename_i hw
        rw [if_neg hw]
        exact ⟨fun _ _ => trivial, ops_round hd hQ is _ w h⟩

/-- a region that draws in a round: all but a tail only reads -/
theorem round_tail {l n : Nat} {P : Program} {id : Nat} {Q : Exit → Act → World → Prop} {a : Act} {w : World} {ls : List Oper} (k : Nat) (hm : P.follows .mixedOrders = true) (hB : Region.lexTailB .any ls.toArray k = true) (hd : noDefer ls.toArray = true) (hQ : ¬ LetsOut Q)
    (h : ∀ w2, w2 = w.drew → wpStill P ls.toArray w2 (fun a' => wpList P ls.toArray Q (ls.drop k) a' w2) (ls.take k) a) : (Code.region id ls.toArray true).wpIn (Fence.wide.inRound l) n P Q a w := by
  refine wpIn_region_draw fun t => ops_round hd hQ _ _ _ ?_
  simp only [Region.schedule, hm, Bool.true_or, if_true]
  refine wpAny_sound _ t _ a _ ?_
  have h := h _ rfl
  simp only [Region.lexTailB, Bool.and_eq_true, decide_eq_true_eq] at hB
  obtain ⟨⟨⟨⟨hsel, hn⟩, hs⟩, hc⟩, hlex⟩ := hB
  have hk : k < ls.length := by simpa using hn
  have e1 : (ls.take k).length = k := by simp; omega
  have e2 : (ls.drop k).length = ls.toArray.size - k := by simp
  have inv : HeadInv .any ls.toArray k (Array.replicate ls.toArray.size false) := ⟨by simp, fun j oj _ hl => (by rw [getD_replicate_false] at hl; cases hl), fun t _ ht => getD_in (by simpa using ht) (getD_replicate_false _ _)⟩
  have H := wpAnyL_lex (md := .any) (g := ls.toArray.size - k) hsel hs hc hn (ls.take k) 0 _ a (fun j hj => by
      rw [e1] at hj; simp [hj]) (by simpa using e1) inv (by rw [e1]; exact hlex) h
  have H2 := wpAny_of_head (Q' := Q) (g := ls.toArray.size - k) (fun listed a' hL => by
    have := wpAny_of_seq (md := .any) (Q' := Q) (ls.drop k) k listed a' w.drew (fun j => by simp [List.getElem?_drop]) (by rw [e2]; exact hL.1) hL.2
    rwa [e2] at this) _ _ _ H
  rw [e1, show k + (ls.toArray.size - k) = ls.toArray.size by omega] at H2
  exact H2
/-- a region in one order, in a round -/
theorem round_plain {l n : Nat} {P : Program} {id : Nat} {Q : Exit → Act → World → Prop} {a : Act} {w : World} {ls : List Oper} (hd : noDefer ls.toArray = true) (hQ : ¬ LetsOut Q) (h : wpList P ls.toArray Q ls a w) : (Code.region id ls.toArray false).wpIn (Fence.wide.inRound l) n P Q a w :=
  wpIn_region (ops_round hd hQ _ _ _ (by rw [List.range_eq_range', ← Array.length_toList, wpOps_eq_wpList ls.toArray.toList 0 (by simp)]; simpa using h))
/-! guarded operations whose guard is decided -/
theorem wpStill_off {P : Program} {ops : Array Oper} {w : World} {Q : Act → Prop} {a : Act} {o : Oper} {rest : List Oper} (hw : Region.wanted o (yielded ops a.tmps) = false) (h : wpStill P ops w Q rest (a.put o.dst undef)) : wpStill P ops w Q (o :: rest) a :=
  wpStill_step fun K hK => by rw [hw]; exact hK _ h
theorem wpStill_on {P : Program} {ops : Array Oper} {w : World} {Q : Act → Prop} {a : Act} {o : Oper} {rest : List Oper} (hw : Region.wanted o (yielded ops a.tmps) = true) (h : wpStill P ops w Q ({ o with guard := none } :: rest) a) : wpStill P ops w Q (o :: rest) a := by
  unfold wpStill at h ⊢
  rw [if_pos hw]
  exact h
theorem wpList_off {P : Program} {ops : Array Oper} {w : World} {Q : Exit → Act → World → Prop} {a : Act} {o : Oper} {rest : List Oper} (hw : Region.wanted o (yielded ops a.tmps) = false) (h : wpList P ops Q rest (a.put o.dst undef) w) : wpList P ops Q (o :: rest) a w := by
  unfold wpList
  rw [if_neg (by rw [hw]; decide)]
  exact h
theorem wpList_on {P : Program} {ops : Array Oper} {w : World} {Q : Exit → Act → World → Prop} {a : Act} {o : Oper} {rest : List Oper} (hw : Region.wanted o (yielded ops a.tmps) = true) (h : wpList P ops Q ({ o with guard := none } :: rest) a w) : wpList P ops Q (o :: rest) a w := by
  unfold wpList at h ⊢
  rw [if_pos hw]
  exact h
theorem fold2 (T : Array Value) (p q : Nat) (a b : Value) : ((#[p, q] : Array Tmp).zip #[a, b]).foldl (fun t (p, v) => t.setIfInBounds p v) T = (T.setIfInBounds p a).setIfInBounds q b := by
  simp
end Go.Proofs.YtpfpcmadhbejiaaDoor
