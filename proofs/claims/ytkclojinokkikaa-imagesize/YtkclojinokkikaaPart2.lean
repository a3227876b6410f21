/-
  Texts that the laws stand on, joined: ImR, ImB, ImH, ImQ, ImW, ImE, ImO, ImD, ImX, ImU, ImV.
-/
import Derived.Laws.ResultCell
import Derived.Laws.Strings
import Derived.WalkSmall
import Derived.Test.YtkclojinokkikaaPart1

/-
  The document's Right.
-/
namespace Go.Proofs.Ytkclojinokkikaa
open Go.ChangeShapes Go.WideShapes Go.ChangeAt Go.RowKit

theorem rpart_len (z : Int) (x : Bool) (v : Value) : [Value.int .i64 z, .bool x, v].length = 3 := rfl
theorem size_rpart : (Try.prog.info? 46).map (·.size) = some 3 := by kernel_rfl
theorem part_range {w : World} {b o : Nat} {x y z : Value} (h0 : w.cell? ⟨b, o, none⟩ = some x) (h1 : w.cell? ⟨b, o + 1, none⟩ = some y) (h2 : w.cell? ⟨b, o + 2, none⟩ = some z) : w.rangeAt b o [x, y, z] := by
  intro j v hj
  match j with
  | 0 => simp at hj; rw [← hj]; exact h0
  | 1 => simp at hj; rw [← hj]; exact h1
  | 2 => simp at hj; rw [← hj]; exact h2
  | _ + 3 => simp at hj
/-- a new box in which a part lies -/
theorem part_box (w : World) (x y z : Value) (t : TypeId) : ∀ W, W = (w.alloc (.cells #[.int .i64 0, .bool false, .slice none 0 0] t)).setCells w.heap.size 0 [x, y, z] →
    W.cell? ⟨w.heap.size, 0, none⟩ = some x ∧ W.cell? ⟨w.heap.size, 1, none⟩ = some y ∧ W.cell? ⟨w.heap.size, 2, none⟩ = some z ∧ Upd (fun _ => False) w W := by
  rintro W rfl
  have h0 := heap_alloc_last w (.cells [Value.int .i64 0, .bool false, .slice none 0 0].toArray t)
  have h1 : ((w.alloc (.cells #[.int .i64 0, .bool false, .slice none 0 0] t)).setCells w.heap.size 0 [x, y, z]).heap[w.heap.size]? = some (.cells [x, y, z].toArray t (0, 0)) := by
    rw [World.setCells, World.setCells, World.setCells, World.setCells]
    exact heap_setCell_same (heap_setCell_same (heap_setCell_same h0 0 x) 1 y) 2 z
  have c : ∀ i u, [x, y, z][i]? = some u → ((w.alloc (.cells #[.int .i64 0, .bool false, .slice none 0 0] t)).setCells w.heap.size 0 [x, y, z]).cell? ⟨w.heap.size, i, none⟩ = some u := fun i u hu => by
    rw [cell_of_row _ _ _ _ _ _ h1, List.getElem?_toArray]; exact hu
  exact ⟨c 0 x rfl, c 1 y rfl, c 2 z rfl, Upd.setCells (.inr (Nat.le_refl _)) _ _ ((Upd.refl _ _).alloc _)⟩
theorem part_there (w : World) (t : TypeId) : (w.alloc (.cells #[.int .i64 0, .bool false, .slice none 0 0] t)).there w.heap.size 0 3 := fun j hj => by
  have h0 := heap_alloc_last w (.cells [Value.int .i64 0, .bool false, .slice none 0 0].toArray t)
  refine ⟨?_, frozen_block h0 _⟩
  rw [show w.alloc (.cells #[.int .i64 0, .bool false, .slice none 0 0] t) = w.alloc (.cells [Value.int .i64 0, .bool false, .slice none 0 0].toArray t) from rfl, cell_of_row _ _ _ _ _ _ h0, List.getElem?_toArray]
  match j, hj with
  | 0, _ => rfl
  | 1, _ => rfl
  | 2, _ => rfl
theorem right_end {L : List Pt} (h : goods L L.length = true) : rightB L = (decide (1 ≤ L.length) && decide (L.length ≤ 16)) := by
  unfold rightB
  rw [h, Bool.true_and]
set_option maxRecDepth 100000 in
set_option maxHeartbeats 8000000 in
theorem rright_any (ao : Option Addr) (cap : Nat) (L : List Pt) (w : World) (hL : PartsIn w ao L) (hn : L.length ≤ 9223372036854775807) :
    Calls Try.prog 16 #[.slice ao L.length cap] w fun e w' => e = .returned (.bool (rightB L)) ∧ Upd (fun _ => False) w w' := by
  have HL := Lib.hid hL
  have h0 := Lib.hid (show goods L 0 = true from rfl)
  have hd := Lib.hid (fun (h : goods L L.length = true) => right_end h)
  have hno := Lib.hid (fun (k : Nat) (h1 : k < L.length) (h2 : goodAt L k = false) => right_no h1 h2)
  have hst := Lib.hid (goods_succ L)
  have hga := Lib.hid (fun k => show goodAt L k = _ from by unfold goodAt; rfl)
  generalize rightB L = ans at hd hno ⊢
  generalize hn' : L.length = n at hn hd hno ⊢
  replace hn' := Lib.hid hn'
  clear hL
  go_enter Try.func16, Try.ntmps16
  go_wp2_with fail
  go_loopw [3] (fun t wr => ∃ k : Nat, k ≤ n ∧ t = .int .i64 k ∧ Hid (goods L k = true) ∧ Hid (Upd (fun _ => False) w wr)) (fun t _ => n - (intOf t).toNat)
  case atStart => exact ⟨0, by omega, rfl, h0, Lib.hid (Upd.refl _ _)⟩
  case round =>
    obtain ⟨k, hk, rfl, hg, hU⟩ := hrel
    by_cases hlt : k < n
    · obtain ⟨b, off, rfl, hb, a1, c1, d0, d1, d2, d3⟩ := (HL.out.kept hU.out).at (by rw [hn'.out]; exact hlt)
      have k0 : (0 : Int) ≤ (k : Int) := by omega
      have k1 : (k : Int) < (n : Int) := by omega
      have hs := Lib.hid (hst.out k)
      have hno' := Lib.hid (hno.out k hlt)
      have hgk := Lib.hid (hga.out k)
      have hprev := Lib.hid (show 0 < k → ∀ W, Upd (fun _ => False) wr W → W.cell? ⟨b, off + (k - 1) * 3, none⟩ = some (.int .i64 (L.getD (k - 1) Pt.zero).page) from fun hk0 W u => by
        obtain ⟨b', off', e, -, p0⟩ := (HL.out.kept (hU.out.trans u)).at (k := k - 1) (by rw [hn'.out]; omega)
        simp only [Option.some.injEq, Addr.mk.injEq, and_true] at e
        obtain ⟨rfl, rfl⟩ := e
        obtain ⟨_, _, p1, _⟩ := p0
        exact p1)
      have R1 := Lib.hid (part_range d0 d1 d2)
      clear d0 d1 d2 d3 hb
      generalize (L.getD k Pt.zero).page = pg at hgk R1
      generalize (L.getD k Pt.zero).wr = pw at R1
      generalize (L.getD k Pt.zero).ws.length = m at hgk R1
      generalize (L.getD (k - 1) Pt.zero).page = qg at hgk hprev
      have hT := Lib.hid (part_there wr 46)
      go_upto_region 5 with (first
        | (with_reducible refine wpList_load_sz rfl 46 (.tmp 13) rfl b (off + k * 3) rfl [.int .i64 pg, .bool pw, .slice a1 m c1] _ R1.out Try.underlying46 rfl 3 (rpart_len _ _ _) size_rpart ?_)
        | (with_reducible refine wpList_store_sz rfl 46 (.tmp 4) (.tmp 14) rfl wr.heap.size 0 #[.int .i64 pg, .bool pw, .slice a1 m c1] rfl rfl 3 rfl hT.out size_rpart rfl [.int .i64 pg, .bool pw, .slice a1 m c1] rfl ?_))
      have U5 : Upd (fun _ => False) wr (wr.alloc (.cells #[.int .i64 pg, .bool pw, .slice a1 m c1] 46)) := (Upd.refl _ _).alloc _
      have b0 := rows_src wr [.int .i64 pg, .bool pw, .slice a1 m c1] 46 0 _ rfl
      have b1 := rows_src wr [.int .i64 pg, .bool pw, .slice a1 m c1] 46 1 _ rfl
      have b2 := rows_src wr [.int .i64 pg, .bool pw, .slice a1 m c1] 46 2 _ rfl
      rw [add_mid0] at b0 b1 b2
      rw [show wr.alloc (.cells [Value.int .i64 pg, .bool pw, .slice a1 m c1].toArray 46) = wr.alloc (.cells #[.int .i64 pg, .bool pw, .slice a1 m c1] 46) from rfl] at b0 b1 b2
      have U6 := Lib.hid (hU.out.trans U5)
      have hp5 := Lib.hid (fun hk0 => hprev.out hk0 _ U5)
      clear hprev R1 hT U5 hU
      generalize wr.alloc (.cells #[.int .i64 pg, .bool pw, .slice a1 m c1] 46) = W5 at b0 b1 b2 U6 hp5 ⊢
      generalize wr.heap.size = M at b0 b1 b2 ⊢
      by_cases g1 : pg < 0
      · have e := hno'.out (by rw [hgk.out, decide_eq_false (by omega : ¬ 0 ≤ pg)]; rfl)
        subst e
        go_quiet (fail)
        go_wp2
        go_ret
        exact ⟨rfl, U6.out.drewN _⟩
      by_cases g2 : 4095 < pg
      · have e := hno'.out (by rw [hgk.out, decide_eq_false (by omega : ¬ pg ≤ 4095), Bool.and_false]; rfl)
        subst e
        have g1' : decide (pg < 0) = false := decide_eq_false g1
        go_quiet (fail)
        go_wp2
        go_ret
        exact ⟨rfl, U6.out.drewN _⟩
      have g1' : decide (pg < 0) = false := decide_eq_false g1
      have g2' : decide (4095 < pg) = false := decide_eq_false g2
      by_cases g3 : (m : Int) < 1
      · have e := hno'.out (by rw [hgk.out, decide_eq_false (by omega : ¬ 1 ≤ m), Bool.and_false]; rfl)
        subst e
        go_quiet (fail)
        go_wp2
        go_ret
        exact ⟨rfl, U6.out.drewN _⟩
      have g3' : decide ((m : Int) < 1) = false := decide_eq_false g3
      by_cases g4 : 16 < (m : Int)
      · have e := hno'.out (by rw [hgk.out, decide_eq_false (by omega : ¬ m ≤ 16), Bool.and_false]; rfl)
        subst e
        go_quiet (fail)
        go_wp2
        go_ret
        exact ⟨rfl, U6.out.drewN _⟩
      have g4' : decide (16 < (m : Int)) = false := decide_eq_false g4
      rw [decide_eq_true (by omega : 0 ≤ pg), decide_eq_true (by omega : pg ≤ 4095), decide_eq_true (by omega : 1 ≤ m), decide_eq_true (by omega : m ≤ 16)] at hgk
      by_cases g5 : 0 < k
      · have c5 := hp5.out (by omega)
        have g6 : 0 ≤ (k : Int) - 1 := by omega
        have g7 : (k : Int) - 1 < (n : Int) := by omega
        have g8 : ((k : Int) - 1).toNat = k - 1 := by omega
        by_cases g9 : pg ≤ qg
        · have e := hno'.out (by rw [hgk.out, decide_eq_false (by omega : ¬ k = 0), decide_eq_false (by omega : ¬ qg < pg)]; rfl)
          subst e
          go_quiet (fail)
          go_wp2
          go_ret
          exact ⟨rfl, U6.out.drewN _⟩
        · have hs' : Hid (goods L (k + 1) = true) := Lib.hid (by rw [hs.out, hg.out, hgk.out, decide_eq_true (by omega : qg < pg), Bool.or_true]; rfl)
          have g9' : decide (pg ≤ qg) = false := decide_eq_false g9
          go_quiet (fail)
          go_wp2
          exact ⟨⟨k + 1, by omega, by go_num, hs', Lib.hid (U6.out.drewN _)⟩, by simp [intOf]; omega⟩
      · have hs' : Hid (goods L (k + 1) = true) := Lib.hid (by rw [hs.out, hg.out, hgk.out, decide_eq_true (by omega : k = 0)]; rfl)
        have g5' : decide (0 < k) = false := decide_eq_false g5
        go_quiet (fail)
        go_wp2
        exact ⟨⟨k + 1, by omega, by go_num, hs', Lib.hid (U6.out.drewN _)⟩, by simp [intOf]; omega⟩
    · obtain rfl : k = n := by omega
      have e := hd.out hg.out
      have k1 : ¬ (k : Int) < (k : Int) := by omega
      by_cases g1 : 1 ≤ (k : Int)
      · have e1 : decide (1 ≤ k) = true := decide_eq_true (by omega)
        have e2 : decide (k ≤ 16) = decide ((k : Int) ≤ 16) := decide_eq_decide.2 (by omega)
        rw [e1, e2, Bool.true_and] at e
        subst e
        go_wp2
        go_ret
        exact ⟨rfl, hU.out⟩
      · have e1 : decide (1 ≤ k) = false := decide_eq_false (by omega)
        rw [e1, Bool.false_and] at e
        have g1' : decide (1 ≤ (k : Int)) = false := decide_eq_false g1
        subst e
        go_wp2
        go_ret
        exact ⟨rfl, hU.out⟩
end Go.Proofs.Ytkclojinokkikaa

/-
  The document's Bytes.
-/
namespace Go.Proofs.Ytkclojinokkikaa
open Go.ChangeShapes Go.WideShapes Go.ChangeAt Go.RowKit

/-- the bytes of the first i parts -/
def preB (L : List Pt) (i : Nat) : List Int := ((L.length : Int) % 256) :: (L.take i).flatMap pbytes
theorem preB_succ (L : List Pt) {i : Nat} (h : i < L.length) : preB L (i + 1) = preB L i ++ (phead (L.getD i Pt.zero) ++ (L.getD i Pt.zero).ws.flatMap wbytes) := by
  unfold preB
  rw [take_getD L h, List.flatMap_append, List.cons_append]
  simp [pbytes]
theorem preB_all (L : List Pt) : preB L L.length = ibytes L := by unfold preB ibytes; rw [List.take_length]
theorem preB_len {L : List Pt} (h : ∀ p, p ∈ L → p.ws.length ≤ 16) : ∀ i, i ≤ L.length → (preB L i).length ≤ 1 + 132 * i
  | 0, _ => by simp [preB]
  | i + 1, hi => by
    have ih := preB_len h i (by omega)
    rw [preB_succ L hi, List.length_append, List.length_append, wsb_len]
    have hm : L.getD i Pt.zero ∈ L := by
      rw [List.getD_eq_getElem?_getD, List.getElem?_eq_getElem hi]
      exact List.getElem_mem hi
    have := h _ hm
    have e : (phead (L.getD i Pt.zero)).length = 4 := rfl
    omega
theorem wsb_succ (ws : List Int) {k : Nat} (h : k < ws.length) : (ws.take (k + 1)).flatMap wbytes = (ws.take k).flatMap wbytes ++ wbytes (ws.getD k 0) := by
  rw [List.take_succ_eq_append_getElem h, List.flatMap_append, List.getD_eq_getElem?_getD, List.getElem?_eq_getElem h]
  simp
theorem wsb_take_len (ws : List Int) (k : Nat) (h : k ≤ ws.length) : ((ws.take k).flatMap wbytes).length = 8 * k := by
  rw [wsb_len, List.length_take, Nat.min_eq_left h]
theorem info_u8 : (Try.prog.info? 5).map (fun i => (i.zero, i.size, i.bytes)) = some (some (.int .u8 0), 1, 1) := by kernel_rfl
theorem part_cells {w : World} {M : Nat} {x y z : Value} {t : TypeId} (h : w.heap[M]? = some (.cells [x, y, z].toArray t (0, 0))) : w.cell? ⟨M, 0, none⟩ = some x ∧ w.cell? ⟨M, 1, none⟩ = some y ∧ w.cell? ⟨M, 2, none⟩ = some z :=
  ⟨by rw [cell_of_row _ _ _ _ _ _ h]; rfl, by rw [cell_of_row _ _ _ _ _ _ h]; rfl, by rw [cell_of_row _ _ _ _ _ _ h]; rfl⟩
theorem RowIn.at' {k : IntKind} {w : World} {o : Option Addr} {n cap : Nat} {W : List Int} (h : RowIn k w (.slice o n cap) W) (hn : W.length = n) (j : Nat) (hj : j < n) : ∃ b off, o = some ⟨b, off, none⟩ ∧ b < w.heap.size ∧ ∀ i, i < n → w.cell? ⟨b, off + i, none⟩ = some (.int k (W.getD i 0)) := by
  subst hn
  exact h.at j hj
theorem grown_box {wr w4 : World} {o ob : Obj} {v : Value} {M : Nat} (hgr : (wr.alloc o).grownBy w4 v.ownBlock) (hX : wr.heap[M]? = some ob) (hne : ∀ j, v.ownBlock = some j → ¬ j = M) : w4.heap[M]? = some ob := by
  have hlt := lt_of_heap hX
  rw [hgr.block M (by simp; omega) (fun e => hne M e.symm rfl), Below.heap_alloc _ _ _ hlt]
  exact hX
theorem img_ne {w : World} {base sz k : Nat} {e t : TypeId} {v : Value} {xs : List Value} {X : Nat} {c : Array Value} (h : w.ownsRow base e sz v k xs) (hX : w.heap[X]? = some (.cells c t (0, 0))) (ht : t ≠ e) : ∀ j, v.ownBlock = some j → ¬ j = X := by
  intro j hj e'
  rcases h.2 with ⟨rfl, _⟩ | ⟨g, cap, cur, rfl, _, hgg, _⟩
  · simp [Value.ownBlock] at hj
  · simp [Value.ownBlock] at hj
    subst hj e'
    rw [hX] at hgg
    simp only [Option.some.injEq, Obj.cells.injEq] at hgg
    exact ht hgg.2.1
set_option maxRecDepth 100000 in
set_option maxHeartbeats 8000000 in
theorem rbytes_yes (ao : Option Addr) (cap : Nat) (L : List Pt) (w : World) (hL : PartsIn w ao L) (hR : rightB L = true) (hi : PIn L) :
    Calls Try.prog 10 #[.slice ao L.length cap] w fun e w' => ∃ v, e = .returned (.tuple #[v, .int .i64 0]) ∧ w'.ownsRow w.heap.size 5 1 v (ibytes L).length (ints .u8 (ibytes L)) ∧ Upd (fun _ => False) w w' := by
  obtain ⟨i0, hi0, hz0, hz1, hz2⟩ := info_parts info_u8
  have hlen := right_len hR
  have cR := Lib.hid (fun W (h : PartsIn W ao L) => rright_any ao cap L W h (by omega))
  have HL := Lib.hid hL
  have Hok := Lib.hid (right_ok hR)
  have HI := Lib.hid hi
  rw [hR] at cR
  generalize hn' : L.length = n at hlen cR ⊢
  replace hn' := Lib.hid hn'
  obtain ⟨hlo, hhi⟩ := hlen
  have hn0 : (0 : Int) ≤ (n : Int) := by omega
  have hn2 : (n : Int) ≤ 16 := by omega
  clear hL hR hi
  go_enter Try.func10, Try.ntmps10
  go_wp2_with fail
  refine (cR.out _ HL.out).mono ?_
  rintro e w1 ⟨rfl, u1⟩
  have hr0 : Hid ((w1.alloc (.cells #[.int .u8 (n : Int)] 5)).ownsRow w.heap.size 5 1 (.slice (some ⟨w1.heap.size, 0, none⟩) 1 1) 1 (ints .u8 (preB L 0))) := Lib.hid (by
    have e : preB L 0 = [(n : Int)] := by unfold preB; rw [hn'.out]; simp; omega
    rw [e]
    exact ⟨rfl, .inr ⟨w1.heap.size, 1, #[.int .u8 (n : Int)], rfl, u1.size, heap_alloc_last _ _, Nat.le_refl _, by simp [maxLen], rfl, rfl⟩⟩)
  have hU0 := Lib.hid (u1.alloc (.cells #[.int .u8 (n : Int)] 5))
  clear u1 cR
  go_upto_region 4 with fail
  generalize (w1.alloc (.cells #[.int .u8 (n : Int)] 5)) = w2 at hr0 hU0 ⊢
  generalize w1.heap.size = M1 at hr0 ⊢
  go_upto_region 5 with fail
  go_loopw [5, 4] (fun t u wr => ∃ i : Nat, i ≤ n ∧ t = .int .i64 i ∧ Hid (wr.ownsRow w.heap.size 5 1 u (preB L i).length (ints .u8 (preB L i))) ∧ Hid (Upd (fun _ => False) w wr)) (fun t _ _ => n - (intOf t).toNat)
  case atStart => exact ⟨0, by omega, rfl, hr0, hU0⟩
  case round =>
    obtain ⟨i, hin, rfl, hrow, hU⟩ := hrel
    by_cases hlt : i < n
    · have k0 : (0 : Int) ≤ (i : Int) := by omega
      have k1 : (i : Int) < (n : Int) := by omega
      obtain ⟨b, off, rfl, hb, a1, c1, d0, d1, d2, d3⟩ := HL.out.at (by rw [hn'.out]; exact hlt)
      have R1 := Lib.hid (hU.out.rangeAt (part_range d0 d1 d2) id)
      have D3 := Lib.hid d3
      have hpm : L.getD i Pt.zero ∈ L := by
        rw [List.getD_eq_getElem?_getD, List.getElem?_eq_getElem (by rw [hn'.out]; exact hlt)]
        exact List.getElem_mem _
      obtain ⟨p0, p1, p2, p3⟩ := Hok.out _ hpm
      have HIp := Lib.hid (HI.out _ hpm)
      have hs := Lib.hid (preB_succ L (i := i) (by rw [hn'.out]; exact hlt))
      have hle := Lib.hid (preB_len (fun p hp => (Hok.out p hp).l1) i (by rw [hn'.out]; exact hin))
      have hT := Lib.hid (part_there wr 46)
      clear d0 d1 d2 d3 hb hpm
      generalize L.getD i Pt.zero = p at R1 D3 p0 p1 p2 p3 HIp hs
      obtain ⟨pg, pw, ws⟩ := p
      simp only at R1 D3 p0 p1 p2 p3 HIp hs
      generalize hm : ws.length = m at R1 D3 p2 p3
      replace hm := Lib.hid hm
      generalize hB : preB L i = B at hrow hle hs
      replace hB := Lib.hid hB
      have hBl := hle.out
      have m0 : (1 : Int) ≤ (m : Int) := by omega
      have m1 : (m : Int) ≤ 16 := by omega
      go_upto_region 8 with (first
        | (with_reducible refine wpList_load_sz rfl 46 (.tmp 25) rfl b (off + i * 3) rfl [.int .i64 pg, .bool pw, .slice a1 m c1] _ R1.out Try.underlying46 rfl 3 (rpart_len _ _ _) size_rpart ?_)
        | (with_reducible refine wpList_store_sz rfl 46 (.tmp 6) (.tmp 26) rfl wr.heap.size 0 #[.int .i64 pg, .bool pw, .slice a1 m c1] rfl rfl 3 rfl hT.out size_rpart rfl [.int .i64 pg, .bool pw, .slice a1 m c1] rfl ?_))
      have X5 : Hid ((wr.alloc (.cells #[.int .i64 pg, .bool pw, .slice a1 m c1] 46)).heap[wr.heap.size]? = some (.cells [.int .i64 pg, .bool pw, .slice a1 m c1].toArray 46 (0, 0))) := Lib.hid (heap_alloc_last _ _)
      have U5 := Lib.hid (hU.out.alloc (.cells #[.int .i64 pg, .bool pw, .slice a1 m c1] 46))
      have R5 := Lib.hid (rows_still hrow.out ((Upd.refl (fun _ => False) wr).alloc (.cells #[.int .i64 pg, .bool pw, .slice a1 m c1] 46)))
      clear R1 hT hU hrow
      generalize wr.alloc (.cells #[.int .i64 pg, .bool pw, .slice a1 m c1] 46) = W5 at X5 U5 R5 ⊢
      generalize wr.heap.size = M at X5 ⊢
      obtain ⟨o5, c5, rfl⟩ := rows_slice R5.out
      obtain ⟨b0, b1, b2⟩ := part_cells X5.out
      have U5s := U5.out.size
      generalize hN : w.heap.size = N at R5 U5s
      replace hN := Lib.hid hN
      go_upto_if 28 with fail
      go_cut [7] (fun t w' => t = .int .u8 (wrB pw) ∧ w' = W5)
      case first =>
        cases pw
        · go_wp2
          go_meet
          exact ⟨rfl, rfl⟩
        · go_wp2
          go_meet
          exact ⟨rfl, rfl⟩
      case rest =>
        obtain ⟨rfl, rfl⟩ := hcut
        clear hU0 hr0 b1
        have hus := U5.out.size
        go_upto_region 12 with (at_builtin; refine wpList_append_own _ rfl _ _ 23 rfl N 5 i0 (.int .u8 0) 1 1 Try.underlying23 hi0 hz0 hz1 hz2 rfl (by decide) _ _ _ rfl (rows_still R5.out ((Upd.refl _ _).alloc _)) ⟨wc.heap.size, 0, none⟩ 4 4 [.int .u8 (pg / 256), .int .u8 (pg % 256), .int .u8 (wrB pw), .int .u8 m] rfl rfl (rows_src _ _ _) (by simp [Value.oneCell']) (by simp [maxLen]; omega) (by omega) (by simp; omega) ?_; intro v' w4 hown' hgrow _)
        have X4 := Lib.hid (grown_box (v := .slice o5 B.length c5) hgrow X5.out (img_ne R5.out X5.out (by decide)))
        have U4 := Lib.hid (rows_grown R5.out hgrow U5.out (Nat.le_of_eq hN.out))
        have R4 : Hid (w4.ownsRow N 5 1 v' (B.length + 4 + 8 * 0) (ints .u8 ((B ++ phead ⟨pg, pw, ws⟩) ++ (ws.take 0).flatMap wbytes))) := Lib.hid (by
          have e : ints .u8 ((B ++ phead ⟨pg, pw, ws⟩) ++ (ws.take 0).flatMap wbytes) = ints .u8 B ++ [.int .u8 (pg / 256), .int .u8 (pg % 256), .int .u8 (wrB pw), .int .u8 m] := by
            unfold phead
            simp only [hm.out]
            rw [show pg / 256 % 256 = pg / 256 from by omega, show (m : Int) % 256 = m from by omega]
            simp [ints]
          rw [e]
          exact hown')
        have hGl : (B ++ phead ⟨pg, pw, ws⟩).length = B.length + 4 := by rw [List.length_append]; rfl
        have hs' : Hid (preB L (i + 1) = (B ++ phead ⟨pg, pw, ws⟩) ++ ws.flatMap wbytes) := Lib.hid (by rw [hs.out, List.append_assoc])
        clear hown' hgrow X5 U5 R5 hle b0 b2 hs U5s hus
        generalize hG : B ++ phead ⟨pg, pw, ws⟩ = G at hGl hs' R4
        replace hG := Lib.hid hG
        generalize hg : B.length + 4 = g at hGl R4
        have hg2 : g ≤ 2100 := by omega
        replace hGl := Lib.hid hGl
        go_upto_region 13 with fail
        go_loopw [8, 4] (fun t u wk => ∃ k : Nat, k ≤ m ∧ t = .int .i64 k ∧ Hid (wk.ownsRow N 5 1 u (g + 8 * k) (ints .u8 (G ++ (ws.take k).flatMap wbytes))) ∧ Hid (Upd (fun _ => False) w wk) ∧ Hid (wk.heap[M]? = some (.cells [.int .i64 pg, .bool pw, .slice a1 m c1].toArray 46 (0, 0)))) (fun t _ _ => m - (intOf t).toNat)
        case atStart => exact ⟨0, by omega, rfl, R4, U4, X4⟩
        case round =>
          clear R4 U4 X4
          obtain ⟨k, hkm, rfl, hrowk, hUk, hXk⟩ := hrel
          obtain ⟨x0, x1, x2⟩ := part_cells hXk.out
          by_cases hklt : k < m
          · have q0 : (0 : Int) ≤ (k : Int) := by omega
            have q1 : (k : Int) < (m : Int) := by omega
            have hws := Lib.hid (wsb_succ ws (k := k) (by rw [hm.out]; exact hklt))
            obtain ⟨b', off', rfl, hb', hc'⟩ := RowIn.at' D3.out hm.out k hklt
            have hxc := Lib.hid (fun W (u : Upd (fun _ => False) w W) => u.cell (hc' k hklt) id)
            have hxb : 0 ≤ ws.getD k 0 ∧ ws.getD k 0 < 18446744073709551616 := HIp.out _ (by
              rw [List.getD_eq_getElem?_getD, List.getElem?_eq_getElem (by rw [hm.out]; exact hklt)]
              exact List.getElem_mem _)
            clear hc' hb'
            generalize ws.getD k 0 = x at hws hxc hxb
            generalize hH : G ++ (ws.take k).flatMap wbytes = H at hrowk
            replace hH := Lib.hid hH
            obtain ⟨hx0, hx1⟩ := hxb
            replace hx1 := Lib.hid hx1
            generalize hh : g + 8 * k = h at hrowk
            have hh2 : h ≤ 3000 := by omega
            have hr1 : Hid (wr.ownsRow N 5 1 u4 (h + 0) (ints .u8 (H ++ (wbytes x).take 0))) := Lib.hid (by rw [List.take_zero, List.append_nil]; exact hrowk.out)
            go_upto_region 16 with fail
            go_loopw [9, 4] (fun t u wt => ∃ q : Nat, q ≤ 8 ∧ t = .int .i64 (7 - (q : Int)) ∧ Hid (wt.ownsRow N 5 1 u (h + q) (ints .u8 (H ++ (wbytes x).take q))) ∧ Hid (Upd (fun _ => False) w wt) ∧ Hid (wt.heap[M]? = some (.cells [.int .i64 pg, .bool pw, .slice (some ⟨b', off', none⟩) m c1].toArray 46 (0, 0)))) (fun t _ _ => (intOf t + 1).toNat)
            case atStart => exact ⟨0, by omega, rfl, hr1, hUk, hXk⟩
            case round =>
              clear hr1 hrowk hUk hXk x0 x1 x2
              obtain ⟨q, hq, rfl, hrowq, hUq, hXq⟩ := hrel
              obtain ⟨x0, x1, x2⟩ := part_cells hXq.out
              by_cases hq8 : q < 8
              · have z0 : (0 : Int) ≤ 7 - (q : Int) := by omega
                have hxq := hxc.out _ hUq.out
                obtain ⟨o5, c5, rfl⟩ := rows_slice hrowq.out
                have hus := hUq.out.size
                go_wp2_with (at_builtin; refine wpList_append_own _ rfl _ _ 23 rfl N 5 i0 (.int .u8 0) 1 1 Try.underlying23 hi0 hz0 hz1 hz2 rfl (by decide) _ _ _ rfl (rows_still hrowq.out ((Upd.refl _ _).alloc _)) ⟨wr.heap.size, 0, none⟩ 1 1 [.int .u8 (x / 2 ^ (8 * (7 - q)) % 256)] rfl rfl (rows_src _ _ _) (by simp [Value.oneCell']) (by simp [maxLen]; omega) (by omega) (by simp; rw [hN.out] at hus; exact Nat.le_succ_of_le hus) ?_; intro v' w4 hown' hgrow _)
                have X4 := Lib.hid (grown_box (v := .slice o5 (h + q) c5) hgrow hXq.out (img_ne hrowq.out hXq.out (by decide)))
                have U4 := Lib.hid (rows_grown hrowq.out hgrow hUq.out (Nat.le_of_eq hN.out))
                have R4 : Hid (w4.ownsRow N 5 1 v' (h + (q + 1)) (ints .u8 (H ++ (wbytes x).take (q + 1)))) := Lib.hid (by
                  rw [wbytes_step x q hq8, ← List.append_assoc, ints, List.map_append]
                  exact hown')
                exact ⟨⟨q + 1, by omega, by go_num, R4, U4, X4⟩, by simp [intOf]; omega⟩
              · obtain rfl : q = 8 := by omega
                have hrow8 : Hid (wr.ownsRow N 5 1 u4 (g + 8 * (k + 1)) (ints .u8 (G ++ (ws.take (k + 1)).flatMap wbytes))) := Lib.hid (by
                  rw [hws.out, ← List.append_assoc, hH.out, show g + 8 * (k + 1) = h + 8 from by omega]
                  exact hrowq.out)
                go_wp2_with fail
                exact ⟨⟨k + 1, by omega, by go_num, hrow8, hUq, hXq⟩, by simp [intOf]; omega⟩
          · obtain rfl : k = m := by omega
            have hrow9 : Hid (wr.ownsRow N 5 1 u4 (preB L (i + 1)).length (ints .u8 (preB L (i + 1)))) := Lib.hid (by
              rw [hs'.out, List.length_append, hGl.out, wsb_len, hm.out]
              have := hrowk.out
              rw [List.take_of_length_le (by rw [hm.out]; exact Nat.le_refl _)] at this
              exact this)
            rw [← hN.out] at hrow9
            go_wp2_with fail
            exact ⟨⟨i + 1, by omega, by go_num, hrow9, hUk⟩, by simp [intOf]; omega⟩
    · obtain rfl : i = n := by omega
      have hrow9 : Hid (wr.ownsRow w.heap.size 5 1 u4 (ibytes L).length (ints .u8 (ibytes L))) := Lib.hid (by
        rw [← preB_all, hn'.out]
        exact hrow.out)
      go_wp2
      go_ret2
      exact ⟨_, rfl, hrow9.out, hU.out⟩
theorem RowIn.of_row {k : IntKind} {w : World} {base : Nat} {e : TypeId} {v : Value} {W : List Int} (h : w.ownsRow base e 1 v W.length (ints k W)) : RowIn k w v W := fun _ => ⟨Src.of_row h, fun b hb => (h.lt b hb).2⟩
set_option maxHeartbeats 4000000 in
theorem rbytes_any (ao : Option Addr) (cap : Nat) (L : List Pt) (w : World) (hL : PartsIn w ao L) (hi : PIn L) (hn : L.length ≤ 9223372036854775807) :
    Calls Try.prog 10 #[.slice ao L.length cap] w fun e w' => ∃ o c, e = .returned (.tuple #[.slice o (byV L).length c, .int .i64 (byE L)]) ∧ RowIn .u8 w' (.slice o (byV L).length c) (byV L) ∧ Upd (fun _ => False) w w' := by
  by_cases hR : rightB L = true
  · refine (rbytes_yes ao cap L w hL hR hi).mono ?_
    rintro e w' ⟨v, rfl, hrow, u⟩
    unfold byV byE
    rw [if_pos hR, if_pos hR]
    obtain ⟨o, c, rfl⟩ := rows_slice hrow
    exact ⟨o, c, rfl, RowIn.of_row hrow, u⟩
  · have hR' : rightB L = false := by simpa using hR
    have cR := Lib.hid (rright_any ao cap L w hL hn)
    unfold byV byE
    rw [if_neg hR, if_neg hR]
    rw [hR'] at cR
    generalize L.length = n at cR ⊢
    clear hL hi hR hR' hn
    go_enter Try.func10, Try.ntmps10
    go_wp2_with fail
    refine cR.out.mono ?_
    rintro e w1 ⟨rfl, u1⟩
    go_wp2
    go_ret2
    exact ⟨none, 0, rfl, RowIn.nil, u1⟩
end Go.Proofs.Ytkclojinokkikaa

/-
  What the laws ask of the program's Right, Bytes and Read.
-/
namespace Go.Proofs.Ytkclojinokkikaa
open Go.ChangeShapes Go.WideShapes Go.ChangeAt Go.RowKit

/-- pages that are numbers -/
def PgIn (L : List Pt) : Prop := ∀ p, p ∈ L → -9223372036854775808 ≤ p.page ∧ p.page < 9223372036854775808
def IRight : Prop := ∀ (w : World) (ao : Option Addr) (cap : Nat) (L : List Pt), PartsIn w ao L → PgIn L → PIn L → L.length ≤ 9223372036854775807 →
  Calls Try.prog 15 #[.slice ao L.length cap] w fun e w' => e = .returned (.bool (rightB L)) ∧ Upd (fun _ => False) w w'
def IBytes : Prop := ∀ (w : World) (ao : Option Addr) (cap : Nat) (L : List Pt), PartsIn w ao L → PgIn L → PIn L → L.length ≤ 9223372036854775807 →
  Calls Try.prog 9 #[.slice ao L.length cap] w fun e w' => ∃ o c, e = .returned (.tuple #[.slice o (byV L).length c, .int .i64 (byE L)]) ∧ RowIn .u8 w' (.slice o (byV L).length c) (byV L) ∧ (byV L).length ≤ c ∧ Upd (fun _ => False) w w'
def IRead : Prop := ∀ (w : World) (ao : Option Addr) (cap : Nat) (B : List Int), RowIn .u8 w (.slice ao B.length cap) B → (∀ x, x ∈ B → 0 ≤ x ∧ x < 256) → B.length ≤ 1000000 → B.length ≤ cap →
  Calls Try.prog 12 #[.slice ao B.length cap] w fun e w' => ∃ o c L er, e = .returned (.tuple #[.slice o L.length c, .int .i64 er]) ∧ RdP B L er ∧ PartsIn w' o L ∧ Upd (fun _ => False) w w'
theorem rd_pg {B : List Int} {L : List Pt} {e : Int} (h : RdP B L e) : PgIn L ∧ PIn L ∧ L.length ≤ 16 := by
  rcases h with ⟨_, h, _⟩ | ⟨_, rfl, _⟩
  · exact ⟨fun p hp => by have := right_ok h.r p hp; have := this.p0; have := (right_ok h.r p hp).p1; omega, h.i, (right_len h.r).2⟩
  · exact ⟨fun p hp => (by cases hp), fun p hp => (by cases hp), Nat.zero_le _⟩
/-! a page of a word -/
def oneB : List Int := [1, 0, 5, 1, 1, 0, 0, 0, 0, 0, 0, 0, 7]
def oneL : List Pt := [⟨5, true, [7]⟩]
theorem one_in : PIn oneL := by
  intro p hp x hx
  simp only [oneL, List.mem_singleton] at hp
  subst hp
  simp only [List.mem_singleton] at hx
  subst hx
  decide
theorem one_is : RdP oneB oneL 0 := .inl ⟨rfl, ⟨by decide, one_in⟩, by decide⟩
theorem five_is : RdP (oneB.take 5) [] 11 := .inr ⟨rfl, rfl, fun _ hM => cut_no ⟨(by decide : rightB oneL = true), one_in⟩ (by decide) hM⟩
end Go.Proofs.Ytkclojinokkikaa

/-
  The program's Right and flag.
-/
namespace Go.Proofs.Ytkclojinokkikaa
open Go.ChangeShapes Go.WideShapes Go.ChangeAt Go.RowKit

theorem size_gpart : (Try.prog.info? 42).map (·.size) = some 3 := by kernel_rfl
theorem gflag_any (x : Bool) (w : World) : Calls Try.prog 18 #[.bool x] w fun e w' => e = .returned (.int .u64 (wrB x)) ∧ w' = w := by
  cases x
  · go_enter Try.func18, Try.ntmps18
    go_wp2
    go_ret
    exact ⟨rfl, rfl⟩
  · go_enter Try.func18, Try.ntmps18
    go_wp2
    go_ret
    exact ⟨rfl, rfl⟩
/-- the page before -/
def befI (L : List Pt) (k : Nat) : Int := if k = 0 then -1 else (L.getD (k - 1) Pt.zero).page
theorem bef_ge {L : List Pt} {k : Nat} (h : goods L k = true) (hk : k ≤ L.length) : -1 ≤ befI L k := by
  unfold befI
  split
  · omega
  · have := (good_ok (p := L.getD (k - 1) Pt.zero) (goods_at h (by omega : k - 1 < k)) (by rw [List.getD_eq_getElem?_getD, List.getElem?_eq_getElem (by omega)]; rfl)).p0
    omega
theorem good_bef {L : List Pt} {k : Nat} (hb : -1 ≤ befI L k) : goodAt L k = (decide (befI L k < (L.getD k Pt.zero).page) && decide ((L.getD k Pt.zero).page ≤ 4095) && decide (1 ≤ (L.getD k Pt.zero).ws.length) && decide ((L.getD k Pt.zero).ws.length ≤ 16)) := by
  unfold goodAt
  unfold befI at hb ⊢
  by_cases e : k = 0
  · rw [if_pos e] at hb ⊢
    rw [decide_eq_true e, Bool.true_or, Bool.and_true]
    rw [show decide (0 ≤ (L.getD k Pt.zero).page) = decide (-1 < (L.getD k Pt.zero).page) from decide_eq_decide.2 (by omega)]
  · rw [if_neg e] at hb ⊢
    rw [decide_eq_false e, Bool.false_or]
    by_cases f : (L.getD (k - 1) Pt.zero).page < (L.getD k Pt.zero).page
    · rw [decide_eq_true f, decide_eq_true (by omega : 0 ≤ (L.getD k Pt.zero).page), Bool.and_true]
    · rw [decide_eq_false f, Bool.and_false]
      simp
set_option maxRecDepth 100000 in
set_option maxHeartbeats 8000000 in
theorem gright_raw (w : World) (ao : Option Addr) (cap : Nat) (L : List Pt) (hL : PartsIn w ao L) (hn : L.length ≤ 9223372036854775807) :
    Calls Try.prog 15 #[.slice ao L.length cap] w fun e w' => e = .returned (.bool (rightB L)) ∧ Upd (fun _ => False) w w' := by
  have HL := Lib.hid hL
  have h0 := Lib.hid (show goods L 0 = true from rfl)
  have hd := Lib.hid (fun (h : goods L L.length = true) => right_end h)
  have hno := Lib.hid (fun (k : Nat) (h1 : k < L.length) (h2 : goodAt L k = false) => right_no h1 h2)
  have hst := Lib.hid (goods_succ L)
  have hga := Lib.hid (fun k (h : goods L k = true) (hk : k ≤ L.length) => good_bef (bef_ge h hk))
  have hbad := Lib.hid (show L.length < 1 ∨ 16 < L.length → rightB L = false from fun h => by
    cases hr : rightB L
    · rfl
    · have := right_len hr
      omega)
  generalize rightB L = ans at hd hno hbad ⊢
  generalize hn' : L.length = n at hn hd hno hga hbad ⊢
  replace hn' := Lib.hid hn'
  clear hL
  by_cases g1 : n < 1
  · have e := hbad.out (.inl g1)
    subst e
    have k1 : (n : Int) < 1 := by omega
    go_enter Try.func15, Try.ntmps15
    go_wp2
    go_ret
    exact ⟨rfl, Upd.refl _ _⟩
  by_cases g2 : 16 < n
  · have e := hbad.out (.inr g2)
    subst e
    have k1 : ¬ (n : Int) < 1 := by omega
    have k2 : 16 < (n : Int) := by omega
    go_enter Try.func15, Try.ntmps15
    go_wp2
    go_ret
    exact ⟨rfl, Upd.refl _ _⟩
  have k1 : ¬ (n : Int) < 1 := by omega
  have k2 : ¬ 16 < (n : Int) := by omega
  rw [decide_eq_true (by omega : 1 ≤ n), decide_eq_true (by omega : n ≤ 16)] at hd
  clear hbad
  go_enter Try.func15, Try.ntmps15
  go_wp2_with fail
  go_loopw [16, 3] (fun t s wr => ∃ k : Nat, k ≤ n ∧ t = .int .i64 k ∧ s = .int .i64 (befI L k) ∧ Hid (goods L k = true) ∧ Hid (Upd (fun _ => False) w wr)) (fun t _ _ => n - (intOf t).toNat)
  case atStart => exact ⟨0, by omega, rfl, rfl, h0, Lib.hid (Upd.refl _ _)⟩
  case round =>
    obtain ⟨k, hk, rfl, rfl, hg, hU⟩ := hrel
    by_cases hlt : k < n
    · obtain ⟨b, off, rfl, hb, a1, c1, d0, d1, d2, d3⟩ := (HL.out.kept hU.out).at (by rw [hn'.out]; exact hlt)
      have k0 : (0 : Int) ≤ (k : Int) := by omega
      have k3 : (k : Int) < (n : Int) := by omega
      have hs := Lib.hid (hst.out k)
      have hno' := Lib.hid (hno.out k hlt)
      have hgk := Lib.hid (hga.out k hg.out (by omega))
      have hnx := Lib.hid (show befI L (k + 1) = (L.getD k Pt.zero).page from by unfold befI; rw [if_neg (by omega), Nat.add_sub_cancel])
      have R1 := Lib.hid (part_range d0 d1 d2)
      clear d0 d1 d2 d3 hb
      generalize befI L k = bf at hgk ⊢
      generalize (L.getD k Pt.zero).page = pg at hgk R1 hnx
      generalize (L.getD k Pt.zero).wr = pw at R1
      generalize (L.getD k Pt.zero).ws.length = m at hgk R1
      have hT := Lib.hid (part_there wr 42)
      go_upto_region 7 with (first
        | (with_reducible refine wpList_load_sz rfl 42 (.tmp 18) rfl b (off + k * 3) rfl [.int .i64 pg, .bool pw, .slice a1 m c1] _ R1.out Try.underlying42 rfl 3 (rpart_len _ _ _) size_gpart ?_)
        | (with_reducible refine wpList_store_sz rfl 42 (.tmp 5) (.tmp 19) rfl wr.heap.size 0 #[.int .i64 pg, .bool pw, .slice a1 m c1] rfl rfl 3 rfl hT.out size_gpart rfl [.int .i64 pg, .bool pw, .slice a1 m c1] rfl ?_))
      have U5 : Upd (fun _ => False) wr (wr.alloc (.cells #[.int .i64 pg, .bool pw, .slice a1 m c1] 42)) := (Upd.refl _ _).alloc _
      have b0 := rows_src wr [.int .i64 pg, .bool pw, .slice a1 m c1] 42 0 _ rfl
      have b2 := rows_src wr [.int .i64 pg, .bool pw, .slice a1 m c1] 42 2 _ rfl
      rw [add_mid0] at b0 b2
      rw [show wr.alloc (.cells [Value.int .i64 pg, .bool pw, .slice a1 m c1].toArray 42) = wr.alloc (.cells #[.int .i64 pg, .bool pw, .slice a1 m c1] 42) from rfl] at b0 b2
      have U6 := Lib.hid (hU.out.trans U5)
      clear R1 hT U5 hU
      generalize wr.alloc (.cells #[.int .i64 pg, .bool pw, .slice a1 m c1] 42) = W5 at b0 b2 U6 ⊢
      generalize wr.heap.size = M at b0 b2 ⊢
      by_cases g3 : pg ≤ bf
      · have e := hno'.out (by rw [hgk.out, decide_eq_false (by omega : ¬ bf < pg)]; rfl)
        subst e
        go_wp2
        go_ret
        exact ⟨rfl, U6.out⟩
      by_cases g4 : 4096 ≤ pg
      · have e := hno'.out (by rw [hgk.out, decide_eq_false (by omega : ¬ pg ≤ 4095), Bool.and_false]; rfl)
        subst e
        have g3' : decide (pg ≤ bf) = false := decide_eq_false g3
        go_wp2
        go_ret
        exact ⟨rfl, U6.out⟩
      have g3' : decide (pg ≤ bf) = false := decide_eq_false g3
      have g4' : decide (4096 ≤ pg) = false := decide_eq_false g4
      by_cases g5 : (m : Int) < 1
      · have e := hno'.out (by rw [hgk.out, decide_eq_false (by omega : ¬ 1 ≤ m), Bool.and_false]; rfl)
        subst e
        go_wp2
        go_ret
        exact ⟨rfl, U6.out⟩
      have g5' : decide ((m : Int) < 1) = false := decide_eq_false g5
      by_cases g6 : 16 < (m : Int)
      · have e := hno'.out (by rw [hgk.out, decide_eq_false (by omega : ¬ m ≤ 16), Bool.and_false])
        subst e
        go_wp2
        go_ret
        exact ⟨rfl, U6.out⟩
      have g6' : decide (16 < (m : Int)) = false := decide_eq_false g6
      rw [decide_eq_true (by omega : bf < pg), decide_eq_true (by omega : pg ≤ 4095), decide_eq_true (by omega : 1 ≤ m), decide_eq_true (by omega : m ≤ 16)] at hgk
      have hs' : Hid (goods L (k + 1) = true) := Lib.hid (by rw [hs.out, hg.out, hgk.out]; rfl)
      go_wp2
      exact ⟨⟨k + 1, by omega, by go_num, by rw [hnx.out], hs', Lib.hid (U6.out)⟩, by simp [intOf]; omega⟩
    · obtain rfl : k = n := by omega
      have e := hd.out hg.out
      have k3 : ¬ (k : Int) < (k : Int) := by omega
      subst e
      go_wp2
      go_ret
      exact ⟨rfl, hU.out⟩
theorem gright_any : IRight := fun w ao cap L hL _ _ hn => gright_raw w ao cap L hL hn
end Go.Proofs.Ytkclojinokkikaa

/-
  The program's reader: the number in its next bytes.
-/
namespace Go.Proofs.Ytkclojinokkikaa
open Go.ChangeShapes Go.WideShapes Go.ChangeAt Go.RowKit

/-- a reader that has these bytes left; they lie in blocks below N, it doesn't -/
structure RdAt (w : World) (N R : Nat) (C : List Int) : Prop where
  h : ∃ o c, w.heap[R]? = some (.cells [.slice o C.length c].toArray 49 (0, 0)) ∧ RowIn .u8 w (.slice o C.length c) C ∧ C.length ≤ c ∧ ∀ j, (Value.slice o C.length c).ownBlock = some j → 0 < C.length → j < N
  hN : N ≤ R
/-- the panic of a reader at its end -/
abbrev endP : PanicEntry := { v := .iface 54 (.agg #[]), recovered := false }
theorem RdAt.lt {w : World} {N R : Nat} {C : List Int} (h : RdAt w N R C) : R < w.heap.size := by
  obtain ⟨o, c, h1, _⟩ := h.h
  exact lt_of_heap h1
theorem RdAt.kept {S : Nat → Prop} {w w' : World} {N R : Nat} {C : List Int} (h : RdAt w N R C) (u : Upd S w w') (hR : ¬ S R) (hS : ∀ j, S j → N ≤ j) : RdAt w' N R C := by
  obtain ⟨o, c, h1, h2, h3, h4⟩ := h.h
  refine ⟨⟨o, c, u.at h1 hR, fun h0 => ?_, h3, h4⟩, h.hN⟩
  obtain ⟨q1, q2⟩ := h2 h0
  exact ⟨q1.kept fun b hb => u.block b (q2 b hb) (fun s => by
    have := hS b s
    have := h4 b hb h0
    omega), fun b hb => Nat.lt_of_lt_of_le (q2 b hb) u.size⟩
theorem or_256 (y z : Int) (h0 : 0 ≤ y) (h1 : y < 72057594037927936) (h2 : 0 ≤ z) (h3 : z < 256) : bits .or .u64 (y * 256) z = y * 256 + z := by
  obtain ⟨a, rfl⟩ := Int.eq_ofNat_of_zero_le h0
  obtain ⟨b, rfl⟩ := Int.eq_ofNat_of_zero_le h2
  have hb : b < 256 := by omega
  have e1 : (BitVec.ofInt 64 ((a : Int) * 256)).toNat = a * 256 := by rw [BitVec.toNat_ofInt]; omega
  have e2 : (BitVec.ofInt 64 (b : Int)).toNat = b := by rw [BitVec.toNat_ofInt]; omega
  have e3 : (a * 256) ||| b = a * 256 + b := by
    have : 256 * a + b = 256 * a ||| b := Nat.two_pow_add_eq_or_of_lt (i := 8) (b := b) (by omega) a
    rw [Nat.mul_comm a 256]
    exact this.symm
  show IntKind.u64.wrap ((BitVec.ofInt 64 ((a : Int) * 256) ||| BitVec.ofInt 64 (b : Int)).toNat : Nat) = _
  rw [BitVec.toNat_or, e1, e2, e3, IntKind.wrap_u64]
  omega
theorem drop_getD (C : List Int) (m i : Nat) : (C.drop m).getD i 0 = C.getD (m + i) 0 := by
  rw [List.getD_eq_getElem?_getD, List.getD_eq_getElem?_getD, List.getElem?_drop]
theorem RowIn.drop {w : World} {b off n cap : Nat} {C : List Int} {k : IntKind} (h : RowIn k w (.slice (some ⟨b, off, none⟩) n cap) C) (hn : C.length = n) (m c : Nat) : RowIn k w (.slice (some ⟨b, off + m, none⟩) (n - m) c) (C.drop m) := fun h0 => by
  rw [List.length_drop] at h0
  obtain ⟨b', off', e, hb, hc⟩ := h.at' hn 0 (by omega)
  simp only [Option.some.injEq, Addr.mk.injEq, and_true] at e
  obtain ⟨rfl, rfl⟩ := e
  refine ⟨.inr ⟨b, off + m, c, by rw [List.length_drop, hn], by simp [ints], fun j u hj => ?_⟩, fun d hd => ?_⟩
  · have hj' : j < n - m := by
      have := (List.getElem?_eq_some_iff.1 hj).1
      simpa [ints, hn] using this
    rw [ints_getElem? k _ _ (by rw [List.length_drop]; omega)] at hj
    simp only [Option.some.injEq] at hj
    subst hj
    rw [drop_getD, Nat.add_assoc]
    exact hc (m + j) (by omega)
  · simp only [Value.ownBlock, Option.some.injEq] at hd
    exact hd ▸ hb
theorem pow7 (i : Nat) (h : i < 8) : (256 : Int) ^ i ≤ 72057594037927936 := by
  have hd : i = 0 ∨ i = 1 ∨ i = 2 ∨ i = 3 ∨ i = 4 ∨ i = 5 ∨ i = 6 ∨ i = 7 := by omega
  rcases hd with rfl | rfl | rfl | rfl | rfl | rfl | rfl | rfl <;> decide
theorem bAt_bd14 {B : List Int} (hb : ∀ x, x ∈ B → 0 ≤ x ∧ x < 256) (k : Nat) : 0 ≤ B.getD k 0 ∧ B.getD k 0 < 256 := by
  rw [List.getD_eq_getElem?_getD]
  rcases h : B[k]? with _ | x
  · simp
  · exact hb x (List.mem_of_getElem? h)
/-- what number answers -/
def NumP (N R : Nat) (C : List Int) (m : Nat) (w : World) (e : Ending) (w' : World) : Prop :=
  (m ≤ C.length ∧ e = .returned (.int .u64 (wPart C 0 m)) ∧ RdAt w' N R (C.drop m) ∧ Upd (· = R) w w') ∨ (C.length < m ∧ e = .panicked [endP] ∧ Upd (fun _ => False) w w')
set_option maxRecDepth 100000 in
set_option maxHeartbeats 4000000 in
theorem gnum_any (N R : Nat) (C : List Int) (m : Nat) (w : World) (hm0 : 1 ≤ m) (hm : m ≤ 8) (hR : RdAt w N R C) (hb : ∀ x, x ∈ C → 0 ≤ x ∧ x < 256) (hC : C.length ≤ 1000000) :
    Calls Try.prog 20 #[.pointer (some ⟨R, 0, none⟩), .int .i64 m] w (NumP N R C m w) := by
  obtain ⟨o, c, h1, h2, h3, h4⟩ := hR.h
  have hc1 : w.cell? ⟨R, 0, none⟩ = some (.slice o C.length c) := by rw [cell_of_row _ _ _ _ _ _ h1]; rfl
  have Hb := Lib.hid hb
  have H2 := Lib.hid h2
  have H4 := Lib.hid h4
  have hRN := Lib.hid hR.hN
  have fz := frozen_block h1 0
  have H1 := Lib.hid h1
  clear hb h2 h4 hR
  generalize hn' : C.length = n at h1 H1 H2 h3 H4 hc1 hC
  replace hn' := Lib.hid hn'
  by_cases hlt : n < m
  · have k0 : (n : Int) < (m : Int) := by omega
    go_enter Try.func20, Try.ntmps20
    go_wp2
    exact ⟨rfl, .inr ⟨by rw [hn'.out]; exact hlt, rfl, Upd.refl _ _⟩⟩
  have k0 : ¬ (n : Int) < (m : Int) := by omega
  have k1 : (m : Int) ≤ (n : Int) := by omega
  have k2 : (n : Int) ≤ (c : Int) := by omega
  have k3 : (m : Int) ≤ (c : Int) := by omega
  obtain ⟨b, off, rfl, hbb, hcell⟩ := RowIn.at' H2.out hn'.out 0 (by omega)
  have Hc := Lib.hid hcell
  clear hcell
  go_enter Try.func20, Try.ntmps20
  go_wp2_with fail
  go_loopw [24, 5] (fun t s wr => ∃ i : Nat, i ≤ m ∧ t = .int .i64 i ∧ s = .int .u64 (wPart C 0 i) ∧ wr = w) (fun t _ _ => m - (intOf t).toNat)
  case atStart => exact ⟨0, by omega, rfl, rfl, rfl⟩
  case round =>
    obtain ⟨i, hi, rfl, rfl, rfl⟩ := hrel
    by_cases hltm : i < m
    · have q0 : (0 : Int) ≤ (i : Int) := by omega
      have q1 : (i : Int) < (m : Int) := by omega
      have hx := Hc.out i (by omega)
      have hbd := bAt_bd14 Hb.out i
      have hw0 := wPart_bd Hb.out 0 i
      have hp := pow7 i (by omega)
      have hnx := Lib.hid (show wPart C 0 (i + 1) = wPart C 0 i * 256 + C.getD i 0 from by rw [wPart]; unfold bAt; rw [Nat.zero_add])
      generalize wPart C 0 i = y at hw0 hnx ⊢
      generalize C.getD i 0 = z at hx hbd hnx
      obtain ⟨y0, y1⟩ := hw0
      obtain ⟨z0, z1⟩ := hbd
      have ho := or_256 y z y0 (by omega) z0 z1
      have g5 : IntKind.u64.wrap (y * 256) = y * 256 := IntWalk.u64_in _ (by omega)
      have g6 : IntKind.u64.wrap z = z := IntWalk.u64_in _ (by omega)
      clear y1 hp
      go_wp2
      exact ⟨⟨i + 1, by omega, by go_num, by rw [hnx.out], by trivial⟩, by simp [intOf]; omega⟩
    · obtain rfl : i = m := by omega
      have q1 : ¬ (i : Int) < (i : Int) := by omega
      have fin : ∀ (o' : Option Addr) (c' : Nat), (0 < n - i → o' = some ⟨b, off + i, none⟩) → n - i ≤ c' → RdAt (wr.setCell ⟨R, 0, none⟩ (.slice o' (n - i) c')) N R (C.drop i) := fun o' c' ho hc' => by
        have hl : (C.drop i).length = n - i := by rw [List.length_drop, hn'.out]
        have U : Upd (· = R) wr (wr.setCell ⟨R, 0, none⟩ (.slice o' (n - i) c')) := Upd.setCell (S := (· = R)) (p := ⟨R, 0, none⟩) (Upd.refl _ _) (.inl rfl) _
        refine ⟨⟨o', c', ?_, fun h0 => ?_, by rw [hl]; exact hc', fun j hj h0 => ?_⟩, hRN.out⟩
        · rw [hl]
          exact heap_setCell_same H1.out 0 _
        · rw [hl] at h0
          have e := ho h0
          subst e
          have q := (H2.out.drop hn'.out i c') (by rw [hl]; exact h0)
          rw [hl] at q ⊢
          refine ⟨q.1.kept fun d hd => U.block d (q.2 d hd) ?_, fun d hd => Nat.lt_of_lt_of_le (q.2 d hd) U.size⟩
          simp only [Value.ownBlock, Option.some.injEq] at hd
          have hbN := H4.out b rfl (by omega)
          have := hRN.out
          omega
        · rw [hl] at h0
          have e := ho h0
          subst e
          simp only [Value.ownBlock, Option.some.injEq] at hj
          subst hj
          exact H4.out b rfl (by omega)
      have Fin := Lib.hid fin
      clear fin
      have hup := Lib.hid (fun (v : Value) => show Upd (· = R) wr (wr.setCell ⟨R, 0, none⟩ v) from Upd.setCell (S := (· = R)) (p := ⟨R, 0, none⟩) (Upd.refl _ _) (.inl rfl) _)
      go_wp2
      · go_ret
        exact .inl ⟨by rw [hn'.out]; omega, rfl, Fin.out _ _ (fun h => by omega) (by omega), hup.out _⟩
      · go_ret
        exact .inl ⟨by rw [hn'.out]; omega, rfl, Fin.out _ _ (fun _ => rfl) (by omega), hup.out _⟩
end Go.Proofs.Ytkclojinokkikaa

/-
  The laws' same: are parts the same?
-/
namespace Go.Proofs.Ytkclojinokkikaa
open Go.ChangeShapes Go.WideShapes Go.ChangeAt Go.RowKit

theorem getD_take_eq {α : Type} [Inhabited α] {a b : List α} {k : Nat} {d : α} (ha : k < a.length) (hb : k < b.length) (h : a.take k = b.take k) (e : a.getD k d = b.getD k d) : a.take (k + 1) = b.take (k + 1) := by
  rw [List.take_succ_eq_append_getElem ha, List.take_succ_eq_append_getElem hb, h]
  simp only [List.getD_eq_getElem?_getD, List.getElem?_eq_getElem ha, List.getElem?_eq_getElem hb, Option.getD_some] at e
  rw [e]
set_option maxRecDepth 100000 in
set_option maxHeartbeats 8000000 in
theorem psame_any (o o' : Option Addr) (cap cap' : Nat) (L M : List Pt) (w : World) (hL : PartsIn w o L) (hM : PartsIn w o' M) (hn : L.length ≤ 100000) (hws : ∀ p, p ∈ L → p.ws.length ≤ 100000) :
    Calls Try.prog 14 #[.slice o L.length cap, .slice o' M.length cap'] w fun e w' => e = .returned (.bool (decide (L = M))) ∧ ∃ n, w' = w.drewN n := by
  by_cases hl : L.length = M.length
  case neg =>
    have hb : decide (L = M) = false := decide_eq_false fun e => hl (by rw [e])
    rw [hb]
    have hl' : ((L.length : Int) != (M.length : Int)) = true := by rw [bne_iff_ne]; omega
    clear hL hM hb hl hws
    go_enter Try.func14, Try.ntmps14
    go_wp2
    go_ret
    exact ⟨rfl, 0, rfl⟩
  have hl' : ((L.length : Int) != (M.length : Int)) = false := by rw [bne_eq_false_iff_eq]; omega
  have HL := Lib.hid hL
  have HM := Lib.hid hM
  have HW := Lib.hid hws
  have hd := Lib.hid (show L ≠ M → decide (L = M) = false from fun h => decide_eq_false h)
  have hd' := Lib.hid (show L = M → decide (L = M) = true from fun h => decide_eq_true h)
  generalize decide (L = M) = ans at hd hd' ⊢
  generalize hLn : L.length = n at hL hn hl hl' ⊢
  generalize hMn : M.length = n' at hM hl hl' ⊢
  clear hL hM hws
  subst hl
  replace hLn := Lib.hid hLn
  replace hMn := Lib.hid hMn
  go_enter Try.func14, Try.ntmps14
  go_wp2_with fail
  go_loopw [5] (fun t wr => ∃ i : Nat, i ≤ n ∧ t = .int .i64 i ∧ Hid (L.take i = M.take i) ∧ Hid (∃ q, wr = w.drewN q)) (fun t _ => n - (intOf t).toNat)
  case atStart => exact ⟨0, by omega, rfl, Lib.hid (by simp), Lib.hid ⟨0, rfl⟩⟩
  case round =>
    obtain ⟨i, hi, rfl, ht, hw⟩ := hrel
    by_cases hlt : i < n
    · have k0 : (0 : Int) ≤ (i : Int) := by omega
      have k1 : (i : Int) < (n : Int) := by omega
      have hnx := Lib.hid (fun e => getD_take_eq (d := Pt.zero) (by rw [hLn.out]; exact hlt) (by rw [hMn.out]; exact hlt) ht.out e)
      have hne := Lib.hid (show L.getD i Pt.zero ≠ M.getD i Pt.zero → ans = false from fun h => hd.out fun e => h (by rw [e]))
      obtain ⟨b, off, rfl, hb, a1, c1, d0, d1, d2, d3⟩ := HL.out.at (by rw [hLn.out]; exact hlt)
      obtain ⟨b', off', rfl, hb', a1', c1', f0, f1, f2, f3⟩ := HM.out.at (by rw [hMn.out]; exact hlt)
      have hpm : L.getD i Pt.zero ∈ L := by
        rw [List.getD_eq_getElem?_getD, List.getElem?_eq_getElem (by rw [hLn.out]; exact hlt)]
        exact List.getElem_mem _
      have hwl := HW.out _ hpm
      have D3 := Lib.hid d3
      have F3 := Lib.hid f3
      have hcell := Lib.hid (show ∀ W, (∃ q, W = w.drewN q) → W.cell? ⟨b, off + i * 3, none⟩ = some (.int .i64 (L.getD i Pt.zero).page) ∧ W.cell? ⟨b, off + i * 3 + 1, none⟩ = some (.bool (L.getD i Pt.zero).wr) ∧ W.cell? ⟨b, off + i * 3 + 2, none⟩ = some (.slice a1 (L.getD i Pt.zero).ws.length c1) ∧ W.cell? ⟨b', off' + i * 3, none⟩ = some (.int .i64 (M.getD i Pt.zero).page) ∧ W.cell? ⟨b', off' + i * 3 + 1, none⟩ = some (.bool (M.getD i Pt.zero).wr) ∧ W.cell? ⟨b', off' + i * 3 + 2, none⟩ = some (.slice a1' (M.getD i Pt.zero).ws.length c1') from fun W h => by
        obtain ⟨q, rfl⟩ := h
        exact ⟨d0, d1, d2, f0, f1, f2⟩)
      clear d0 d1 d2 d3 f0 f1 f2 f3 hb hb' hpm
      generalize L.getD i Pt.zero = p at hnx hne D3 hcell hwl
      generalize M.getD i Pt.zero = p' at hnx hne F3 hcell
      obtain ⟨pg, pw, ws⟩ := p
      obtain ⟨pg', pw', ws'⟩ := p'
      simp only at D3 F3 hcell hwl
      generalize hm : ws.length = m at D3 hcell hwl
      generalize hm' : ws'.length = m' at F3 hcell
      replace hm := Lib.hid hm
      replace hm' := Lib.hid hm'
      obtain ⟨q0, hq0⟩ := hw.out
      obtain ⟨e0, e1, e2, g0, g1, g2⟩ := hcell.out wr ⟨q0, hq0⟩
      replace hq0 := Lib.hid hq0
      clear hw
      by_cases h1 : pg = pg'
      case neg =>
        have h1' : (pg != pg') = true := by rw [bne_iff_ne]; exact h1
        have hans := hne.out (fun e => h1 (by injection e))
        subst hans
        clear h1 hnx hne hcell D3 F3
        go_upto_region 6 with fail
        go_quiet (fail)
        go_wp2
        go_ret
        exact ⟨rfl, _, by rw [hq0.out, World.drewN_drewN]⟩
      have h1' : (pg != pg') = false := by rw [bne_eq_false_iff_eq]; exact h1
      by_cases h2 : pw = pw'
      case neg =>
        have h2' : (!(pw == pw')) = true := by cases pw <;> cases pw' <;> first | rfl | exact absurd rfl h2
        have h2p : (pw == pw') = false := by cases pw <;> cases pw' <;> first | rfl | exact absurd rfl h2
        have hans := hne.out (fun e => h2 (by injection e))
        subst hans
        clear h1 h2 hnx hne hcell D3 F3
        go_upto_region 6 with fail
        go_quiet (fail)
        go_wp2
        go_ret
        exact ⟨rfl, _, by rw [hq0.out, World.drewN_drewN]⟩
      have h2' : (pw != pw') = false := by rw [bne_eq_false_iff_eq]; exact h2
      by_cases h3 : m = m'
      case neg =>
        have h3' : ((m : Int) != (m' : Int)) = true := by rw [bne_iff_ne]; omega
        have hans := hne.out (fun e => h3 (by rw [← hm.out, ← hm'.out]; injection e with _ _ e; rw [e]))
        subst hans
        subst h1 h2
        clear h3 hnx hne hcell D3 F3
        go_upto_region 6 with fail
        go_quiet (fail)
        go_wp2
        go_ret
        exact ⟨rfl, _, by rw [hq0.out, World.drewN_drewN]⟩
      have h3' : ((m : Int) != (m' : Int)) = false := by rw [bne_eq_false_iff_eq]; omega
      subst h1 h2
      go_upto_region 6 with fail
      go_quiet (fail)
      subst h3
      go_upto_region 9 with fail
      go_loopw [6] (fun t wr => ∃ k : Nat, k ≤ m ∧ t = .int .i64 k ∧ Hid (ws.take k = ws'.take k) ∧ Hid (∃ q, wr = w.drewN q)) (fun t _ => m - (intOf t).toNat)
      case atStart => exact ⟨0, by omega, rfl, Lib.hid (by simp), Lib.hid ⟨_, by rw [hq0.out, World.drewN_drewN]⟩⟩
      case round =>
        clear e0 e1 e2 g0 g1 g2
        obtain ⟨k, hk, rfl, hwt, hw⟩ := hrel
        obtain ⟨q1, hq1⟩ := hw.out
        obtain ⟨e0, e1, e2, g0, g1, g2⟩ := hcell.out wr ⟨q1, hq1⟩
        clear e0 e1 g0 g1 hw hq0
        by_cases hkm : k < m
        · have z0 : (0 : Int) ≤ (k : Int) := by omega
          have z1 : (k : Int) < (m : Int) := by omega
          obtain ⟨ba, oa, rfl, -, ca⟩ := RowIn.at' D3.out hm.out k hkm
          obtain ⟨bb, ob, rfl, -, cb⟩ := RowIn.at' F3.out hm'.out k hkm
          have r1 : wr.cell? ⟨ba, oa + k, none⟩ = some (.int .u64 (ws.getD k 0)) := by rw [hq1]; exact ca k hkm
          have r2 : wr.cell? ⟨bb, ob + k, none⟩ = some (.int .u64 (ws'.getD k 0)) := by rw [hq1]; exact cb k hkm
          have hnk := Lib.hid (fun e => getD_take_eq (d := (0 : Int)) (by rw [hm.out]; exact hkm) (by rw [hm'.out]; exact hkm) hwt.out e)
          have hnw := Lib.hid (show ws.getD k 0 ≠ ws'.getD k 0 → ans = false from fun h => hne.out fun e => h (by injection e with _ _ e; rw [e]))
          replace hq1 := Lib.hid hq1
          clear ca cb
          generalize ws.getD k 0 = x at r1 hnk hnw
          generalize ws'.getD k 0 = y at r2 hnk hnw
          by_cases hxy : x = y
          · have hxy' : (x != y) = false := by rw [bne_eq_false_iff_eq]; exact hxy
            have hwt' := Lib.hid (hnk.out hxy)
            clear hxy hnk hnw hwt hcell
            go_upto_region 11 with fail
            go_quiet (fail)
            go_wp2
            exact ⟨⟨k + 1, by omega, by go_num, hwt', Lib.hid ⟨_, by rw [hq1.out, World.drewN_drewN]⟩⟩, by simp [intOf]; omega⟩
          · have hxy' : (x != y) = true := by rw [bne_iff_ne]; exact hxy
            have hans := hnw.out hxy
            subst hans
            clear hxy hnk hnw hwt hcell hne
            go_upto_region 11 with fail
            go_quiet (fail)
            go_wp2
            go_ret
            exact ⟨rfl, _, by rw [hq1.out, World.drewN_drewN]⟩
        · obtain rfl : k = m := by omega
          have hww : ws = ws' := by
            have h := hwt.out
            rw [List.take_of_length_le (by rw [hm.out]; exact Nat.le_refl _), List.take_of_length_le (by rw [hm'.out]; exact Nat.le_refl _)] at h
            exact h
          have ht' := Lib.hid (hnx.out (by rw [hww]))
          replace hq1 := Lib.hid hq1
          clear hnx hne hcell
          go_wp2
          exact ⟨⟨i + 1, by omega, by go_num, ht', Lib.hid ⟨_, hq1.out⟩⟩, by simp [intOf]; omega⟩
    · have e : i = n := by omega
      subst e
      have heq : L = M := by
        have h := ht.out
        rw [List.take_of_length_le (by rw [hLn.out]; exact Nat.le_refl _), List.take_of_length_le (by rw [hMn.out]; exact Nat.le_refl _)] at h
        exact h
      have hans := hd'.out heq
      obtain ⟨q, rfl⟩ := hw.out
      subst hans
      clear hd hd' heq
      go_wp2
      go_ret
      exact ⟨rfl, q, rfl⟩
end Go.Proofs.Ytkclojinokkikaa

/-
  Parts in a row, each with words in a row of the call's own.
-/
namespace Go.Proofs.Ytkclojinokkikaa
open Go.ChangeShapes Go.WideShapes Go.ChangeAt Go.RowKit

theorem rows_low {w : World} {base base' sz k : Nat} {e : TypeId} {v : Value} {xs : List Value} (h : w.ownsRow base e sz v k xs) (hb : base' ≤ base) : w.ownsRow base' e sz v k xs := by
  refine ⟨h.1, ?_⟩
  rcases h.2 with hn | ⟨g, cap, cur, rfl, hg, rest⟩
  · exact .inl hn
  · exact .inr ⟨g, cap, cur, rfl, by omega, rest⟩
/-- the cells of parts in a row, the words of each in a row of the call's own -/
def PCo (w : World) (N : Nat) (L : List Pt) (C : List Value) : Prop := C.length = L.length * 3 ∧ ∀ i p, L[i]? = some p → ∃ ao cap, (∀ j u, (ptC p ao cap)[j]? = some u → C[i * 3 + j]? = some u) ∧ w.ownsRow N 43 1 (.slice ao p.ws.length cap) p.ws.length (ints .u64 p.ws)
theorem PCo.nil (w : World) (N : Nat) : PCo w N [] [] := ⟨rfl, fun i p h => by simp at h⟩
theorem PCo.kept {S : Nat → Prop} {w w' : World} {N : Nat} {L : List Pt} {C : List Value} (h : PCo w N L C) (u : Upd S w w') (hS : ∀ j, S j → ∀ c, w.heap[j]? ≠ some (.cells c 43 (0, 0))) : PCo w' N L C := ⟨h.1, fun i p hi => by
  obtain ⟨ao, cap, h1, h2⟩ := h.2 i p hi
  refine ⟨ao, cap, h1, rows_kept h2 u fun j hj s => ?_⟩
  rcases h2.2 with ⟨e, _⟩ | ⟨g, cp, cur, e, _, hg, _⟩
  · rw [e] at hj; cases hj
  · rw [e] at hj
    simp only [Value.ownBlock, Option.some.injEq] at hj
    subst hj
    exact hS _ s _ hg⟩
theorem PCo.still {w w' : World} {N : Nat} {L : List Pt} {C : List Value} (h : PCo w N L C) (u : Upd (fun _ => False) w w') : PCo w' N L C := h.kept u fun _ s => s.elim
theorem PCo.pcs {w : World} {N : Nat} {L : List Pt} {C : List Value} (h : PCo w N L C) : PCs w L C := ⟨h.1, fun i p hi => by
  obtain ⟨ao, cap, h1, h2⟩ := h.2 i p hi
  exact ⟨ao, cap, h1, RowIn.of_row h2⟩⟩
theorem PCo.snoc {w : World} {N : Nat} {L : List Pt} {C : List Value} (h : PCo w N L C) {p : Pt} {ao : Option Addr} {cap : Nat} (hr : w.ownsRow N 43 1 (.slice ao p.ws.length cap) p.ws.length (ints .u64 p.ws)) : PCo w N (L ++ [p]) (C ++ ptC p ao cap) := by
  refine ⟨by rw [List.length_append, h.1, List.length_append]; show L.length * 3 + 3 = (L.length + 1) * 3; omega, fun i q hi => ?_⟩
  by_cases e : i < L.length
  · rw [List.getElem?_append_left e] at hi
    obtain ⟨ao', cap', h1, h2⟩ := h.2 i q hi
    refine ⟨ao', cap', fun j u hj => ?_, h2⟩
    have := h1 j u hj
    rw [List.getElem?_append_left (List.getElem?_eq_some_iff.1 this).1]
    exact this
  · rw [List.getElem?_append_right (by omega)] at hi
    have hi0 : i - L.length = 0 := by
      have := (List.getElem?_eq_some_iff.1 hi).1
      simp at this
      omega
    rw [hi0] at hi
    have hq : p = q := by simpa using hi
    subst hq
    refine ⟨ao, cap, fun j u hj => ?_, hr⟩
    rw [List.getElem?_append_right (by rw [h.1]; omega), h.1, show i * 3 + j - L.length * 3 = j from by omega]
    exact hj
/-- blocks of another type are not the row's -/
theorem own_ty {w : World} {base sz k : Nat} {e : TypeId} {v : Value} {xs : List Value} (h : w.ownsRow base e sz v k xs) (he : e ≠ 43) : ∀ j, v.ownBlock = some j → ∀ c, w.heap[j]? ≠ some (.cells c 43 (0, 0)) := by
  intro j hj c hc
  rcases h.2 with ⟨rfl, _⟩ | ⟨g, cap, cur, rfl, _, hgg, _⟩
  · simp [Value.ownBlock] at hj
  · simp only [Value.ownBlock, Option.some.injEq] at hj
    subst hj
    rw [hgg] at hc
    simp only [Option.some.injEq, Obj.cells.injEq] at hc
    exact he hc.2.1
end Go.Proofs.Ytkclojinokkikaa

/-
  The document's Read.
-/
namespace Go.Proofs.Ytkclojinokkikaa
open Go.ChangeShapes Go.WideShapes Go.ChangeAt Go.RowKit

theorem info_u64i : (Try.prog.info? 43).map (fun i => (i.zero, i.size, i.bytes)) = some (some (.int .u64 0), 1, 8) := by kernel_rfl
theorem str_ne14 {a b : ByteArray} (h : a ≠ b) : (a.toList == b.toList) = false := by
  rw [beq_eq_false_iff_ne]
  intro e
  apply h
  rw [ByteArray.toList_eq, ByteArray.toList_eq] at e
  obtain ⟨a⟩ := a
  obtain ⟨b⟩ := b
  congr 1
  exact Array.ext' e
theorem bAt_bd {B : List Int} (hb : ∀ x, x ∈ B → 0 ≤ x ∧ x < 256) (k : Nat) : 0 ≤ bAt B k ∧ bAt B k < 256 := by
  unfold bAt
  rw [List.getD_eq_getElem?_getD]
  rcases h : B[k]? with _ | x
  · simp
  · exact hb x (List.mem_of_getElem? h)
theorem pow256 (i : Nat) (h : i < 8) : (256 : Int) ^ i * 256 ≤ 18446744073709551616 := by
  have hd : i = 0 ∨ i = 1 ∨ i = 2 ∨ i = 3 ∨ i = 4 ∨ i = 5 ∨ i = 6 ∨ i = 7 := by omega
  rcases hd with rfl | rfl | rfl | rfl | rfl | rfl | rfl | rfl <;> decide
theorem grown_upd {wr w4 : World} {o : Obj} {v : Value} (hgr : (wr.alloc o).grownBy w4 v.ownBlock) : Upd (fun j => v.ownBlock = some j) wr w4 :=
  ⟨hgr.os, hgr.tape, hgr.output, by have := hgr.size; simp at this; omega, fun k hk hS => by
    rw [hgr.block k (by simp; omega) (fun e => hS e.symm), Below.heap_alloc _ _ _ hk]⟩
set_option maxRecDepth 100000 in
set_option maxHeartbeats 8000000 in
theorem rread_any (ao : Option Addr) (cap : Nat) (B : List Int) (w : World) (hB : RowIn .u8 w (.slice ao B.length cap) B) (hb : ∀ x, x ∈ B → 0 ≤ x ∧ x < 256) (hn : B.length ≤ 1000000) :
    Calls Try.prog 13 #[.slice ao B.length cap] w fun e w' => ∃ o c, e = .returned (.tuple #[.slice o (rdV B).length c, .int .i64 (rdE B)]) ∧ PartsIn w' o (rdV B) ∧ Upd (fun _ => False) w w' := by
  obtain ⟨i0, hi0, hz0, hz1, hz2⟩ := info_parts info_rpart
  obtain ⟨j0, hj0, hy0, hy1, hy2⟩ := info_parts info_u64i
  have HB := Lib.hid hB
  have Hb := Lib.hid hb
  have h0 := Lib.hid (show w.ownsRow w.heap.size 46 3 (.slice none 0 0) 0 [] from rows_new w _ _ _)
  generalize hn' : B.length = n at hn ⊢
  replace hn' := Lib.hid hn'
  clear hB hb
  go_enter Try.func13, Try.ntmps13
  go_wp2_with fail
  go_loopw [4, 5] (fun u t wr => ∃ (k at_ : Nat) (C : List Value), k ≤ 17 ∧ at_ ≤ n + 1 ∧ t = .int .i64 at_ ∧ Hid ((rdK B k).1.length = k ∧ (rdK B k).2 = at_) ∧ Hid (wr.ownsRow w.heap.size 46 3 u k C) ∧ Hid (PCo wr w.heap.size (rdK B k).1 C) ∧ Hid (Upd (fun _ => False) w wr)) (fun _ t _ => n + 1 - (intOf t).toNat)
  case atStart => exact ⟨0, 1, [], by omega, by omega, rfl, Lib.hid ⟨rfl, rfl⟩, h0, Lib.hid (PCo.nil w _), Lib.hid (Upd.refl _ _)⟩
  case round =>
    obtain ⟨k, at_, C, hk, hat, rfl, hkl, hrow, hC, hU⟩ := hrel
    obtain ⟨o4, c4, rfl⟩ := rows_slice hrow.out
    by_cases hcont : k < 17 ∧ at_ + 3 < n
    case neg =>
      have hL : rdL B = (rdK B k).1 := by
        by_cases e : k = 17
        · rw [e]; rfl
        · have e2 := rdK_no (b := B) (k := k) (by rw [hkl.out.2, hn'.out]; omega) (17 - k)
          rw [show k + (17 - k) = 17 from by omega] at e2
          unfold rdL
          rw [e2]
      have hLl : (rdL B).length = k := by rw [hL, hkl.out.1]
      have hin : PartsIn wr o4 (rdL B) := by rw [hL]; exact (hC.out.pcs).in_ hkl.out.1 hrow.out
      have cY := rbytes_any o4 c4 (rdL B) wr hin (rdK_in Hb.out 17) (by omega)
      rw [hLl] at cY
      have HY := Lib.hid cY
      have Hin := Lib.hid hin
      have HLl := Lib.hid hLl
      have HVE := Lib.hid (show rdV B = (if rightB (rdL B) = true ∧ ibytes (rdL B) = B then rdL B else []) ∧ rdE B = (if rightB (rdL B) = true ∧ ibytes (rdL B) = B then 0 else 11) from ⟨rfl, rfl⟩)
      have Hin6 := Lib.hid (fun (h : rightB (rdL B) = true) => wb_in h)
      clear hin cY hC hrow hLl hL
      generalize rdL B = L at HY Hin HLl HVE Hin6
      generalize hV0 : rdV B = V at HVE
      generalize hE0 : rdE B = E at HVE
      replace hV0 := Lib.hid hV0
      replace hE0 := Lib.hid hE0
      by_cases hr : rightB L = true
      · have e1 : byE L = 0 := by unfold byE; rw [if_pos hr]
        have e2 : byV L = ibytes L := by unfold byV; rw [if_pos hr]
        rw [e1, e2] at HY
        have hb6 := Lib.hid (Hin6.out hr)
        by_cases hq : ibytes L = B
        · obtain ⟨v1, v2⟩ := HVE.out
          rw [if_pos ⟨hr, hq⟩] at v1 v2
          subst v1 v2
          have hst : strB (ibytes V) = strB B := by rw [hq]
          generalize ibytes V = X at HY hst hb6
          generalize hS2 : strB B = S2 at hst
          replace hst := Lib.hid hst
          replace hS2 := Lib.hid hS2
          by_cases k1 : (k : Int) < 17
          all_goals try have a1 : ¬ ((at_ : Int) + 3 < (n : Int)) := by omega
          all_goals go_upto_region 18 with fail
          all_goals go_wp2_with fail
          all_goals refine HY.out.mono ?_
          all_goals rintro e w2 ⟨o6, c6, rfl, hR6, u6⟩
          all_goals have hR6' := Lib.hid hR6
          all_goals have HB2 : Hid (RowIn .u8 w2 (.slice ao n cap) B) := Lib.hid (by have := HB.out.kept (hU.out.trans u6); rwa [hn'.out] at this)
          all_goals have U6 := Lib.hid (hU.out.trans u6)
          all_goals have Hin2 := Lib.hid (Hin.out.kept u6)
          all_goals clear hR6 u6 HY Hin
          all_goals go_wp2_with (first
            | (refine wpList_strB rfl 23 9 (.tmp 97) rfl 5 o6 X.length c6 X rfl rfl hR6'.out Try.underlying23 Try.underlying5 Try.underlying9 S2 hst.out ?_)
            | (refine wpList_strB rfl 23 9 (.tmp 99) rfl 5 ao n cap B rfl hn'.out.symm HB2.out Try.underlying23 Try.underlying5 Try.underlying9 S2 hS2.out ?_))
          all_goals go_ret2
          all_goals rw [hV0.out, hE0.out, HLl.out]
          all_goals exact ⟨o4, c4, rfl, Hin2.out, U6.out⟩
        · obtain ⟨v1, v2⟩ := HVE.out
          rw [if_neg (fun h => hq h.2)] at v1 v2
          subst v1 v2
          have hst : strB (ibytes L) ≠ strB B := fun h => hq (strB_inj hb6.out Hb.out h)
          generalize ibytes L = X at HY hst hb6
          generalize hS1 : strB X = S1 at hst
          generalize hS2 : strB B = S2 at hst
          have hne : (S1.toList == S2.toList) = false := str_ne14 hst
          clear hst
          replace hS1 := Lib.hid hS1
          replace hS2 := Lib.hid hS2
          clear hq
          by_cases k1 : (k : Int) < 17
          all_goals try have a1 : ¬ ((at_ : Int) + 3 < (n : Int)) := by omega
          all_goals go_upto_region 18 with fail
          all_goals go_wp2_with fail
          all_goals refine HY.out.mono ?_
          all_goals rintro e w2 ⟨o6, c6, rfl, hR6, u6⟩
          all_goals have hR6' := Lib.hid hR6
          all_goals have HB2 : Hid (RowIn .u8 w2 (.slice ao n cap) B) := Lib.hid (by have := HB.out.kept (hU.out.trans u6); rwa [hn'.out] at this)
          all_goals have U6 := Lib.hid (hU.out.trans u6)
          all_goals clear hR6 u6 HY Hin
          all_goals go_wp2_with (first
            | (refine wpList_strB rfl 23 9 (.tmp 97) rfl 5 o6 X.length c6 X rfl rfl hR6'.out Try.underlying23 Try.underlying5 Try.underlying9 S1 hS1.out ?_)
            | (refine wpList_strB rfl 23 9 (.tmp 99) rfl 5 ao n cap B rfl hn'.out.symm HB2.out Try.underlying23 Try.underlying5 Try.underlying9 S2 hS2.out ?_))
          all_goals go_ret2
          all_goals rw [hV0.out, hE0.out]
          all_goals exact ⟨none, 0, rfl, PartsIn.nil, U6.out⟩
      · have e1 : byE L = 1 := by unfold byE; rw [if_neg hr]
        obtain ⟨v1, v2⟩ := HVE.out
        rw [if_neg (fun h => hr h.1)] at v1 v2
        subst v1 v2
        rw [e1] at HY
        generalize byV L = X at HY
        by_cases k1 : (k : Int) < 17
        all_goals try have a1 : ¬ ((at_ : Int) + 3 < (n : Int)) := by omega
        all_goals go_upto_region 18 with fail
        all_goals go_wp2_with fail
        all_goals refine HY.out.mono ?_
        all_goals rintro e w2 ⟨o6, c6, rfl, hR6, u6⟩
        all_goals have U6 := Lib.hid (hU.out.trans u6)
        all_goals clear hR6 u6 HY Hin
        all_goals go_wp2
        all_goals go_ret2
        all_goals rw [hV0.out, hE0.out]
        all_goals exact ⟨none, 0, rfl, PartsIn.nil, U6.out⟩
    obtain ⟨hk17, hatn⟩ := hcont
    have k1 : (k : Int) < 17 := by omega
    have a1 : (at_ : Int) + 3 < (n : Int) := by omega
    have a2 : (0 : Int) ≤ (at_ : Int) + 1 := by omega
    have a3 : (at_ : Int) + 1 < (n : Int) := by omega
    have a4 : (0 : Int) ≤ (at_ : Int) + 2 := by omega
    have a5 : (at_ : Int) + 2 < (n : Int) := by omega
    have a6 : (0 : Int) ≤ (at_ : Int) := by omega
    have a7 : (at_ : Int) < (n : Int) := by omega
    have a8 : (0 : Int) ≤ (at_ : Int) + 3 := by omega
    have t1 : ((at_ : Int) + 1).toNat = at_ + 1 := by omega
    have t2 : ((at_ : Int) + 2).toNat = at_ + 2 := by omega
    have t3 : ((at_ : Int) + 3).toNat = at_ + 3 := by omega
    have v1 : IntKind.i64.wrap ((at_ : Int) + 1) = (at_ : Int) + 1 := IntWalk.i64_in _ (by omega)
    have v2 : IntKind.i64.wrap ((at_ : Int) + 2) = (at_ : Int) + 2 := IntWalk.i64_in _ (by omega)
    obtain ⟨b, off, rfl, hbb, hcell⟩ := RowIn.at' HB.out rfl at_ (by rw [hn'.out]; omega)
    have hstep := Lib.hid (rdK_yes (b := B) (k := k) (by rw [hkl.out.2, hn'.out]; exact hatn))
    rw [hkl.out.2] at hstep
    have hS := Lib.hid (show ∀ W, Upd (fun _ => False) w W → ∀ i, i < n → W.cell? ⟨b, off + i, none⟩ = some (.int .u8 (bAt B i)) from fun W u i hi => u.cell (hcell i (by rw [hn'.out]; exact hi)) id)
    clear hcell hbb
    have hus := hU.out.size
    have HL := Lib.hid (rdK_len B k)
    have x0b := bAt_bd Hb.out at_
    have x1b := bAt_bd Hb.out (at_ + 1)
    have x2b := bAt_bd Hb.out (at_ + 2)
    have x3b := bAt_bd Hb.out (at_ + 3)
    have E0 := Lib.hid (fun W u => hS.out W u at_ (by omega))
    have E1 := Lib.hid (fun W u => hS.out W u (at_ + 1) (by omega))
    have E2 := Lib.hid (fun W u => hS.out W u (at_ + 2) (by omega))
    have E3 := Lib.hid (fun W u => hS.out W u (at_ + 3) (by omega))
    have hpt := Lib.hid (show ptAt B at_ = ⟨bAt B at_ * 256 + bAt B (at_ + 1), decide (bAt B (at_ + 2) = 1), wsAt B (at_ + 4) (nW B at_)⟩ from rfl)
    have hnw := Lib.hid (show nW B at_ = min (bAt B (at_ + 3)).toNat ((n - (at_ + 4)) / 8) from by rw [← hn'.out]; rfl)
    generalize bAt B at_ = x0 at E0 x0b hpt
    generalize bAt B (at_ + 1) = x1 at E1 x1b hpt
    generalize bAt B (at_ + 2) = x2 at E2 x2b hpt
    generalize bAt B (at_ + 3) = x3 at x3b hnw E3
    have y0 : IntKind.i64.wrap x0 = x0 := IntWalk.i64_in _ (by omega)
    have y1 : IntKind.i64.wrap (x0 * 256) = x0 * 256 := IntWalk.i64_in _ (by omega)
    have y2 : IntKind.i64.wrap x1 = x1 := IntWalk.i64_in _ (by omega)
    have y3 : IntKind.i64.wrap (x0 * 256 + x1) = x0 * 256 + x1 := IntWalk.i64_in _ (by omega)
    have y4 : IntKind.i64.wrap x3 = x3 := IntWalk.i64_in _ (by omega)
    have hK := Lib.hid (show ∀ W, Upd (fun _ => False) w W → W.cell? ⟨b, off + at_, none⟩ = some (.int .u8 x0) ∧ W.cell? ⟨b, off + (at_ + 1), none⟩ = some (.int .u8 x1) ∧ W.cell? ⟨b, off + (at_ + 2), none⟩ = some (.int .u8 x2) from fun W u => ⟨E0.out W u, E1.out W u, E2.out W u⟩)
    clear E0 E1 E2
    go_upto_region 4 with fail
    go_region_held3 (fun w' => w'.cell? ⟨b, off + at_, none⟩ = some (.int .u8 x0) ∧ w'.cell? ⟨b, off + (at_ + 1), none⟩ = some (.int .u8 x1) ∧ w'.cell? ⟨b, off + (at_ + 2), none⟩ = some (.int .u8 x2))
      (first
        | assumption
        | exact hK.out _ hU.out.drew
        | exact hK.out _ (hU.out.alloc _).drew
        | exact hK.out _ (hU.out.drew.alloc _))
      (fail)
    have X5 : Hid ((wr.alloc (.cells #[.int .i64 (x0 * 256 + x1), .bool (x2 == 1), .slice none 0 0] 46)).drew.heap[wr.heap.size]? = some (.cells [.int .i64 (x0 * 256 + x1), .bool (x2 == 1), .slice none 0 0].toArray 46 (0, 0))) := Lib.hid (heap_alloc_last wr _)
    have V5 := Lib.hid ((Upd.refl (fun _ => False) wr).alloc (.cells #[.int .i64 (x0 * 256 + x1), .bool (x2 == 1), .slice none 0 0] 46)).drew
    have hpt' : Hid (ptAt B at_ = ⟨x0 * 256 + x1, (x2 == 1), wsAt B (at_ + 4) (nW B at_)⟩) := Lib.hid (by
      rw [hpt.out]
      congr 1)
    have hE4 := Lib.hid (hU.out.trans V5.out)
    have e3 := E3.out _ hE4.out
    clear hpt hK hat v1 v2 y0 y1 y2 y3 E3 a2 a3 a4 a5 t1 t2
    generalize x0 * 256 + x1 = pg at X5 V5 hpt' hE4 e3 ⊢
    generalize (x2 == 1) = pw at X5 V5 hpt' hE4 e3 ⊢
    generalize (wr.alloc (.cells #[.int .i64 pg, .bool pw, .slice none 0 0] 46)).drew = W5 at X5 V5 hE4 e3 ⊢
    generalize hP : wr.heap.size = P at X5 hus ⊢
    replace hP := Lib.hid hP
    obtain ⟨x30, x31⟩ := x3b
    have hx3 : x3.toNat ≤ 255 := by omega
    obtain ⟨q3, rfl⟩ : ∃ q3 : Nat, x3 = (q3 : Int) := ⟨x3.toNat, by omega⟩
    have r0 := Lib.hid (show W5.ownsRow P 43 1 (.slice none 0 0) 0 (ints .u64 (wsAt B (at_ + 4) 0)) from rows_new W5 _ _ _)
    have hnl := Lib.hid (nW_le B at_)
    rw [Int.toNat_natCast] at hnw
    generalize nW B at_ = Q at hstep hpt' hnw hnl
    go_upto_region 8 with fail
    go_loopw [8, 5] (fun t s wk => ∃ (j : Nat) (v : Option Addr) (c : Nat), j ≤ Q ∧ t = .int .i64 j ∧ s = .int .i64 ((at_ + 4 + 8 * j : Nat) : Int) ∧ Hid (wk.heap[P]? = some (.cells [.int .i64 pg, .bool pw, .slice v j c].toArray 46 (0, 0))) ∧ Hid (wk.ownsRow P 43 1 (.slice v j c) j (ints .u64 (wsAt B (at_ + 4) j))) ∧ Hid (Upd (fun _ => False) wr wk)) (fun t _ _ => q3 - (intOf t).toNat)
    case atStart => exact ⟨0, none, 0, by omega, rfl, by go_num, X5, r0, V5⟩
    case round =>
      clear X5 r0 V5 hE4 e3
      obtain ⟨j, v, c, hj, rfl, rfl, hX, hr, hV⟩ := hrel
      obtain ⟨z0, z1, z2⟩ := part_cells hX.out
      have hUj := Lib.hid (hU.out.trans hV.out)
      have hQ : Q ≤ q3 := by have := hnw.out; omega
      generalize hA : at_ + 4 + 8 * j = A
      by_cases hjQ : j < Q
      · have hAn : A + 7 < n := by have := hnw.out; omega
        have f1 : (j : Int) < (q3 : Int) := by omega
        have f2 : (A : Int) + 7 < (n : Int) := by omega
        have f3 : (0 : Int) ≤ (A : Int) := by omega
        have hn2 : (n : Int) ≤ 1000000 := by omega
        go_upto_region 12 with fail
        go_loopw [10, 9] (fun t s wk => ∃ i : Nat, i ≤ 8 ∧ t = .int .i64 i ∧ s = .int .u64 (wPart B A i) ∧ wk = wr) (fun t _ _ => 8 - (intOf t).toNat)
        case atStart => exact ⟨0, by omega, rfl, rfl, rfl⟩
        case round =>
          obtain ⟨i, hi, rfl, rfl, rfl⟩ := hrel
          by_cases hi8 : i < 8
          · have g1 : (0 : Int) ≤ (A : Int) + (i : Int) := by omega
            have g2 : (A : Int) + (i : Int) < (n : Int) := by omega
            have g3 : IntKind.i64.wrap ((A : Int) + (i : Int)) = (A : Int) + (i : Int) := IntWalk.i64_in _ (by omega)
            have g4 : ((A : Int) + (i : Int)).toNat = A + i := by omega
            have hc := hS.out _ hUj.out (A + i) (by omega)
            have hbd := bAt_bd Hb.out (A + i)
            have hw0 := wPart_bd Hb.out A i
            have hp := pow256 i hi8
            have hnx := Lib.hid (show wPart B A (i + 1) = wPart B A i * 256 + bAt B (A + i) from rfl)
            generalize wPart B A i = y at hw0 hnx
            generalize bAt B (A + i) = z at hc hbd hnx
            have g5 : IntKind.u64.wrap (y * 256) = y * 256 := IntWalk.u64_in _ (by omega)
            have g6 : IntKind.u64.wrap z = z := IntWalk.u64_in _ (by omega)
            have g7 : IntKind.u64.wrap (y * 256 + z) = y * 256 + z := IntWalk.u64_in _ (by omega)
            clear hw0 hp hbd
            go_wp2
            exact ⟨⟨i + 1, by omega, by go_num, by rw [hnx.out], by trivial⟩, by simp [intOf]; omega⟩
          · obtain rfl : i = 8 := by omega
            have hws := Lib.hid (wsAt_succ B (at_ + 4) j)
            rw [hA] at hws
            rw [show wPart B A 8 = wAt B A from rfl]
            have hlt := lt_of_heap hX.out
            have hne := img_ne hr.out hX.out (by decide)
            have hneH := Lib.hid hne
            clear hne
            generalize wAt B A = y at hws ⊢
            go_upto_region 16 with (at_builtin; refine wpList_append_own _ rfl _ _ 40 rfl P 43 j0 (.int .u64 0) 1 8 Try.underlying40 hj0 hy0 hy1 hy2 rfl (by decide) _ _ _ rfl (rows_still hr.out ((Upd.refl _ _).alloc _)) ⟨wr.heap.size, 0, none⟩ 1 1 [.int .u64 y] rfl rfl (rows_src _ _ _) (by simp [Value.oneCell']) (by simp [maxLen]; omega) (by omega) (by simp; omega) ?_; intro v' w4 hown' hgrow _; have X4 := Lib.hid (grown_box (v := .slice v j c) hgrow hX.out hneH.out); obtain ⟨s0, s1, s2⟩ := part_cells X4.out; have fz := frozen_block X4.out 2; obtain ⟨o', c', rfl⟩ := rows_slice hown')
            have V4 := rows_grown hr.out hgrow hV.out (Nat.le_of_eq hP.out)
            have V6 := Lib.hid (V4.setCell (p := ⟨P, 2, none⟩) (.inr (Nat.le_of_eq hP.out)) (.slice o' (j + 1) c'))
            have X6 := Lib.hid (heap_setCell_same X4.out 2 (.slice o' (j + 1) c'))
            have R6 : Hid ((w4.setCell ⟨P, 2, none⟩ (.slice o' (j + 1) c')).ownsRow P 43 1 (.slice o' (j + 1) c') (j + 1) (ints .u64 (wsAt B (at_ + 4) (j + 1)))) := Lib.hid (by
              rw [hws.out, ints, List.map_append]
              exact rows_kept (S := (· = P)) hown' (Upd.setCell (S := (· = P)) (p := ⟨P, 2, none⟩) (Upd.refl _ _) (.inl rfl) _) (img_ne hown' X4.out (by decide)))
            clear hgrow hown' V4 X4 s0 s1 s2 fz hX hr hV hUj z0 z1 z2
            go_wp2
            exact ⟨⟨j + 1, o', c', by omega, by go_num, by congr 1; omega, X6, R6, V6⟩, by simp [intOf]; omega⟩
      · obtain rfl : j = Q := by omega
        have f0 : q3 ≤ j ∨ n ≤ A + 7 := by have := hnw.out; omega
        have hAn : A ≤ n := by have := hnw.out; omega
        have hrow6 := Lib.hid (rows_still hrow.out hV.out)
        have hC6 := Lib.hid ((hC.out.still hV.out).snoc (p := ptAt B at_) (ao := v) (cap := c) (by rw [hpt'.out]; simp only [wsAt_len]; exact rows_low hr.out hus))
        rw [hpt'.out] at hC6 hstep
        rw [show ptC ⟨pg, pw, wsAt B (at_ + 4) j⟩ v c = [.int .i64 pg, .bool pw, .slice v j c] from by unfold ptC; rw [wsAt_len]] at hC6
        rw [← hkl.out.1] at hk17
        by_cases f1 : (j : Int) < (q3 : Int)
        all_goals try have f2 : ¬ ((A : Int) + 7 < (n : Int)) := by omega
        all_goals go_upto_region 17 with fail
        all_goals have hg6 := Lib.hid (part_range z0 z1 z2)
        all_goals have hlow := Nat.le_refl w.heap.size
        all_goals have hus6 := hUj.out.size
        all_goals clear hX z0 z1 z2
        all_goals go_wp2_with (first
          | (with_reducible refine wpList_load_sz rfl 46 (.tmp 6) rfl P 0 rfl [.int .i64 pg, .bool pw, .slice v j c] _ hg6.out Try.underlying46 rfl 3 (rpart_len _ _ _) size_rpart ?_)
          | (at_builtin; refine wpList_append_own _ rfl _ _ 30 rfl w.heap.size 46 i0 (.agg #[.int .i64 0, .bool false, .slice none 0 0]) 3 40 Try.underlying30 hi0 hz0 hz1 hz2 rfl (by decide) _ _ _ rfl (rows_still hrow6.out ((Upd.refl _ _).alloc _)) ⟨wr.heap.size, 0, none⟩ 1 1 [.int .i64 pg, .bool pw, .slice v j c] rfl rfl (rows_src _ _ _) (by simp [Value.oneCell']) (by simp [maxLen]; omega) (by omega) (by simp; omega) ?_; intro v' w4 hown' hgrow _; have U4 := Lib.hid (rows_grown hrow6.out hgrow hUj.out hlow); have C4 := Lib.hid (hC6.out.kept (grown_upd (v := .slice o4 k c4) hgrow) (own_ty hrow6.out (by decide))); have R4 := Lib.hid hown'; clear hown' hgrow))
        all_goals refine ⟨⟨k + 1, A, _, by omega, by omega, rfl, Lib.hid ?_, R4, ?_, U4⟩, by simp [intOf]; omega⟩
        all_goals rw [hstep.out]
        all_goals first | exact C4 | exact ⟨by rw [List.length_append, hkl.out.1]; rfl, hA⟩
end Go.Proofs.Ytkclojinokkikaa

/-
  The program's reader: the part that comes next.
-/
namespace Go.Proofs.Ytkclojinokkikaa
open Go.ChangeShapes Go.WideShapes Go.ChangeAt Go.RowKit

theorem wPart_drop (C : List Int) (d a : Nat) : ∀ m, wPart (C.drop d) a m = wPart C (d + a) m
  | 0 => rfl
  | m + 1 => by
    rw [wPart, wPart, wPart_drop C d a m]
    unfold bAt
    rw [drop_getD, Nat.add_assoc]
theorem wPart1 (C : List Int) (d : Nat) : wPart C d 1 = bAt C d := by simp [wPart]
/-- number, within bytes -/
def NumQ (N R : Nat) (C : List Int) (d m : Nat) (w : World) (e : Ending) (w' : World) : Prop :=
  (d + m ≤ C.length ∧ e = .returned (.int .u64 (wPart C d m)) ∧ RdAt w' N R (C.drop (d + m)) ∧ Upd (· = R) w w') ∨ (C.length < d + m ∧ e = .panicked [endP] ∧ Upd (fun _ => False) w w')
theorem gnum_at (N R : Nat) (C : List Int) (d m : Nat) (w : World) (hd : d ≤ C.length) (hm0 : 1 ≤ m) (hm : m ≤ 8) (hR : RdAt w N R (C.drop d)) (hb : ∀ x, x ∈ C → 0 ≤ x ∧ x < 256) (hC : C.length ≤ 1000000) :
    Calls Try.prog 20 #[.pointer (some ⟨R, 0, none⟩), .int .i64 m] w (NumQ N R C d m w) := by
  refine (gnum_any N R (C.drop d) m w hm0 hm hR (fun x hx => hb x (List.mem_of_mem_drop hx)) (by rw [List.length_drop]; omega)).mono ?_
  rintro e w' (⟨h1, h2, h3, h4⟩ | ⟨h1, h2, h3⟩)
  · rw [List.length_drop] at h1
    rw [wPart_drop, Nat.add_zero] at h2
    rw [List.drop_drop] at h3
    exact .inl ⟨by omega, h2, h3, h4⟩
  · rw [List.length_drop] at h1
    exact .inr ⟨by omega, h2, h3⟩
/-- is there a whole part? -/
def okP (C : List Int) : Prop := 4 ≤ C.length ∧ bAt C 2 ≤ 1 ∧ 4 + 8 * (bAt C 3).toNat ≤ C.length
/-- what part answers -/
def PartP (N R : Nat) (C : List Int) (w : World) (e : Ending) (w' : World) : Prop :=
  (okP C ∧ ∃ o c, e = .returned (.tuple #[.agg #[.int .i64 (wPart C 0 2), .bool (bAt C 2 == 1), .slice o (bAt C 3).toNat c], .bool true]) ∧ w'.ownsRow w.heap.size 43 1 (.slice o (bAt C 3).toNat c) (bAt C 3).toNat (ints .u64 (wsAt C 4 (bAt C 3).toNat)) ∧ RdAt w' N R (C.drop (4 + 8 * (bAt C 3).toNat)) ∧ Upd (· = R) w w')
  ∨ (¬ okP C ∧ (e = .panicked [endP] ∨ e = .returned (.tuple #[.agg #[.int .i64 0, .bool false, .slice none 0 0], .bool false])) ∧ Upd (· = R) w w')
theorem ret_part {fn : Func} {p u : Tmp} (h : fn.results = #[.cell p 42, .tmp u]) (tmps : Array Value) (w : World) (b : Nat) (x : Int) (y : Bool) (z : Value) (hp : tmps.getD p undef = .pointer (some ⟨b, 0, none⟩)) (he : w.heap[b]? = some (.cells [.int .i64 x, .bool y, z].toArray 42 (0, 0))) :
    (results fn tmps).run Try.prog w = .ok (.tuple #[.agg #[.int .i64 x, .bool y, z], tmps.getD u undef]) w := by
  obtain ⟨h0, h1, h2⟩ := part_cells he
  rw [results_cell_tmp h, hp]
  have := run_loadVar_mid w b 0 42 [.int .i64 x, .bool y, z] _ (part_range h0 h1 h2) Try.underlying42 rfl size_gpart
  simp only [asAddr, Sem.run_pure, Result.andThen_ok]
  rw [this]
  rfl
theorem gp_sz (x : Int) (y : Bool) (o : Option Addr) (n c : Nat) : (#[.int .i64 x, .bool y, .slice o n c] : Array Value).size = 3 := rfl
theorem gp_one (x : Int) (y : Bool) (o : Option Addr) (n c : Nat) : (#[.int .i64 x, .bool y, .slice o n c] : Array Value).all (·.oneCell') = true := by simp [Value.oneCell']
theorem gp_ls (x : Int) (y : Bool) (o : Option Addr) (n c : Nat) : (#[.int .i64 x, .bool y, .slice o n c] : Array Value).toList = [.int .i64 x, .bool y, .slice o n c] := rfl
theorem there3 {w : World} {b : Nat} {t : TypeId} {x y z : Value} (h : w.heap[b]? = some (.cells [x, y, z].toArray t (0, 0))) : w.there b 0 3 := fun j hj => by
  obtain ⟨h0, h1, h2⟩ := part_cells h
  refine ⟨?_, frozen_block h _⟩
  match j, hj with
  | 0, _ => rw [h0]; rfl
  | 1, _ => rw [h1]; rfl
  | 2, _ => rw [h2]; rfl
theorem set3 {w : World} {b : Nat} {t : TypeId} {x y z : Value} (h : w.heap[b]? = some (.cells [x, y, z].toArray t (0, 0))) (x' y' z' : Value) : (w.setCells b 0 [x', y', z']).heap[b]? = some (.cells [x', y', z'].toArray t (0, 0)) :=
  heap_setCells_same b _ [x', y', z'] 0 w _ h (by simp)
theorem set_words (C : List Int) (a i k : Nat) (h : i < k) : (ints .u64 (wsAt C a i ++ List.replicate (k - i) 0)).set i (.int .u64 (wPart C (a + 8 * i) 8)) = ints .u64 (wsAt C a (i + 1) ++ List.replicate (k - (i + 1)) 0) := by
  rw [wsAt_succ, show k - i = (k - (i + 1)) + 1 from by omega, List.replicate_succ]
  unfold ints
  rw [List.map_append, List.map_cons, List.set_append_right _ _ (by rw [List.length_map, wsAt_len]; exact Nat.le_refl _), List.length_map, wsAt_len, Nat.sub_self, List.set_cons_zero, List.append_assoc, List.map_append]
  rfl
theorem row_whole {w : World} {K k N : Nat} {W : List Int} (h : w.heap[K]? = some (.cells (ints .u64 W).toArray 43 (0, 0))) (hk : W.length = k) (hN : N ≤ K) (hm : k ≤ 255) : w.ownsRow N 43 1 (.slice (some ⟨K, 0, none⟩) k k) k (ints .u64 W) :=
  ⟨by simp [ints, hk], .inr ⟨K, k, (ints .u64 W).toArray, rfl, hN, h, Nat.le_refl _, by simp [maxLen]; omega, by simp [ints, hk], by rw [Nat.mul_one, List.take_of_length_le (by simp [ints, hk])]⟩⟩
set_option maxRecDepth 100000 in
set_option maxHeartbeats 4000000 in
theorem gpart_any (N R : Nat) (C : List Int) (w : World) (hR : RdAt w N R C) (hb : ∀ x, x ∈ C → 0 ≤ x ∧ x < 256) (hC : C.length ≤ 1000000) :
    Calls Try.prog 21 #[.pointer (some ⟨R, 0, none⟩)] w (PartP N R C w) := by
  have hn2 := Lib.hid (fun W (h : RdAt W N R (C.drop 0)) => gnum_at N R C 0 2 W (Nat.zero_le _) (by decide) (by decide) h hb hC)
  have hn1 := Lib.hid (fun W d (hd : d ≤ C.length) (h : RdAt W N R (C.drop d)) => gnum_at N R C d 1 W hd (by decide) (by decide) h hb hC)
  have hn8 := Lib.hid (fun W d (hd : d ≤ C.length) (h : RdAt W N R (C.drop d)) => gnum_at N R C d 8 W hd (by decide) (by decide) h hb hC)
  have Hb := Lib.hid hb
  have hNR := Lib.hid hR.hN
  have hRlt := hR.lt
  have X1 : Hid ((w.alloc (.cells #[.int .i64 0, .bool false, .slice none 0 0] 42)).heap[w.heap.size]? = some (.cells [.int .i64 0, .bool false, .slice none 0 0].toArray 42 (0, 0))) := Lib.hid (heap_alloc_last _ _)
  have U1 := Lib.hid ((Upd.refl (· = R) w).alloc (.cells #[.int .i64 0, .bool false, .slice none 0 0] 42))
  have R1 : Hid (RdAt (w.alloc (.cells #[.int .i64 0, .bool false, .slice none 0 0] 42)) N R (C.drop 0)) := Lib.hid (hR.kept ((Upd.refl (fun _ => False) w).alloc _) (fun h => h) (fun _ h => h.elim))
  clear hb hR
  go_enter Try.func21, Try.ntmps21
  go_wp2_with fail
  generalize hP : w.heap.size = P at X1 hRlt ⊢
  replace hP := Lib.hid hP
  generalize w.alloc (.cells #[.int .i64 0, .bool false, .slice none 0 0] 42) = w1 at X1 U1 R1 ⊢
  refine (hn2.out w1 R1.out).mono ?_
  rintro e w2 (⟨l2, rfl, R2, U2⟩ | ⟨l2, rfl, U2⟩)
  rotate_left
  · refine ⟨rfl, .inr ⟨fun h => by have := h.1; omega, .inl rfl, U1.out.trans (U2.mono fun _ _ h => h.elim)⟩⟩
  have X2 := Lib.hid (U2.at X1.out (by omega))
  have V2 := Lib.hid (U1.out.trans U2)
  have R2' := Lib.hid R2
  clear X1 U1 R1 R2 U2
  go_wp2_with fail
  refine (hn1.out w2 2 l2 R2'.out).mono ?_
  rintro e w3 (⟨l3, rfl, R3, U3⟩ | ⟨l3, rfl, U3⟩)
  rotate_left
  · refine ⟨rfl, .inr ⟨fun h => by have := h.1; omega, .inl rfl, V2.out.trans (U3.mono fun _ _ h => h.elim)⟩⟩
  have X3 := Lib.hid (U3.at X2.out (by omega))
  have V3 := Lib.hid (V2.out.trans U3)
  have R3' := Lib.hid R3
  clear X2 V2 R2' R3 U3
  rw [wPart1]
  have hpg := wPart_bd Hb.out 0 2
  have hx2 := bAt_bd Hb.out 2
  have hx3 := bAt_bd Hb.out 3
  have hYes := Lib.hid (fun o c w' (h : okP C) h1 h2 h3 => show PartP N R C w (.returned (.tuple #[.agg #[.int .i64 (wPart C 0 2), .bool (bAt C 2 == 1), .slice o (bAt C 3).toNat c], .bool true])) w' from .inl ⟨h, o, c, rfl, h1, h2, h3⟩)
  have hNo := Lib.hid (fun e w' (h : ¬ okP C) h1 h2 => show PartP N R C w e w' from .inr ⟨h, h1, h2⟩)
  have hok := Lib.hid (show okP C ↔ 4 ≤ C.length ∧ bAt C 2 ≤ 1 ∧ 4 + 8 * (bAt C 3).toNat ≤ C.length from Iff.rfl)
  generalize wPart C 0 2 = pg at hpg hYes ⊢
  generalize bAt C 2 = x2 at hx2 hYes hok ⊢
  go_wp2_with fail
  refine (gflag_any true _).mono ?_
  rintro e w4 ⟨rfl, rfl⟩
  rw [show wrB true = 1 from rfl]
  have K3 := Lib.hid (there3 X3.out)
  by_cases h2 : 1 < x2
  · go_wp2_with (with_reducible refine wpList_store_sz rfl 42 (.tmp 2) (.tmp 15) rfl P 0 #[.int .i64 0, .bool false, .slice none 0 0] rfl rfl 3 (gp_sz _ _ _ _ _) K3.out size_gpart (gp_one _ _ _ _ _) [.int .i64 0, .bool false, .slice none 0 0] (gp_ls _ _ _ _ _) ?_)
    (try simp only [Exit.inBlock, Exit.then])
    refine bodyPost_ret (ret_part rfl _ _ P 0 false (.slice none 0 0) rfl (set3 X3.out _ _ _)) rfl ?_
    exact hNo.out _ _ (fun h => by have := (hok.out.1 h).2.1; omega) (.inr rfl) (Upd.setCells (.inr (Nat.le_of_eq hP.out)) _ _ V3.out)
  go_wp2_with fail
  refine (hn1.out w4 3 (by omega) R3'.out).mono ?_
  rintro e w5 (⟨l5, rfl, R5, U5⟩ | ⟨l5, rfl, U5⟩)
  rotate_left
  · refine ⟨rfl, ?_⟩
    exact hNo.out _ _ (fun h => by have := (hok.out.1 h).1; omega) (.inl rfl) (V3.out.trans (U5.mono fun _ _ h => h.elim))
  have X5 := Lib.hid (U5.at X3.out (by omega))
  have V5 := Lib.hid (V3.out.trans U5)
  have R5' := Lib.hid R5
  clear X3 V3 R3' R5 U5 K3
  rw [wPart1]
  generalize bAt C 3 = x3 at hx3 hYes hok ⊢
  obtain ⟨x30, x31⟩ := hx3
  obtain ⟨k, rfl⟩ : ∃ k : Nat, x3 = (k : Int) := ⟨x3.toNat, by omega⟩
  rw [Int.toNat_natCast] at hYes hok
  have hk : k ≤ 255 := by omega
  have hC0 := Lib.hid (show madeCells (Value.int .u64 0).cells (k * 1) = (ints .u64 (wsAt C 4 0 ++ List.replicate (k - 0) 0)).toArray from by
    rw [Nat.mul_one]
    have := madeCells_same (.int .u64 0) 1 k (by decide)
    simp only [List.replicate_one] at this
    rw [show (Value.int IntKind.u64 0).cells = [Value.int IntKind.u64 0].toArray from rfl, this]
    simp [ints, wsAt])
  go_upto_region 6 with (with_reducible refine wpList_make_exact rfl (.tmp 17) (.tmp 17) 40 rfl 43 _ 1 8 Try.underlying40 info_u64i .u64 .u64 k rfl rfl (by omega) (by omega) _ hC0.out ?_)
  have X6 := Lib.hid ((Upd.refl (fun _ => False) w5).alloc (.cells (ints .u64 (wsAt C 4 0 ++ List.replicate k 0)).toArray 43))
  have Y6 : Hid ((w5.alloc (.cells (ints .u64 (wsAt C 4 0 ++ List.replicate k 0)).toArray 43)).heap[w5.heap.size]? = some (.cells (ints .u64 (wsAt C 4 0 ++ List.replicate (k - 0) 0)).toArray 43 (0, 0))) := Lib.hid (heap_alloc_last _ _)
  have V6 := Lib.hid (V5.out.trans (X6.out.mono (fun _ _ h => h.elim)))
  have Z6 := Lib.hid (X6.out.at X5.out id)
  have R6 := Lib.hid (R5'.out.kept X6.out id (fun _ h => h.elim))
  have hs5 := V5.out.size
  have hPK := lt_of_heap X5.out
  have hRK : R < w5.heap.size := Nat.lt_of_lt_of_le hRlt (by rw [hP.out] at hs5; exact hs5)
  rw [hP.out] at hs5
  clear X6 hC0 X5 V5 R5'
  generalize w5.alloc (.cells (ints .u64 (wsAt C 4 0 ++ List.replicate k 0)).toArray 43) = w6 at Y6 V6 Z6 R6 ⊢
  generalize w5.heap.size = K at Y6 hs5 hPK hRK ⊢
  go_wp2_with fail
  go_loopw [21] (fun t wr => ∃ i : Nat, i ≤ k ∧ t = .int .i64 i ∧ 4 + 8 * i ≤ C.length ∧ Hid (RdAt wr N R (C.drop (4 + 8 * i))) ∧ Hid (wr.heap[K]? = some (.cells (ints .u64 (wsAt C 4 i ++ List.replicate (k - i) 0)).toArray 43 (0, 0))) ∧ Hid (wr.heap[P]? = some (.cells [.int .i64 0, .bool false, .slice none 0 0].toArray 42 (0, 0))) ∧ Hid (Upd (· = R) w wr)) (fun t _ => k - (intOf t).toNat)
  case atStart => exact ⟨0, by omega, rfl, by omega, R6, Y6, Z6, V6⟩
  case round =>
    clear R6 Y6 Z6 V6
    obtain ⟨i, hi, rfl, h4, hr, hK, hZ, hU⟩ := hrel
    by_cases hlt : i < k
    · have q0 : (0 : Int) ≤ (i : Int) := by omega
      have q1 : (i : Int) < (k : Int) := by omega
      go_wp2_with fail
      refine (hn8.out wr (4 + 8 * i) h4 hr.out).mono ?_
      rintro e w7 (⟨l7, rfl, R7, U7⟩ | ⟨l7, rfl, U7⟩)
      rotate_left
      · refine ⟨rfl, ?_⟩
        exact hNo.out _ _ (fun h => by have := (hok.out.1 h).2.2; omega) (.inl rfl) (hU.out.trans (U7.mono fun _ _ h => h.elim))
      have Y7 := Lib.hid (U7.at hK.out (by omega))
      have Z7 := Lib.hid (U7.at hZ.out (by omega))
      have V7 := Lib.hid (hU.out.trans U7)
      have R7' := Lib.hid R7
      have hset := Lib.hid (set_words C 4 i k hlt)
      clear R7 U7 hK hZ hU hr
      have hc : w7.cell? ⟨K, i, none⟩ = some (.int .u64 0) := by
        rw [cell_of_row _ _ _ _ _ _ Y7.out, List.getElem?_toArray, ints_getElem? _ _ _ (by rw [List.length_append, wsAt_len, List.length_replicate]; omega)]
        rw [List.getD_eq_getElem?_getD, List.getElem?_append_right (by rw [wsAt_len]; exact Nat.le_refl _), wsAt_len, Nat.sub_self, List.getElem?_replicate, if_pos (by omega)]
        rfl
      have fz := frozen_block Y7.out i
      have hx := Lib.hid (wPart_bd Hb.out (4 + 8 * i) 8)
      have Y8 := Lib.hid (heap_setCell_same Y7.out i (.int .u64 (wPart C (4 + 8 * i) 8)))
      rw [hset.out] at Y8
      have U8 : Upd (· = K) w7 (w7.setCell ⟨K, i, none⟩ (.int .u64 (wPart C (4 + 8 * i) 8))) := Upd.setCell (S := (· = K)) (p := ⟨K, i, none⟩) (Upd.refl _ _) (.inl rfl) _
      have Z8 := Lib.hid (U8.at Z7.out (by omega))
      have R8 := Lib.hid (R7'.out.kept U8 (by omega) (fun j h => by have := hNR.out; omega))
      have V8 := Lib.hid (V7.out.setCell (p := ⟨K, i, none⟩) (.inr (by rw [hP.out]; exact hs5)) (.int .u64 (wPart C (4 + 8 * i) 8)))
      clear U8 Y7 Z7 R7' V7 hset
      generalize wPart C (4 + 8 * i) 8 = x at hx Y8 Z8 R8 V8 ⊢
      go_wp2
      exact ⟨⟨i + 1, by omega, by go_num, by omega, R8, Y8, Z8, V8⟩, by simp [intOf]; omega⟩
    · obtain rfl : i = k := by omega
      have q1 : ¬ (i : Int) < (i : Int) := by omega
      rw [Nat.sub_self, List.replicate_zero, List.append_nil] at hK
      have KP := Lib.hid (there3 hZ.out)
      go_wp2_with fail
      refine (gflag_any true _).mono ?_
      rintro e w4' ⟨rfl, rfl⟩
      rw [show wrB true = 1 from rfl]
      have g5 : IntKind.i64.wrap pg = pg := IntWalk.i64_in _ (by omega)
      go_wp2_with (with_reducible refine wpList_store_sz rfl 42 (.tmp 2) (.tmp 36) rfl P 0 #[.int .i64 pg, .bool (x2 == 1), .slice (some ⟨K, 0, none⟩) i i] rfl rfl 3 (gp_sz _ _ _ _ _) KP.out size_gpart (gp_one _ _ _ _ _) [.int .i64 pg, .bool (x2 == 1), .slice (some ⟨K, 0, none⟩) i i] (gp_ls _ _ _ _ _) ?_)
      (try simp only [Exit.inBlock, Exit.then])
      refine bodyPost_ret (ret_part rfl _ _ P pg (x2 == 1) (.slice (some ⟨K, 0, none⟩) i i) rfl (set3 hZ.out _ _ _)) rfl ?_
      have US : Upd (· = P) w4' (w4'.setCells P 0 [.int .i64 pg, .bool (x2 == 1), .slice (some ⟨K, 0, none⟩) i i]) := Upd.setCells (S := (· = P)) (p := P) (.inl rfl) _ _ (Upd.refl _ _)
      refine hYes.out (some ⟨K, 0, none⟩) i _ (hok.out.2 ⟨by omega, by omega, h4⟩) ?_ ?_ ?_
      · exact row_whole (US.at hK.out (by omega)) (wsAt_len _ _ _) (by rw [hP.out]; exact hs5) hk
      · exact hr.out.kept US (by omega) (fun j h => by have := hNR.out; omega)
      · exact Upd.setCells (.inr (Nat.le_of_eq hP.out)) _ _ hU.out
end Go.Proofs.Ytkclojinokkikaa

/-
  The program's appended: a number in some bytes.
-/
namespace Go.Proofs.Ytkclojinokkikaa
open Go.ChangeShapes Go.WideShapes Go.ChangeAt Go.RowKit

/-- a number in m bytes, the first i of them -/
def bigK (x : Int) (m i : Nat) : List Int := (List.range i).map fun j => x / 2 ^ (8 * (m - 1 - j)) % 256
def bigB (x : Int) (m : Nat) : List Int := bigK x m m
theorem bigK_succ (x : Int) (m i : Nat) : bigK x m (i + 1) = bigK x m i ++ [x / 2 ^ (8 * (m - 1 - i)) % 256] := by simp [bigK, List.range_succ]
theorem bigK_len (x : Int) (m i : Nat) : (bigK x m i).length = i := by simp [bigK]
theorem bigB8 (x : Int) : bigB x 8 = wbytes x := rfl
theorem bigB1 (x : Int) : bigB x 1 = [x % 256] := by simp [bigB, bigK]
theorem bigB2 (x : Int) : bigB x 2 = [x / 256 % 256, x % 256] := by simp [bigB, bigK, List.range_succ]
theorem upd_since {S : Nat → Prop} {a c d : World} (h : Upd (fun _ => False) a c) (k : Upd S c d) (hs : ∀ j, S j → a.heap.size ≤ j) : Upd (fun _ => False) a d :=
  ⟨k.os.trans h.os, k.tape.trans h.tape, k.output.trans h.output, Nat.le_trans h.size k.size, fun i hi hf => (k.block i (Nat.lt_of_lt_of_le hi h.size) fun hj => by have := hs i hj; omega).trans (h.block i hi hf)⟩
theorem grown_since {w wr w4 : World} {N sz n : Nat} {e : TypeId} {v : Value} {xs : List Value} {o : Obj} (hrow : wr.ownsRow N e sz v n xs) (hgr : (wr.alloc o).grownBy w4 v.ownBlock) (hU : Upd (fun j => N ≤ j) w wr) : Upd (fun j => N ≤ j) w w4 := by
  have hs := hU.size
  refine ⟨hgr.os.trans hU.os, hgr.tape.trans hU.tape, hgr.output.trans hU.output, by have := hgr.size; simp at this; omega, fun k hk hS => ?_⟩
  rw [hgr.block k (by simp; omega) (fun e => hS (hrow.lt k e.symm).1), Below.heap_alloc _ _ _ (by omega)]
  exact hU.block k hk hS
/-- boxes of other types are kept -/
def BoxK (t : TypeId) (w w' : World) : Prop := ∀ (M : Nat) (c : Array Value) (u : TypeId), u ≠ t → w.heap[M]? = some (.cells c u (0, 0)) → w'.heap[M]? = some (.cells c u (0, 0))
set_option maxRecDepth 100000 in
set_option maxHeartbeats 4000000 in
theorem gapp_any (N : Nat) (v : Value) (B : List Int) (x : Int) (m : Nat) (w : World) (hx0 : 0 ≤ x) (hx1 : x < 18446744073709551616) (hm : m ≤ 8) (hB : B.length ≤ 3000) (hrow : w.ownsRow N 5 1 v B.length (ints .u8 B)) (hN : N ≤ w.heap.size) :
    Calls Try.prog 17 #[v, .int .u64 x, .int .i64 m] w fun e w' => ∃ v', e = .returned v' ∧ w'.ownsRow N 5 1 v' (B.length + m) (ints .u8 (B ++ bigB x m)) ∧ Upd (fun j => N ≤ j) w w' ∧ BoxK 5 w w' := by
  obtain ⟨i0, hi0, hz0, hz1, hz2⟩ := info_parts info_u8
  have hr0 : Hid (w.ownsRow N 5 1 v (B.length + 0) (ints .u8 (B ++ bigK x m 0))) := Lib.hid (by
    have e : B ++ bigK x m 0 = B := by simp [bigK]
    rw [e]; exact hrow)
  have hst := Lib.hid (bigK_succ x m)
  clear hrow
  replace hx1 := Lib.hid hx1
  have hbb := Lib.hid (show bigB x m = bigK x m m from rfl)
  generalize hb : B.length = b at hB hr0 ⊢
  go_enter Try.func17, Try.ntmps17
  go_wp2_with fail
  go_loopw [9, 0] (fun t u wr => ∃ i : Nat, i ≤ m ∧ t = .int .i64 i ∧ Hid (wr.ownsRow N 5 1 u (b + i) (ints .u8 (B ++ bigK x m i))) ∧ Hid (Upd (fun j => N ≤ j) w wr) ∧ Hid (BoxK 5 w wr)) (fun t _ _ => m - (intOf t).toNat)
  case atStart => exact ⟨0, by omega, rfl, hr0, Lib.hid (Upd.refl _ _), Lib.hid (fun _ _ _ _ h => h)⟩
  case round =>
    clear hr0
    obtain ⟨i, hi, rfl, hr, hU, hK⟩ := hrel
    by_cases hlt : i < m
    · have k0 : (i : Int) < (m : Int) := by omega
      have k1 : (0 : Int) ≤ (m : Int) - 1 - (i : Int) := by omega
      obtain ⟨o5, c5, rfl⟩ := rows_slice hr.out
      have hus := hU.out.size
      go_wp2_with (at_builtin; refine wpList_append_own _ rfl _ _ 23 rfl N 5 i0 (.int .u8 0) 1 1 Try.underlying23 hi0 hz0 hz1 hz2 rfl (by decide) _ _ _ rfl (rows_still hr.out ((Upd.refl _ _).alloc _)) ⟨wr.heap.size, 0, none⟩ 1 1 [.int .u8 (x / 2 ^ (8 * (m - 1 - i)) % 256)] rfl rfl (rows_src _ _ _) (by simp [Value.oneCell']) (by simp [maxLen]; omega) (by omega) (by simp; omega) ?_; intro v' w4 hown' hgrow _)
      have R4 : Hid (w4.ownsRow N 5 1 v' (b + (i + 1)) (ints .u8 (B ++ bigK x m (i + 1)))) := Lib.hid (by
        rw [hst.out, ← List.append_assoc, ints, List.map_append]
        exact hown')
      have K4 : Hid (BoxK 5 w w4) := Lib.hid (fun M c u hu hM => grown_box (v := .slice o5 (b + i) c5) hgrow (hK.out M c u hu hM) (img_ne hr.out (hK.out M c u hu hM) hu))
      have U4 := Lib.hid (grown_since (v := .slice o5 (b + i) c5) hr.out hgrow hU.out)
      clear hgrow hown'
      go_wp2
      exact ⟨⟨i + 1, by omega, by go_num, R4, U4, K4⟩, by simp [intOf]; omega⟩
    · obtain rfl : i = m := by omega
      have k0 : ¬ (i : Int) < (i : Int) := by omega
      go_wp2
      go_ret
      exact ⟨_, rfl, by rw [hbb.out]; exact hr.out, hU.out, hK.out⟩
end Go.Proofs.Ytkclojinokkikaa

/-
  The program's Bytes.
-/
namespace Go.Proofs.Ytkclojinokkikaa
open Go.ChangeShapes Go.WideShapes Go.ChangeAt Go.RowKit

theorem img_cap {w : World} {base sz k n cap : Nat} {e : TypeId} {o : Option Addr} {xs : List Value} (h : w.ownsRow base e sz (.slice o n cap) k xs) : k ≤ cap := by
  rcases h.2 with ⟨h1, h2⟩ | ⟨g, cap', cur, h1, _, _, h3, _⟩
  · omega
  · simp at h1; omega
theorem wrB_bd (b : Bool) : 0 ≤ wrB b ∧ wrB b ≤ 1 := by cases b <;> decide
set_option maxRecDepth 100000 in
set_option maxHeartbeats 8000000 in
theorem gbytes_yes (ao : Option Addr) (cap : Nat) (L : List Pt) (w : World) (hL : PartsIn w ao L) (hR : rightB L = true) (hi : PIn L) (hp : PgIn L) :
    Calls Try.prog 9 #[.slice ao L.length cap] w fun e w' => ∃ v, e = .returned (.tuple #[v, .int .i64 0]) ∧ w'.ownsRow w.heap.size 5 1 v (ibytes L).length (ints .u8 (ibytes L)) ∧ Upd (fun _ => False) w w' := by
  have hlen := right_len hR
  have cR := Lib.hid (gright_any w ao cap L hL hp hi (by omega))
  have HL := Lib.hid hL
  have Hok := Lib.hid (right_ok hR)
  have HI := Lib.hid hi
  rw [hR] at cR
  generalize hn' : L.length = n at hlen cR ⊢
  replace hn' := Lib.hid hn'
  obtain ⟨hlo, hhi⟩ := hlen
  have hn0 : (0 : Int) ≤ (n : Int) := by omega
  have hn2 : (n : Int) ≤ 16 := by omega
  have hp0 : Hid (preB L 0 = bigB (n : Int) 1) := Lib.hid (by unfold preB; rw [hn'.out, bigB1]; simp)
  clear hL hR hi hp
  have hA1 := Lib.hid (fun v B x W h0 h1 hB hr hN => bigB1 x ▸ gapp_any w.heap.size v B x 1 W h0 h1 (by decide) hB hr hN)
  have hA2 := Lib.hid (fun v B x W h0 h1 hB hr hN => bigB2 x ▸ gapp_any w.heap.size v B x 2 W h0 h1 (by decide) hB hr hN)
  have hA8 := Lib.hid (fun v B x W h0 h1 hB hr hN => bigB8 x ▸ gapp_any w.heap.size v B x 8 W h0 h1 (by decide) hB hr hN)
  generalize hN : w.heap.size = N at hA1 hA2 hA8
  replace hN := Lib.hid hN
  have hsn := Lib.hid (fun (c d : World) (h : Upd (fun _ => False) w c) (k : Upd (fun j => N ≤ j) c d) => upd_since h k (fun j hj => by rw [hN.out]; exact hj))
  go_enter Try.func9, Try.ntmps9
  go_wp2_with fail
  refine cR.out.mono ?_
  rintro e w1 ⟨rfl, u1⟩
  have hs1 := u1.size
  rw [hN.out] at hs1
  go_wp2_with fail
  refine (hA1.out _ [] (n : Int) w1 hn0 (by omega) (by simp) (rows_new _ _ _ _) hs1).mono ?_
  rintro e w2 ⟨v2, rfl, r2, u2, -⟩
  have hr0 : Hid (w2.ownsRow N 5 1 v2 (preB L 0).length (ints .u8 (preB L 0))) := Lib.hid (by rw [hp0.out, bigB1]; exact r2)
  have hU0 := Lib.hid (hsn.out _ _ u1 u2)
  clear u1 u2 r2 cR hp0 hs1
  go_upto_region 5 with fail
  go_loopw [18, 4] (fun t u wr => ∃ i : Nat, i ≤ n ∧ t = .int .i64 i ∧ Hid (wr.ownsRow N 5 1 u (preB L i).length (ints .u8 (preB L i))) ∧ Hid (Upd (fun _ => False) w wr)) (fun t _ _ => n - (intOf t).toNat)
  case atStart => exact ⟨0, by omega, rfl, hr0, hU0⟩
  case round =>
    clear hr0 hU0
    obtain ⟨i, hin, rfl, hrow, hU⟩ := hrel
    by_cases hlt : i < n
    · have k0 : (0 : Int) ≤ (i : Int) := by omega
      have k1 : (i : Int) < (n : Int) := by omega
      obtain ⟨b, off, rfl, hb, a1, c1, d0, d1, d2, d3⟩ := HL.out.at (by rw [hn'.out]; exact hlt)
      have R1 := Lib.hid (hU.out.rangeAt (part_range d0 d1 d2) id)
      have D3 := Lib.hid d3
      have hpm : L.getD i Pt.zero ∈ L := by
        rw [List.getD_eq_getElem?_getD, List.getElem?_eq_getElem (by rw [hn'.out]; exact hlt)]
        exact List.getElem_mem _
      obtain ⟨p0, p1, p2, p3⟩ := Hok.out _ hpm
      have HIp := Lib.hid (HI.out _ hpm)
      have hs := Lib.hid (preB_succ L (i := i) (by rw [hn'.out]; exact hlt))
      have hle := preB_len (fun p hp => (Hok.out p hp).l1) i (by rw [hn'.out]; exact hin)
      have hT := Lib.hid (part_there wr 42)
      clear d0 d1 d2 d3 hb hpm
      generalize L.getD i Pt.zero = p at R1 D3 p0 p1 p2 p3 HIp hs
      obtain ⟨pg, pw, ws⟩ := p
      simp only at R1 D3 p0 p1 p2 p3 HIp hs
      generalize hm : ws.length = m at R1 D3 p2 p3
      replace hm := Lib.hid hm
      generalize hB : preB L i = B at hrow hle hs
      replace hB := Lib.hid hB
      have m0 : (1 : Int) ≤ (m : Int) := by omega
      have m1 : (m : Int) ≤ 16 := by omega
      go_upto_region 7 with (first
        | (with_reducible refine wpList_load_sz rfl 42 (.tmp 20) rfl b (off + i * 3) rfl [.int .i64 pg, .bool pw, .slice a1 m c1] _ R1.out Try.underlying42 rfl 3 (rpart_len _ _ _) size_gpart ?_)
        | (with_reducible refine wpList_store_sz rfl 42 (.tmp 6) (.tmp 21) rfl wr.heap.size 0 #[.int .i64 pg, .bool pw, .slice a1 m c1] rfl rfl 3 rfl hT.out size_gpart rfl [.int .i64 pg, .bool pw, .slice a1 m c1] rfl ?_))
      have X5 : Hid ((wr.alloc (.cells #[.int .i64 pg, .bool pw, .slice a1 m c1] 42)).heap[wr.heap.size]? = some (.cells [.int .i64 pg, .bool pw, .slice a1 m c1].toArray 42 (0, 0))) := Lib.hid (heap_alloc_last _ _)
      have U5 := Lib.hid (hU.out.alloc (.cells #[.int .i64 pg, .bool pw, .slice a1 m c1] 42))
      have R5 := Lib.hid (rows_still hrow.out ((Upd.refl (fun _ => False) wr).alloc (.cells #[.int .i64 pg, .bool pw, .slice a1 m c1] 42)))
      clear R1 hT hU hrow
      generalize wr.alloc (.cells #[.int .i64 pg, .bool pw, .slice a1 m c1] 42) = W5 at X5 U5 R5 ⊢
      generalize wr.heap.size = M at X5 ⊢
      obtain ⟨b0, b1, b2⟩ := part_cells X5.out
      have us5 := U5.out.size
      rw [hN.out] at us5
      go_wp2_with fail
      refine (hA2.out _ B pg W5 p0 (by omega) (by omega) R5.out us5).mono ?_
      rintro e w6 ⟨v6, rfl, r6, u6, k6⟩
      have R6 := Lib.hid r6
      have U6 := Lib.hid (hsn.out _ _ U5.out u6)
      have X6 := Lib.hid (k6 _ _ _ (by decide) X5.out)
      clear r6 u6 k6 b0 b1 b2 X5 U5 R5 us5
      obtain ⟨b0, b1, b2⟩ := part_cells X6.out
      have us6 := U6.out.size
      rw [hN.out] at us6
      go_wp2_with fail
      refine (gflag_any pw _).mono ?_
      rintro e w7 ⟨rfl, rfl⟩
      have hwb := wrB_bd pw
      go_wp2_with fail
      refine (hA1.out _ (B ++ [pg / 256 % 256, pg % 256]) (wrB pw) w7 hwb.1 (by omega) (by simp; omega) (by rw [List.length_append]; exact R6.out) us6).mono ?_
      rintro e w8 ⟨v8, rfl, r8, u8, k8⟩
      have R8 := Lib.hid r8
      have U8 := Lib.hid (hsn.out _ _ U6.out u8)
      have X8 := Lib.hid (k8 _ _ _ (by decide) X6.out)
      clear r8 u8 k8 b0 b1 b2 X6 U6 R6 us6
      obtain ⟨b0, b1, b2⟩ := part_cells X8.out
      have us8 := U8.out.size
      rw [hN.out] at us8
      go_wp2_with fail
      refine (hA1.out _ (B ++ [pg / 256 % 256, pg % 256] ++ [wrB pw % 256]) (m : Int) w8 (by omega) (by omega) (by simp; omega) (by rw [List.length_append (bs := [wrB pw % 256])]; exact R8.out) us8).mono ?_
      rintro e w9 ⟨v9, rfl, r9, u9, k9⟩
      have hG : B ++ [pg / 256 % 256, pg % 256] ++ [wrB pw % 256] ++ [(m : Int) % 256] = B ++ phead ⟨pg, pw, ws⟩ := by
        unfold phead
        rw [hm.out, show wrB pw % 256 = wrB pw from by omega]
        simp
      have hGl : (B ++ [pg / 256 % 256, pg % 256] ++ [wrB pw % 256]).length + 1 = B.length + 4 := by simp
      rw [hG, hGl] at r9
      have R9 : Hid (w9.ownsRow N 5 1 v9 (B.length + 4 + 8 * 0) (ints .u8 ((B ++ phead ⟨pg, pw, ws⟩) ++ (ws.take 0).flatMap wbytes))) := Lib.hid (by
        rw [List.take_zero, List.flatMap_nil, List.append_nil]
        exact r9)
      have U9 := Lib.hid (hsn.out _ _ U8.out u9)
      have X9 := Lib.hid (k9 _ _ _ (by decide) X8.out)
      have hs' : Hid (preB L (i + 1) = (B ++ phead ⟨pg, pw, ws⟩) ++ ws.flatMap wbytes) := Lib.hid (by rw [hs.out, List.append_assoc])
      clear r9 u9 k9 b0 b1 b2 X8 U8 R8 us8 hG hs hwb
      obtain ⟨b0, b1, b2⟩ := part_cells X9.out
      have hGl : (B ++ phead ⟨pg, pw, ws⟩).length = B.length + 4 := by rw [List.length_append]; rfl
      generalize hG : B ++ phead ⟨pg, pw, ws⟩ = G at hGl hs' R9
      replace hG := Lib.hid hG
      generalize hg : B.length + 4 = g at hGl R9
      have hg2 : g ≤ 2200 := by omega
      go_upto_region 11 with fail
      go_loopw [41, 4] (fun t u wk => ∃ k : Nat, k ≤ m ∧ t = .int .i64 k ∧ Hid (wk.ownsRow N 5 1 u (g + 8 * k) (ints .u8 (G ++ (ws.take k).flatMap wbytes))) ∧ Hid (Upd (fun _ => False) w wk)) (fun t _ _ => m - (intOf t).toNat)
      case atStart => exact ⟨0, by omega, rfl, R9, U9⟩
      case round =>
        clear R9 U9 X9 b0 b1 b2
        obtain ⟨k, hkm, rfl, hrowk, hUk⟩ := hrel
        by_cases hklt : k < m
        · have q0 : (0 : Int) ≤ (k : Int) := by omega
          have q1 : (k : Int) < (m : Int) := by omega
          have hws := Lib.hid (wsb_succ ws (k := k) (by rw [hm.out]; exact hklt))
          obtain ⟨b', off', rfl, hb', hc'⟩ := RowIn.at' D3.out hm.out k hklt
          have hxc := hUk.out.cell (hc' k hklt) id
          have hxb : 0 ≤ ws.getD k 0 ∧ ws.getD k 0 < 18446744073709551616 := HIp.out _ (by
            rw [List.getD_eq_getElem?_getD, List.getElem?_eq_getElem (by rw [hm.out]; exact hklt)]
            exact List.getElem_mem _)
          have hlw := wsb_take_len ws k (by rw [hm.out]; exact hkm)
          clear hc' hb'
          generalize ws.getD k 0 = x at hws hxc hxb
          obtain ⟨hx0, hx1⟩ := hxb
          replace hx1 := Lib.hid hx1
          have usk := hUk.out.size
          rw [hN.out] at usk
          go_wp2_with fail
          refine (hA8.out _ (G ++ (ws.take k).flatMap wbytes) x wr hx0 hx1.out (by rw [List.length_append]; omega) (by rw [List.length_append, hGl, hlw]; exact hrowk.out) usk).mono ?_
          rintro e wA ⟨vA, rfl, rA, uA, -⟩
          have RA : Hid (wA.ownsRow N 5 1 vA (g + 8 * (k + 1)) (ints .u8 (G ++ (ws.take (k + 1)).flatMap wbytes))) := Lib.hid (by
            rw [hws.out, ← List.append_assoc]
            rw [List.length_append, hGl, hlw] at rA
            exact rA)
          have UA := Lib.hid (hsn.out _ _ hUk.out uA)
          clear rA uA
          go_wp2
          exact ⟨⟨k + 1, by omega, by go_num, RA, UA⟩, by simp [intOf]; omega⟩
        · obtain rfl : k = m := by omega
          have q1 : ¬ (k : Int) < (k : Int) := by omega
          have hrow9 : Hid (wr.ownsRow N 5 1 u4 (preB L (i + 1)).length (ints .u8 (preB L (i + 1)))) := Lib.hid (by
            rw [hs'.out, List.length_append, hGl, wsb_len, hm.out]
            have := hrowk.out
            rw [List.take_of_length_le (by rw [hm.out]; exact Nat.le_refl _)] at this
            exact this)
          go_wp2
          exact ⟨⟨i + 1, by omega, by go_num, hrow9, hUk⟩, by simp [intOf]; omega⟩
    · obtain rfl : i = n := by omega
      have q1 : ¬ (i : Int) < (i : Int) := by omega
      have hrow9 : Hid (wr.ownsRow N 5 1 u4 (ibytes L).length (ints .u8 (ibytes L))) := Lib.hid (by
        rw [← preB_all, hn'.out]
        exact hrow.out)
      go_wp2
      go_ret2
      exact ⟨_, rfl, hrow9.out, hU.out⟩
set_option maxHeartbeats 4000000 in
theorem gbytes_any : IBytes := by
  intro w ao cap L hL hp hi hn
  by_cases hR : rightB L = true
  · refine (gbytes_yes ao cap L w hL hR hi hp).mono ?_
    rintro e w' ⟨v, rfl, hrow, u⟩
    unfold byV byE
    rw [if_pos hR, if_pos hR]
    obtain ⟨o, c, rfl⟩ := rows_slice hrow
    exact ⟨o, c, rfl, RowIn.of_row hrow, img_cap hrow, u⟩
  · have hR' : rightB L = false := by simpa using hR
    have cR := Lib.hid (gright_any w ao cap L hL hp hi hn)
    unfold byV byE
    rw [if_neg hR, if_neg hR]
    rw [hR'] at cR
    generalize L.length = n at cR ⊢
    clear hL hi hR hR' hn hp
    go_enter Try.func9, Try.ntmps9
    go_wp2_with fail
    refine cR.out.mono ?_
    rintro e w1 ⟨rfl, u1⟩
    go_wp2
    go_ret2
    exact ⟨none, 0, rfl, RowIn.nil, Nat.le_refl _, u1⟩
end Go.Proofs.Ytkclojinokkikaa
