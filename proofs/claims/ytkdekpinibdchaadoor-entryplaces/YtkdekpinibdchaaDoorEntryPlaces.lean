/-
  Proved: trunnionlaw06.EntryPlaces answers true for every input: a page's three places make the page, and a page's places are those it was made of.
  Conditions: package entry's table of fields starts as the program's text lays it (the card ties it).
-/
import Derived.Test.YtkdekpinibdchaaDoorCards
import Derived.Test.YtkdekpinibdchaaDoorTie
import Derived.Test.YtkdekpinibdchaaDoorLaid
import Derived.SevenTiedAt
import Derived.LaidMore
import Derived.Stop.Joined
import Derived.Test.YtkdekpinibdchaaDoorEnL
import Derived.Test.YtkdekpinibdchaaDoorFrame
namespace Go.Proofs.YtkdekpinibdchaaDoor.entryPlaces
open Go.ChangeShapes Go.WideShapes Go.ChangeAt Go.RowKit

/-- is there such a page? -/
def inP (q : Int) : Bool := decide (0 ≤ q ∧ q ≤ 4095)
theorem idxB_lt (q : Int) (k : Nat) (hk : k < 3) : idxB q k = inP q := by
  unfold idxB inP
  rw [Bool.eq_iff_iff]
  simp
  omega
/-- the places gathered behind k rounds -/
def gI (q : Int) (j k : Nat) : Int := if j < k then idxI q j else 0
theorem idx_bd (q l : Int) : 0 ≤ idxI q l ∧ idxI q l ≤ 15 := by
  unfold idxI
  split
  · rename_i h
    obtain ⟨h1, h2, h3, h4⟩ := of_decide_eq_true h
    split
    · omega
    · split <;> omega
  · omega
theorem gI_wf (q : Int) (j k : Nat) : (Lit.int .i64 (gI q j k)).wf = true := by
  have := idx_bd q j
  apply mk_i64 <;> (unfold gI; split <;> omega)
theorem arr_next {w : World} {C : Nat} {q : Int} {k : Nat} (hk : k < 3) (h : ArrAt w C (gI q 0 k) (gI q 1 k) (gI q 2 k)) :
    ArrAt (w.setCell ⟨C, k, none⟩ (.int .i64 (idxI q k))) C (gI q 0 (k + 1)) (gI q 1 (k + 1)) (gI q 2 (k + 1)) := by
  have := heap_setCell_same (C := [.int .i64 (gI q 0 k), .int .i64 (gI q 1 k), .int .i64 (gI q 2 k)]) h k (.int .i64 (idxI q k))
  unfold ArrAt
  rw [this]
  match k, hk with
  | 0, _ => rfl
  | 1, _ => rfl
  | 2, _ => rfl
theorem page_back {q : Int} (h : inP q = true) : pgI (gI q 0 3) (gI q 1 3) (gI q 2 3) = q ∧ errB (pgB (gI q 0 3) (gI q 1 3) (gI q 2 3)) = 0 := by
  obtain ⟨h1, h2⟩ := of_decide_eq_true h
  have e0 := (idx_yes (show idxB q (0 : Nat) = true from by rw [idxB_lt q 0 (by omega), h])).1
  have e1 := (idx_yes (show idxB q (1 : Nat) = true from by rw [idxB_lt q 1 (by omega), h])).1
  have e2 := (idx_yes (show idxB q (2 : Nat) = true from by rw [idxB_lt q 2 (by omega), h])).1
  have g0 : gI q 0 3 = q / 256 := by unfold gI; rw [if_pos (by omega), e0]; simp
  have g1 : gI q 1 3 = q / 16 % 16 := by unfold gI; rw [if_pos (by omega), e1]; simp
  have g2 : gI q 2 3 = q % 16 := by unfold gI; rw [if_pos (by omega), e2]; simp
  rw [g0, g1, g2]
  have := pg_yes (a := q / 256) (b := q / 16 % 16) (c := q % 16) ⟨by omega, by omega, by omega⟩
  exact ⟨by rw [this.1]; omega, this.2⟩
theorem index_of {p0 p1 p2 : Int} (h : pgB p0 p1 p2 = true) (k : Nat) (hk : k < 3) (W : World) (T : Tab W) :
    Calls Tryd.prog 13 #[.int .i64 (pgI p0 p1 p2), .int .i64 k] W fun e w' => e = .returned (.tuple #[.int .i64 ([p0, p1, p2].getD k 0), .int .i64 0]) ∧ ∃ n, w' = W.drewN n := by
  have h' := (pgB_iff p0 p1 p2).1 h
  have e := (pg_yes h').1
  have hi : idxB (pgI p0 p1 p2) k = true := by
    rw [idxB_lt _ k hk, e]
    simp [inP]
    omega
  have hc := eindex_any (pgI p0 p1 p2) k W T
  rw [(idx_yes hi).1, (idx_yes hi).2] at hc
  rw [e] at hc ⊢
  have hv : (if (k : Int) = 0 then (256 * p0 + 16 * p1 + p2) / 256 else if (k : Int) = 1 then (256 * p0 + 16 * p1 + p2) / 16 % 16 else (256 * p0 + 16 * p1 + p2) % 16) = [p0, p1, p2].getD k 0 := by
    match k, hk with
    | 0, _ => simp; omega
    | 1, _ => simp; omega
    | 2, _ => simp; omega
  rw [hv] at hc
  exact hc
set_option maxHeartbeats 8000000 in
theorem walk (q p0 p1 p2 : Int) (_w0 : (Lit.int .i64 q).wf = true) (w1 : ∀ z ∈ [p0, p1, p2], (Lit.int .i64 z).wf = true) (w : World) (T0 : Fr.VarIs w 0 (Fr.datCells (Rows.laid_trunnion_entry_fields (H := Unit)))) :
    Calls Tryd.prog 6 #[.int .i64 q, .agg #[.int .i64 p0, .int .i64 p1, .int .i64 p2]] w fun e w' => e = .returned (.bool true) ∧ Below w.heap.size w w' := by
  have T := tab_of T0
  clear T0
  have c2 := Lib.hid (fun W (T : Tab W) => epage_any (gI q 0 3) (gI q 1 3) (gI q 2 3) W T (gI_wf q 0 3) (gI_wf q 1 3) (gI_wf q 2 3))
  have c3 := Lib.hid (fun W (T : Tab W) => epage_any p0 p1 p2 W T (w1 p0 (by simp)) (w1 p1 (by simp)) (w1 p2 (by simp)))
  have c1 : Hid (∀ (k : Nat), k < 3 → ∀ (W : World), Tab W → Calls Tryd.prog 13 #[.int .i64 q, .int .i64 k] W fun e w' => e = .returned (.tuple #[.int .i64 (idxI q k), .int .i64 (errB (inP q))]) ∧ ∃ n, w' = W.drewN n) :=
    Lib.hid (fun k hk W T => by have := eindex_any q k W T; rw [idxB_lt q k hk] at this; exact this)
  clear w1
  cases hin : inP q
  · rw [hin, show errB false = 1 from rfl] at c1
    have h' := of_decide_eq_false hin
    clear hin
    by_cases g1 : q < 0
    · clear h'
      go_enter Tryd.func6, Tryd.ntmps6
      go_wp2_with fail
      refine (eawake_any _ (T.kept ((Upd.refl _ _).alloc _))).mono ?_
      rintro e wa ⟨rfl, u⟩
      have k0 : ArrAt (wa.alloc (.cells #[.int .i64 0, .int .i64 0, .int .i64 0] 32)) w.heap.size p0 p1 p2 := (Upd.alloc (Upd.refl (fun _ => False) wa) _).at (u.at (heap_alloc_last w _) id) id
      have k1 : ArrAt (wa.alloc (.cells #[.int .i64 0, .int .i64 0, .int .i64 0] 32)) wa.heap.size 0 0 0 := heap_alloc_last wa _
      have U : Upd (fun _ => False) w (wa.alloc (.cells #[.int .i64 0, .int .i64 0, .int .i64 0] 32)) := (((Upd.refl _ _).alloc _).trans u).alloc _
      have hBC : w.heap.size < wa.heap.size := by have := u.size; rw [World.size_alloc] at this; omega
      clear u
      obtain ⟨B, hB⟩ : ∃ B, B = w.heap.size := ⟨_, rfl⟩
      obtain ⟨C, hC⟩ : ∃ C, C = wa.heap.size := ⟨_, rfl⟩
      rw [← hB] at k0 hBC ⊢
      rw [← hC] at k1 hBC
      have hB' := Lib.hid hB
      have K0 := Lib.hid k0
      have K1 := Lib.hid k1
      have U' := Lib.hid U
      have HBC := Lib.hid hBC
      clear hB k0 k1 U hBC
      go_wp2
      rw [← hC]
      clear hC
      generalize wa.alloc (.cells #[.int .i64 0, .int .i64 0, .int .i64 0] 32) = wz at K0 K1 U' ⊢
      clear wa
      go_loopw [7, 8] (fun fi t wr => ∃ k : Nat, k ≤ 3 ∧ t = .int .i64 k ∧ fi = .bool (decide (k = 0)) ∧ Hid (ArrAt wr B p0 p1 p2) ∧ Hid (ArrAt wr C (gI q 0 k) (gI q 1 k) (gI q 2 k)) ∧ Hid (Upd (fun _ => False) w wr)) (fun _ t _ => 3 - (intOf t).toNat)
      case atStart => exact ⟨0, by omega, rfl, rfl, K0, K1, U'⟩
      case round =>
        obtain ⟨k, hk, rfl, rfl, K2, K3, U2⟩ := hrel
        by_cases hlt : k < 3
        · have cc := K3.out.cellk k hlt
          have cf := K3.out.frozen k
          have hi := Lib.hid (c1.out k hlt _ (T.kept U2.out))
          have hset := Lib.hid (fun n => (arr_next (w := wr.drewN n) hlt K3.out))
          have hU2 := Lib.hid (fun n => (U2.out.drewN n).setCell (p := ⟨C, k, none⟩) (.inr (Nat.le_of_lt (Nat.lt_of_le_of_lt (Nat.le_of_eq hB'.out.symm) HBC.out))) (.int .i64 (idxI q k)))
          have hK2 := Lib.hid (fun n => ArrAt.other (w := wr.drewN n) K2.out (Nat.ne_of_lt HBC.out) k (.int .i64 (idxI q k)))
          clear K2 K3 U2 K0 K1 U'
          by_cases hk0 : k = 0
          · subst hk0
            go_wp2_with fail
            refine hi.out.mono ?_
            rintro e wb ⟨rfl, n1, rfl⟩
            go_wp2
            exact ⟨⟨0 + 1, by omega, by go_num, rfl, hK2.out _, hset.out _, hU2.out _⟩, by simp [intOf]⟩
          · have hkf : decide (k = 0) = false := by simp [hk0]
            rw [hkf]
            go_wp2_with fail
            refine hi.out.mono ?_
            rintro e wb ⟨rfl, n1, rfl⟩
            go_wp2
            exact ⟨⟨k + 1, by omega, by go_num, by simp, hK2.out _, hset.out _, hU2.out _⟩, by simp [intOf]; omega⟩
        · obtain rfl : k = 3 := by omega
          clear K0 K1 U'
          have c2' := Lib.hid (c2.out _ (T.kept U2.out))
          go_wp2_with (with_reducible refine wpList_load_sz rfl 32 (.tmp 6) rfl C 0 rfl [.int .i64 (gI q 0 3), .int .i64 (gI q 1 3), .int .i64 (gI q 2 3)] _ K3.out.range Tryd.underlying32 rfl 3 (arr_len _ _ _) size_arr3 ?_)
          refine c2'.out.mono ?_
          rintro e wb ⟨rfl, u⟩
          have K4 := Lib.hid (K2.out.kept u id)
          have U4 := Lib.hid (U2.out.trans u)
          clear u K2 K3 U2 c2'
          have c3' := Lib.hid (c3.out _ (T.kept U4.out))
          go_wp2_with (with_reducible refine wpList_load_sz rfl 32 (.tmp 3) rfl B 0 rfl [.int .i64 p0, .int .i64 p1, .int .i64 p2] _ K4.out.range Tryd.underlying32 rfl 3 (arr_len _ _ _) size_arr3 ?_)
          refine c3'.out.mono ?_
          rintro e wc ⟨rfl, u⟩
          have K5 := Lib.hid (K4.out.kept u id)
          have U5 := Lib.hid (U4.out.trans u)
          clear u K4 U4 c3'
          go_wp2
          cases hp : pgB p0 p1 p2
          · rw [show errB false = 1 from rfl]
            go_loopw [15] (fun t wr => t = .int .i64 0 ∧ wr = wc) (fun _ _ => 0)
            case atStart => exact ⟨rfl, rfl⟩
            case round =>
              obtain ⟨rfl, rfl⟩ := hrel
              go_wp2
              go_ret
              exact ⟨rfl, U5.out.below (Nat.le_refl _) fun _ _ => id⟩
          · rw [show errB true = 0 from rfl]
            have c4 := Lib.hid (fun k hk W (T : Tab W) => index_of hp k hk W T)
            go_loopw [15] (fun t wr => ∃ k n : Nat, k ≤ 3 ∧ t = .int .i64 k ∧ wr = wc.drewN n) (fun t _ => 3 - (intOf t).toNat)
            case atStart => exact ⟨0, 0, by omega, rfl, rfl⟩
            case round =>
              obtain ⟨k, n, hk, rfl, rfl⟩ := hrel
              by_cases hlt : k < 3
              · have cc := K5.out.cellk k hlt
                have hi := Lib.hid (c4.out k hlt _ (T.kept (U5.out.drewN n)))
                obtain ⟨z, hz⟩ : ∃ z, z = [p0, p1, p2].getD k 0 := ⟨_, rfl⟩
                rw [← hz] at cc hi
                clear hz
                go_wp2_with fail
                refine hi.out.mono ?_
                rintro e wd ⟨rfl, n1, rfl⟩
                go_wp2
                exact ⟨⟨k + 1, _, by omega, by go_num, rfl⟩, by simp [intOf]; omega⟩
              · obtain rfl : k = 3 := by omega
                go_wp2
                go_ret
                exact ⟨rfl, (U5.out.drewN _).below (Nat.le_refl _) fun _ _ => id⟩
    · have g2 : 4095 < q := by omega
      clear h'
      go_enter Tryd.func6, Tryd.ntmps6
      go_wp2_with fail
      refine (eawake_any _ (T.kept ((Upd.refl _ _).alloc _))).mono ?_
      rintro e wa ⟨rfl, u⟩
      have k0 : ArrAt (wa.alloc (.cells #[.int .i64 0, .int .i64 0, .int .i64 0] 32)) w.heap.size p0 p1 p2 := (Upd.alloc (Upd.refl (fun _ => False) wa) _).at (u.at (heap_alloc_last w _) id) id
      have k1 : ArrAt (wa.alloc (.cells #[.int .i64 0, .int .i64 0, .int .i64 0] 32)) wa.heap.size 0 0 0 := heap_alloc_last wa _
      have U : Upd (fun _ => False) w (wa.alloc (.cells #[.int .i64 0, .int .i64 0, .int .i64 0] 32)) := (((Upd.refl _ _).alloc _).trans u).alloc _
      have hBC : w.heap.size < wa.heap.size := by have := u.size; rw [World.size_alloc] at this; omega
      clear u
      obtain ⟨B, hB⟩ : ∃ B, B = w.heap.size := ⟨_, rfl⟩
      obtain ⟨C, hC⟩ : ∃ C, C = wa.heap.size := ⟨_, rfl⟩
      rw [← hB] at k0 hBC ⊢
      rw [← hC] at k1 hBC
      have hB' := Lib.hid hB
      have K0 := Lib.hid k0
      have K1 := Lib.hid k1
      have U' := Lib.hid U
      have HBC := Lib.hid hBC
      clear hB k0 k1 U hBC
      go_wp2
      rw [← hC]
      clear hC
      generalize wa.alloc (.cells #[.int .i64 0, .int .i64 0, .int .i64 0] 32) = wz at K0 K1 U' ⊢
      clear wa
      go_loopw [7, 8] (fun fi t wr => ∃ k : Nat, k ≤ 3 ∧ t = .int .i64 k ∧ fi = .bool (decide (k = 0)) ∧ Hid (ArrAt wr B p0 p1 p2) ∧ Hid (ArrAt wr C (gI q 0 k) (gI q 1 k) (gI q 2 k)) ∧ Hid (Upd (fun _ => False) w wr)) (fun _ t _ => 3 - (intOf t).toNat)
      case atStart => exact ⟨0, by omega, rfl, rfl, K0, K1, U'⟩
      case round =>
        obtain ⟨k, hk, rfl, rfl, K2, K3, U2⟩ := hrel
        by_cases hlt : k < 3
        · have cc := K3.out.cellk k hlt
          have cf := K3.out.frozen k
          have hi := Lib.hid (c1.out k hlt _ (T.kept U2.out))
          have hset := Lib.hid (fun n => (arr_next (w := wr.drewN n) hlt K3.out))
          have hU2 := Lib.hid (fun n => (U2.out.drewN n).setCell (p := ⟨C, k, none⟩) (.inr (Nat.le_of_lt (Nat.lt_of_le_of_lt (Nat.le_of_eq hB'.out.symm) HBC.out))) (.int .i64 (idxI q k)))
          have hK2 := Lib.hid (fun n => ArrAt.other (w := wr.drewN n) K2.out (Nat.ne_of_lt HBC.out) k (.int .i64 (idxI q k)))
          clear K2 K3 U2 K0 K1 U'
          by_cases hk0 : k = 0
          · subst hk0
            go_wp2_with fail
            refine hi.out.mono ?_
            rintro e wb ⟨rfl, n1, rfl⟩
            go_wp2
            exact ⟨⟨0 + 1, by omega, by go_num, rfl, hK2.out _, hset.out _, hU2.out _⟩, by simp [intOf]⟩
          · have hkf : decide (k = 0) = false := by simp [hk0]
            rw [hkf]
            go_wp2_with fail
            refine hi.out.mono ?_
            rintro e wb ⟨rfl, n1, rfl⟩
            go_wp2
            exact ⟨⟨k + 1, by omega, by go_num, by simp, hK2.out _, hset.out _, hU2.out _⟩, by simp [intOf]; omega⟩
        · obtain rfl : k = 3 := by omega
          clear K0 K1 U'
          have c2' := Lib.hid (c2.out _ (T.kept U2.out))
          go_wp2_with (with_reducible refine wpList_load_sz rfl 32 (.tmp 6) rfl C 0 rfl [.int .i64 (gI q 0 3), .int .i64 (gI q 1 3), .int .i64 (gI q 2 3)] _ K3.out.range Tryd.underlying32 rfl 3 (arr_len _ _ _) size_arr3 ?_)
          refine c2'.out.mono ?_
          rintro e wb ⟨rfl, u⟩
          have K4 := Lib.hid (K2.out.kept u id)
          have U4 := Lib.hid (U2.out.trans u)
          clear u K2 K3 U2 c2'
          have c3' := Lib.hid (c3.out _ (T.kept U4.out))
          go_wp2_with (with_reducible refine wpList_load_sz rfl 32 (.tmp 3) rfl B 0 rfl [.int .i64 p0, .int .i64 p1, .int .i64 p2] _ K4.out.range Tryd.underlying32 rfl 3 (arr_len _ _ _) size_arr3 ?_)
          refine c3'.out.mono ?_
          rintro e wc ⟨rfl, u⟩
          have K5 := Lib.hid (K4.out.kept u id)
          have U5 := Lib.hid (U4.out.trans u)
          clear u K4 U4 c3'
          go_wp2
          cases hp : pgB p0 p1 p2
          · rw [show errB false = 1 from rfl]
            go_loopw [15] (fun t wr => t = .int .i64 0 ∧ wr = wc) (fun _ _ => 0)
            case atStart => exact ⟨rfl, rfl⟩
            case round =>
              obtain ⟨rfl, rfl⟩ := hrel
              go_wp2
              go_ret
              exact ⟨rfl, U5.out.below (Nat.le_refl _) fun _ _ => id⟩
          · rw [show errB true = 0 from rfl]
            have c4 := Lib.hid (fun k hk W (T : Tab W) => index_of hp k hk W T)
            go_loopw [15] (fun t wr => ∃ k n : Nat, k ≤ 3 ∧ t = .int .i64 k ∧ wr = wc.drewN n) (fun t _ => 3 - (intOf t).toNat)
            case atStart => exact ⟨0, 0, by omega, rfl, rfl⟩
            case round =>
              obtain ⟨k, n, hk, rfl, rfl⟩ := hrel
              by_cases hlt : k < 3
              · have cc := K5.out.cellk k hlt
                have hi := Lib.hid (c4.out k hlt _ (T.kept (U5.out.drewN n)))
                obtain ⟨z, hz⟩ : ∃ z, z = [p0, p1, p2].getD k 0 := ⟨_, rfl⟩
                rw [← hz] at cc hi
                clear hz
                go_wp2_with fail
                refine hi.out.mono ?_
                rintro e wd ⟨rfl, n1, rfl⟩
                go_wp2
                exact ⟨⟨k + 1, _, by omega, by go_num, rfl⟩, by simp [intOf]; omega⟩
              · obtain rfl : k = 3 := by omega
                go_wp2
                go_ret
                exact ⟨rfl, (U5.out.drewN _).below (Nat.le_refl _) fun _ _ => id⟩
  · rw [hin, show errB true = 0 from rfl] at c1
    rw [(page_back hin).1, (page_back hin).2] at c2
    obtain ⟨g1, g2⟩ := of_decide_eq_true hin
    clear hin
    go_enter Tryd.func6, Tryd.ntmps6
    go_wp2_with fail
    refine (eawake_any _ (T.kept ((Upd.refl _ _).alloc _))).mono ?_
    rintro e wa ⟨rfl, u⟩
    have k0 : ArrAt (wa.alloc (.cells #[.int .i64 0, .int .i64 0, .int .i64 0] 32)) w.heap.size p0 p1 p2 := (Upd.alloc (Upd.refl (fun _ => False) wa) _).at (u.at (heap_alloc_last w _) id) id
    have k1 : ArrAt (wa.alloc (.cells #[.int .i64 0, .int .i64 0, .int .i64 0] 32)) wa.heap.size 0 0 0 := heap_alloc_last wa _
    have U : Upd (fun _ => False) w (wa.alloc (.cells #[.int .i64 0, .int .i64 0, .int .i64 0] 32)) := (((Upd.refl _ _).alloc _).trans u).alloc _
    have hBC : w.heap.size < wa.heap.size := by have := u.size; rw [World.size_alloc] at this; omega
    clear u
    obtain ⟨B, hB⟩ : ∃ B, B = w.heap.size := ⟨_, rfl⟩
    obtain ⟨C, hC⟩ : ∃ C, C = wa.heap.size := ⟨_, rfl⟩
    rw [← hB] at k0 hBC ⊢
    rw [← hC] at k1 hBC
    have hB' := Lib.hid hB
    have K0 := Lib.hid k0
    have K1 := Lib.hid k1
    have U' := Lib.hid U
    have HBC := Lib.hid hBC
    clear hB k0 k1 U hBC
    go_wp2
    rw [← hC]
    clear hC
    generalize wa.alloc (.cells #[.int .i64 0, .int .i64 0, .int .i64 0] 32) = wz at K0 K1 U' ⊢
    clear wa
    go_loopw [7, 8] (fun fi t wr => ∃ k : Nat, k ≤ 3 ∧ t = .int .i64 k ∧ fi = .bool true ∧ Hid (ArrAt wr B p0 p1 p2) ∧ Hid (ArrAt wr C (gI q 0 k) (gI q 1 k) (gI q 2 k)) ∧ Hid (Upd (fun _ => False) w wr)) (fun _ t _ => 3 - (intOf t).toNat)
    case atStart => exact ⟨0, by omega, rfl, rfl, K0, K1, U'⟩
    case round =>
      obtain ⟨k, hk, rfl, rfl, K2, K3, U2⟩ := hrel
      by_cases hlt : k < 3
      · have cc := K3.out.cellk k hlt
        have cf := K3.out.frozen k
        have hi := Lib.hid (c1.out k hlt _ (T.kept U2.out))
        have hset := Lib.hid (fun n => (arr_next (w := wr.drewN n) hlt K3.out))
        have hU2 := Lib.hid (fun n => (U2.out.drewN n).setCell (p := ⟨C, k, none⟩) (.inr (Nat.le_of_lt (Nat.lt_of_le_of_lt (Nat.le_of_eq hB'.out.symm) HBC.out))) (.int .i64 (idxI q k)))
        have hK2 := Lib.hid (fun n => ArrAt.other (w := wr.drewN n) K2.out (Nat.ne_of_lt HBC.out) k (.int .i64 (idxI q k)))
        clear K2 K3 U2 K0 K1 U'
        go_wp2_with fail
        refine hi.out.mono ?_
        rintro e wb ⟨rfl, n1, rfl⟩
        go_wp2
        exact ⟨⟨k + 1, by omega, by go_num, rfl, hK2.out _, hset.out _, hU2.out _⟩, by simp [intOf]; omega⟩
      · obtain rfl : k = 3 := by omega
        clear K0 K1 U'
        have c2' := Lib.hid (c2.out _ (T.kept U2.out))
        go_wp2_with (with_reducible refine wpList_load_sz rfl 32 (.tmp 6) rfl C 0 rfl [.int .i64 (gI q 0 3), .int .i64 (gI q 1 3), .int .i64 (gI q 2 3)] _ K3.out.range Tryd.underlying32 rfl 3 (arr_len _ _ _) size_arr3 ?_)
        refine c2'.out.mono ?_
        rintro e wb ⟨rfl, u⟩
        have K4 := Lib.hid (K2.out.kept u id)
        have U4 := Lib.hid (U2.out.trans u)
        clear u K2 K3 U2 c2'
        have c3' := Lib.hid (c3.out _ (T.kept U4.out))
        go_wp2_with (with_reducible refine wpList_load_sz rfl 32 (.tmp 3) rfl B 0 rfl [.int .i64 p0, .int .i64 p1, .int .i64 p2] _ K4.out.range Tryd.underlying32 rfl 3 (arr_len _ _ _) size_arr3 ?_)
        refine c3'.out.mono ?_
        rintro e wc ⟨rfl, u⟩
        have K5 := Lib.hid (K4.out.kept u id)
        have U5 := Lib.hid (U4.out.trans u)
        clear u K4 U4 c3'
        go_wp2
        cases hp : pgB p0 p1 p2
        · rw [show errB false = 1 from rfl]
          go_loopw [15] (fun t wr => t = .int .i64 0 ∧ wr = wc) (fun _ _ => 0)
          case atStart => exact ⟨rfl, rfl⟩
          case round =>
            obtain ⟨rfl, rfl⟩ := hrel
            go_wp2
            go_ret
            exact ⟨rfl, U5.out.below (Nat.le_refl _) fun _ _ => id⟩
        · rw [show errB true = 0 from rfl]
          have c4 := Lib.hid (fun k hk W (T : Tab W) => index_of hp k hk W T)
          go_loopw [15] (fun t wr => ∃ k n : Nat, k ≤ 3 ∧ t = .int .i64 k ∧ wr = wc.drewN n) (fun t _ => 3 - (intOf t).toNat)
          case atStart => exact ⟨0, 0, by omega, rfl, rfl⟩
          case round =>
            obtain ⟨k, n, hk, rfl, rfl⟩ := hrel
            by_cases hlt : k < 3
            · have cc := K5.out.cellk k hlt
              have hi := Lib.hid (c4.out k hlt _ (T.kept (U5.out.drewN n)))
              obtain ⟨z, hz⟩ : ∃ z, z = [p0, p1, p2].getD k 0 := ⟨_, rfl⟩
              rw [← hz] at cc hi
              clear hz
              go_wp2_with fail
              refine hi.out.mono ?_
              rintro e wd ⟨rfl, n1, rfl⟩
              go_wp2
              exact ⟨⟨k + 1, _, by omega, by go_num, rfl⟩, by simp [intOf]; omega⟩
            · obtain rfl : k = 3 := by omega
              go_wp2
              go_ret
              exact ⟨rfl, (U5.out.drewN _).below (Nat.le_refl _) fun _ _ => id⟩
/-! ### the row's frame, and its tied card -/
theorem own : ownKnob Tryd.prog.godebug = none := by kernel_rfl
theorem laidOut : laidOutB Tryd.prog = true := by kernel_rfl
/-- the door's own heap meets the condition -/
theorem door_met (os : Os) (args : Array Value) : laidMetH Tryd.prog Rows.entryPlacesRow.laid ((World.doorLaid Tryd.prog 400 os).forCall (fun _ _ => 0) ⟨#[], args, []⟩).memory :=
  laidMetH_of_parts3 (fuel := 8) (laidMet_of_run' 8 (by kernel_rfl) (by kernel_rfl)) (by kernel_rfl) (by kernel_rfl)
set_option linter.unusedVariables false in
set_option maxRecDepth 100000 in
theorem lifted (os : Os) (started : os.Started) (H : Type) (enc : TypeId × Value → H) :
    ReturnsInHanded {} Tryd.checked os 6 .any (fun w args => (Rows.entryPlacesSpec.pre enc Tryd.prog Tryd.f6 [] false w args ∧ laidMetH Tryd.prog Rows.entryPlacesRow.laid w) ∧ sizedMet enc Tryd.prog Tryd.f6 (OpenSpec.ofChange Rows.entryPlacesSpec) false w args)
      (Rows.entryPlacesSpec.post enc Tryd.prog Tryd.f6 false true false false) := by
  refine returnsInHanded_of_change_and (C := Tryd.checked) (X := fun w _ => laidMetH Tryd.prog Rows.entryPlacesRow.laid w) (fun _ _ _ hh h => h.of_heap hh) own started (by kernel_rfl) Tryd.func6
    (ChangeSpec.witness_shaped (enc := enc) (C := Tryd.checked) (os := os) (X := fun w _ => laidMetH Tryd.prog Rows.entryPlacesRow.laid w) false (World.doorLaid Tryd.prog 400 os) #[.int .i64 0, .agg #[.int .i64 0, .int .i64 0, .int .i64 0]] 8 rfl (World.shaped_of_RefB (by kernel_rfl) (by kernel_rfl)) (by kernel_rfl) (by kernel_rfl) (by kernel_rfl) (door_met os _)) ?_
  intro W base args ds gs before hval0 hW _ _ hL _
  have hLd := hL
  rw [MakeChecks.laidMetH_plain _ _ _ (by kernel_rfl)] at hLd
  have T0 : Fr.VarIs W 0 (Fr.datCells (Rows.laid_trunnion_entry_fields (H := Unit))) := Fr.varIs_of_laid (t := 49) (ks := [some .i64, some .i64, some .i64, some .i64, some .i64, some .i64, some .i64, some .i64, some .i64, some .i64, some .i64, some .i64, some .i64, some .i64, some .i64, some .i64, some .i64, some .i64]) 12 (hLd : laidMet Tryd.prog Rows.entryPlacesRow.laid W) "trunnion/entry.fields" (Rows.laid_trunnion_entry_fields (H := Unit)) (by simp [Rows.entryPlacesRow]) (by kernel_rfl) (by kernel_rfl) (by kernel_rfl)
  clear hL hLd
  have hval : ∀ (j : Nat) t v, Tryd.f6.params[j]? = some t → args[j]? = some v → Value.okWide Tryd.prog W .any base t v := hval0
  have hW' := hW
  obtain ⟨p, q, hA0, hV, rfl, hfz, hnd⟩ := hW
  have hA : DataW.TrodAll enc Tryd.prog W 0 (fun _ => true) true Tryd.f6.params.toList args.toList ds p := hA0
  rw [Tryd.params6] at hA hval
  obtain ⟨v0, vs0, d0, ds0, p0, q0, hargs, rfl, rfl, h0, r0⟩ := trodAll_cons hA
  obtain ⟨v1, vs1, d1, ds1, p1, q1, rfl, rfl, rfl, h1, r1⟩ := trodAll_cons r0
  obtain ⟨rfl, rfl, rfl⟩ := trodAll_nil r1
  obtain rfl : args = #[v0, v1] := by cases args; simp_all
  obtain ⟨rfl, rfl⟩ := trodVars_none hV
  have k0 := h0
  have lt0 : ∀ x ∈ p0, x.block < W.heap.size := by obtain ⟨m, hm⟩ := k0; exact DataW.trod_lt m _ _ _ hm
  obtain ⟨a0, rfl, rfl, rfl, w0⟩ := open_int Tryd.underlying3 (hval 0 3 v0 rfl rfl) h0
  have k1 := h1
  have lt1 : ∀ x ∈ p1, x.block < W.heap.size := by obtain ⟨m, hm⟩ := k1; exact DataW.trod_lt m _ _ _ hm
  obtain ⟨z1, l1, rfl, w1⟩ := Fr.open_intArr Tryd.underlying32 Tryd.underlying3 (by kernel_rfl) (by kernel_rfl) (hval 1 32 v1 rfl rfl) h1
  obtain ⟨a1_0, a1_1, a1_2, rfl⟩ := Fr.len3 l1
  clear hA0 hval0
  refine (walk a0 a1_0 a1_1 a1_2 w0 w1 W  T0).mono fun e W' ⟨he, bel⟩ => ?_
  subst he
  exact ⟨_, rfl, _, _, _, [], _, [], hW', trodAll_mk1 (shut_bool Tryd.underlying4 _), (trodAll_cons_mk (Below.trod laidOut (by kernel_rfl) (of_decide_eq_true (by kernel_rfl)) k0 bel lt0) (trodAll_cons_mk (Below.trod laidOut (by kernel_rfl) (of_decide_eq_true (by kernel_rfl)) k1 bel lt1) trodAll_mk0)), rfl, bel.frame _, fun h => by cases h⟩

theorem over : Rows.entryPlacesRow.holds Tryd.pinned (OpenSpec.ofChange Rows.entryPlacesSpec) :=
  OpenClaim.holds_of_wide 6 Tryd.f6 rfl rfl rfl rfl rfl rfl rfl ⟨rfl, rfl, rfl, rfl, rfl⟩ rfl rfl rfl rfl rfl (by kernel_rfl) Tryd.func6 (by kernel_rfl)
    (of_decide_eq_true (by kernel_rfl)) (by unfold Func.isWrapper; first | (rw [if_pos (by decide +kernel)]; kernel_rfl) | (rw [if_neg (by decide +kernel)]; exact ⟨rfl, rfl⟩))
    (fun os started H enc _ => lifted os started H enc)

theorem proved : Rows.EntryPlacesCardSaid :=
  Claim7.holds_tied_plain_at .later [] [.data] true (true, "5a5b16462b36004e53af97d1813fe82f08f6979989b9e70f3e183766d9c78ac0") false
    over (fun _ h => by cases h) (by kernel_rfl) (fun _ h => by cases h) entryPlaces_row_tie rfl ⟨rfl, rfl⟩ (by kernel_rfl) rfl
    (fun f fn hf hfn => by
      obtain rfl : f = 6 := Option.some.inj ((show Tryd.prog.funcNamed "trunnion/trunnionlaw06.EntryPlaces" = some 6 by kernel_rfl).symm.trans hf) |>.symm
      obtain rfl : fn = Tryd.f6 := (Option.some.inj (Tryd.func6.symm.trans hfn)).symm
      exact ⟨by kernel_rfl, fun j t ht => by
        rw [Tryd.params6] at ht
        have hm : t ∈ [3, 32] := by simpa using Array.mem_of_getElem? ht
        have hall : ([3, 32].all fun u => !Tryd.prog.wantsStandIn u) = true := by kernel_rfl
        exact (show Tryd.prog.wantsStandIn t = false by simpa using List.all_eq_true.1 hall t hm)⟩)
    (by kernel_rfl)
end Go.Proofs.YtkdekpinibdchaaDoor.entryPlaces
