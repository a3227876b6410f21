/-
  Proved: trunnionlaw11.MmuSwaps answers true for every input: two address spaces stand apart: what is stored by the one is not loaded by the other one, but where both have the frame; going from one to the other needs no flush.
  Conditions: package entry's table of fields starts as the program's text lays it (the card ties it).
-/
import Derived.Test.YtfdnfllefednjaaDoorCards
import Derived.Test.YtfdnfllefednjaaDoorTie
import Derived.SevenTiedAt
import Derived.LaidMore
import Derived.Stop.Joined
import Derived.Deep.DeepCutAuto
import Derived.Deep.CutBlock
import Derived.Deep.RegionHeld3
import Derived.Test.YtfdnfllefednjaaDoorPart10
namespace Go.Proofs.YtfdnfllefednjaaDoor.mmuSwaps
open Go.ChangeShapes Go.WideShapes Go.ChangeAt Go.RowKit Go.Shelf Go.Sort
set_option linter.unusedVariables false
set_option linter.unusedSimpArgs false

theorem um_and15 (n : Int) : bits .and .i64 n 15 = n % 16 := by
  have h : (BitVec.ofInt 64 15).toNat = 2 ^ 4 - 1 := by decide
  have key : (BitVec.ofInt 64 n &&& BitVec.ofInt 64 15).toNat = (n % ((2 ^ 64 : Nat) : Int)).toNat % 2 ^ 4 := by
    rw [BitVec.toNat_and, BitVec.toNat_ofInt, h, Nat.and_two_pow_sub_one_eq_mod]
  show IntKind.i64.wrap ((BitVec.ofInt 64 n &&& BitVec.ofInt 64 15).toNat : Nat) = n % 16
  rw [key, IntKind.wrap_i64]
  omega
theorem um_and7 (n : Int) : bits .and .i64 n 7 = n % 8 := by
  have h : (BitVec.ofInt 64 7).toNat = 2 ^ 3 - 1 := by decide
  have key : (BitVec.ofInt 64 n &&& BitVec.ofInt 64 7).toNat = (n % ((2 ^ 64 : Nat) : Int)).toNat % 2 ^ 3 := by
    rw [BitVec.toNat_and, BitVec.toNat_ofInt, h, Nat.and_two_pow_sub_one_eq_mod]
  show IntKind.i64.wrap ((BitVec.ofInt 64 n &&& BitVec.ofInt 64 7).toNat : Nat) = n % 8
  rw [key, IntKind.wrap_i64]
  omega
theorem uni_use {w : World} {S MA A GB MB U BA : Nat} {s : Sp} {m : Mem} {b : Bud} {Y : Nat × Nat → Prop} {root asid : Int} {B : Buf} (h : Uni w S MA A GB MB U BA s m b Y root asid B) (r a : Int) (hr : 0 ≤ r ∧ r < m.n) (ha : 1 ≤ a ∧ a ≤ 8) :
    Calls Tryd.prog 18 #[.pointer (some ⟨U, 0, none⟩), .int .i64 r, .int .i64 a] w fun e w' => e = .returned (.int .i64 0) ∧ Uni w' S MA A GB MB U BA s m b Y r a B ∧ Upd (· = U) w w' := by
  have hu : useB m r a = true := by unfold useB Mem.ex; simp; omega
  refine (uuse_any U MA BA root asid r a m w h.un h.P.D.M).mono ?_
  rintro e w' ⟨rfl, x, u⟩
  rw [hu, if_pos rfl, if_pos rfl] at x
  rw [if_pos hu]
  have g := fun i hi => Ne.symm (h.n.u i hi).1
  exact ⟨rfl, ⟨h.P.kept u (g S (.inl rfl)) (g A (.inr (.inr (.inl rfl)))) (g GB (.inr (.inr (.inr (.inl rfl))))) (g MA (.inr (.inl rfl))) (g MB (.inr (.inr (.inr (.inr (.inl rfl)))))) (g _ (.inr (.inr (.inr (.inr (.inr rfl)))))), x, h.bu.kept u (Ne.symm h.n.ub), h.bo, h.n⟩, u⟩
theorem uni_box {w w1 : World} {S MA A GB MB U BA X : Nat} {s : Sp} {m : Mem} {b : Bud} {Y : Nat × Nat → Prop} {root asid : Int} {B : Buf} (h : Uni w S MA A GB MB U BA s m b Y root asid B) (u : Upd (fun x => x = X) w w1) (k : S ≠ X ∧ A ≠ X ∧ GB ≠ X ∧ MA ≠ X ∧ MB ≠ X ∧ ¬ 0 = X) (k' : BA ≠ X ∧ U ≠ X) : Uni w1 S MA A GB MB U BA s m b Y root asid B :=
  ⟨h.P.kept u k.1 k.2.1 k.2.2.1 k.2.2.2.1 k.2.2.2.2.1 k.2.2.2.2.2, h.un.kept u k'.2, h.bu.kept u k'.1, h.bo, h.n⟩
theorem mapX_seven {s : Sp} {m : Mem} {b : Bud} (hE : (s.E 3 7).v = false) (f : Int) (hf : 0 ≤ f ∧ f < m.n) (hl : 3 ≤ b.left) : s.mapX m b 7 f = 0 := by
  unfold Sp.mapX
  have h1 : ¬ (¬ (0 ≤ (7 : Int) ∧ (7 : Int) ≤ 4095) ∨ m.ex f 1 = false) := by
    intro h
    rcases h with h | h
    · exact h ⟨by omega, by omega⟩
    · unfold Mem.ex at h; simp at h; omega
  rw [if_neg h1, show (7 : Int).toNat = 7 from rfl, hE, if_neg (by decide), if_neg (by omega)]
theorem ints_set (L : List Int) (i : Nat) (v : Int) : (ints .u64 L).set i (.int .u64 v) = ints .u64 (L.set i v) := by
  unfold ints
  rw [List.map_set]
set_option maxRecDepth 100000 in
set_option maxHeartbeats 8000000 in
theorem walk (ao : Option Addr) (n cap b off : Nat) (E : Nat → Nat → Value) (sh : Bool)
    (w : World) (R : Fr.RowArg w ao n b off mopKs E) (T0 : Fr.VarIs w 0 (Fr.datCells (Rows.laid_trunnion_entry_fields (H := Unit)))) :
    Calls Tryd.prog 6 #[.slice ao n cap, .bool sh] w fun e w' => e = .returned (.bool true) ∧ Below w.heap.size w w' := by
  have T := tab_of T0
  have hmost := R.most
  clear T0
  obtain ⟨L0, hL0⟩ : ∃ L0, List.replicate 48 (0 : Int) = L0 := ⟨_, rfl⟩
  have hz : ∀ w : World, (zeroValue 92).run Tryd.prog w = .ok (.agg (ints .u64 L0).toArray) w := fun w => by rw [← hL0]; kernel_rfl
  have HL0 := Lib.hid hL0
  clear hL0
  have cA := Lib.hid (uawake_any w T)
  have L6 := Lib.hid (show 0 < w.heap.size from World.block_lt_of_cell? w _ (T 0 (by omega)).1)
  go_enter Tryd.func6, Tryd.ntmps6
  go_wp2_with fail
  refine cA.out.mono ?_
  rintro e w0 ⟨rfl, U1⟩
  have T0 := Lib.hid (T.kept U1)
  have V0 := Lib.hid U1
  clear cA U1 T
  -- the memory, the allocator
  go_wp2_with fail
  refine (new_yes 64 _ (by omega) (by omega)).mono ?_
  rintro e w1 ⟨rfl, m1, u1, s1⟩
  have M1 := Lib.hid m1
  have V1 := Lib.hid (V0.out.trans u1)
  have T1 := Lib.hid (T0.out.kept u1)
  have S1 := Lib.hid s1
  have L0 := Lib.hid (show w.heap.size ≤ w0.heap.size from V0.out.size)
  clear m1 u1 s1 T0 V0
  go_wp2_with fail
  refine (bNew_yes _ _ 32 _ M1.out (by show 32 ≤ 64; omega)).mono ?_
  rintro e w2 ⟨rfl, b2, u2, s2⟩
  have T2 := Lib.hid (T1.out.kept u2)
  have D2 := Lib.hid (show Duo w2 (w1.heap.size + 1) (w0.heap.size + 1) w1.heap.size (memNew w0.heap.size 64) (bud0 64 32) from ⟨b2, M1.out.kept u2 id id, rfl⟩)
  have V2 := Lib.hid (V1.out.trans u2)
  have S2' := Lib.hid s2
  have hz2 := Lib.hid (show w.heap.size ≤ w0.heap.size + 1 ∧ w.heap.size ≤ w1.heap.size ∧ w.heap.size ≤ w1.heap.size + 1 ∧ w1.heap.size + 1 < w2.heap.size ∧ w0.heap.size + 1 < w2.heap.size ∧ w1.heap.size < w2.heap.size ∧ w.heap.size ≤ w0.heap.size ∧ w0.heap.size < w2.heap.size from by have := S1.out; have := S2'.out; have := L0.out; omega)
  clear b2 u2 s2 M1 V1 S1 S2' T1 L0
  have HB := Lib.hid (show (memNew w0.heap.size 64).B = w0.heap.size from rfl)
  have hg := Lib.hid (Mem.new_good w0.heap.size 64)
  have hmn : Hid ((memNew w0.heap.size 64).n = 64) := Lib.hid rfl
  have hz0 := Lib.hid (fun g p hg hp => new_word0 w0.heap.size 64 g p hg hp)
  generalize hA : w1.heap.size + 1 = A at D2 hz2 ⊢
  generalize hMA : w0.heap.size + 1 = MA at D2 hz2 ⊢
  generalize hGB : w1.heap.size = GB at D2 hz2
  generalize memNew w0.heap.size 64 = m0 at D2 HB hg hmn hz0
  generalize hMB : w0.heap.size = MB at HB hz2
  clear hA hMA hGB hMB
  -- the first space
  go_wp2_with fail
  refine (spc_new_z hz0.out D2.out T2.out HB.out hg.out (Y := Yu) (fun x => by unfold Yu; simp [bud0]) (fun x h => h.elim)).mono ?_
  rintro e w3 (⟨h0, rfl, u3⟩ | ⟨h0, S, s, m, hS, rfl, P3, u3, n3, r3, z3, -, zs3⟩)
  · rw [bud64_left] at h0
    omega
  have A1 := al_ok bud64_ok 1 (by rw [bud64_left]; omega)
  have hl1 := Lib.hid (show ((bud0 64 32).al 1).2.left = 31 from by have := A1.left; rw [bud64_left] at this; omega)
  have P := Lib.hid P3
  have hSl := Lib.hid (show w2.heap.size ≤ S ∧ S < w3.heap.size ∧ w2.heap.size ≤ w3.heap.size from ⟨hS, P3.lts.1, u3.size⟩)
  have V3 := Lib.hid (V2.out.since u3 (by rintro k (rfl | rfl) <;> (have := hz2.out; omega)))
  have N3 := Lib.hid (n3.trans hmn.out)
  have Z3 := Lib.hid z3
  have R3 := Lib.hid (show ((bud0 64 32).al 1).2.res = 32 from A1.res)
  have hw3 := Lib.hid (show ∀ g p : Nat, g < m.n → p < 16 → m.word (g : Nat) (p : Nat) = 0 from fun g p hg hp => by
    by_cases c : ∃ l d, l ≤ 2 ∧ s.on l d = true ∧ s.fr l d = (g : Nat)
    · obtain ⟨l, d, hl, ho, e⟩ := c
      rw [← e, P3.I.i l d p hl ho hp, z3]
      rfl
    · exact zs3 g p hg hp (fun l d hl ho e => c ⟨l, d, hl, ho, e⟩))
  clear P3 u3 n3 z3 zs3 r3 hS h0 D2 T2 V2 A1 hz0 hg HB hmn
  generalize ((bud0 64 32).al 1).2 = b1 at P R3 hl1
  -- the second one
  go_wp2_with fail
  refine (spc_new_z hw3.out P.out.D P.out.T P.out.B P.out.I.hg (Y := tabsOf s) (fun x => by
    rw [P.out.I.gv]
    exact ⟨fun h => h.elim id (fun h => h.elim), fun h => .inl h⟩) (fun x h => tabsOf_zero h)).mono ?_
  rintro e w4 (⟨h0, rfl, u4⟩ | ⟨h0, S2, t, m', hS2, rfl, P4, u4, n4, r4, z4, sw4, zs4⟩)
  · have := hl1.out
    omega
  have A2 := al_ok P.out.I.bk 1 h0
  have hl2 := Lib.hid (show (b1.al 1).2.left = 30 from by have := A2.left; have := hl1.out; omega)
  have Q := Lib.hid P4
  have I4 := Lib.hid (P.out.I.beside P4.I sw4 n4)
  have SA4 := Lib.hid (P.out.S.kept u4 P.out.own)
  have hSl2 := Lib.hid (show w3.heap.size ≤ S2 ∧ S2 < w4.heap.size ∧ w3.heap.size ≤ w4.heap.size from ⟨hS2, P4.lts.1, u4.size⟩)
  have V4 := Lib.hid (V3.out.since u4 (by rintro k (rfl | rfl) <;> (have := hz2.out; omega)))
  have N4 := Lib.hid (n4.trans N3.out)
  have Z4 := Lib.hid z4
  have R4 := Lib.hid (show (b1.al 1).2.res = 32 from A2.res.trans R3.out)
  have hw4 := Lib.hid (show ∀ g p : Nat, g < 32 → p < 16 → m'.word (g : Nat) (p : Nat) = 0 from fun g p hg hp => zs4 g p (by have := N4.out; omega) hp (fun l d hl ho e => by have := P4.I.high hl ho; have := R4.out; omega))
  clear P4 u4 n4 z4 zs4 r4 sw4 hS2 h0 P V3 N3 R3 hw3 hl1 A2
  generalize (b1.al 1).2 = b2 at Q R4 hl2 I4
  generalize m' = m2 at Q I4 N4 hw4
  clear m' b1 m0 m
  -- the buffer, the unit
  go_wp2_with fail
  refine (tnew_any w4).mono ?_
  rintro e w5 ⟨BA, rfl, hBA, b5, u5⟩
  have B5 := Lib.hid b5
  have HBA := Lib.hid (show w4.heap.size ≤ BA ∧ BA < w5.heap.size from ⟨hBA, b5.lt⟩)
  have Q5 := Lib.hid (Q.out.still u5)
  have SA5 := Lib.hid (SA4.out.kept u5 id)
  have V5 := Lib.hid (V4.out.trans u5)
  clear b5 u5 hBA Q V4 SA4
  go_wp2_with fail
  refine (unew_any MA BA w5).mono ?_
  rintro e w6 ⟨rfl, x6, u6⟩
  have X6 := Lib.hid x6
  have Q6 := Lib.hid (Q5.out.still u6)
  have SA6 := Lib.hid (SA5.out.kept u6 id)
  have B6 := Lib.hid (B5.out.kept u6 id)
  have V6 := Lib.hid (V5.out.trans u6)
  have hNq := Lib.hid (show UNq w5.heap.size BA S MA A GB MB ∧ (w5.heap.size ≠ S2 ∧ BA ≠ S2) ∧ (w.heap.size ≤ GB ∧ w.heap.size ≤ MB ∧ w.heap.size ≤ BA ∧ w.heap.size ≤ w5.heap.size) ∧ w5.heap.size < w6.heap.size from by
    have l1 := hz2.out
    have l2 := hSl.out
    have l3 := HBA.out
    have l5 := Q5.out.lts
    have l7 := hSl2.out
    have l6 := L6.out
    have l8 := X6.out.lt
    refine ⟨⟨by omega, ?_⟩, by omega, by omega, l8⟩
    rintro i (rfl | rfl | rfl | rfl | rfl | rfl) <;> omega)
  generalize w5.heap.size = U at X6 hNq ⊢
  clear x6 u6 Q5 B5 V5 HBA hSl hSl2 hz2 SA5
  have hS2M := Lib.hid (show ¬ S2 = MB from fun e => Q6.out.own (.inr e))
  by_cases h40 : 40 < n
  · go_wp2
    go_ret
    exact ⟨rfl, V6.out.below (Nat.le_refl _) fun _ _ => id⟩
  cases sh
  · go_upto_region 10 with fail
    go_upto_region 13 with fail
    have P6 := Lib.hid (show Spc w6 S MA A GB MB s m2 b2 (tabsOf t) from ⟨SA6.out, Q6.out.D, Q6.out.T, I4.out, Q6.out.B⟩)
    have k6 := Lib.hid (mapX_seven (s := s) (m := m2) (b := b2) (by rw [Z3.out]; rfl) 1 (by have := N4.out; omega) (by have := hl2.out; omega))
    go_wp2_with fail
    refine (spc_map_l P6.out 7 1 true (by decide)).mono ?_
    rintro e w7 ⟨x7, s7, m7, b7, rfl, P7, u7, r7, lw7⟩
    have hx7 : x7 = 0 := r7.xe.trans k6.out
    subst hx7
    obtain ⟨hE7, hl7⟩ : (∀ q', s7.E 3 q' = if q' = 7 then ⟨true, true, false, 1⟩ else s.E 3 q') ∧ 27 ≤ b7.left := by
      rcases r7.r with ⟨h, _⟩ | ⟨_, qn, e, _, _, _, hl, hb, _, hE⟩
      · exact absurd rfl h
      · have e7 : qn = 7 := by omega
        subst e7
        have := (al_ok Q6.out.I.bk _ hl).left
        rw [← hb] at this
        exact ⟨hE, by have := hl2.out; omega⟩
    have J7 := Lib.hid (Q6.out.I.beside P7.I r7.w r7.n)
    have PT7 := Lib.hid (show Spc w7 S2 MA A GB MB t m7 b7 (tabsOf s7) from ⟨Q6.out.S.kept u7 Q6.out.own, P7.D, P7.T, J7.out, P7.B⟩)
    have PS7 := Lib.hid P7
    have n7 := Lib.hid (show m7.n = 64 ∧ b7.res = 32 from ⟨r7.n.trans N4.out, r7.res.trans R4.out⟩)
    have w7z := Lib.hid (show ∀ g p : Nat, g < 32 → p < 16 → m7.word (g : Nat) (p : Nat) = 0 from fun g p hg hp => by rw [lw7 g p (by rw [R4.out]; exact hg) hp]; exact hw4.out g p hg hp)
    have V7 := Lib.hid (V6.out.since u7 (by rintro k (rfl | rfl) <;> (have := hNq.out.2.2.1; omega)))
    have gg := Lib.hid (show (U ≠ GB ∧ U ≠ MB) ∧ BA ≠ GB ∧ BA ≠ MB from by
      have g1 := hNq.out.1.u GB (.inr (.inr (.inr (.inl rfl))))
      have g2 := hNq.out.1.u MB (.inr (.inr (.inr (.inr (.inl rfl)))))
      exact ⟨⟨g1.1, g2.1⟩, g1.2, g2.2⟩)
    have X7 := Lib.hid (X6.out.kept u7 (fun e => e.elim gg.out.1.1 gg.out.1.2))
    have B7 := Lib.hid (B6.out.kept u7 (fun e => e.elim gg.out.2.1 gg.out.2.2))
    have E7 := Lib.hid hE7
    have k7 := Lib.hid (mapX_seven (s := t) (m := m7) (b := b7) (by rw [Z4.out]; rfl) 2 (by have := n7.out.1; omega) (by omega))
    clear hE7 P7 u7 r7 lw7 P6 k6 J7 SA6 Q6 I4 V6 X6 B6 hw4 N4 R4 hl2 Z3 hl7
    go_wp2_with fail
    refine (spc_map_l PT7.out 7 2 true (by decide)).mono ?_
    rintro e w8 ⟨x8, t8, m8, b8, rfl, P8, u8, r8, lw8⟩
    have hx8 : x8 = 0 := r8.xe.trans k7.out
    subst hx8
    have hE8 : ∀ q', t8.E 3 q' = if q' = 7 then ⟨true, true, false, 2⟩ else t.E 3 q' := by
      rcases r8.r with ⟨h, _⟩ | ⟨_, qn, e, _, _, _, hl, hb, _, hE⟩
      · exact absurd rfl h
      · have e7 : qn = 7 := by omega
        subst e7
        exact hE
    have I8 := Lib.hid (PS7.out.I.beside P8.I r8.w r8.n)
    have PS8 := Lib.hid (show Spc w8 S MA A GB MB s7 m8 b8 (tabsOf t8) from ⟨PS7.out.S.kept u8 PS7.out.own, P8.D, P8.T, I8.out, P8.B⟩)
    have PT8 := Lib.hid P8
    have n8 := Lib.hid (show m8.n = 64 ∧ b8.res = 32 from ⟨r8.n.trans n7.out.1, r8.res.trans n7.out.2⟩)
    have w8z := Lib.hid (show ∀ g p : Nat, g < 32 → p < 16 → m8.word (g : Nat) (p : Nat) = 0 from fun g p hg hp => by rw [lw8 g p (by rw [n7.out.2]; exact hg) hp]; exact w7z.out g p hg hp)
    have V8 := Lib.hid (V7.out.since u8 (by rintro k (rfl | rfl) <;> (have := hNq.out.2.2.1; omega)))
    have X8 := Lib.hid (X7.out.kept u8 (fun e => e.elim gg.out.1.1 gg.out.1.2))
    have B8 := Lib.hid (B7.out.kept u8 (fun e => e.elim gg.out.2.1 gg.out.2.2))
    have es := Lib.hid (show s7.E 3 7 = ⟨true, true, false, 1⟩ from by rw [E7.out, if_pos rfl])
    have et := Lib.hid (show t8.E 3 7 = ⟨true, true, false, 2⟩ from by rw [hE8, if_pos rfl])
    clear hE8 P8 u8 r8 lw8 PT7 k7 PS7 I8 V7 X7 B7 w7z n7 Z4 E7
    go_upto_region 16 with fail
    have bx := Lib.hid (show (w8.alloc (.cells (ints .u64 L0).toArray 92)).heap[w8.heap.size]? = some (.cells (ints .u64 L0).toArray 92 (0, 0)) from heap_alloc_last w8 _)
    have ux := (Upd.refl (fun _ => False) w8).alloc (.cells (ints .u64 L0).toArray 92)
    have TW := Lib.hid (show Uni (w8.alloc (.cells (ints .u64 L0).toArray 92)) S MA A GB MB U BA s7 m8 b8 (tabsOf t8) 0 0 buf0 from ⟨PS8.out.still ux, X8.out.kept ux id, B8.out.kept ux id, buf0_ok, hNq.out.1⟩)
    have TS := Lib.hid (PT8.out.S.kept ux id)
    have VX := Lib.hid (V8.out.trans ux)
    have SK := Lib.hid (show SwK s7 t8 m8 b8 buf0 2 L0 from ⟨PS8.out.I, PT8.out.I, n8.out.2, n8.out.1, es.out, et.out, by omega, BInv.empty _ _, BInv.empty _ _, fun i l h => (by cases h), by rw [← HL0.out]; simp, fun f p hf hp => by
      have h1 := w8z.out f p (by omega) hp
      have hn := n8.out.1
      unfold Mem.word at h1
      unfold Mem.rd
      rw [show m8.has (16 * (f : Int) + p) = true from decide_eq_true (by omega), if_pos rfl, show (16 * (f : Int) + (p : Int)).toNat = ((f : Int) * 16 + p).toNat from by omega, h1]
      rw [← HL0.out]
      exact getD_replicate0 _ _⟩)
    have hX := Lib.hid (show (w8.heap.size ≠ U ∧ w8.heap.size ≠ BA ∧ w8.heap.size ≠ MB ∧ w8.heap.size ≠ GB) ∧ (S ≠ w8.heap.size ∧ A ≠ w8.heap.size ∧ GB ≠ w8.heap.size ∧ MA ≠ w8.heap.size ∧ MB ≠ w8.heap.size ∧ ¬ 0 = w8.heap.size) ∧ S2 ≠ w8.heap.size ∧ w.heap.size ≤ w8.heap.size ∧ BA ≠ w8.heap.size ∧ U ≠ w8.heap.size from by
      have l1 := PS8.out.lts
      have l2 := PT8.out.lts
      have l3 := X8.out.lt
      have l4 := B8.out.lt
      have l5 := V8.out.size
      have l6 := L6.out
      omega)
    clear ux PS8 PT8 X8 B8 V8 w8z n8 es et
    generalize w8.alloc (.cells (ints .u64 L0).toArray 92) = w9 at bx TW TS VX ⊢
    generalize w8.heap.size = X at bx hX ⊢
    generalize buf0 = B0 at TW SK
    go_wp2_with fail
    go_loopw [19] (fun z wr => ∃ (i : Nat) (m : Mem) (B : Buf) (L : List Int) (root asid : Int), i ≤ n ∧ z = .int .i64 i ∧ Hid (Uni wr S MA A GB MB U BA s7 m b8 (tabsOf t8) root asid B) ∧ Hid (SpAt wr S2 MA A t8.root) ∧ Hid (SwK s7 t8 m b8 B 2 L) ∧ Hid (wr.heap[X]? = some (.cells (ints .u64 L).toArray 92 (0, 0))) ∧ Hid (Upd (fun _ => False) w wr)) (fun z _ => n - (intOf z).toNat)
    case atStart => exact ⟨0, m8, B0, L0, 0, 0, by omega, rfl, TW, TS, SK, bx, VX⟩
    case round =>
      clear TW TS SK bx VX
      obtain ⟨i, m, B, L, root, asid, hi, rfl, TW, TS, SK, bx, V⟩ := hrel
      by_cases hlt : i < n
      · obtain rfl := R.place (by omega)
        obtain ⟨d, ad, at', f, pl, v, e, hop⟩ := mop10 (rows_below R V.out) i hlt
        obtain ⟨ev, er, et, ef⟩ := e
        have p0 := hop.c0
        have p1 := hop.c1
        have p2 := hop.c2
        have p3 := hop.c3
        have p4 := hop.c4
        have p5 := hop.c5
        have p6 := hop.c6
        have p7 := hop.c7
        have p8 := hop.c8
        have p9 := hop.c9
        have Hv := Lib.hid hop.wv
        clear hop
        simp only at p6 p7 p8 p9
        go_upto_region 19 with fail
        go_upto_region 20 with fail
        have gX := heap_alloc_last wr (.cells #[.int .i64 d, .int .i64 ad, .int .i64 at', .int .i64 f, .int .i64 pl, .int .u64 v, .bool ev, .bool er, .bool et, .int .i64 ef] 51)
        have UW := (Upd.refl (fun _ => False) wr).alloc (.cells #[.int .i64 d, .int .i64 ad, .int .i64 at', .int .i64 f, .int .i64 pl, .int .u64 v, .bool ev, .bool er, .bool et, .int .i64 ef] 51)
        have TWa := Lib.hid (TW.out.still UW)
        have TSa := Lib.hid (TS.out.kept UW id)
        have bxa := Lib.hid (UW.at bx.out id)
        have Va := Lib.hid (V.out.trans UW)
        have hg := Lib.hid (show ¬ wr.heap.size = U ∧ ¬ (wr.heap.size = BA ∨ wr.heap.size = MB) ∧ ¬ wr.heap.size = BA ∧ ¬ wr.heap.size = X from by
          have l1 := TW.out.P.lts
          have l2 := TW.out.un.lt
          have l3 := TW.out.bu.lt
          have l4 := lt_of_heap bx.out
          omega)
        generalize wr.alloc (.cells #[.int .i64 d, .int .i64 ad, .int .i64 at', .int .i64 f, .int .i64 pl, .int .u64 v, .bool ev, .bool er, .bool et, .int .i64 ef] 51) = W at gX TWa TSa bxa Va ⊢
        generalize wr.heap.size = g at gX hg ⊢
        clear TW TS bx V UW p0 p1 p2 p3 p4 p5 p6 p7 p8 p9
        obtain ⟨o0, o1, o2, o3, o4, o5, o6, o7, o8, o9⟩ := ob10 gX
        have HX := Lib.hid gX
        clear gX o3 o4 o6 o7 o8 o9
        have a15 := um_and15 ad
        obtain ⟨P, hP⟩ := Int.eq_ofNat_of_zero_le (show 0 ≤ ad % 16 by omega)
        have hP16 : P < 16 := by omega
        rw [hP] at a15
        have a7 := um_and7 at'
        obtain ⟨K, hK⟩ := Int.eq_ofNat_of_zero_le (show 0 ≤ at' % 8 by omega)
        have hK8 : K < 8 := by omega
        rw [hK] at a7
        clear hP hK
        have w112 := IntWalk.i64_in (112 + (P : Int)) (by omega)
        have rts := Lib.hid (show (0 ≤ s7.root ∧ s7.root < m.n) ∧ 0 ≤ t8.root ∧ t8.root < m.n from ⟨⟨SK.out.I.ok.rlo, SK.out.I.ok.rhi⟩, SK.out.J.ok.rlo, SK.out.J.ok.rhi⟩)
        cases hb : (v.tmod 2 == 1)
        · go_upto_region 25 with fail
          go_wp2_with fail
          refine (spc_root TWa.out.P).mono ?_
          rintro e wq ⟨rfl, rfl⟩
          go_wp2_with fail
          refine (uni_use TWa.out s7.root 1 rts.out.1 (by omega)).mono ?_
          rintro e wb ⟨rfl, twb, ub⟩
          have HC := Lib.hid (show SwC s7 t8 2 s7 1 1 from ⟨.inl ⟨rfl, rfl, rfl⟩⟩)
          have TWq := Lib.hid twb
          have TSq := Lib.hid (TSa.out.kept ub (Ne.symm hNq.out.2.1.1))
          have bxq := Lib.hid (ub.at bxa.out hX.out.1.1)
          have Vq := Lib.hid (Va.out.since ub (by rintro k rfl; have := hNq.out.2.2.1; omega))
          have HXq := Lib.hid (ub.at HX.out hg.out.1)
          clear twb ub TWa TSa bxa Va HX o0 o1 o2 o5
          obtain ⟨o0, -, o2, -, -, o5, -, -, -, -⟩ := ob10 HXq.out
          by_cases d3 : d < 3
          · obtain ⟨⟨y1, y2, -, -⟩, SK1⟩ := SK.out.now HC.out (P : Int) (K : Int) v (by omega) (by omega) (by omega) (by omega)
            have SK2 := Lib.hid (SK1.wrote 1 P v (by omega) hP16 Hv)
            have hL48 := Lib.hid SK.out.len
            have y2' := Lib.hid (show uM m B s7.root 1 (112 + (P : Int)) v (K : Int) = m.wr (16 * ((1 : Nat) : Int) + (P : Int)) v from y2)
            clear SK1 y2
            go_wp2_with fail
            refine (TWq.out.store (112 + (P : Int)) v (K : Int) (by rw [y2'.out]; exact SK2.out.I)).mono ?_
            rintro e wc ⟨rfl, twc, uc⟩
            rw [y1]
            rw [y2'.out] at twc
            have TWc := Lib.hid twc
            have TSc := Lib.hid (TSq.out.kept uc (fun e => e.elim (Ne.symm hNq.out.2.1.2) hS2M.out))
            have bxc := Lib.hid (uc.at bxq.out (fun e => e.elim hX.out.1.2.1 hX.out.1.2.2.1))
            have Vc := Lib.hid (Vq.out.since uc (by rintro k (rfl | rfl) <;> (have := hNq.out.2.2.1; omega)))
            have HXc := Lib.hid (uc.at HXq.out hg.out.2.1)
            clear twc uc TWq TSq bxq Vq HXq y1 y2' o0 o2 o5 SK
            go_upto_region 29 with fail
            refine wp_region_tail 6 (by kernel_rfl) (by kernel_rfl) ?_
            simp only [List.take_succ_cons, List.take_zero, List.drop_succ_cons, List.drop_zero]
            intro wt hwt
            have ut : Upd (fun _ => False) wc wt := by rw [hwt]; exact (Upd.refl _ _).drew
            have o5 : wt.cell? ⟨g, 5, none⟩ = some (.int .u64 v) := (ob10 (ut.at HXc.out id)).2.2.2.2.2.1
            have bxt := Lib.hid (ut.at bxc.out id)
            have zX := frozen_block bxt.out (1 * 16 + P)
            have cX0 := cell_block bxt.out (1 * 16 + P) (by rw [hL48.out]; omega)
            have Vt := Lib.hid (Vc.out.trans ut)
            have TWt := Lib.hid (TWc.out.still ut)
            have TSt := Lib.hid (TSc.out.kept ut id)
            have HXt := Lib.hid (ut.at HXc.out id)
            clear hwt ut Vc TWc TSc HXc bxc
            have j0 : (0 : Int) ≤ (P : Int) := by omega
            have j1 : (P : Int) < 16 := by omega
            iterate 6 still_step
            refine wpStill_nil ?_
            have ux : Upd (fun x => x = X) wt (wt.setCell ⟨X, 16 + P, none⟩ (.int .u64 v)) := (Upd.refl (fun x => x = X) wt).setCell (.inl rfl) _
            have bxs := heap_setCell_same bxt.out (16 + P) (.int .u64 v)
            rw [ints_set] at bxs
            have bxb := Lib.hid bxs
            have TWb := Lib.hid (uni_box TWt.out ux hX.out.2.1 hX.out.2.2.2.2)
            have TSb := Lib.hid (TSt.out.kept ux hX.out.2.2.1)
            have Vb := Lib.hid (Vt.out.since ux (by rintro k rfl; exact hX.out.2.2.2.1))
            have HXb := Lib.hid (ux.at HXt.out hg.out.2.2.2)
            have SKb := Lib.hid (show SwK s7 t8 (m.wr (16 * ((1 : Nat) : Int) + (P : Int)) v) b8 (uB m B s7.root 1 (112 + (P : Int)) (K : Int)) 2 (L.set (16 + P) v) from SK2.out)
            clear ux bxs Vt TWt TSt HXt bxt SK2
            go_upto_region 30 with fail
            clear o5 zX cX0
            generalize wt.setCell ⟨X, 16 + P, none⟩ (.int .u64 v) = wc9 at bxb TWb TSb Vb HXb ⊢
            generalize m.wr (16 * ((1 : Nat) : Int) + (P : Int)) v = m9 at TWb SKb
            generalize L.set (16 + P) v = L9 at bxb SKb
            as_aux_lemma =>
              obtain ⟨⟨-, -, z3, z4⟩, SK3⟩ := SKb.out.now HC.out (P : Int) (K : Int) 0 (by omega) (by omega) (by omega) (by omega)
              have hwd := Lib.hid (SKb.out.ww 1 P (by omega) hP16)
              have SK4 := Lib.hid SK3
              have Z34 := Lib.hid (And.intro z3 z4)
              clear z3 z4 SK3
              have o2 : wc9.cell? ⟨g, 2, none⟩ = some (.int .i64 at') := (ob10 HXb.out).2.2.1
              go_wp2_with fail
              refine (TWb.out.load (112 + (P : Int)) (K : Int)).mono ?_
              rintro e wd ⟨rfl, twd, ud⟩
              rw [Z34.out.1, Z34.out.2]
              have TWd := Lib.hid twd
              have TSd := Lib.hid (TSb.out.kept ud (Ne.symm hNq.out.2.1.2))
              have bxd := Lib.hid (ud.at bxb.out hX.out.1.2.1)
              have Vd := Lib.hid (Vb.out.since ud (by rintro k rfl; have := hNq.out.2.2.1; omega))
              have cX : wd.cell? ⟨X, 1 * 16 + P, none⟩ = some (.int .u64 (m9.rd (16 * 1 + (P : Int)))) := by
                have hc := cell_block bxd.out (1 * 16 + P) (by rw [SKb.out.len]; omega)
                have := hwd.out
                rw [this] at hc
                exact hc
              clear twd ud o2 TWb TSb bxb Vb HXb Z34 SKb hwd
              generalize m9.rd (16 * 1 + (P : Int)) = zz at cX ⊢
              have hi1 : (1 : Int) * 16 + (P : Int) < 48 := by omega
              go_wp2
              go_roundw
              case rel => exact ⟨i + 1, m9, _, L9, _, _, by omega, by go_num, TWd, TSd, SK4, bxd, Vd⟩
              case measure => simp [intOf]; omega
          · obtain ⟨m9, hm9⟩ : ∃ x, x = m := ⟨_, rfl⟩
            obtain ⟨L9, hL9⟩ : ∃ x, x = L := ⟨_, rfl⟩
            obtain ⟨wc9, hw9⟩ : ∃ x, x = wb := ⟨_, rfl⟩
            subst hm9 hL9 hw9
            have TWb := TWq
            have TSb := TSq
            have bxb := bxq
            have Vb := Vq
            have HXb := HXq
            have SKb := SK
            clear TWq TSq bxq Vq HXq SK
            as_aux_lemma =>
              obtain ⟨⟨-, -, z3, z4⟩, SK3⟩ := SKb.out.now HC.out (P : Int) (K : Int) 0 (by omega) (by omega) (by omega) (by omega)
              have hwd := Lib.hid (SKb.out.ww 1 P (by omega) hP16)
              have SK4 := Lib.hid SK3
              have Z34 := Lib.hid (And.intro z3 z4)
              clear z3 z4 SK3
              have o2 : wc9.cell? ⟨g, 2, none⟩ = some (.int .i64 at') := (ob10 HXb.out).2.2.1
              go_wp2_with fail
              refine (TWb.out.load (112 + (P : Int)) (K : Int)).mono ?_
              rintro e wd ⟨rfl, twd, ud⟩
              rw [Z34.out.1, Z34.out.2]
              have TWd := Lib.hid twd
              have TSd := Lib.hid (TSb.out.kept ud (Ne.symm hNq.out.2.1.2))
              have bxd := Lib.hid (ud.at bxb.out hX.out.1.2.1)
              have Vd := Lib.hid (Vb.out.since ud (by rintro k rfl; have := hNq.out.2.2.1; omega))
              have cX : wd.cell? ⟨X, 1 * 16 + P, none⟩ = some (.int .u64 (m9.rd (16 * 1 + (P : Int)))) := by
                have hc := cell_block bxd.out (1 * 16 + P) (by rw [SKb.out.len]; omega)
                have := hwd.out
                rw [this] at hc
                exact hc
              clear twd ud o2 TWb TSb bxb Vb HXb Z34 SKb hwd
              generalize m9.rd (16 * 1 + (P : Int)) = zz at cX ⊢
              have hi1 : (1 : Int) * 16 + (P : Int) < 48 := by omega
              go_wp2
              go_roundw
              case rel => exact ⟨i + 1, m9, _, L9, _, _, by omega, by go_num, TWd, TSd, SK4, bxd, Vd⟩
              case measure => simp [intOf]; omega
        · go_upto_region 24 with fail
          go_wp2_with fail
          refine (sroot_any S2 MA A t8.root W TSa.out).mono ?_
          rintro e wq ⟨rfl, rfl⟩
          go_wp2_with fail
          refine (uni_use TWa.out t8.root 2 rts.out.2 (by omega)).mono ?_
          rintro e wb ⟨rfl, twb, ub⟩
          have HC := Lib.hid (show SwC s7 t8 2 t8 2 2 from ⟨.inr ⟨rfl, rfl, rfl⟩⟩)
          have TWq := Lib.hid twb
          have TSq := Lib.hid (TSa.out.kept ub (Ne.symm hNq.out.2.1.1))
          have bxq := Lib.hid (ub.at bxa.out hX.out.1.1)
          have Vq := Lib.hid (Va.out.since ub (by rintro k rfl; have := hNq.out.2.2.1; omega))
          have HXq := Lib.hid (ub.at HX.out hg.out.1)
          clear twb ub TWa TSa bxa Va HX o0 o1 o2 o5
          obtain ⟨o0, -, o2, -, -, o5, -, -, -, -⟩ := ob10 HXq.out
          by_cases d3 : d < 3
          · obtain ⟨⟨y1, y2, -, -⟩, SK1⟩ := SK.out.now HC.out (P : Int) (K : Int) v (by omega) (by omega) (by omega) (by omega)
            have SK2 := Lib.hid (SK1.wrote 2 P v (by omega) hP16 Hv)
            have hL48 := Lib.hid SK.out.len
            have y2' := Lib.hid (show uM m B t8.root 2 (112 + (P : Int)) v (K : Int) = m.wr (16 * ((2 : Nat) : Int) + (P : Int)) v from y2)
            clear SK1 y2
            go_wp2_with fail
            refine (TWq.out.store (112 + (P : Int)) v (K : Int) (by rw [y2'.out]; exact SK2.out.I)).mono ?_
            rintro e wc ⟨rfl, twc, uc⟩
            rw [y1]
            rw [y2'.out] at twc
            have TWc := Lib.hid twc
            have TSc := Lib.hid (TSq.out.kept uc (fun e => e.elim (Ne.symm hNq.out.2.1.2) hS2M.out))
            have bxc := Lib.hid (uc.at bxq.out (fun e => e.elim hX.out.1.2.1 hX.out.1.2.2.1))
            have Vc := Lib.hid (Vq.out.since uc (by rintro k (rfl | rfl) <;> (have := hNq.out.2.2.1; omega)))
            have HXc := Lib.hid (uc.at HXq.out hg.out.2.1)
            clear twc uc TWq TSq bxq Vq HXq y1 y2' o0 o2 o5 SK
            go_upto_region 29 with fail
            refine wp_region_tail 6 (by kernel_rfl) (by kernel_rfl) ?_
            simp only [List.take_succ_cons, List.take_zero, List.drop_succ_cons, List.drop_zero]
            intro wt hwt
            have ut : Upd (fun _ => False) wc wt := by rw [hwt]; exact (Upd.refl _ _).drew
            have o5 : wt.cell? ⟨g, 5, none⟩ = some (.int .u64 v) := (ob10 (ut.at HXc.out id)).2.2.2.2.2.1
            have bxt := Lib.hid (ut.at bxc.out id)
            have zX := frozen_block bxt.out (2 * 16 + P)
            have cX0 := cell_block bxt.out (2 * 16 + P) (by rw [hL48.out]; omega)
            have Vt := Lib.hid (Vc.out.trans ut)
            have TWt := Lib.hid (TWc.out.still ut)
            have TSt := Lib.hid (TSc.out.kept ut id)
            have HXt := Lib.hid (ut.at HXc.out id)
            clear hwt ut Vc TWc TSc HXc bxc
            have j0 : (0 : Int) ≤ (P : Int) := by omega
            have j1 : (P : Int) < 16 := by omega
            iterate 6 still_step
            refine wpStill_nil ?_
            have ux : Upd (fun x => x = X) wt (wt.setCell ⟨X, 32 + P, none⟩ (.int .u64 v)) := (Upd.refl (fun x => x = X) wt).setCell (.inl rfl) _
            have bxs := heap_setCell_same bxt.out (32 + P) (.int .u64 v)
            rw [ints_set] at bxs
            have bxb := Lib.hid bxs
            have TWb := Lib.hid (uni_box TWt.out ux hX.out.2.1 hX.out.2.2.2.2)
            have TSb := Lib.hid (TSt.out.kept ux hX.out.2.2.1)
            have Vb := Lib.hid (Vt.out.since ux (by rintro k rfl; exact hX.out.2.2.2.1))
            have HXb := Lib.hid (ux.at HXt.out hg.out.2.2.2)
            have SKb := Lib.hid (show SwK s7 t8 (m.wr (16 * ((2 : Nat) : Int) + (P : Int)) v) b8 (uB m B t8.root 2 (112 + (P : Int)) (K : Int)) 2 (L.set (32 + P) v) from SK2.out)
            clear ux bxs Vt TWt TSt HXt bxt SK2
            go_upto_region 30 with fail
            clear o5 zX cX0
            generalize wt.setCell ⟨X, 32 + P, none⟩ (.int .u64 v) = wc9 at bxb TWb TSb Vb HXb ⊢
            generalize m.wr (16 * ((2 : Nat) : Int) + (P : Int)) v = m9 at TWb SKb
            generalize L.set (32 + P) v = L9 at bxb SKb
            as_aux_lemma =>
              obtain ⟨⟨-, -, z3, z4⟩, SK3⟩ := SKb.out.now HC.out (P : Int) (K : Int) 0 (by omega) (by omega) (by omega) (by omega)
              have hwd := Lib.hid (SKb.out.ww 2 P (by omega) hP16)
              have SK4 := Lib.hid SK3
              have Z34 := Lib.hid (And.intro z3 z4)
              clear z3 z4 SK3
              have o2 : wc9.cell? ⟨g, 2, none⟩ = some (.int .i64 at') := (ob10 HXb.out).2.2.1
              go_wp2_with fail
              refine (TWb.out.load (112 + (P : Int)) (K : Int)).mono ?_
              rintro e wd ⟨rfl, twd, ud⟩
              rw [Z34.out.1, Z34.out.2]
              have TWd := Lib.hid twd
              have TSd := Lib.hid (TSb.out.kept ud (Ne.symm hNq.out.2.1.2))
              have bxd := Lib.hid (ud.at bxb.out hX.out.1.2.1)
              have Vd := Lib.hid (Vb.out.since ud (by rintro k rfl; have := hNq.out.2.2.1; omega))
              have cX : wd.cell? ⟨X, 2 * 16 + P, none⟩ = some (.int .u64 (m9.rd (16 * 2 + (P : Int)))) := by
                have hc := cell_block bxd.out (2 * 16 + P) (by rw [SKb.out.len]; omega)
                have := hwd.out
                rw [this] at hc
                exact hc
              clear twd ud o2 TWb TSb bxb Vb HXb Z34 SKb hwd
              generalize m9.rd (16 * 2 + (P : Int)) = zz at cX ⊢
              have hi1 : (2 : Int) * 16 + (P : Int) < 48 := by omega
              go_wp2
              go_roundw
              case rel => exact ⟨i + 1, m9, _, L9, _, _, by omega, by go_num, TWd, TSd, SK4, bxd, Vd⟩
              case measure => simp [intOf]; omega
          · obtain ⟨m9, hm9⟩ : ∃ x, x = m := ⟨_, rfl⟩
            obtain ⟨L9, hL9⟩ : ∃ x, x = L := ⟨_, rfl⟩
            obtain ⟨wc9, hw9⟩ : ∃ x, x = wb := ⟨_, rfl⟩
            subst hm9 hL9 hw9
            have TWb := TWq
            have TSb := TSq
            have bxb := bxq
            have Vb := Vq
            have HXb := HXq
            have SKb := SK
            clear TWq TSq bxq Vq HXq SK
            as_aux_lemma =>
              obtain ⟨⟨-, -, z3, z4⟩, SK3⟩ := SKb.out.now HC.out (P : Int) (K : Int) 0 (by omega) (by omega) (by omega) (by omega)
              have hwd := Lib.hid (SKb.out.ww 2 P (by omega) hP16)
              have SK4 := Lib.hid SK3
              have Z34 := Lib.hid (And.intro z3 z4)
              clear z3 z4 SK3
              have o2 : wc9.cell? ⟨g, 2, none⟩ = some (.int .i64 at') := (ob10 HXb.out).2.2.1
              go_wp2_with fail
              refine (TWb.out.load (112 + (P : Int)) (K : Int)).mono ?_
              rintro e wd ⟨rfl, twd, ud⟩
              rw [Z34.out.1, Z34.out.2]
              have TWd := Lib.hid twd
              have TSd := Lib.hid (TSb.out.kept ud (Ne.symm hNq.out.2.1.2))
              have bxd := Lib.hid (ud.at bxb.out hX.out.1.2.1)
              have Vd := Lib.hid (Vb.out.since ud (by rintro k rfl; have := hNq.out.2.2.1; omega))
              have cX : wd.cell? ⟨X, 2 * 16 + P, none⟩ = some (.int .u64 (m9.rd (16 * 2 + (P : Int)))) := by
                have hc := cell_block bxd.out (2 * 16 + P) (by rw [SKb.out.len]; omega)
                have := hwd.out
                rw [this] at hc
                exact hc
              clear twd ud o2 TWb TSb bxb Vb HXb Z34 SKb hwd
              generalize m9.rd (16 * 2 + (P : Int)) = zz at cX ⊢
              have hi1 : (2 : Int) * 16 + (P : Int) < 48 := by omega
              go_wp2
              go_roundw
              case rel => exact ⟨i + 1, m9, _, L9, _, _, by omega, by go_num, TWd, TSd, SK4, bxd, Vd⟩
              case measure => simp [intOf]; omega
      · have e : i = n := by omega
        subst e
        go_wp2_with fail
        refine (tlines_any BA B TW.out.bo wr TW.out.bu).mono ?_
        rintro e wl ⟨vl, rfl, rl, ul⟩
        obtain ⟨ol, cl, rfl⟩ := wk_slice rl
        have hl2 : (B.lines.length : Int) ≤ 2 := by have := SK.out.li.two TW.out.bo; omega
        have Vl := Lib.hid (V.out.trans ul)
        clear rl ul TW TS SK bx V
        go_wp2
        go_ret
        exact ⟨rfl, Vl.out.below (Nat.le_refl _) fun _ _ => id⟩
  · go_upto_region 10 with fail
    go_upto_region 13 with fail
    have P6 := Lib.hid (show Spc w6 S MA A GB MB s m2 b2 (tabsOf t) from ⟨SA6.out, Q6.out.D, Q6.out.T, I4.out, Q6.out.B⟩)
    have k6 := Lib.hid (mapX_seven (s := s) (m := m2) (b := b2) (by rw [Z3.out]; rfl) 1 (by have := N4.out; omega) (by have := hl2.out; omega))
    go_wp2_with fail
    refine (spc_map_l P6.out 7 1 true (by decide)).mono ?_
    rintro e w7 ⟨x7, s7, m7, b7, rfl, P7, u7, r7, lw7⟩
    have hx7 : x7 = 0 := r7.xe.trans k6.out
    subst hx7
    obtain ⟨hE7, hl7⟩ : (∀ q', s7.E 3 q' = if q' = 7 then ⟨true, true, false, 1⟩ else s.E 3 q') ∧ 27 ≤ b7.left := by
      rcases r7.r with ⟨h, _⟩ | ⟨_, qn, e, _, _, _, hl, hb, _, hE⟩
      · exact absurd rfl h
      · have e7 : qn = 7 := by omega
        subst e7
        have := (al_ok Q6.out.I.bk _ hl).left
        rw [← hb] at this
        exact ⟨hE, by have := hl2.out; omega⟩
    have J7 := Lib.hid (Q6.out.I.beside P7.I r7.w r7.n)
    have PT7 := Lib.hid (show Spc w7 S2 MA A GB MB t m7 b7 (tabsOf s7) from ⟨Q6.out.S.kept u7 Q6.out.own, P7.D, P7.T, J7.out, P7.B⟩)
    have PS7 := Lib.hid P7
    have n7 := Lib.hid (show m7.n = 64 ∧ b7.res = 32 from ⟨r7.n.trans N4.out, r7.res.trans R4.out⟩)
    have w7z := Lib.hid (show ∀ g p : Nat, g < 32 → p < 16 → m7.word (g : Nat) (p : Nat) = 0 from fun g p hg hp => by rw [lw7 g p (by rw [R4.out]; exact hg) hp]; exact hw4.out g p hg hp)
    have V7 := Lib.hid (V6.out.since u7 (by rintro k (rfl | rfl) <;> (have := hNq.out.2.2.1; omega)))
    have gg := Lib.hid (show (U ≠ GB ∧ U ≠ MB) ∧ BA ≠ GB ∧ BA ≠ MB from by
      have g1 := hNq.out.1.u GB (.inr (.inr (.inr (.inl rfl))))
      have g2 := hNq.out.1.u MB (.inr (.inr (.inr (.inr (.inl rfl)))))
      exact ⟨⟨g1.1, g2.1⟩, g1.2, g2.2⟩)
    have X7 := Lib.hid (X6.out.kept u7 (fun e => e.elim gg.out.1.1 gg.out.1.2))
    have B7 := Lib.hid (B6.out.kept u7 (fun e => e.elim gg.out.2.1 gg.out.2.2))
    have E7 := Lib.hid hE7
    have k7 := Lib.hid (mapX_seven (s := t) (m := m7) (b := b7) (by rw [Z4.out]; rfl) 1 (by have := n7.out.1; omega) (by omega))
    clear hE7 P7 u7 r7 lw7 P6 k6 J7 SA6 Q6 I4 V6 X6 B6 hw4 N4 R4 hl2 Z3 hl7
    go_wp2_with fail
    refine (spc_map_l PT7.out 7 1 true (by decide)).mono ?_
    rintro e w8 ⟨x8, t8, m8, b8, rfl, P8, u8, r8, lw8⟩
    have hx8 : x8 = 0 := r8.xe.trans k7.out
    subst hx8
    have hE8 : ∀ q', t8.E 3 q' = if q' = 7 then ⟨true, true, false, 1⟩ else t.E 3 q' := by
      rcases r8.r with ⟨h, _⟩ | ⟨_, qn, e, _, _, _, hl, hb, _, hE⟩
      · exact absurd rfl h
      · have e7 : qn = 7 := by omega
        subst e7
        exact hE
    have I8 := Lib.hid (PS7.out.I.beside P8.I r8.w r8.n)
    have PS8 := Lib.hid (show Spc w8 S MA A GB MB s7 m8 b8 (tabsOf t8) from ⟨PS7.out.S.kept u8 PS7.out.own, P8.D, P8.T, I8.out, P8.B⟩)
    have PT8 := Lib.hid P8
    have n8 := Lib.hid (show m8.n = 64 ∧ b8.res = 32 from ⟨r8.n.trans n7.out.1, r8.res.trans n7.out.2⟩)
    have w8z := Lib.hid (show ∀ g p : Nat, g < 32 → p < 16 → m8.word (g : Nat) (p : Nat) = 0 from fun g p hg hp => by rw [lw8 g p (by rw [n7.out.2]; exact hg) hp]; exact w7z.out g p hg hp)
    have V8 := Lib.hid (V7.out.since u8 (by rintro k (rfl | rfl) <;> (have := hNq.out.2.2.1; omega)))
    have X8 := Lib.hid (X7.out.kept u8 (fun e => e.elim gg.out.1.1 gg.out.1.2))
    have B8 := Lib.hid (B7.out.kept u8 (fun e => e.elim gg.out.2.1 gg.out.2.2))
    have es := Lib.hid (show s7.E 3 7 = ⟨true, true, false, 1⟩ from by rw [E7.out, if_pos rfl])
    have et := Lib.hid (show t8.E 3 7 = ⟨true, true, false, 1⟩ from by rw [hE8, if_pos rfl])
    clear hE8 P8 u8 r8 lw8 PT7 k7 PS7 I8 V7 X7 B7 w7z n7 Z4 E7
    go_upto_region 16 with fail
    have bx := Lib.hid (show (w8.alloc (.cells (ints .u64 L0).toArray 92)).heap[w8.heap.size]? = some (.cells (ints .u64 L0).toArray 92 (0, 0)) from heap_alloc_last w8 _)
    have ux := (Upd.refl (fun _ => False) w8).alloc (.cells (ints .u64 L0).toArray 92)
    have TW := Lib.hid (show Uni (w8.alloc (.cells (ints .u64 L0).toArray 92)) S MA A GB MB U BA s7 m8 b8 (tabsOf t8) 0 0 buf0 from ⟨PS8.out.still ux, X8.out.kept ux id, B8.out.kept ux id, buf0_ok, hNq.out.1⟩)
    have TS := Lib.hid (PT8.out.S.kept ux id)
    have VX := Lib.hid (V8.out.trans ux)
    have SK := Lib.hid (show SwK s7 t8 m8 b8 buf0 1 L0 from ⟨PS8.out.I, PT8.out.I, n8.out.2, n8.out.1, es.out, et.out, by omega, BInv.empty _ _, BInv.empty _ _, fun i l h => (by cases h), by rw [← HL0.out]; simp, fun f p hf hp => by
      have h1 := w8z.out f p (by omega) hp
      have hn := n8.out.1
      unfold Mem.word at h1
      unfold Mem.rd
      rw [show m8.has (16 * (f : Int) + p) = true from decide_eq_true (by omega), if_pos rfl, show (16 * (f : Int) + (p : Int)).toNat = ((f : Int) * 16 + p).toNat from by omega, h1]
      rw [← HL0.out]
      exact getD_replicate0 _ _⟩)
    have hX := Lib.hid (show (w8.heap.size ≠ U ∧ w8.heap.size ≠ BA ∧ w8.heap.size ≠ MB ∧ w8.heap.size ≠ GB) ∧ (S ≠ w8.heap.size ∧ A ≠ w8.heap.size ∧ GB ≠ w8.heap.size ∧ MA ≠ w8.heap.size ∧ MB ≠ w8.heap.size ∧ ¬ 0 = w8.heap.size) ∧ S2 ≠ w8.heap.size ∧ w.heap.size ≤ w8.heap.size ∧ BA ≠ w8.heap.size ∧ U ≠ w8.heap.size from by
      have l1 := PS8.out.lts
      have l2 := PT8.out.lts
      have l3 := X8.out.lt
      have l4 := B8.out.lt
      have l5 := V8.out.size
      have l6 := L6.out
      omega)
    clear ux PS8 PT8 X8 B8 V8 w8z n8 es et
    generalize w8.alloc (.cells (ints .u64 L0).toArray 92) = w9 at bx TW TS VX ⊢
    generalize w8.heap.size = X at bx hX ⊢
    generalize buf0 = B0 at TW SK
    go_wp2_with fail
    go_loopw [19] (fun z wr => ∃ (i : Nat) (m : Mem) (B : Buf) (L : List Int) (root asid : Int), i ≤ n ∧ z = .int .i64 i ∧ Hid (Uni wr S MA A GB MB U BA s7 m b8 (tabsOf t8) root asid B) ∧ Hid (SpAt wr S2 MA A t8.root) ∧ Hid (SwK s7 t8 m b8 B 1 L) ∧ Hid (wr.heap[X]? = some (.cells (ints .u64 L).toArray 92 (0, 0))) ∧ Hid (Upd (fun _ => False) w wr)) (fun z _ => n - (intOf z).toNat)
    case atStart => exact ⟨0, m8, B0, L0, 0, 0, by omega, rfl, TW, TS, SK, bx, VX⟩
    case round =>
      clear TW TS SK bx VX
      obtain ⟨i, m, B, L, root, asid, hi, rfl, TW, TS, SK, bx, V⟩ := hrel
      by_cases hlt : i < n
      · obtain rfl := R.place (by omega)
        obtain ⟨d, ad, at', f, pl, v, e, hop⟩ := mop10 (rows_below R V.out) i hlt
        obtain ⟨ev, er, et, ef⟩ := e
        have p0 := hop.c0
        have p1 := hop.c1
        have p2 := hop.c2
        have p3 := hop.c3
        have p4 := hop.c4
        have p5 := hop.c5
        have p6 := hop.c6
        have p7 := hop.c7
        have p8 := hop.c8
        have p9 := hop.c9
        have Hv := Lib.hid hop.wv
        clear hop
        simp only at p6 p7 p8 p9
        go_upto_region 19 with fail
        go_upto_region 20 with fail
        have gX := heap_alloc_last wr (.cells #[.int .i64 d, .int .i64 ad, .int .i64 at', .int .i64 f, .int .i64 pl, .int .u64 v, .bool ev, .bool er, .bool et, .int .i64 ef] 51)
        have UW := (Upd.refl (fun _ => False) wr).alloc (.cells #[.int .i64 d, .int .i64 ad, .int .i64 at', .int .i64 f, .int .i64 pl, .int .u64 v, .bool ev, .bool er, .bool et, .int .i64 ef] 51)
        have TWa := Lib.hid (TW.out.still UW)
        have TSa := Lib.hid (TS.out.kept UW id)
        have bxa := Lib.hid (UW.at bx.out id)
        have Va := Lib.hid (V.out.trans UW)
        have hg := Lib.hid (show ¬ wr.heap.size = U ∧ ¬ (wr.heap.size = BA ∨ wr.heap.size = MB) ∧ ¬ wr.heap.size = BA ∧ ¬ wr.heap.size = X from by
          have l1 := TW.out.P.lts
          have l2 := TW.out.un.lt
          have l3 := TW.out.bu.lt
          have l4 := lt_of_heap bx.out
          omega)
        generalize wr.alloc (.cells #[.int .i64 d, .int .i64 ad, .int .i64 at', .int .i64 f, .int .i64 pl, .int .u64 v, .bool ev, .bool er, .bool et, .int .i64 ef] 51) = W at gX TWa TSa bxa Va ⊢
        generalize wr.heap.size = g at gX hg ⊢
        clear TW TS bx V UW p0 p1 p2 p3 p4 p5 p6 p7 p8 p9
        obtain ⟨o0, o1, o2, o3, o4, o5, o6, o7, o8, o9⟩ := ob10 gX
        have HX := Lib.hid gX
        clear gX o3 o4 o6 o7 o8 o9
        have a15 := um_and15 ad
        obtain ⟨P, hP⟩ := Int.eq_ofNat_of_zero_le (show 0 ≤ ad % 16 by omega)
        have hP16 : P < 16 := by omega
        rw [hP] at a15
        have a7 := um_and7 at'
        obtain ⟨K, hK⟩ := Int.eq_ofNat_of_zero_le (show 0 ≤ at' % 8 by omega)
        have hK8 : K < 8 := by omega
        rw [hK] at a7
        clear hP hK
        have w112 := IntWalk.i64_in (112 + (P : Int)) (by omega)
        have rts := Lib.hid (show (0 ≤ s7.root ∧ s7.root < m.n) ∧ 0 ≤ t8.root ∧ t8.root < m.n from ⟨⟨SK.out.I.ok.rlo, SK.out.I.ok.rhi⟩, SK.out.J.ok.rlo, SK.out.J.ok.rhi⟩)
        cases hb : (v.tmod 2 == 1)
        · go_upto_region 25 with fail
          go_wp2_with fail
          refine (spc_root TWa.out.P).mono ?_
          rintro e wq ⟨rfl, rfl⟩
          go_wp2_with fail
          refine (uni_use TWa.out s7.root 1 rts.out.1 (by omega)).mono ?_
          rintro e wb ⟨rfl, twb, ub⟩
          have HC := Lib.hid (show SwC s7 t8 1 s7 1 1 from ⟨.inl ⟨rfl, rfl, rfl⟩⟩)
          have TWq := Lib.hid twb
          have TSq := Lib.hid (TSa.out.kept ub (Ne.symm hNq.out.2.1.1))
          have bxq := Lib.hid (ub.at bxa.out hX.out.1.1)
          have Vq := Lib.hid (Va.out.since ub (by rintro k rfl; have := hNq.out.2.2.1; omega))
          have HXq := Lib.hid (ub.at HX.out hg.out.1)
          clear twb ub TWa TSa bxa Va HX o0 o1 o2 o5
          obtain ⟨o0, -, o2, -, -, o5, -, -, -, -⟩ := ob10 HXq.out
          by_cases d3 : d < 3
          · obtain ⟨⟨y1, y2, -, -⟩, SK1⟩ := SK.out.now HC.out (P : Int) (K : Int) v (by omega) (by omega) (by omega) (by omega)
            have SK2 := Lib.hid (SK1.wrote 1 P v (by omega) hP16 Hv)
            have hL48 := Lib.hid SK.out.len
            have y2' := Lib.hid (show uM m B s7.root 1 (112 + (P : Int)) v (K : Int) = m.wr (16 * ((1 : Nat) : Int) + (P : Int)) v from y2)
            clear SK1 y2
            go_wp2_with fail
            refine (TWq.out.store (112 + (P : Int)) v (K : Int) (by rw [y2'.out]; exact SK2.out.I)).mono ?_
            rintro e wc ⟨rfl, twc, uc⟩
            rw [y1]
            rw [y2'.out] at twc
            have TWc := Lib.hid twc
            have TSc := Lib.hid (TSq.out.kept uc (fun e => e.elim (Ne.symm hNq.out.2.1.2) hS2M.out))
            have bxc := Lib.hid (uc.at bxq.out (fun e => e.elim hX.out.1.2.1 hX.out.1.2.2.1))
            have Vc := Lib.hid (Vq.out.since uc (by rintro k (rfl | rfl) <;> (have := hNq.out.2.2.1; omega)))
            have HXc := Lib.hid (uc.at HXq.out hg.out.2.1)
            clear twc uc TWq TSq bxq Vq HXq y1 y2' o0 o2 o5 SK
            go_upto_region 29 with fail
            refine wp_region_tail 6 (by kernel_rfl) (by kernel_rfl) ?_
            simp only [List.take_succ_cons, List.take_zero, List.drop_succ_cons, List.drop_zero]
            intro wt hwt
            have ut : Upd (fun _ => False) wc wt := by rw [hwt]; exact (Upd.refl _ _).drew
            have o5 : wt.cell? ⟨g, 5, none⟩ = some (.int .u64 v) := (ob10 (ut.at HXc.out id)).2.2.2.2.2.1
            have bxt := Lib.hid (ut.at bxc.out id)
            have zX := frozen_block bxt.out (1 * 16 + P)
            have cX0 := cell_block bxt.out (1 * 16 + P) (by rw [hL48.out]; omega)
            have Vt := Lib.hid (Vc.out.trans ut)
            have TWt := Lib.hid (TWc.out.still ut)
            have TSt := Lib.hid (TSc.out.kept ut id)
            have HXt := Lib.hid (ut.at HXc.out id)
            clear hwt ut Vc TWc TSc HXc bxc
            have j0 : (0 : Int) ≤ (P : Int) := by omega
            have j1 : (P : Int) < 16 := by omega
            iterate 6 still_step
            refine wpStill_nil ?_
            have ux : Upd (fun x => x = X) wt (wt.setCell ⟨X, 16 + P, none⟩ (.int .u64 v)) := (Upd.refl (fun x => x = X) wt).setCell (.inl rfl) _
            have bxs := heap_setCell_same bxt.out (16 + P) (.int .u64 v)
            rw [ints_set] at bxs
            have bxb := Lib.hid bxs
            have TWb := Lib.hid (uni_box TWt.out ux hX.out.2.1 hX.out.2.2.2.2)
            have TSb := Lib.hid (TSt.out.kept ux hX.out.2.2.1)
            have Vb := Lib.hid (Vt.out.since ux (by rintro k rfl; exact hX.out.2.2.2.1))
            have HXb := Lib.hid (ux.at HXt.out hg.out.2.2.2)
            have SKb := Lib.hid (show SwK s7 t8 (m.wr (16 * ((1 : Nat) : Int) + (P : Int)) v) b8 (uB m B s7.root 1 (112 + (P : Int)) (K : Int)) 1 (L.set (16 + P) v) from SK2.out)
            clear ux bxs Vt TWt TSt HXt bxt SK2
            go_upto_region 30 with fail
            clear o5 zX cX0
            generalize wt.setCell ⟨X, 16 + P, none⟩ (.int .u64 v) = wc9 at bxb TWb TSb Vb HXb ⊢
            generalize m.wr (16 * ((1 : Nat) : Int) + (P : Int)) v = m9 at TWb SKb
            generalize L.set (16 + P) v = L9 at bxb SKb
            as_aux_lemma =>
              obtain ⟨⟨-, -, z3, z4⟩, SK3⟩ := SKb.out.now HC.out (P : Int) (K : Int) 0 (by omega) (by omega) (by omega) (by omega)
              have hwd := Lib.hid (SKb.out.ww 1 P (by omega) hP16)
              have SK4 := Lib.hid SK3
              have Z34 := Lib.hid (And.intro z3 z4)
              clear z3 z4 SK3
              have o2 : wc9.cell? ⟨g, 2, none⟩ = some (.int .i64 at') := (ob10 HXb.out).2.2.1
              go_wp2_with fail
              refine (TWb.out.load (112 + (P : Int)) (K : Int)).mono ?_
              rintro e wd ⟨rfl, twd, ud⟩
              rw [Z34.out.1, Z34.out.2]
              have TWd := Lib.hid twd
              have TSd := Lib.hid (TSb.out.kept ud (Ne.symm hNq.out.2.1.2))
              have bxd := Lib.hid (ud.at bxb.out hX.out.1.2.1)
              have Vd := Lib.hid (Vb.out.since ud (by rintro k rfl; have := hNq.out.2.2.1; omega))
              have cX : wd.cell? ⟨X, 1 * 16 + P, none⟩ = some (.int .u64 (m9.rd (16 * 1 + (P : Int)))) := by
                have hc := cell_block bxd.out (1 * 16 + P) (by rw [SKb.out.len]; omega)
                have := hwd.out
                rw [this] at hc
                exact hc
              clear twd ud o2 TWb TSb bxb Vb HXb Z34 SKb hwd
              generalize m9.rd (16 * 1 + (P : Int)) = zz at cX ⊢
              have hi1 : (1 : Int) * 16 + (P : Int) < 48 := by omega
              go_wp2
              go_roundw
              case rel => exact ⟨i + 1, m9, _, L9, _, _, by omega, by go_num, TWd, TSd, SK4, bxd, Vd⟩
              case measure => simp [intOf]; omega
          · obtain ⟨m9, hm9⟩ : ∃ x, x = m := ⟨_, rfl⟩
            obtain ⟨L9, hL9⟩ : ∃ x, x = L := ⟨_, rfl⟩
            obtain ⟨wc9, hw9⟩ : ∃ x, x = wb := ⟨_, rfl⟩
            subst hm9 hL9 hw9
            have TWb := TWq
            have TSb := TSq
            have bxb := bxq
            have Vb := Vq
            have HXb := HXq
            have SKb := SK
            clear TWq TSq bxq Vq HXq SK
            as_aux_lemma =>
              obtain ⟨⟨-, -, z3, z4⟩, SK3⟩ := SKb.out.now HC.out (P : Int) (K : Int) 0 (by omega) (by omega) (by omega) (by omega)
              have hwd := Lib.hid (SKb.out.ww 1 P (by omega) hP16)
              have SK4 := Lib.hid SK3
              have Z34 := Lib.hid (And.intro z3 z4)
              clear z3 z4 SK3
              have o2 : wc9.cell? ⟨g, 2, none⟩ = some (.int .i64 at') := (ob10 HXb.out).2.2.1
              go_wp2_with fail
              refine (TWb.out.load (112 + (P : Int)) (K : Int)).mono ?_
              rintro e wd ⟨rfl, twd, ud⟩
              rw [Z34.out.1, Z34.out.2]
              have TWd := Lib.hid twd
              have TSd := Lib.hid (TSb.out.kept ud (Ne.symm hNq.out.2.1.2))
              have bxd := Lib.hid (ud.at bxb.out hX.out.1.2.1)
              have Vd := Lib.hid (Vb.out.since ud (by rintro k rfl; have := hNq.out.2.2.1; omega))
              have cX : wd.cell? ⟨X, 1 * 16 + P, none⟩ = some (.int .u64 (m9.rd (16 * 1 + (P : Int)))) := by
                have hc := cell_block bxd.out (1 * 16 + P) (by rw [SKb.out.len]; omega)
                have := hwd.out
                rw [this] at hc
                exact hc
              clear twd ud o2 TWb TSb bxb Vb HXb Z34 SKb hwd
              generalize m9.rd (16 * 1 + (P : Int)) = zz at cX ⊢
              have hi1 : (1 : Int) * 16 + (P : Int) < 48 := by omega
              go_wp2
              go_roundw
              case rel => exact ⟨i + 1, m9, _, L9, _, _, by omega, by go_num, TWd, TSd, SK4, bxd, Vd⟩
              case measure => simp [intOf]; omega
        · go_upto_region 24 with fail
          go_wp2_with fail
          refine (sroot_any S2 MA A t8.root W TSa.out).mono ?_
          rintro e wq ⟨rfl, rfl⟩
          go_wp2_with fail
          refine (uni_use TWa.out t8.root 2 rts.out.2 (by omega)).mono ?_
          rintro e wb ⟨rfl, twb, ub⟩
          have HC := Lib.hid (show SwC s7 t8 1 t8 2 1 from ⟨.inr ⟨rfl, rfl, rfl⟩⟩)
          have TWq := Lib.hid twb
          have TSq := Lib.hid (TSa.out.kept ub (Ne.symm hNq.out.2.1.1))
          have bxq := Lib.hid (ub.at bxa.out hX.out.1.1)
          have Vq := Lib.hid (Va.out.since ub (by rintro k rfl; have := hNq.out.2.2.1; omega))
          have HXq := Lib.hid (ub.at HX.out hg.out.1)
          clear twb ub TWa TSa bxa Va HX o0 o1 o2 o5
          obtain ⟨o0, -, o2, -, -, o5, -, -, -, -⟩ := ob10 HXq.out
          by_cases d3 : d < 3
          · obtain ⟨⟨y1, y2, -, -⟩, SK1⟩ := SK.out.now HC.out (P : Int) (K : Int) v (by omega) (by omega) (by omega) (by omega)
            have SK2 := Lib.hid (SK1.wrote 1 P v (by omega) hP16 Hv)
            have hL48 := Lib.hid SK.out.len
            have y2' := Lib.hid (show uM m B t8.root 2 (112 + (P : Int)) v (K : Int) = m.wr (16 * ((1 : Nat) : Int) + (P : Int)) v from y2)
            clear SK1 y2
            go_wp2_with fail
            refine (TWq.out.store (112 + (P : Int)) v (K : Int) (by rw [y2'.out]; exact SK2.out.I)).mono ?_
            rintro e wc ⟨rfl, twc, uc⟩
            rw [y1]
            rw [y2'.out] at twc
            have TWc := Lib.hid twc
            have TSc := Lib.hid (TSq.out.kept uc (fun e => e.elim (Ne.symm hNq.out.2.1.2) hS2M.out))
            have bxc := Lib.hid (uc.at bxq.out (fun e => e.elim hX.out.1.2.1 hX.out.1.2.2.1))
            have Vc := Lib.hid (Vq.out.since uc (by rintro k (rfl | rfl) <;> (have := hNq.out.2.2.1; omega)))
            have HXc := Lib.hid (uc.at HXq.out hg.out.2.1)
            clear twc uc TWq TSq bxq Vq HXq y1 y2' o0 o2 o5 SK
            go_upto_region 29 with fail
            refine wp_region_tail 6 (by kernel_rfl) (by kernel_rfl) ?_
            simp only [List.take_succ_cons, List.take_zero, List.drop_succ_cons, List.drop_zero]
            intro wt hwt
            have ut : Upd (fun _ => False) wc wt := by rw [hwt]; exact (Upd.refl _ _).drew
            have o5 : wt.cell? ⟨g, 5, none⟩ = some (.int .u64 v) := (ob10 (ut.at HXc.out id)).2.2.2.2.2.1
            have bxt := Lib.hid (ut.at bxc.out id)
            have zX := frozen_block bxt.out (1 * 16 + P)
            have cX0 := cell_block bxt.out (1 * 16 + P) (by rw [hL48.out]; omega)
            have Vt := Lib.hid (Vc.out.trans ut)
            have TWt := Lib.hid (TWc.out.still ut)
            have TSt := Lib.hid (TSc.out.kept ut id)
            have HXt := Lib.hid (ut.at HXc.out id)
            clear hwt ut Vc TWc TSc HXc bxc
            have j0 : (0 : Int) ≤ (P : Int) := by omega
            have j1 : (P : Int) < 16 := by omega
            iterate 6 still_step
            refine wpStill_nil ?_
            have ux : Upd (fun x => x = X) wt (wt.setCell ⟨X, 16 + P, none⟩ (.int .u64 v)) := (Upd.refl (fun x => x = X) wt).setCell (.inl rfl) _
            have bxs := heap_setCell_same bxt.out (16 + P) (.int .u64 v)
            rw [ints_set] at bxs
            have bxb := Lib.hid bxs
            have TWb := Lib.hid (uni_box TWt.out ux hX.out.2.1 hX.out.2.2.2.2)
            have TSb := Lib.hid (TSt.out.kept ux hX.out.2.2.1)
            have Vb := Lib.hid (Vt.out.since ux (by rintro k rfl; exact hX.out.2.2.2.1))
            have HXb := Lib.hid (ux.at HXt.out hg.out.2.2.2)
            have SKb := Lib.hid (show SwK s7 t8 (m.wr (16 * ((1 : Nat) : Int) + (P : Int)) v) b8 (uB m B t8.root 2 (112 + (P : Int)) (K : Int)) 1 (L.set (16 + P) v) from SK2.out)
            clear ux bxs Vt TWt TSt HXt bxt SK2
            go_upto_region 30 with fail
            clear o5 zX cX0
            generalize wt.setCell ⟨X, 16 + P, none⟩ (.int .u64 v) = wc9 at bxb TWb TSb Vb HXb ⊢
            generalize m.wr (16 * ((1 : Nat) : Int) + (P : Int)) v = m9 at TWb SKb
            generalize L.set (16 + P) v = L9 at bxb SKb
            as_aux_lemma =>
              obtain ⟨⟨-, -, z3, z4⟩, SK3⟩ := SKb.out.now HC.out (P : Int) (K : Int) 0 (by omega) (by omega) (by omega) (by omega)
              have hwd := Lib.hid (SKb.out.ww 1 P (by omega) hP16)
              have SK4 := Lib.hid SK3
              have Z34 := Lib.hid (And.intro z3 z4)
              clear z3 z4 SK3
              have o2 : wc9.cell? ⟨g, 2, none⟩ = some (.int .i64 at') := (ob10 HXb.out).2.2.1
              go_wp2_with fail
              refine (TWb.out.load (112 + (P : Int)) (K : Int)).mono ?_
              rintro e wd ⟨rfl, twd, ud⟩
              rw [Z34.out.1, Z34.out.2]
              have TWd := Lib.hid twd
              have TSd := Lib.hid (TSb.out.kept ud (Ne.symm hNq.out.2.1.2))
              have bxd := Lib.hid (ud.at bxb.out hX.out.1.2.1)
              have Vd := Lib.hid (Vb.out.since ud (by rintro k rfl; have := hNq.out.2.2.1; omega))
              have cX : wd.cell? ⟨X, 1 * 16 + P, none⟩ = some (.int .u64 (m9.rd (16 * 1 + (P : Int)))) := by
                have hc := cell_block bxd.out (1 * 16 + P) (by rw [SKb.out.len]; omega)
                have := hwd.out
                rw [this] at hc
                exact hc
              clear twd ud o2 TWb TSb bxb Vb HXb Z34 SKb hwd
              generalize m9.rd (16 * 1 + (P : Int)) = zz at cX ⊢
              have hi1 : (1 : Int) * 16 + (P : Int) < 48 := by omega
              go_wp2
              go_roundw
              case rel => exact ⟨i + 1, m9, _, L9, _, _, by omega, by go_num, TWd, TSd, SK4, bxd, Vd⟩
              case measure => simp [intOf]; omega
          · obtain ⟨m9, hm9⟩ : ∃ x, x = m := ⟨_, rfl⟩
            obtain ⟨L9, hL9⟩ : ∃ x, x = L := ⟨_, rfl⟩
            obtain ⟨wc9, hw9⟩ : ∃ x, x = wb := ⟨_, rfl⟩
            subst hm9 hL9 hw9
            have TWb := TWq
            have TSb := TSq
            have bxb := bxq
            have Vb := Vq
            have HXb := HXq
            have SKb := SK
            clear TWq TSq bxq Vq HXq SK
            as_aux_lemma =>
              obtain ⟨⟨-, -, z3, z4⟩, SK3⟩ := SKb.out.now HC.out (P : Int) (K : Int) 0 (by omega) (by omega) (by omega) (by omega)
              have hwd := Lib.hid (SKb.out.ww 1 P (by omega) hP16)
              have SK4 := Lib.hid SK3
              have Z34 := Lib.hid (And.intro z3 z4)
              clear z3 z4 SK3
              have o2 : wc9.cell? ⟨g, 2, none⟩ = some (.int .i64 at') := (ob10 HXb.out).2.2.1
              go_wp2_with fail
              refine (TWb.out.load (112 + (P : Int)) (K : Int)).mono ?_
              rintro e wd ⟨rfl, twd, ud⟩
              rw [Z34.out.1, Z34.out.2]
              have TWd := Lib.hid twd
              have TSd := Lib.hid (TSb.out.kept ud (Ne.symm hNq.out.2.1.2))
              have bxd := Lib.hid (ud.at bxb.out hX.out.1.2.1)
              have Vd := Lib.hid (Vb.out.since ud (by rintro k rfl; have := hNq.out.2.2.1; omega))
              have cX : wd.cell? ⟨X, 1 * 16 + P, none⟩ = some (.int .u64 (m9.rd (16 * 1 + (P : Int)))) := by
                have hc := cell_block bxd.out (1 * 16 + P) (by rw [SKb.out.len]; omega)
                have := hwd.out
                rw [this] at hc
                exact hc
              clear twd ud o2 TWb TSb bxb Vb HXb Z34 SKb hwd
              generalize m9.rd (16 * 1 + (P : Int)) = zz at cX ⊢
              have hi1 : (1 : Int) * 16 + (P : Int) < 48 := by omega
              go_wp2
              go_roundw
              case rel => exact ⟨i + 1, m9, _, L9, _, _, by omega, by go_num, TWd, TSd, SK4, bxd, Vd⟩
              case measure => simp [intOf]; omega
      · have e : i = n := by omega
        subst e
        go_wp2_with fail
        refine (tlines_any BA B TW.out.bo wr TW.out.bu).mono ?_
        rintro e wl ⟨vl, rfl, rl, ul⟩
        obtain ⟨ol, cl, rfl⟩ := wk_slice rl
        have hl2 : (B.lines.length : Int) ≤ 2 := by have := SK.out.li.two TW.out.bo; omega
        have Vl := Lib.hid (V.out.trans ul)
        clear rl ul TW TS SK bx V
        go_wp2
        go_ret
        exact ⟨rfl, Vl.out.below (Nat.le_refl _) fun _ _ => id⟩
/-! ### the row's frame, and its tied card -/
theorem own : ownKnob Tryd.prog.godebug = none := by kernel_rfl
theorem laidOut : laidOutB Tryd.prog = true := by kernel_rfl
/-- the door's own heap meets the condition -/
theorem door_met (os : Os) (args : Array Value) : laidMetH Tryd.prog Rows.mmuSwapsRow.laid ((World.doorLaid Tryd.prog 400 os).forCall (fun _ _ => 0) ⟨#[], args, []⟩).memory :=
  laidMetH_of_parts3 (fuel := 8) (laidMet_of_run' 8 (by kernel_rfl) (by kernel_rfl)) (by kernel_rfl) (by kernel_rfl)
set_option linter.unusedVariables false in
set_option maxRecDepth 100000 in
theorem lifted (os : Os) (started : os.Started) (H : Type) (enc : TypeId × Value → H) :
    ReturnsInHanded {} Tryd.checked os 6 .any (fun w args => (Rows.mmuSwapsSpec.pre enc Tryd.prog Tryd.f6 [] false w args ∧ laidMetH Tryd.prog Rows.mmuSwapsRow.laid w) ∧ sizedMet enc Tryd.prog Tryd.f6 (OpenSpec.ofChange Rows.mmuSwapsSpec) false w args)
      (Rows.mmuSwapsSpec.post enc Tryd.prog Tryd.f6 false true false false) := by
  refine returnsInHanded_of_change_and (C := Tryd.checked) (X := fun w _ => laidMetH Tryd.prog Rows.mmuSwapsRow.laid w) (fun _ _ _ hh h => h.of_heap hh) own started (by kernel_rfl) Tryd.func6
    (ChangeSpec.witness_shaped (enc := enc) (C := Tryd.checked) (os := os) (X := fun w _ => laidMetH Tryd.prog Rows.mmuSwapsRow.laid w) false (World.doorLaid Tryd.prog 400 os) #[.slice none 0 0, .bool false] 8 rfl (World.shaped_of_RefB (by kernel_rfl) (by kernel_rfl)) (by kernel_rfl) (by kernel_rfl) (by kernel_rfl) (door_met os _)) ?_
  intro W base args ds gs before hval0 hW _ _ hL _
  have hLd := hL
  rw [MakeChecks.laidMetH_plain _ _ _ (by kernel_rfl)] at hLd
  have T0 : Fr.VarIs W 0 (Fr.datCells (Rows.laid_trunnion_entry_fields (H := Unit))) := Fr.varIs_of_laid (t := 156) (ks := [some .i64, some .i64, some .i64, some .i64, some .i64, some .i64, some .i64, some .i64, some .i64, some .i64, some .i64, some .i64, some .i64, some .i64, some .i64, some .i64, some .i64, some .i64]) 12 (hLd : laidMet Tryd.prog Rows.mmuSwapsRow.laid W) "trunnion/entry.fields" (Rows.laid_trunnion_entry_fields (H := Unit)) (by simp [Rows.mmuSwapsRow]) (by kernel_rfl) (by kernel_rfl) (by kernel_rfl)
  clear hL hLd
  have hval : ∀ (j : Nat) t v, Tryd.f6.params[j]? = some t → args[j]? = some v → Value.okWide Tryd.prog W .any base t v := hval0
  have hW' := hW
  obtain ⟨p, q, hA0, hV, rfl, hfz, hnd⟩ := hW
  have hA : DataW.TrodAll enc Tryd.prog W 0 (fun _ => true) true Tryd.f6.params.toList args.toList ds p := hA0
  rw [Tryd.params6] at hA hval
  obtain ⟨v0, vs0, d0, ds0, p0, q0, hargs, rfl, rfl, h0, r0⟩ := trodAll_cons hA
  obtain ⟨v1, vs1, d1, ds1, p1, q1, rfl, rfl, rfl, h1, r1⟩ := trodAll_cons r0
  obtain ⟨rfl, rfl, rfl⟩ := trodAll_nil r1
  obtain rfl : args = #[v0, v1] := by cases args; simp_all
  obtain ⟨rfl, rfl⟩ := trodVars_none hV
  have k0 := h0
  have lt0 : ∀ x ∈ p0, x.block < W.heap.size := by obtain ⟨m, hm⟩ := k0; exact DataW.trod_lt m _ _ _ hm
  obtain ⟨ao0, n0, cap0, b0, of0, E0, rfl, w0⟩ := Fr.open_rows 12 [some .i64, some .i64, some .i64, some .i64, some .i64, some .u64, none, none, none, some .i64] Tryd.underlying22 (by kernel_rfl) (by kernel_rfl) (by decide) (hval 0 22 v0 rfl rfl) h0
  have k1 := h1
  have lt1 : ∀ x ∈ p1, x.block < W.heap.size := by obtain ⟨m, hm⟩ := k1; exact DataW.trod_lt m _ _ _ hm
  obtain ⟨a1, rfl, rfl, rfl⟩ := open_bool Tryd.underlying4 (hval 1 4 v1 rfl rfl) h1
  clear hA0 hval0
  refine (walk ao0 n0 cap0 b0 of0 E0 a1  W w0 T0).mono fun e W' ⟨he, bel⟩ => ?_
  subst he
  exact ⟨_, rfl, _, _, _, [], _, [], hW', trodAll_mk1 (shut_bool Tryd.underlying4 _), (trodAll_cons_mk (Below.trod laidOut (by kernel_rfl) (of_decide_eq_true (by kernel_rfl)) k0 bel lt0) (trodAll_cons_mk (Below.trod laidOut (by kernel_rfl) (of_decide_eq_true (by kernel_rfl)) k1 bel lt1) trodAll_mk0)), rfl, bel.frame _, fun h => by cases h⟩

theorem over : Rows.mmuSwapsRow.holds Tryd.pinned (OpenSpec.ofChange Rows.mmuSwapsSpec) :=
  OpenClaim.holds_of_wide 6 Tryd.f6 rfl rfl rfl rfl rfl rfl rfl ⟨rfl, rfl, rfl, rfl, rfl⟩ rfl rfl rfl rfl rfl (by kernel_rfl) Tryd.func6 (by kernel_rfl)
    (of_decide_eq_true (by kernel_rfl)) (by unfold Func.isWrapper; first | (rw [if_pos (by decide +kernel)]; kernel_rfl) | (rw [if_neg (by decide +kernel)]; exact ⟨rfl, rfl⟩))
    (fun os started H enc _ => lifted os started H enc)

theorem proved : Rows.MmuSwapsCardSaid :=
  Claim7.holds_tied_plain_at .later [] [.data] true (true, "1fbe003839927454e2127db742a1aa9d648a46633fd1db5cf4822c9650777034") false
    over (fun _ h => by cases h) (by kernel_rfl) (fun _ h => by cases h) mmuSwaps_row_tie rfl ⟨rfl, rfl⟩ (by kernel_rfl) rfl
    (fun f fn hf hfn => by
      obtain rfl : f = 6 := Option.some.inj ((show Tryd.prog.funcNamed "trunnion/trunnionlaw11.MmuSwaps" = some 6 by kernel_rfl).symm.trans hf) |>.symm
      obtain rfl : fn = Tryd.f6 := (Option.some.inj (Tryd.func6.symm.trans hfn)).symm
      exact ⟨by kernel_rfl, fun j t ht => by
        rw [Tryd.params6] at ht
        have hm : t ∈ [22, 4] := by simpa using Array.mem_of_getElem? ht
        have hall : ([22, 4].all fun u => !Tryd.prog.wantsStandIn u) = true := by kernel_rfl
        exact (show Tryd.prog.wantsStandIn t = false by simpa using List.all_eq_true.1 hall t hm)⟩)
    (by kernel_rfl)
end Go.Proofs.YtfdnfllefednjaaDoor.mmuSwaps
