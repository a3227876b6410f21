/-
  Proved: trunnionlaw07.WalkPut answers true for every input: what was put is got, and no other place changes.
  Conditions: package entry's table of fields starts as the program's text lays it (the card ties it).
-/
import Derived.Test.YtbakhipabeaojaaDoorCards
import Derived.Test.YtbakhipabeaojaaDoorTie
import Derived.Test.YtbakhipabeaojaaDoorLaid
import Derived.SevenTiedAt
import Derived.LaidMore
import Derived.Stop.Joined
import Derived.Test.YtbakhipabeaojaaDoorWkL
import Derived.Test.YtbakhipabeaojaaDoorFrame
namespace Go.Proofs.YtbakhipabeaojaaDoor.walkPut
open Go.ChangeShapes Go.WideShapes Go.ChangeAt Go.RowKit

/-- an Op in memory -/
abbrev opL (a b : Int) (v r t : Bool) (f : Int) (raw : Bool) (x : Int) : List Value := [.int .i64 a, .int .i64 b, .bool v, .bool r, .bool t, .int .i64 f, .bool raw, .int .u64 x]
def OpAt (w : World) (B : Nat) (a b : Int) (v r t : Bool) (f : Int) (raw : Bool) (x : Int) : Prop := w.heap[B]? = some (.cells (opL a b v r t f raw x).toArray 38 (0, 0))
theorem OpAt.rng {w : World} {B : Nat} {a b : Int} {v r t : Bool} {f : Int} {raw : Bool} {x : Int} (h : OpAt w B a b v r t f raw x) : w.rangeAt B 2 [.bool v, .bool r, .bool t, .int .i64 f] := World.rangeAt_of_block h 2 4
theorem OpAt.c0 {w : World} {B : Nat} {a b : Int} {v r t : Bool} {f : Int} {raw : Bool} {x : Int} (h : OpAt w B a b v r t f raw x) : w.cell? ⟨B, 0, none⟩ = some (.int .i64 a) := by rw [cell_of_row _ _ _ _ _ _ h]; rfl
theorem OpAt.c1 {w : World} {B : Nat} {a b : Int} {v r t : Bool} {f : Int} {raw : Bool} {x : Int} (h : OpAt w B a b v r t f raw x) : w.cell? ⟨B, 1, none⟩ = some (.int .i64 b) := by rw [cell_of_row _ _ _ _ _ _ h]; rfl
/-- the tables hold entries alone -/
theorem tabs_X (B : Nat) (f p : Int) : (memNew B 4).tabs.getX f p = if (memNew B 4).tabs.slot f p = true then 0 else 1 := by
  have h0 := Mem.new_ok B 4
  have hn : ∀ f p, (memNew B 4).getX f p = if (memNew B 4).slot f p = true then 0 else 1 := fun f p => by
    unfold Mem.getX
    have : (memNew B 4).word f p = 0 := getD_replicate0 _ _
    rw [this, show ofB 0 = true from by decide]
    rfl
  unfold Mem.tabs
  rw [Mem.put_slot, Mem.put_slot, Mem.put_slot]
  rw [Mem.put_getX _ (Mem.put_ok _ (Mem.put_ok _ h0 ..) ..), Mem.put_getX _ (Mem.put_ok _ h0 ..), Mem.put_getX _ h0, hn]
  have e1 : (memNew B 4).slot 0 1 = true := rfl
  have e2 : (memNew B 4).slot 1 2 = true := rfl
  have e3 : (memNew B 4).slot 2 3 = true := rfl
  split
  · rename_i h; rw [h.2.1, h.2.2, e3]; rfl
  · split
    · rename_i h; rw [h.2.1, h.2.2, e2]; rfl
    · split
      · rename_i h; rw [h.2.1, h.2.2, e1]; rfl
      · rfl
/-- what is to be shown, in numbers -/
theorem said (M : Mem) (hk : M.ok) (hX : ∀ f p, M.getX f p = if M.slot f p = true then 0 else 1) (a b : Int) (E : En) (g q : Int) :
    (M.put a b E).getX g q = M.getX g q ∧ (M.putB a b E = true → (M.put a b E).getX a b = 0 ∧ (M.put a b E).getE a b = E) ∧
    ((M.put a b E).getE g q = M.getE g q ∨ (M.putB a b E = true ∧ g = a ∧ q = b)) := by
  refine ⟨?_, fun h => ⟨?_, ?_⟩, ?_⟩
  · rw [M.put_getX hk]
    split
    · rename_i h
      have hs : M.slot a b = true := by have := h.1; simp [Mem.putB] at this; exact this.1
      rw [h.2.1, h.2.2, hX, if_pos hs]
    · rfl
  · rw [M.put_getX hk, if_pos ⟨h, rfl, rfl⟩]
  · rw [M.put_getE hk, if_pos ⟨h, rfl, rfl⟩]
  · rw [M.put_getE hk]
    by_cases h : M.putB a b E = true ∧ g = a ∧ q = b
    · exact .inr h
    · exact .inl (if_neg h)
set_option maxRecDepth 100000 in
set_option maxHeartbeats 4000000 in
theorem walk (a b : Int) (v r t : Bool) (f : Int) (raw : Bool) (x g q : Int) (_w0 : (Lit.int .i64 a).wf = true) (_w1 : (Lit.int .i64 b).wf = true) (w5 : (Lit.int .i64 f).wf = true) (_w7 : (Lit.int .u64 x).wf = true) (_wg : (Lit.int .i64 g).wf = true) (_wq : (Lit.int .i64 q).wf = true)
    (w : World) (T0 : Fr.VarIs w 0 (Fr.datCells (Rows.laid_trunnion_entry_fields (H := Unit)))) :
    Calls Tryd.prog 5 #[.agg #[.int .i64 a, .int .i64 b, .bool v, .bool r, .bool t, .int .i64 f, .bool raw, .int .u64 x], .int .i64 g, .int .i64 q] w fun e w' => e = .returned (.bool true) ∧ Below w.heap.size w w' := by
  have T := tab_of T0
  have W5 := Lib.hid w5
  clear T0 _w0 _w1 w5 _w7 _wg _wq
  have k0 : OpAt (w.alloc (.cells #[.int .i64 a, .int .i64 b, .bool v, .bool r, .bool t, .int .i64 f, .bool raw, .int .u64 x] 38)) w.heap.size a b v r t f raw x := heap_alloc_last w _
  have U0 : Upd (fun _ => False) w (w.alloc (.cells #[.int .i64 a, .int .i64 b, .bool v, .bool r, .bool t, .int .i64 f, .bool raw, .int .u64 x] 38)) := (Upd.refl _ _).alloc _
  go_enter Tryd.func5, Tryd.ntmps5
  go_wp2_with fail
  generalize w.alloc (.cells #[.int .i64 a, .int .i64 b, .bool v, .bool r, .bool t, .int .i64 f, .bool raw, .int .u64 x] 38) = w0 at k0 U0 ⊢
  generalize w.heap.size = P at k0 ⊢
  have T1 := T.kept U0
  refine (wawake_any _ T1).mono ?_
  rintro e w1 ⟨rfl, u1⟩
  have T2 := T1.kept u1
  have U1 := U0.trans u1
  have k1 := u1.at k0 id
  clear T T1 U0 u1 k0
  go_wp2_with fail
  refine (new_yes 4 _ (by omega) (by omega)).mono ?_
  rintro e w2 ⟨rfl, h2, u2, s2⟩
  have T3 := T2.kept u2
  have U2 := U1.trans u2
  have k2 : OpAt w2 P a b v r t f raw x := u2.at k1 id
  have hN := Lib.hid U1.size
  have hA := T3.apart h2
  have ct := Lib.hid (wtables_any _ _ w2 h2 T3)
  have hPN : ¬ P = w1.heap.size := fun e => by have := lt_of_heap k1; omega
  obtain ⟨M, hM⟩ : ∃ M, M = (memNew w1.heap.size 4).tabs := ⟨_, rfl⟩
  have hk : Hid M.ok := Lib.hid (by rw [hM]; exact Mem.tabs_ok _ (Mem.new_ok _ 4))
  have hg : Hid M.good := Lib.hid (by rw [hM]; exact Mem.tabs_good _ (Mem.new_ok _ 4) (Mem.new_good _ 4))
  have hX : Hid (∀ f p, M.getX f p = if M.slot f p = true then 0 else 1) := Lib.hid (by rw [hM]; exact tabs_X _)
  have hB : Hid (M.B = w1.heap.size) := Lib.hid (by rw [hM, Mem.tabs_B]; rfl)
  rw [show (memNew w1.heap.size 4).B = w1.heap.size from rfl] at ct hA
  rw [← hM] at ct
  clear hM h2 u2 s2 U1 k1 T2
  generalize w1.heap.size = N at ct hA hN hB hPN
  generalize N + 1 = A at ct ⊢
  go_wp2_with fail
  refine ct.out.mono ?_
  rintro e w3 ⟨rfl, h3, u3⟩
  have T4 := T3.keptS u3 hA
  have U3 := U2.fresh u3 hN.out
  have k3 : OpAt w3 P a b v r t f raw x := u3.at k2 hPN
  clear ct u3 U2 k2 T3
  have c1 := Lib.hid (wget_any A M g q w3 h3 T4 hg.out)
  have c2 := Lib.hid (fun W (h : MemAt W A M) (T : Tab W) => wput_any A M a b ⟨v, r, t, f⟩ W h T W5.out)
  have hg' := Lib.hid (M.put_good hk.out hg.out a b ⟨v, r, t, f⟩)
  have c3 := Lib.hid (fun W (h : MemAt W A (M.put a b ⟨v, r, t, f⟩)) (T : Tab W) => wget_any A (M.put a b ⟨v, r, t, f⟩) a b W h T hg'.out)
  have c4 := Lib.hid (fun W (h : MemAt W A (M.put a b ⟨v, r, t, f⟩)) (T : Tab W) => wget_any A (M.put a b ⟨v, r, t, f⟩) g q W h T hg'.out)
  have hs := said M hk.out hX.out a b ⟨v, r, t, f⟩ g q
  have hB' : Hid ((M.put a b ⟨v, r, t, f⟩).B = N) := Lib.hid (by rw [Mem.put_B]; exact hB.out)
  rw [hs.1] at c4
  rw [hB.out] at c2
  have hs1 := Lib.hid hs.2.1
  have hs2 := Lib.hid hs.2.2
  clear hs hk hg hX hg' W5
  generalize M.put a b ⟨v, r, t, f⟩ = M' at c2 c3 c4 hs1 hs2 hB'
  generalize M.putB a b ⟨v, r, t, f⟩ = pb at c2 hs1 hs2
  generalize M.getX g q = xe at c1 c4
  generalize M'.getX a b = xg at c3 hs1
  generalize M.getE g q = E1 at c1 hs2
  generalize M'.getE a b = E2 at c3 hs1
  generalize M'.getE g q = E3 at c4 hs2
  obtain ⟨v1, r1, t1, f1⟩ := E1
  obtain ⟨v2, r2, t2, f2⟩ := E2
  obtain ⟨v3, r3, t3, f3⟩ := E3
  -- the first Get
  go_wp2_with fail
  refine c1.out.mono ?_
  rintro e w4 ⟨rfl, u4⟩
  clear c1
  obtain ⟨a1, a2, a3, a4⟩ := ent_box w4 v1 r1 t1 f1
  have A3 := Lib.hid a3
  have u5 := u4.trans a2
  have h5 := h3.kept u5 id id
  have T5 := T4.kept u5
  have U5 := U3.trans u5
  have k5 : OpAt _ P a b v r t f raw x := u5.at k3 id
  have hQN : ¬ w4.heap.size = N := fun e => by have := lt_of_heap (h3.kept u4 id id).body; have := hB.out; omega
  clear a2 a3 a4 u4 u5 h3 T4 U3 k3
  go_upto_region 7 with ((with_reducible refine wpList_store_sz rfl 35 (.tmp 10) (.tmp 31) rfl w4.heap.size 0 #[.bool v1, .bool r1, .bool t1, .int .i64 f1] rfl rfl 4 (ent_sz _ _ _ _) A3.out size_ent (ent_one _ _ _ _) [.bool v1, .bool r1, .bool t1, .int .i64 f1] (ent_ls _ _ _ _) ?_))
  generalize (w4.alloc (.cells #[.bool false, .bool false, .bool false, .int .i64 0] 35)).setCells w4.heap.size 0 [.bool v1, .bool r1, .bool t1, .int .i64 f1] = w5 at a1 h5 T5 U5 k5 ⊢
  generalize w4.heap.size = Q at a1 hQN ⊢
  clear A3
  -- the Put
  have q0 := k5.c0
  have q1 := k5.c1
  have K5 := Lib.hid k5
  go_wp2_with (with_reducible refine wpList_load_sz rfl 35 (.tmp 38) rfl P 2 rfl [.bool v, .bool r, .bool t, .int .i64 f] _ K5.out.rng Tryd.underlying35 rfl 4 (ent_len _ _ _ _) size_ent ?_)
  refine (c2.out _ h5 T5).mono ?_
  rintro e w6 ⟨rfl, h6, u6⟩
  have T6 := T5.keptS u6 hA
  have U6 := U5.fresh u6 hN.out
  have k6 : OpAt w6 P a b v r t f raw x := u6.at K5.out hPN
  have b6 := a1.kept u6 hQN
  clear c2 K5 k5 q0 q1 a1 u6 h5 T5 U5
  -- the second Get
  have q0 := k6.c0
  have q1 := k6.c1
  go_wp2_with fail
  refine (c3.out _ h6 T6).mono ?_
  rintro e w7 ⟨rfl, u7⟩
  clear c3
  obtain ⟨a1, a2, a3, a4⟩ := ent_box w7 v2 r2 t2 f2
  have A3 := Lib.hid a3
  have u8 := u7.trans a2
  have h8 := h6.kept u8 id id
  have T8 := T6.kept u8
  have U8 := U6.trans u8
  have k8 : OpAt _ P a b v r t f raw x := u8.at k6 id
  have b8 := b6.kept u8 id
  clear a2 a3 a4 u7 u8 h6 T6 U6 k6 b6 q0 q1
  go_upto_region 9 with ((with_reducible refine wpList_store_sz rfl 35 (.tmp 13) (.tmp 48) rfl w7.heap.size 0 #[.bool v2, .bool r2, .bool t2, .int .i64 f2] rfl rfl 4 (ent_sz _ _ _ _) A3.out size_ent (ent_one _ _ _ _) [.bool v2, .bool r2, .bool t2, .int .i64 f2] (ent_ls _ _ _ _) ?_))
  generalize (w7.alloc (.cells #[.bool false, .bool false, .bool false, .int .i64 0] 35)).setCells w7.heap.size 0 [.bool v2, .bool r2, .bool t2, .int .i64 f2] = w8 at a1 h8 T8 U8 k8 b8 ⊢
  generalize w7.heap.size = Q2 at a1 ⊢
  clear A3
  -- the third Get
  go_wp2_with fail
  refine (c4.out _ h8 T8).mono ?_
  rintro e w9 ⟨rfl, u9⟩
  clear c4
  obtain ⟨d1, d2, d3, d4⟩ := ent_box w9 v3 r3 t3 f3
  have A3 := Lib.hid d3
  have u10 := u9.trans d2
  have U10 := U8.trans u10
  have k10 : OpAt _ P a b v r t f raw x := u10.at k8 id
  have b10 := b8.kept u10 id
  have a10 := a1.kept u10 id
  clear d2 d3 d4 u9 u10 h8 T8 U8 k8 b8 a1
  go_upto_region 10 with ((with_reducible refine wpList_store_sz rfl 35 (.tmp 15) (.tmp 55) rfl w9.heap.size 0 #[.bool v3, .bool r3, .bool t3, .int .i64 f3] rfl rfl 4 (ent_sz _ _ _ _) A3.out size_ent (ent_one _ _ _ _) [.bool v3, .bool r3, .bool t3, .int .i64 f3] (ent_ls _ _ _ _) ?_))
  generalize (w9.alloc (.cells #[.bool false, .bool false, .bool false, .int .i64 0] 35)).setCells w9.heap.size 0 [.bool v3, .bool r3, .bool t3, .int .i64 f3] = w10 at d1 U10 k10 b10 a10 ⊢
  generalize w9.heap.size = Q3 at d1 ⊢
  clear A3
  have q0 := k10.c0
  have q1 := k10.c1
  have D1 := Lib.hid d1
  have K := Lib.hid k10
  have B10 := Lib.hid b10
  have A10 := Lib.hid a10
  clear d1 k10 b10 a10
  cases pb
  · rw [show errB false = 1 from rfl]
    obtain ⟨rfl, rfl, rfl, rfl⟩ : v3 = v1 ∧ r3 = r1 ∧ t3 = t1 ∧ f3 = f1 := by
      rcases hs2.out with h | h
      · exact En.mk.inj h
      · exact absurd h.1 (by decide)
    have he := run_eqE v3 r3 t3 f3 v3 r3 t3 f3 true (by simp)
    clear hs1 hs2
    go_wp2_with (first
      | (with_reducible refine wpList_load_sz rfl 35 (.tmp 15) rfl Q3 0 rfl [.bool v3, .bool r3, .bool t3, .int .i64 f3] _ D1.out.range Tryd.underlying35 rfl 4 (ent_len _ _ _ _) size_ent ?_)
      | (with_reducible refine wpList_load_sz rfl 35 (.tmp 10) rfl Q 0 rfl [.bool v3, .bool r3, .bool t3, .int .i64 f3] _ B10.out.range Tryd.underlying35 rfl 4 (ent_len _ _ _ _) size_ent ?_))
    go_ret
    exact ⟨rfl, U10.below (Nat.le_refl _) fun _ _ => id⟩
  · rw [show errB true = 0 from rfl]
    obtain ⟨rfl, hE2⟩ := hs1.out rfl
    obtain ⟨rfl, rfl, rfl, rfl⟩ := En.mk.inj hE2
    have he := run_eqE v2 r2 t2 f2 v2 r2 t2 f2 true (by simp)
    clear hs1 hE2
    by_cases h13 : v3 = v1 ∧ r3 = r1 ∧ t3 = t1 ∧ f3 = f1
    · obtain ⟨rfl, rfl, rfl, rfl⟩ := h13
      have he' := run_eqE v3 r3 t3 f3 v3 r3 t3 f3 true (by simp)
      clear hs2
      go_wp2_with (first
        | (with_reducible refine wpList_load_sz rfl 35 (.tmp 13) rfl Q2 0 rfl [.bool v2, .bool r2, .bool t2, .int .i64 f2] _ A10.out.range Tryd.underlying35 rfl 4 (ent_len _ _ _ _) size_ent ?_)
        | (with_reducible refine wpList_load_sz rfl 35 (.tmp 64) rfl P 2 rfl [.bool v2, .bool r2, .bool t2, .int .i64 f2] _ K.out.rng Tryd.underlying35 rfl 4 (ent_len _ _ _ _) size_ent ?_)
        | (with_reducible refine wpList_load_sz rfl 35 (.tmp 15) rfl Q3 0 rfl [.bool v3, .bool r3, .bool t3, .int .i64 f3] _ D1.out.range Tryd.underlying35 rfl 4 (ent_len _ _ _ _) size_ent ?_)
        | (with_reducible refine wpList_load_sz rfl 35 (.tmp 10) rfl Q 0 rfl [.bool v3, .bool r3, .bool t3, .int .i64 f3] _ B10.out.range Tryd.underlying35 rfl 4 (ent_len _ _ _ _) size_ent ?_))
      go_ret
      exact ⟨rfl, U10.below (Nat.le_refl _) fun _ _ => id⟩
    · have he' := run_eqE v3 r3 t3 f3 v1 r1 t1 f1 false (decide_eq_false h13)
      obtain ⟨_, rfl, rfl⟩ : true = true ∧ g = a ∧ q = b := by
        rcases hs2.out with h | h
        · exact absurd (En.mk.inj h) h13
        · exact h
      clear hs2 h13
      go_wp2_with (first
        | (with_reducible refine wpList_load_sz rfl 35 (.tmp 13) rfl Q2 0 rfl [.bool v2, .bool r2, .bool t2, .int .i64 f2] _ A10.out.range Tryd.underlying35 rfl 4 (ent_len _ _ _ _) size_ent ?_)
        | (with_reducible refine wpList_load_sz rfl 35 (.tmp 64) rfl P 2 rfl [.bool v2, .bool r2, .bool t2, .int .i64 f2] _ K.out.rng Tryd.underlying35 rfl 4 (ent_len _ _ _ _) size_ent ?_)
        | (with_reducible refine wpList_load_sz rfl 35 (.tmp 15) rfl Q3 0 rfl [.bool v3, .bool r3, .bool t3, .int .i64 f3] _ D1.out.range Tryd.underlying35 rfl 4 (ent_len _ _ _ _) size_ent ?_)
        | (with_reducible refine wpList_load_sz rfl 35 (.tmp 10) rfl Q 0 rfl [.bool v1, .bool r1, .bool t1, .int .i64 f1] _ B10.out.range Tryd.underlying35 rfl 4 (ent_len _ _ _ _) size_ent ?_))
      go_ret
      exact ⟨rfl, U10.below (Nat.le_refl _) fun _ _ => id⟩
/-! ### the row's frame, and its tied card -/
theorem own : ownKnob Tryd.prog.godebug = none := by kernel_rfl
theorem laidOut : laidOutB Tryd.prog = true := by kernel_rfl
/-- the door's own heap meets the condition -/
theorem door_met (os : Os) (args : Array Value) : laidMetH Tryd.prog Rows.walkPutRow.laid ((World.doorLaid Tryd.prog 400 os).forCall (fun _ _ => 0) ⟨#[], args, []⟩).memory :=
  laidMetH_of_parts3 (fuel := 8) (laidMet_of_run' 8 (by kernel_rfl) (by kernel_rfl)) (by kernel_rfl) (by kernel_rfl)
set_option linter.unusedVariables false in
set_option maxRecDepth 100000 in
theorem lifted (os : Os) (started : os.Started) (H : Type) (enc : TypeId × Value → H) :
    ReturnsInHanded {} Tryd.checked os 5 .any (fun w args => (Rows.walkPutSpec.pre enc Tryd.prog Tryd.f5 [] false w args ∧ laidMetH Tryd.prog Rows.walkPutRow.laid w) ∧ sizedMet enc Tryd.prog Tryd.f5 (OpenSpec.ofChange Rows.walkPutSpec) false w args)
      (Rows.walkPutSpec.post enc Tryd.prog Tryd.f5 false true false false) := by
  refine returnsInHanded_of_change_and (C := Tryd.checked) (X := fun w _ => laidMetH Tryd.prog Rows.walkPutRow.laid w) (fun _ _ _ hh h => h.of_heap hh) own started (by kernel_rfl) Tryd.func5
    (ChangeSpec.witness_shaped (enc := enc) (C := Tryd.checked) (os := os) (X := fun w _ => laidMetH Tryd.prog Rows.walkPutRow.laid w) false (World.doorLaid Tryd.prog 400 os) #[.agg #[.int .i64 0, .int .i64 0, .bool false, .bool false, .bool false, .int .i64 0, .bool false, .int .u64 0], .int .i64 0, .int .i64 0] 8 rfl (World.shaped_of_RefB (by kernel_rfl) (by kernel_rfl)) (by kernel_rfl) (by kernel_rfl) (by kernel_rfl) (door_met os _)) ?_
  intro W base args ds gs before hval0 hW _ _ hL _
  have hLd := hL
  rw [MakeChecks.laidMetH_plain _ _ _ (by kernel_rfl)] at hLd
  have T0 : Fr.VarIs W 0 (Fr.datCells (Rows.laid_trunnion_entry_fields (H := Unit))) := Fr.varIs_of_laid (t := 87) (ks := [some .i64, some .i64, some .i64, some .i64, some .i64, some .i64, some .i64, some .i64, some .i64, some .i64, some .i64, some .i64, some .i64, some .i64, some .i64, some .i64, some .i64, some .i64]) 12 (hLd : laidMet Tryd.prog Rows.walkPutRow.laid W) "trunnion/entry.fields" (Rows.laid_trunnion_entry_fields (H := Unit)) (by simp [Rows.walkPutRow]) (by kernel_rfl) (by kernel_rfl) (by kernel_rfl)
  clear hL hLd
  have hval : ∀ (j : Nat) t v, Tryd.f5.params[j]? = some t → args[j]? = some v → Value.okWide Tryd.prog W .any base t v := hval0
  have hW' := hW
  obtain ⟨p, q, hA0, hV, rfl, hfz, hnd⟩ := hW
  have hA : DataW.TrodAll enc Tryd.prog W 0 (fun _ => true) true Tryd.f5.params.toList args.toList ds p := hA0
  rw [Tryd.params5] at hA hval
  obtain ⟨v0, vs0, d0, ds0, p0, q0, hargs, rfl, rfl, h0, r0⟩ := trodAll_cons hA
  obtain ⟨v1, vs1, d1, ds1, p1, q1, rfl, rfl, rfl, h1, r1⟩ := trodAll_cons r0
  obtain ⟨v2, vs2, d2, ds2, p2, q2, rfl, rfl, rfl, h2, r2⟩ := trodAll_cons r1
  obtain ⟨rfl, rfl, rfl⟩ := trodAll_nil r2
  obtain rfl : args = #[v0, v1, v2] := by cases args; simp_all
  obtain ⟨rfl, rfl⟩ := trodVars_none hV
  have k0 := h0
  have lt0 : ∀ x ∈ p0, x.block < W.heap.size := by obtain ⟨m, hm⟩ := k0; exact DataW.trod_lt m _ _ _ hm
  obtain ⟨cs0, rfl, o0⟩ := Fr.open_flat 12 [some .i64, some .i64, none, none, none, some .i64, none, some .u64] Tryd.underlying38 (by kernel_rfl) (hval 0 38 v0 rfl rfl) h0
  obtain ⟨c0_0, c0_1, c0_2, c0_3, c0_4, c0_5, c0_6, c0_7, rfl⟩ := Fr.cells8 o0.1
  obtain ⟨a0_0, rfl, w0_0⟩ := o0.2 0 _ _ rfl rfl
  obtain ⟨a0_1, rfl, w0_1⟩ := o0.2 1 _ _ rfl rfl
  obtain ⟨a0_2, rfl⟩ := o0.2 2 _ _ rfl rfl
  obtain ⟨a0_3, rfl⟩ := o0.2 3 _ _ rfl rfl
  obtain ⟨a0_4, rfl⟩ := o0.2 4 _ _ rfl rfl
  obtain ⟨a0_5, rfl, w0_5⟩ := o0.2 5 _ _ rfl rfl
  obtain ⟨a0_6, rfl⟩ := o0.2 6 _ _ rfl rfl
  obtain ⟨a0_7, rfl, w0_7⟩ := o0.2 7 _ _ rfl rfl
  have k1 := h1
  have lt1 : ∀ x ∈ p1, x.block < W.heap.size := by obtain ⟨m, hm⟩ := k1; exact DataW.trod_lt m _ _ _ hm
  obtain ⟨a1, rfl, rfl, rfl, w1⟩ := open_int Tryd.underlying3 (hval 1 3 v1 rfl rfl) h1
  have k2 := h2
  have lt2 : ∀ x ∈ p2, x.block < W.heap.size := by obtain ⟨m, hm⟩ := k2; exact DataW.trod_lt m _ _ _ hm
  obtain ⟨a2, rfl, rfl, rfl, w2⟩ := open_int Tryd.underlying3 (hval 2 3 v2 rfl rfl) h2
  clear hA0 hval0
  refine (walk a0_0 a0_1 a0_2 a0_3 a0_4 a0_5 a0_6 a0_7 a1 a2 w0_0 w0_1 w0_5 w0_7 w1 w2 W  T0).mono fun e W' ⟨he, bel⟩ => ?_
  subst he
  exact ⟨_, rfl, _, _, _, [], _, [], hW', trodAll_mk1 (shut_bool Tryd.underlying4 _), (trodAll_cons_mk (Below.trod laidOut (by kernel_rfl) (of_decide_eq_true (by kernel_rfl)) k0 bel lt0) (trodAll_cons_mk (Below.trod laidOut (by kernel_rfl) (of_decide_eq_true (by kernel_rfl)) k1 bel lt1) (trodAll_cons_mk (Below.trod laidOut (by kernel_rfl) (of_decide_eq_true (by kernel_rfl)) k2 bel lt2) trodAll_mk0))), rfl, bel.frame _, fun h => by cases h⟩

theorem over : Rows.walkPutRow.holds Tryd.pinned (OpenSpec.ofChange Rows.walkPutSpec) :=
  OpenClaim.holds_of_wide 5 Tryd.f5 rfl rfl rfl rfl rfl rfl rfl ⟨rfl, rfl, rfl, rfl, rfl⟩ rfl rfl rfl rfl rfl (by kernel_rfl) Tryd.func5 (by kernel_rfl)
    (of_decide_eq_true (by kernel_rfl)) (by unfold Func.isWrapper; first | (rw [if_pos (by decide +kernel)]; kernel_rfl) | (rw [if_neg (by decide +kernel)]; exact ⟨rfl, rfl⟩))
    (fun os started H enc _ => lifted os started H enc)

theorem proved : Rows.WalkPutCardSaid :=
  Claim7.holds_tied_plain_at .later [] [.data] true (true, "348ae7ec7ba4e62cabf024fe6591a7bb6090c65894f5278e701ebaa1b8c50ca2") false
    over (fun _ h => by cases h) (by kernel_rfl) (fun _ h => by cases h) walkPut_row_tie rfl ⟨rfl, rfl⟩ (by kernel_rfl) rfl
    (fun f fn hf hfn => by
      obtain rfl : f = 5 := Option.some.inj ((show Tryd.prog.funcNamed "trunnion/trunnionlaw07.WalkPut" = some 5 by kernel_rfl).symm.trans hf) |>.symm
      obtain rfl : fn = Tryd.f5 := (Option.some.inj (Tryd.func5.symm.trans hfn)).symm
      exact ⟨by kernel_rfl, fun j t ht => by
        rw [Tryd.params5] at ht
        have hm : t ∈ [38, 3, 3] := by simpa using Array.mem_of_getElem? ht
        have hall : ([38, 3, 3].all fun u => !Tryd.prog.wantsStandIn u) = true := by kernel_rfl
        exact (show Tryd.prog.wantsStandIn t = false by simpa using List.all_eq_true.1 hall t hm)⟩)
    (by kernel_rfl)
end Go.Proofs.YtbakhipabeaojaaDoor.walkPut
