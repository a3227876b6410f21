/-
  Texts that the laws stand on, joined: BitsE, IsV, CpH, CpI, CpJ, CpT, CpHp, CpPt, CpHg, CpSd, CpSt, CpKr, CpKf, CpN.
-/
import Derived.Deep.Onto
import Derived.Laws.StructEq
import Derived.Test.YtcbiangocfhhlaaDoorPart2

/-
  Get and Put, the code's and the document's, each in one contract.
-/
namespace Go.Proofs.YtcbiangocfhhlaaDoor
open Go.ChangeShapes Go.WideShapes Go.ChangeAt Go.RowKit

def getV (x f m : Int) : Int := if fieldB f m = true then getI x f m else 0
def putB (y f m : Int) : Bool := fieldB f m && withinB y 0 (onesI m)
def putV (x y f m : Int) : Int := if putB y f m = true then putI x y f m else 0
theorem getV_yes {x f m : Int} (h : fieldB f m = true) : getV x f m = getI x f m := by unfold getV; rw [if_pos h]
theorem getV_no {x f m : Int} (h : fieldB f m = false) : getV x f m = 0 := by unfold getV; rw [if_neg (by rw [h]; decide)]
theorem putV_yes {x y f m : Int} (h : putB y f m = true) : putV x y f m = putI x y f m := by unfold putV; rw [if_pos h]
theorem putV_no {x y f m : Int} (h : putB y f m = false) : putV x y f m = 0 := by unfold putV; rw [if_neg (by rw [h]; decide)]
theorem putB_and {y f m : Int} (h : putB y f m = true) : fieldB f m = true ∧ withinB y 0 (onesI m) = true := by simpa [putB] using h

theorem get_any (x f m : Int) (w : World) (hx0 : 0 ≤ x) (hx : x < 18446744073709551616) :
    Calls Tryd.prog 28 #[.int .u64 x, .int .i64 f, .int .i64 m] w fun e w' => e = .returned (.tuple #[.int .u64 (getV x f m), .bool (fieldB f m)]) ∧ ∃ n, w' = w.drewN n := by
  cases h : fieldB f m
  · rw [getV_no h]; refine (get_no x f m w h).mono ?_; rintro e w' ⟨rfl, rfl⟩; exact ⟨rfl, 0, rfl⟩
  · rw [getV_yes h]; exact get_yes x f m w h hx0 hx
theorem put_any (x y f m : Int) (w : World) (hx0 : 0 ≤ x) (hx : x < 18446744073709551616) :
    Calls Tryd.prog 35 #[.int .u64 x, .int .u64 y, .int .i64 f, .int .i64 m] w fun e w' => e = .returned (.tuple #[.int .u64 (putV x y f m), .bool (putB y f m)]) ∧ ∃ n, w' = w.drewN n := by
  cases h : putB y f m
  · rw [putV_no h]
    cases h1 : fieldB f m
    · refine (put_no1 x y f m w h1).mono ?_; rintro e w' ⟨rfl, rfl⟩; exact ⟨rfl, 0, rfl⟩
    · have h2 : withinB y 0 (onesI m) = false := by rw [putB, h1] at h; simpa using h
      refine (put_no2 x y f m w h1 h2).mono ?_; rintro e w' ⟨rfl, rfl⟩; exact ⟨rfl, 0, rfl⟩
  · rw [putV_yes h]
    exact put_yes x y f m w (putB_and h).1 (putB_and h).2 hx0 hx
theorem getV_bd (x f m : Int) : 0 ≤ getV x f m ∧ getV x f m < 18446744073709551616 := by
  cases h : fieldB f m
  · rw [getV_no h]; omega
  · rw [getV_yes h]; exact getI_bd x f m h
theorem putV_bd (x y f m : Int) (hx0 : 0 ≤ x) (hx : x < 18446744073709551616) : 0 ≤ putV x y f m ∧ putV x y f m < 18446744073709551616 := by
  cases h : putB y f m
  · rw [putV_no h]; omega
  · rw [putV_yes h]; exact putI_bd x y f m (putB_and h).1 (putB_and h).2 hx0 hx
/-- a word that a uint64 holds -/
theorem wf_u64 {x : Int} (h : (Lit.int .u64 x).wf = true) : 0 ≤ x ∧ x < 18446744073709551616 := by have := bounds_u64 h; omega
theorem wf_i64 {x : Int} (h : (Lit.int .i64 x).wf = true) : -9223372036854775808 ≤ x ∧ x ≤ 9223372036854775807 := bounds_i64 h
end Go.Proofs.YtcbiangocfhhlaaDoor

/-
  The program's instructions: its two tables, the parts of an instruction.
-/
namespace Go.Proofs.YtcbiangocfhhlaaDoor
open Go.ChangeShapes Go.WideShapes Go.ChangeAt Go.RowKit

/-- the program's tables in memory -/
structure Tabs (w : World) : Prop where
  ops : Fr.VarAt w 1 (Fr.datS (Rows.laid_trunnion_isa_operations (H := Unit)))
  pls : Fr.VarAt w 0 (Fr.datS (Rows.laid_trunnion_isa_places (H := Unit)))
theorem varAt_kept {S : Nat → Prop} {w w' : World} {g : Nat} {cs : List Value} (h : Fr.VarAt w g cs) (u : Upd S w w') (hs : ¬ S g) : Fr.VarAt w' g cs := by
  obtain ⟨t, fr, h⟩ := h
  exact ⟨t, fr, u.at h hs⟩
theorem sent_kept {S : Nat → Prop} {w w' : World} {g : Nat} (h : Fr.Sent w g) (u : Upd S w w') (hs : ¬ S g) : Fr.Sent w' g := by
  obtain ⟨ev, h, h2⟩ := h
  exact ⟨ev, u.cell h hs, h2⟩
theorem Tabs.kept {w w' : World} (h : Tabs w) (u : Upd (fun _ => False) w w') : Tabs w' := ⟨varAt_kept h.ops u id, varAt_kept h.pls u id⟩
/-- which operands an operation has, by their places -/
def hasK (op : Int) : Nat → Bool
  | 0 => hasA op
  | 1 => hasB op
  | 2 => hasC op
  | _ => hasM op
/-- where a part stands -/
def frK : Nat → Int
  | 0 => 8
  | 1 => 11
  | 2 => 14
  | _ => 24
def mnK : Nat → Int
  | 0 => 3
  | 1 => 3
  | 2 => 3
  | _ => 16
def sgK : Nat → List Nat
  | 0 => [114]
  | 1 => [114]
  | 2 => [114]
  | _ => []
theorem Tabs.name {w : World} (h : Tabs w) (o : Nat) (ho : o < 12) : w.cell? ⟨1, o * 5, none⟩ = some (.string (strOf (byts (opName o)))) := by
  refine h.ops.cell ?_
  have hc : o = 0 ∨ o = 1 ∨ o = 2 ∨ o = 3 ∨ o = 4 ∨ o = 5 ∨ o = 6 ∨ o = 7 ∨ o = 8 ∨ o = 9 ∨ o = 10 ∨ o = 11 := by omega
  rcases hc with rfl | rfl | rfl | rfl | rfl | rfl | rfl | rfl | rfl | rfl | rfl | rfl <;> rfl
theorem Tabs.has {w : World} (h : Tabs w) (o : Nat) (ho : o < 12) (k : Nat) (hk : k < 4) : w.cell? ⟨1, o * 5 + 1 + k, none⟩ = some (.bool (hasK o k)) := by
  refine h.ops.cell ?_
  have hc : o = 0 ∨ o = 1 ∨ o = 2 ∨ o = 3 ∨ o = 4 ∨ o = 5 ∨ o = 6 ∨ o = 7 ∨ o = 8 ∨ o = 9 ∨ o = 10 ∨ o = 11 := by omega
  have hd : k = 0 ∨ k = 1 ∨ k = 2 ∨ k = 3 := by omega
  rcases hd with rfl | rfl | rfl | rfl <;> rcases hc with rfl | rfl | rfl | rfl | rfl | rfl | rfl | rfl | rfl | rfl | rfl | rfl <;> rfl
theorem Tabs.pl {w : World} (h : Tabs w) (k : Nat) (hk : k < 4) : w.cell? ⟨0, k * 3, none⟩ = some (.int .i64 (frK k)) ∧ w.cell? ⟨0, k * 3 + 1, none⟩ = some (.int .i64 (mnK k)) ∧ w.cell? ⟨0, k * 3 + 2, none⟩ = some (.string (strOf (byts (sgK k)))) := by
  have hd : k = 0 ∨ k = 1 ∨ k = 2 ∨ k = 3 := by omega
  rcases hd with rfl | rfl | rfl | rfl <;> exact ⟨h.pls.cell rfl, h.pls.cell rfl, h.pls.cell rfl⟩
theorem Ins.h_eq (i : Ins) (k : Nat) : i.h k = hasK i.op k := by
  match k with
  | 0 => rfl
  | 1 => rfl
  | 2 => rfl
  | _ + 3 => rfl
/-- the fields are ints -/
structure Ins.In (i : Ins) : Prop where
  o : -9223372036854775808 ≤ i.op ∧ i.op ≤ 9223372036854775807
  a : -9223372036854775808 ≤ i.a ∧ i.a ≤ 9223372036854775807
  b : -9223372036854775808 ≤ i.b ∧ i.b ≤ 9223372036854775807
  c : -9223372036854775808 ≤ i.c ∧ i.c ≤ 9223372036854775807
  m : -9223372036854775808 ≤ i.m ∧ i.m ≤ 9223372036854775807
theorem Ins.Ok.in {i : Ins} (h : i.Ok) : i.In := by
  obtain ⟨o, a, b, c, m, -, -, -, -⟩ := h
  exact ⟨by omega, by omega, by omega, by omega, by omega⟩
theorem Ins.In.p {i : Ins} (h : i.In) (k : Nat) : -9223372036854775808 ≤ i.p k ∧ i.p k ≤ 9223372036854775807 := by
  match k with
  | 0 => exact h.a
  | 1 => exact h.b
  | 2 => exact h.c
  | _ + 3 => exact h.m

theorem size_i4 : (Tryd.prog.info? 69).map (·.size) = some 4 := by kernel_rfl
theorem ret_i4 {fn : Func} {p : Tmp} (h : fn.results = #[.cell p 69]) (tmps : Array Value) (w : World) (g : Nat) (a b c d : Int) (hp : tmps.getD p undef = .pointer (some ⟨g, 0, none⟩)) (hg : w.heap[g]? = some (.cells #[.int .i64 a, .int .i64 b, .int .i64 c, .int .i64 d] 69 (0, 0))) :
    (results fn tmps).run Tryd.prog w = .ok (.agg #[.int .i64 a, .int .i64 b, .int .i64 c, .int .i64 d]) w :=
  results_cell_row h tmps w g _ _ _ _ hp hg Tryd.underlying69 rfl size_i4
theorem ret_in5 {fn : Func} {p : Tmp} (h : fn.results = #[.cell p 50]) (tmps : Array Value) (w : World) (g : Nat) (i : Ins) (hp : tmps.getD p undef = .pointer (some ⟨g, 0, none⟩)) (hg : InsAt w g i) :
    (results fn tmps).run Tryd.prog w = .ok (.agg #[.int .i64 i.op, .int .i64 i.a, .int .i64 i.b, .int .i64 i.c, .int .i64 i.m]) w :=
  results_cell_row h tmps w g _ _ _ _ hp hg Tryd.underlying50 rfl size_ins
theorem alloc_two (w : World) (o p : Obj) : ((w.alloc o).alloc p).heap[w.heap.size + 1]? = some p := by
  have h : (w.alloc o).heap.size = w.heap.size + 1 := by show (w.heap.push _).size = _; simp
  rw [← h]
  exact heap_alloc_last _ _
set_option maxHeartbeats 2000000 in
theorem numbers_any (i : Ins) (w : World) : Calls Tryd.prog 34 #[.agg #[.int .i64 i.op, .int .i64 i.a, .int .i64 i.b, .int .i64 i.c, .int .i64 i.m]] w fun e w' => e = .returned (.agg #[.int .i64 (i.p 0), .int .i64 (i.p 1), .int .i64 (i.p 2), .int .i64 (i.p 3)]) ∧ Upd (fun _ => False) w w' := by
  obtain ⟨op, a, b, c, m⟩ := i
  have U2 := Lib.hid (((Upd.refl (fun _ => False) w).alloc (.cells #[.int .i64 op, .int .i64 a, .int .i64 b, .int .i64 c, .int .i64 m] 50)).alloc (.cells #[.int .i64 a, .int .i64 b, .int .i64 c, .int .i64 m] 69))
  have X := Lib.hid (alloc_two w (.cells #[.int .i64 op, .int .i64 a, .int .i64 b, .int .i64 c, .int .i64 m] 50) (.cells #[.int .i64 a, .int .i64 b, .int .i64 c, .int .i64 m] 69))
  go_enter Tryd.func34, Tryd.ntmps34
  go_wp2
  (try simp only [Exit.inBlock, Exit.then])
  exact bodyPost_ret (ret_i4 rfl _ _ _ _ _ _ _ rfl X.out) rfl ⟨rfl, U2.out⟩
set_option maxHeartbeats 2000000 in
theorem instr_any (op a b c m : Int) (w : World) : Calls Tryd.prog 29 #[.int .i64 op, .agg #[.int .i64 a, .int .i64 b, .int .i64 c, .int .i64 m]] w fun e w' => e = .returned (.agg #[.int .i64 op, .int .i64 a, .int .i64 b, .int .i64 c, .int .i64 m]) ∧ Upd (fun _ => False) w w' := by
  have U2 := Lib.hid (((Upd.refl (fun _ => False) w).alloc (.cells #[.int .i64 a, .int .i64 b, .int .i64 c, .int .i64 m] 69)).alloc (.cells #[.int .i64 op, .int .i64 a, .int .i64 b, .int .i64 c, .int .i64 m] 50))
  have X := Lib.hid (show InsAt _ _ ⟨op, a, b, c, m⟩ from alloc_two w (.cells #[.int .i64 a, .int .i64 b, .int .i64 c, .int .i64 m] 69) (.cells #[.int .i64 op, .int .i64 a, .int .i64 b, .int .i64 c, .int .i64 m] 50))
  go_enter Tryd.func29, Tryd.ntmps29
  go_wp2
  (try simp only [Exit.inBlock, Exit.then])
  exact bodyPost_ret (ret_in5 rfl _ _ _ _ rfl X.out) rfl ⟨rfl, U2.out⟩
end Go.Proofs.YtcbiangocfhhlaaDoor

/-
  What the laws ask of the program's Step and Run: registers and the laws' flat words.
-/
namespace Go.Proofs.YtcbiangocfhhlaaDoor
open Go.ChangeShapes Go.WideShapes Go.ChangeAt Go.RowKit

/-- registers and flat words of the call's own -/
structure Cpu (w0 w : World) (A B : Nat) (v vl : Value) (c : Cp) (m : Fl) (l : List Int) : Prop where
  tabs : Tabs w0
  up : Upd (fun _ => False) w0 w
  hA : w0.heap.size ≤ A
  hB : w0.heap.size ≤ B
  ne : A ≠ B
  nv : ∀ g, v.ownBlock = some g → g ≠ A
  nl : ∀ g, vl.ownBlock = some g → g ≠ A
  ok : c.Ok
  okm : m.Ok
  regs : RegsAt w A c
  fl : FlAt w w0.heap.size B v vl m l
/-- the blocks that a step may change -/
def CpuS (A B : Nat) (v vl : Value) (k : Nat) : Prop := k = A ∨ k = B ∨ v.ownBlock = some k ∨ vl.ownBlock = some k
theorem Cpu.low {w0 w : World} {A B : Nat} {v vl : Value} {c : Cp} {m : Fl} {l : List Int} (h : Cpu w0 w A B v vl c m l) (k : Nat) (hk : CpuS A B v vl k) : w0.heap.size ≤ k := by
  rcases hk with rfl | rfl | e | e
  · exact h.hA
  · exact h.hB
  · exact (h.fl.row.lt k e).1
  · exact (h.fl.lds.lt k e).1
theorem Cpu.onto {w0 w w' : World} {A B : Nat} {v vl : Value} {c : Cp} {m : Fl} {l : List Int} (h : Cpu w0 w A B v vl c m l) (u : Upd (CpuS A B v vl) w w') : Upd (fun _ => False) w0 w' :=
  ⟨u.os.trans h.up.os, u.tape.trans h.up.tape, u.output.trans h.up.output, Nat.le_trans h.up.size u.size, fun k hk _ => by
    rw [u.block k (Nat.lt_of_lt_of_le hk h.up.size) (fun e => absurd (h.low k e) (by omega)), h.up.block k hk id]⟩
/-- what is elsewhere changes nothing -/
theorem Cpu.kept {S : Nat → Prop} {w0 w w' : World} {A B : Nat} {v vl : Value} {c : Cp} {m : Fl} {l : List Int} (h : Cpu w0 w A B v vl c m l) (u : Upd S w w') (hS : ∀ k, CpuS A B v vl k → ¬ S k) (hlo : ∀ k, S k → w0.heap.size ≤ k) : Cpu w0 w' A B v vl c m l :=
  { h with
    up := ⟨u.os.trans h.up.os, u.tape.trans h.up.tape, u.output.trans h.up.output, Nat.le_trans h.up.size u.size, fun k hk _ => by
      rw [u.block k (Nat.lt_of_lt_of_le hk h.up.size) (fun e => absurd (hlo k e) (by omega)), h.up.block k hk id]⟩
    regs := h.regs.kept u (hS A (.inl rfl))
    fl := h.fl.kept u (hS B (.inr (.inl rfl))) (fun j e => hS j (.inr (.inr (.inl e)))) (fun j e => hS j (.inr (.inr (.inr e)))) }
theorem Cpu.still {w0 w w' : World} {A B : Nat} {v vl : Value} {c : Cp} {m : Fl} {l : List Int} (h : Cpu w0 w A B v vl c m l) (u : Upd (fun _ => False) w w') : Cpu w0 w' A B v vl c m l := h.kept u (fun _ _ => id) (fun _ => False.elim)
/-- what the laws ask of Step -/
def GStep : Prop := ∀ (w0 w : World) (A B : Nat) (v vl : Value) (c : Cp) (m : Fl) (l : List Int), Cpu w0 w A B v vl c m l → l.length ≤ 90000 →
  Calls Tryd.prog 12 #[.pointer (some ⟨A, 0, none⟩), .iface 28 (.pointer (some ⟨B, 0, none⟩))] w fun e w' => e = .returned (.tuple #[.int .i64 (c.step m).call, .int .i64 (c.step m).e]) ∧
    ∃ vl', Cpu w0 w' A B v vl' (c.step m).c (c.step m).m (l ++ c.lds m) ∧ Upd (CpuS A B v vl) w w' ∧ ∀ g, vl'.ownBlock = some g → vl.ownBlock = some g ∨ w.heap.size ≤ g
/-- what the laws ask of Run -/
def GRun : Prop := ∀ (w0 w : World) (A B : Nat) (v vl : Value) (c : Cp) (m : Fl) (l : List Int) (N : Int), Cpu w0 w A B v vl c m l → N ≤ 10000 → l.length + 2 * N.toNat ≤ 90000 →
  Calls Tryd.prog 15 #[.pointer (some ⟨A, 0, none⟩), .iface 28 (.pointer (some ⟨B, 0, none⟩)), .int .i64 N] w fun e w' => e = .returned (.tuple #[.int .i64 ((c.run m N.toNat).1 : Nat), .int .i64 (c.run m N.toNat).2.call, .int .i64 (c.run m N.toNat).2.e]) ∧
    ∃ vl', Cpu w0 w' A B v vl' (c.run m N.toNat).2.c (c.run m N.toNat).2.m (l ++ c.runL m N.toNat) ∧ Upd (CpuS A B v vl) w w' ∧ ∀ g, vl'.ownBlock = some g → vl.ownBlock = some g ∨ w.heap.size ≤ g
/-! a sum: the program, and how it runs -/
def sumL : List Ins := [⟨1, 1, 0, 0, 5⟩, ⟨2, 1, 1, 1, 0⟩, ⟨0, 0, 0, 0, 0⟩]
def sumW : List Int := wvs sumL 3
def regs0 : Cp := ⟨[0, 0, 0, 0, 0, 0, 0, 0], 0⟩
theorem regs0_ok : regs0.Ok := ⟨rfl, by decide, by decide⟩
theorem sum_ok : Fl.Ok ⟨sumW, 0⟩ := ⟨by decide, by decide⟩
theorem sum_run : (regs0.run ⟨sumW, 0⟩ 9) = (2, ⟨⟨[0, 10, 0, 0, 0, 0, 0, 0], 2⟩, ⟨sumW, 0⟩, 0, 13⟩) := by rfl
end Go.Proofs.YtcbiangocfhhlaaDoor

/-
  The laws' awake.
-/
namespace Go.Proofs.YtcbiangocfhhlaaDoor
open Go.ChangeShapes Go.WideShapes Go.ChangeAt Go.RowKit

theorem sum_rows (w : World) (b : Nat) (hb : w.heap[b]? = some (.cells (sumL.flatMap Ins.cs).toArray 50 (0, 0))) : ∀ k i, sumL[k]? = some i → w.rangeAt b (0 + k * 5) i.cs := by
  intro k i h j v hj
  rw [cell_of_row _ _ _ _ _ _ hb]
  have hk : k < 3 := (List.getElem?_eq_some_iff.1 h).1
  have hd : k = 0 ∨ k = 1 ∨ k = 2 := by omega
  have hj5 : j < 5 := (List.getElem?_eq_some_iff.1 hj).1
  have hjd : j = 0 ∨ j = 1 ∨ j = 2 ∨ j = 3 ∨ j = 4 := by omega
  rcases hd with rfl | rfl | rfl <;> (injection h with h; subst h; rcases hjd with rfl | rfl | rfl | rfl | rfl <;> exact hj)
theorem Cpu.made {w0 w w' : World} {A B : Nat} {v : Value} {c : Cp} {m : Fl} (hT : Tabs w0) (u0 : Upd (fun _ => False) w0 w) (hA : w0.heap.size ≤ A) (R : RegsAt w A c) (hc : c.Ok) (hm : m.Ok) (F : FlAt w' w.heap.size B v (.slice none 0 0) m []) (u : Upd (fun _ => False) w w') (hB : w.heap.size ≤ B) : Cpu w0 w' A B v (.slice none 0 0) c m [] := by
  have hl := lt_of_heap R
  have hs := u0.size
  exact {
    tabs := hT, up := u0.trans u, hA := hA, hB := by omega, ne := by omega, ok := hc, okm := hm, regs := R.kept u id
    nv := fun g hg e => by have := (F.row.lt g hg).1; omega
    nl := fun g hg => by cases hg
    fl := ⟨F.at_, F.row.mono hs, F.lds.mono hs⟩ }
set_option maxRecDepth 100000 in
set_option maxHeartbeats 4000000 in
theorem cpawake_any (gr : GRun) (w : World) (hT : Tabs w) : Calls Tryd.prog 10 #[] w fun e w' => e = .returned (.bool true) ∧ Upd (fun _ => False) w w' := by
  have HT := Lib.hid hT
  have GR := Lib.hid gr
  clear hT gr
  go_enter Tryd.func10, Tryd.ntmps10
  go_wp2_with fail
  have U1 := Lib.hid ((Upd.refl (fun _ => False) w).alloc (.cells (sumL.flatMap Ins.cs).toArray 50))
  refine (wwords_any w.heap.size 0 3 sumL _ (sum_rows _ _ (heap_alloc_last w (.cells (sumL.flatMap Ins.cs).toArray 50))) (by decide) (by simp)).mono ?_
  rintro e w2 ⟨v, rfl, hv, u2⟩
  have U2 := Lib.hid (U1.out.trans u2)
  have V2 := Lib.hid hv
  obtain ⟨o, cap, rfl⟩ := rows_slice hv
  clear hv u2 U1
  go_wp2_with fail
  have R3 := Lib.hid (show RegsAt (w2.alloc (.cells (ints .u64 (regs0.R ++ [regs0.pc])).toArray 25)) w2.heap.size regs0 from heap_alloc_last w2 _)
  have u3 := (Upd.refl (fun _ => False) w2).alloc (.cells (ints .u64 (regs0.R ++ [regs0.pc])).toArray 25)
  have V3 := Lib.hid (rows_still V2.out u3)
  have U3 := Lib.hid (U2.out.trans u3)
  have hA := Lib.hid U2.out.size
  have hlt := Lib.hid (show ∀ b, (Value.slice o sumL.length cap).ownBlock = some b → b < w2.heap.size + 1 from fun b hb => by have := (V2.out.lt b hb).2; omega)
  clear U2 V2 u3
  generalize hw3 : w2.alloc (.cells (ints .u64 (regs0.R ++ [regs0.pc])).toArray 25) = w3 at R3 V3 U3
  have hs3 : w3.heap.size = w2.heap.size + 1 := by rw [← hw3]; simp
  show Calls Tryd.prog 11 #[.slice o sumL.length cap, .int .i64 0] (w2.alloc (.cells (ints .u64 (regs0.R ++ [regs0.pc])).toArray 25)) _
  rw [hw3]
  clear hw3
  rw [← hs3] at hlt
  generalize w2.heap.size = A at hA R3 ⊢
  clear hs3
  refine (of_any o cap sumW 0 w3 (fun _ => Src.of_row V3.out) (by decide) (fun _ => hlt.out)).mono ?_
  rintro e w4 ⟨B, v, rfl, F4, u4, hB⟩
  have C4 := Lib.hid (Cpu.made HT.out U3.out hA.out R3.out regs0_ok sum_ok F4 u4 hB)
  clear R3 V3 F4 u4 hB hA hlt U3 HT
  go_wp2_with fail
  refine (GR.out w w4 A B v _ regs0 ⟨sumW, 0⟩ [] 9 C4.out (by decide) (by decide)).mono ?_
  rintro e w5 ⟨rfl, vl, C5, u5, -⟩
  have U5 := Lib.hid (C4.out.onto u5)
  rw [show (9 : Int).toNat = 9 from rfl, sum_run] at C5 ⊢
  have c1 := C5.regs.reg C5.ok 1 (by decide) (by decide)
  have c2 := C5.regs.pc C5.ok
  rw [show Int.toNat 1 = 1 from rfl] at c1
  clear C4 C5 u5
  simp only at c1 c2 ⊢
  go_wp2_with fail
  go_ret
  exact ⟨rfl, U5.out⟩
end Go.Proofs.YtcbiangocfhhlaaDoor

/-
  Two register files compared.
-/
namespace Go.Proofs.YtcbiangocfhhlaaDoor
open Go.ChangeShapes Go.WideShapes Go.ChangeAt Go.RowKit

instance : DecidableEq Cp := fun c d => decidable_of_iff (c.R = d.R ∧ c.pc = d.pc) ⟨fun h => by cases c; cases d; simp_all, fun h => by rw [h]; exact ⟨rfl, rfl⟩⟩
/-- a register file's nine cells -/
def Cp.cs (c : Cp) : List Value := ints .u64 (c.R ++ [c.pc])
theorem Cp.cs_len {c : Cp} (h : c.R.length = 8) : c.cs.length = 9 := by simp [Cp.cs, ints_length, h]
theorem run_eqRg (c d : Cp) (hc : c.R.length = 8) (hd : d.R.length = 8) (b : Bool) (hb : decide (c = d) = b) (w : World) :
    (Op.equalIn 10000 25 (.agg c.cs.toArray) (.agg d.cs.toArray)).run Tryd.prog w = .ok b w := by
  subst hb
  have hF : (Tryd.prog.fieldsOf 25).toList.map (fun f => (f.name == "_", f.type, f.offset)) = [(false, 23, 0), (false, 22, 8)] := by kernel_rfl
  rw [run_equalIn_struct w 9999 _ _ _ (by kernel_rfl) (by kernel_rfl)]
  have hz : (sizeOf 23).run Tryd.prog w = .ok 8 w := by
    have h : (Tryd.prog.info? 23).map (·.size) = some 8 := by kernel_rfl
    cases hq : Tryd.prog.info? 23 with
    | none => simp [hq] at h
    | some i => simp [hq] at h; simp [sizeOf, typeInfo, hq, h]
  have hp0 : ∀ e : Cp, e.R.length = 8 → (part 23 e.cs.toArray 0).run Tryd.prog w = .ok (.agg (ints .u64 e.R).toArray) w := by
    intro e he
    unfold part
    rw [Sem.run_bind, show (isAgg 23).run Tryd.prog w = .ok true w from by unfold isAgg; rw [Sem.run_bind, run_underlying Tryd.underlying23 w]; rfl]
    simp only [Result.andThen_ok, if_true, Sem.run_bind, hz, Sem.run_pure]
    congr 2
    simp [Cp.cs, ints, List.extract_toArray, he]
  have hp1 : ∀ e : Cp, e.R.length = 8 → (part 22 e.cs.toArray 8).run Tryd.prog w = .ok (.int .u64 e.pc) w := by
    intro e he
    have hx : e.cs.toArray[8]? = some (.int .u64 e.pc) := by simp [Cp.cs, ints, he]
    unfold part
    rw [Sem.run_bind, show (isAgg 22).run Tryd.prog w = .ok false w from by unfold isAgg; rw [Sem.run_bind, run_underlying Tryd.underlying22 w]; rfl]
    simp only [Result.andThen_ok, Bool.false_eq_true, if_false, hx]
    rfl
  have hlen := congrArg List.length hF
  rw [List.length_map] at hlen
  generalize (Tryd.prog.fieldsOf 25).toList = L at hF hlen ⊢
  match L, hlen with
  | [g0, g1], _ =>
    simp only [List.map_cons, List.map_nil, List.cons.injEq, Prod.mk.injEq, and_true] at hF
    obtain ⟨⟨n0, t0, o0⟩, ⟨n1, t1, o1⟩⟩ := hF
    have n0 : g0.name ≠ "_" := by simpa using n0
    have n1 : g1.name ≠ "_" := by simpa using n1
    rw [Op.eqFields, if_pos n0, Sem.run_bind, t0, o0, hp0 c hc, Result.andThen_ok, Sem.run_bind, hp0 d hd, Result.andThen_ok, Sem.run_bind, run_equalIn_ints (w := w) 9997 Tryd.underlying23 Tryd.underlying22 (by kernel_rfl) c.R d.R hc hd, Result.andThen_ok]
    by_cases e1 : c.R = d.R
    · rw [e1]
      simp only [decide_true, Bool.not_true, Bool.false_eq_true, if_false]
      rw [Op.eqFields, if_pos n1, Sem.run_bind, t1, o1, hp1 c hc, Result.andThen_ok, Sem.run_bind, hp1 d hd, Result.andThen_ok, Sem.run_bind, run_equalIn_int w _ _ .u64 .u64 _ _ Tryd.underlying22, Result.andThen_ok]
      by_cases e2 : c.pc = d.pc
      · have : c = d := by cases c; cases d; simp_all
        simp [e2, this, Op.eqFields]
      · have : c ≠ d := fun e => e2 (by rw [e])
        simp [e2, this]
    · have : c ≠ d := fun e => e1 (by rw [e])
      simp [e1, this]
theorem size_regs : (Tryd.prog.info? 25).map (·.size) = some 9 := by kernel_rfl
theorem RegsAt.range {w : World} {B : Nat} {c : Cp} (h : RegsAt w B c) : w.rangeAt B 0 c.cs := by
  intro j v hj
  rw [cell_of_row _ _ _ _ _ _ h]
  simpa [Cp.cs] using hj
/-- a new box into which registers are stored -/
abbrev regsZ : Array Value := #[.int .u64 0, .int .u64 0, .int .u64 0, .int .u64 0, .int .u64 0, .int .u64 0, .int .u64 0, .int .u64 0, .int .u64 0]
theorem regs_box (w : World) (c : Cp) (hc : c.R.length = 8) :
    RegsAt ((w.alloc (.cells regsZ 25)).setCells w.heap.size 0 c.cs) w.heap.size c ∧ Upd (fun _ => False) w ((w.alloc (.cells regsZ 25)).setCells w.heap.size 0 c.cs) ∧ (w.alloc (.cells regsZ 25)).there w.heap.size 0 9 := by
  have h0 : (w.alloc (.cells regsZ 25)).heap[w.heap.size]? = some (.cells ([.int .u64 0, .int .u64 0, .int .u64 0, .int .u64 0, .int .u64 0, .int .u64 0, .int .u64 0, .int .u64 0, .int .u64 0] : List Value).toArray 25 (0, 0)) := heap_alloc_last w _
  refine ⟨?_, Upd.setCells (.inr (Nat.le_refl _)) _ _ ((Upd.refl _ _).alloc _), fun j hj => ⟨by rw [cell_of_row _ _ _ _ _ _ h0, List.getElem?_toArray, List.getElem?_eq_getElem (by simp; omega)]; rfl, frozen_block h0 _⟩⟩
  unfold RegsAt
  rw [heap_setCells_same w.heap.size _ c.cs 0 _ _ h0 (by rw [Cp.cs_len hc]; decide), splice_all _ _ (by rw [Cp.cs_len hc]; rfl)]
  rfl
theorem Cp.cs_one (c : Cp) : c.cs.toArray.all (·.oneCell') = true := ints_one .u64 _
theorem Cp.cs_sz {c : Cp} (h : c.R.length = 8) : c.cs.toArray.size = 9 := Cp.cs_len h
/-- an argument that is a row of words -/
theorem words_of {w : World} {ao : Option Addr} {n b off : Nat} {E : Nat → Nat → Value} (R : Fr.RowArg w ao n b off [some .u64] E) (cap : Nat) : ∃ W : List Int, W.length = n ∧ WordsIn w (.slice ao n cap) W ∧ (∀ x, x ∈ W → 0 ≤ x ∧ x < 18446744073709551616) ∧ (0 < W.length → ∀ k, (Value.slice ao n cap).ownBlock = some k → k < w.heap.size) := by
  obtain ⟨f, hf⟩ : ∃ f : Nat → Int, ∀ i, i < n → E i 0 = .int .u64 (f i) ∧ (Lit.int .u64 (f i)).wf = true := Deep.choose_lt fun i hi => R.ok i hi 0 _ rfl
  refine ⟨(List.range n).map f, by simp, fun h0 => ?_, ?_, fun h0 k hk => ?_⟩
  · rw [List.length_map, List.length_range] at h0 ⊢
    refine .inr ⟨b, off, cap, by rw [R.place h0], by simp [ints], fun j u hj => ?_⟩
    have hj' : j < n := by have := (List.getElem?_eq_some_iff.1 hj).1; simpa [ints] using this
    have hc := R.cell j hj' 0 (by decide)
    rw [(hf j hj').1] at hc
    have e : u = .int .u64 (f j) := by
      simp [ints, List.getElem?_range, hj'] at hj
      exact hj.symm
    rw [e]
    simpa using hc
  · intro x hx
    obtain ⟨i, hi, rfl⟩ := List.mem_map.1 hx
    have := bounds_u64 (hf i (List.mem_range.1 hi)).2
    omega
  · rw [List.length_map, List.length_range] at h0
    rw [R.place h0] at hk
    obtain rfl : b = k := by injection hk
    exact R.lt h0
theorem WordsIn.kept {w w' : World} {x : Value} {W : List Int} (h : WordsIn w x W) (hl : 0 < W.length → ∀ k, x.ownBlock = some k → k < w.heap.size) (u : Upd (fun _ => False) w w') : WordsIn w' x W :=
  fun h0 => (h h0).kept fun b hb => u.block b (hl h0 b hb) id
theorem WordsIn.lt {w w' : World} {x : Value} {W : List Int} (hl : 0 < W.length → ∀ k, x.ownBlock = some k → k < w.heap.size) (u : Upd (fun _ => False) w w') : 0 < W.length → ∀ k, x.ownBlock = some k → k < w'.heap.size :=
  fun h0 k hk => Nat.lt_of_lt_of_le (hl h0 k hk) u.size
/-- the words of flat words -/
theorem FlAt.words {w : World} {base B : Nat} {v vl : Value} {m : Fl} {l : List Int} (h : FlAt w base B v vl m l) : ∃ o cap, v = .slice o m.W.length cap ∧ WordsIn w (.slice o m.W.length cap) m.W ∧ w.cell? ⟨B, 0, none⟩ = some (.slice o m.W.length cap) := by
  obtain ⟨o, cap, rfl⟩ := rows_slice h.row
  exact ⟨o, cap, rfl, fun _ => Src.of_row h.row, by rw [cell_of_row _ _ _ _ _ _ h.at_]; rfl⟩
end Go.Proofs.YtcbiangocfhhlaaDoor

/-
  Two register files with the laws' flat words of their own, side by side.
-/
namespace Go.Proofs.YtcbiangocfhhlaaDoor
open Go.ChangeShapes Go.WideShapes Go.ChangeAt Go.RowKit

theorem Cpu.lt {w0 w : World} {A B : Nat} {v vl : Value} {c : Cp} {m : Fl} {l : List Int} (h : Cpu w0 w A B v vl c m l) (k : Nat) (hk : CpuS A B v vl k) : k < w.heap.size := by
  rcases hk with rfl | rfl | e | e
  · exact lt_of_heap h.regs
  · exact lt_of_heap h.fl.at_
  · exact (h.fl.row.lt k e).2
  · exact (h.fl.lds.lt k e).2
/-- two of them -/
structure Pair (w0 w : World) (A B : Nat) (v vl : Value) (c : Cp) (m : Fl) (l : List Int) (A2 B2 : Nat) (v2 vl2 : Value) (c2 : Cp) (m2 : Fl) (l2 : List Int) : Prop where
  one : Cpu w0 w A B v vl c m l
  two : Cpu w0 w A2 B2 v2 vl2 c2 m2 l2
  apart : ∀ k, CpuS A B v vl k → ¬ CpuS A2 B2 v2 vl2 k
theorem Pair.swap {w0 w : World} {A B : Nat} {v vl : Value} {c : Cp} {m : Fl} {l : List Int} {A2 B2 : Nat} {v2 vl2 : Value} {c2 : Cp} {m2 : Fl} {l2 : List Int} (h : Pair w0 w A B v vl c m l A2 B2 v2 vl2 c2 m2 l2) : Pair w0 w A2 B2 v2 vl2 c2 m2 l2 A B v vl c m l :=
  ⟨h.two, h.one, fun k hk h' => h.apart k h' hk⟩
/-- the first has gone on -/
theorem Pair.left {w0 w w' : World} {A B : Nat} {v vl vl' : Value} {c c' : Cp} {m m' : Fl} {l l' : List Int} {A2 B2 : Nat} {v2 vl2 : Value} {c2 : Cp} {m2 : Fl} {l2 : List Int} (h : Pair w0 w A B v vl c m l A2 B2 v2 vl2 c2 m2 l2)
    (C : Cpu w0 w' A B v vl' c' m' l') (u : Upd (CpuS A B v vl) w w') (hv : ∀ g, vl'.ownBlock = some g → vl.ownBlock = some g ∨ w.heap.size ≤ g) : Pair w0 w' A B v vl' c' m' l' A2 B2 v2 vl2 c2 m2 l2 :=
  ⟨C, h.two.kept u (fun k hk h' => h.apart k h' hk) (fun k hk => h.one.low k hk), fun k hk h' => by
    rcases hk with e | e | e | e
    · exact h.apart k (.inl e) h'
    · exact h.apart k (.inr (.inl e)) h'
    · exact h.apart k (.inr (.inr (.inl e))) h'
    · rcases hv k e with e' | e'
      · exact h.apart k (.inr (.inr (.inr e'))) h'
      · have := h.two.lt k h'; omega⟩
theorem Pair.right {w0 w w' : World} {A B : Nat} {v vl : Value} {c : Cp} {m : Fl} {l : List Int} {A2 B2 : Nat} {v2 vl2 vl2' : Value} {c2 c2' : Cp} {m2 m2' : Fl} {l2 l2' : List Int} (h : Pair w0 w A B v vl c m l A2 B2 v2 vl2 c2 m2 l2)
    (C : Cpu w0 w' A2 B2 v2 vl2' c2' m2' l2') (u : Upd (CpuS A2 B2 v2 vl2) w w') (hv : ∀ g, vl2'.ownBlock = some g → vl2.ownBlock = some g ∨ w.heap.size ≤ g) : Pair w0 w' A B v vl c m l A2 B2 v2 vl2' c2' m2' l2' :=
  (h.swap.left C u hv).swap
theorem Pair.still {w0 w w' : World} {A B : Nat} {v vl : Value} {c : Cp} {m : Fl} {l : List Int} {A2 B2 : Nat} {v2 vl2 : Value} {c2 : Cp} {m2 : Fl} {l2 : List Int} (h : Pair w0 w A B v vl c m l A2 B2 v2 vl2 c2 m2 l2) (u : Upd (fun _ => False) w w') : Pair w0 w' A B v vl c m l A2 B2 v2 vl2 c2 m2 l2 :=
  ⟨h.one.still u, h.two.still u, h.apart⟩
/-- both made -/
theorem Pair.made {w0 w3 w4 w5 : World} {A B A2 B2 : Nat} {v v2 : Value} {c c2 : Cp} {m m2 : Fl} (hT : Tabs w0) (U3 : Upd (fun _ => False) w0 w3) (hA : w0.heap.size ≤ A) (hA2 : w0.heap.size ≤ A2) (hne : A ≠ A2) (R : RegsAt w3 A c) (R2 : RegsAt w3 A2 c2) (hc : c.Ok) (hc2 : c2.Ok) (hm : m.Ok) (hm2 : m2.Ok)
    (F4 : FlAt w4 w3.heap.size B v (.slice none 0 0) m []) (u4 : Upd (fun _ => False) w3 w4) (hB : w3.heap.size ≤ B) (F5 : FlAt w5 w4.heap.size B2 v2 (.slice none 0 0) m2 []) (u5 : Upd (fun _ => False) w4 w5) (hB2 : w4.heap.size ≤ B2) :
    Pair w0 w5 A B v (.slice none 0 0) c m [] A2 B2 v2 (.slice none 0 0) c2 m2 [] :=
  ⟨(Cpu.made hT U3 hA R hc hm F4 u4 hB).still u5, Cpu.made hT (U3.trans u4) hA2 (R2.kept u4 id) hc2 hm2 F5 u5 hB2, fun k hk h' => by
    have a1 := lt_of_heap R
    have a2 := lt_of_heap R2
    have a3 := u4.size
    have a4 := lt_of_heap F4.at_
    rcases hk with rfl | rfl | e | e
    · rcases h' with e' | e' | e' | e'
      · exact hne e'
      · omega
      · have := (F5.row.lt k e').1; omega
      · cases e'
    · rcases h' with e' | e' | e' | e'
      · omega
      · omega
      · have := (F5.row.lt k e').1; omega
      · cases e'
    · have b1 := F4.row.lt k e
      rcases h' with e' | e' | e' | e'
      · omega
      · omega
      · have := (F5.row.lt k e').1; omega
      · cases e'
    · cases e⟩
end Go.Proofs.YtcbiangocfhhlaaDoor

/-
  Plain, for CpuHangs: words turned that were not loaded.
-/
namespace Go.Proofs.YtcbiangocfhhlaaDoor
open Go.ChangeShapes Go.WideShapes Go.ChangeAt Go.RowKit

/-- words turned that were not loaded: the first k of them -/
def flp (W L : List Int) (k : Nat) : List Int := (List.range W.length).map fun j => if j < k ∧ (j : Int) ∉ L then lxorI (W.getD j 0) 18446744073709551615 else W.getD j 0
theorem flp_len (W L : List Int) (k : Nat) : (flp W L k).length = W.length := by simp [flp]
theorem flp_get (W L : List Int) (k j : Nat) (h : j < W.length) : (flp W L k).getD j 0 = if j < k ∧ (j : Int) ∉ L then lxorI (W.getD j 0) 18446744073709551615 else W.getD j 0 := by
  rw [List.getD_eq_getElem?_getD, flp, List.getElem?_map, List.getElem?_range h]
  rfl
theorem flp_zero (W L : List Int) : flp W L 0 = W := by
  refine List.ext_getElem (flp_len W L 0) fun j h1 h2 => ?_
  have := flp_get W L 0 j h2
  rw [if_neg (by omega), List.getD_eq_getElem?_getD, List.getD_eq_getElem?_getD, List.getElem?_eq_getElem h1, List.getElem?_eq_getElem h2] at this
  exact this
theorem flp_met {W L : List Int} {k : Nat} (h : (k : Int) ∈ L) : flp W L (k + 1) = flp W L k := by
  unfold flp
  refine List.map_congr_left fun j _ => ?_
  by_cases e : j = k
  · subst e
    rw [if_neg (fun q => q.2 h), if_neg (fun q => q.2 h)]
  · have : (j < k + 1 ∧ (j : Int) ∉ L) ↔ (j < k ∧ (j : Int) ∉ L) := ⟨fun q => ⟨by omega, q.2⟩, fun q => ⟨by omega, q.2⟩⟩
    simp only [this]
theorem flp_turn {W L : List Int} {k : Nat} (hk : k < W.length) (h : (k : Int) ∉ L) : flp W L (k + 1) = (flp W L k).set k (lxorI ((flp W L k).getD k 0) 18446744073709551615) := by
  rw [flp_get W L k k hk, if_neg (fun q => absurd q.1 (Nat.lt_irrefl _))]
  refine List.ext_getElem? fun j => ?_
  by_cases hj : j < W.length
  · have a1 := flp_get W L (k + 1) j hj
    have a2 := flp_get W L k j hj
    rw [List.getD_eq_getElem?_getD] at a1 a2
    have q1 : j < (flp W L (k + 1)).length := by rw [flp_len]; exact hj
    have q2 : j < (flp W L k).length := by rw [flp_len]; exact hj
    rw [List.getElem?_eq_getElem q1] at a1 ⊢
    rw [List.getElem?_set, List.getElem?_eq_getElem q2] at *
    simp only [Option.getD_some] at a1 a2
    by_cases e : k = j
    · subst e
      rw [if_pos ⟨by omega, h⟩] at a1
      rw [if_pos rfl, if_pos q2, a1]
    · rw [if_neg e, a1, a2]
      congr 1
      have : (j < k + 1 ∧ (j : Int) ∉ L) ↔ (j < k ∧ (j : Int) ∉ L) := ⟨fun q => ⟨by omega, q.2⟩, fun q => ⟨by omega, q.2⟩⟩
      simp only [this]
  · rw [List.getElem?_eq_none (by rw [flp_len]; omega), List.getElem?_eq_none (by rw [List.length_set, flp_len]; omega)]
theorem flp_bd {W L : List Int} {k : Nat} (h : ∀ x, x ∈ W → 0 ≤ x ∧ x < 18446744073709551616) : ∀ x, x ∈ flp W L k → 0 ≤ x ∧ x < 18446744073709551616 := by
  intro x hx
  obtain ⟨j, _, rfl⟩ := List.mem_map.1 hx
  split
  · exact lxor_bd _ _
  · exact getD_bd h j
theorem flp_like (W L : List Int) : Like (fun a => a ∈ L) ⟨W, 0⟩ ⟨flp W L W.length, 0⟩ :=
  ⟨(flp_len W L _).symm, rfl, fun a ha h0 => by
    show W.getD a.toNat 0 = (flp W L W.length).getD a.toNat 0
    by_cases hj : a.toNat < W.length
    · rw [flp_get W L _ _ hj, if_neg (fun q => q.2 (by rw [Int.toNat_of_nonneg h0]; exact ha))]
    · rw [List.getD_eq_getElem?_getD, List.getD_eq_getElem?_getD, List.getElem?_eq_none (by omega), List.getElem?_eq_none (by rw [flp_len]; omega)]⟩
theorem met_next (L : List Int) (i : Int) (j : Nat) (hj : j < L.length) : decide (i ∈ L.take (j + 1)) = (decide (i ∈ L.take j) || (L.getD j 0 == i)) := by
  rw [List.take_succ_eq_append_getElem hj, List.getD_eq_getElem?_getD, List.getElem?_eq_getElem hj]
  simp only [List.mem_append, List.mem_singleton, Option.getD_some]
  by_cases h1 : i ∈ L.take j
  · simp [h1]
  · by_cases h2 : i = L[j]
    · simp [h2]
    · have h3 : L[j] ≠ i := fun e => h2 e.symm
      simp [h1, h2, h3]
/-- a word of its own, set -/
theorem Cpu.put {w0 w : World} {A B g cap : Nat} {vl : Value} {c : Cp} {m : Fl} {l : List Int} (h : Cpu w0 w A B (.slice (some ⟨g, 0, none⟩) m.W.length cap) vl c m l) (k : Nat) (x : Int) (hx : 0 ≤ x ∧ x < 18446744073709551616) :
    Cpu w0 (w.setCell ⟨g, k, none⟩ (.int .u64 x)) A B (.slice (some ⟨g, 0, none⟩) m.W.length cap) vl c { m with W := m.W.set k x } l ∧ Upd (CpuS A B (.slice (some ⟨g, 0, none⟩) m.W.length cap) vl) w (w.setCell ⟨g, k, none⟩ (.int .u64 x)) := by
  have u := (Upd.refl (fun j => (Value.slice (some ⟨g, 0, none⟩) m.W.length cap).ownBlock = some j) w).setCell (p := ⟨g, k, none⟩) (.inl rfl) (.int .u64 x)
  have hst := (h.fl.row.stored k (.int .u64 x)).1
  have hgb : B ≠ g := h.fl.ne g rfl
  have hgl := h.fl.apart g rfl
  have u' := u.mono (T := CpuS A B (.slice (some ⟨g, 0, none⟩) m.W.length cap) vl) (fun _ _ hk => .inr (.inr (.inl hk)))
  refine ⟨{ h with
    up := h.onto u'
    okm := ⟨by show (m.W.set k x).length ≤ 1000; rw [List.length_set]; exact h.okm.n, set_bd h.okm.r k hx⟩
    regs := h.regs.kept u (fun e => h.nv _ e rfl)
    fl := ⟨by rw [Below.heap_setCell _ _ _ _ hgb]; exact h.fl.at_, ?_, rows_kept h.fl.lds u (fun j hj e => hgl (hj.trans e.symm))⟩ }, u'⟩
  show (w.setCell _ _).ownsRow _ _ _ _ (m.W.set k x).length (ints .u64 (m.W.set k x))
  rw [List.length_set, show ints .u64 (m.W.set k x) = (ints .u64 m.W).set k (.int .u64 x) from by simp [ints, List.map_set]]
  exact hst
end Go.Proofs.YtcbiangocfhhlaaDoor

/-
  CpuParts, over what the laws ask of Step and Run.
-/
namespace Go.Proofs.YtcbiangocfhhlaaDoor
open Go.ChangeShapes Go.WideShapes Go.ChangeAt Go.RowKit

theorem runL_len : ∀ (k : Nat) (c : Cp) (m : Fl), (c.runL m k).length ≤ 2 * k
  | 0, c, m => by simp [Cp.runL]
  | k + 1, c, m => by
    rw [Cp.runL_succ, List.length_append]
    have h1 : (c.lds m).length ≤ 2 := by unfold Cp.lds; split <;> simp
    split
    · have := runL_len k (c.step m).c (c.step m).m
      omega
    · simp; omega
set_option maxRecDepth 100000 in
set_option maxHeartbeats 8000000 in
theorem cpuparts_any (gr : GRun) (c : Cp) (hc : c.Ok) (W : List Int) (o : Option Addr) (cap : Nat) (p q : Int) (w : World) (hT : Tabs w) (hW : WordsIn w (.slice o W.length cap) W) (hr : ∀ x, x ∈ W → 0 ≤ x ∧ x < 18446744073709551616)
    (hlt : 0 < W.length → ∀ k, (Value.slice o W.length cap).ownBlock = some k → k < w.heap.size) (hm : W.length ≤ 9223372036854775807) :
    Calls Tryd.prog 5 #[.agg c.cs.toArray, .slice o W.length cap, .agg #[.int .i64 p, .int .i64 q]] w fun e w' => e = .returned (.bool true) ∧ Upd (fun _ => False) w w' := by
  have cA := Lib.hid (fun W (u : Upd (fun _ => False) w W) => cpawake_any gr W (hT.kept u))
  have X0 := (show RegsAt (w.alloc (.cells c.cs.toArray 25)) w.heap.size c from heap_alloc_last w _)
  have U0 := (Upd.refl (fun _ => False) w).alloc (.cells c.cs.toArray 25)
  have P0 := heap_alloc_last (w.alloc (.cells c.cs.toArray 25)) (.cells #[.int .i64 p, .int .i64 q] 46)
  have U0' := U0.alloc (.cells #[.int .i64 p, .int .i64 q] 46)
  have X0' := X0.kept ((Upd.refl (fun _ => False) (w.alloc (.cells c.cs.toArray 25))).alloc (.cells #[.int .i64 p, .int .i64 q] 46)) id
  rw [World.size_alloc] at P0
  have hT0 := hT.kept U0'
  have HA := Lib.hid (fun W (u : Upd (fun _ => False) ((w.alloc (.cells c.cs.toArray 25)).alloc (.cells #[.int .i64 p, .int .i64 q] 46)) W) => cA.out W (U0'.trans u))
  have HW := Lib.hid (fun W' (u : Upd (fun _ => False) ((w.alloc (.cells c.cs.toArray 25)).alloc (.cells #[.int .i64 p, .int .i64 q] 46)) W') => hW.kept hlt (U0'.trans u))
  have HL := Lib.hid (fun W' (u : Upd (fun _ => False) ((w.alloc (.cells c.cs.toArray 25)).alloc (.cells #[.int .i64 p, .int .i64 q] 46)) W') => WordsIn.lt hlt (U0'.trans u))
  have HX := Lib.hid (fun W' (u : Upd (fun _ => False) ((w.alloc (.cells c.cs.toArray 25)).alloc (.cells #[.int .i64 p, .int .i64 q] 46)) W') => X0'.kept u id)
  have HP := Lib.hid (fun W' (u : Upd (fun _ => False) ((w.alloc (.cells c.cs.toArray 25)).alloc (.cells #[.int .i64 p, .int .i64 q] 46)) W') => u.at P0 id)
  have HE := Lib.hid (fun W' (u : Upd (fun _ => False) ((w.alloc (.cells c.cs.toArray 25)).alloc (.cells #[.int .i64 p, .int .i64 q] 46)) W') => U0'.trans u)
  clear X0 U0 P0 U0' X0' cA hT hW hlt
  go_enter Tryd.func5, Tryd.ntmps5
  go_wp2_with fail
  generalize (w.alloc (.cells c.cs.toArray 25)).alloc (.cells #[.int .i64 p, .int .i64 q] 46) = w0 at hT0 HA HW HL HX HP HE ⊢
  generalize w.heap.size = R0 at HX HP ⊢
  refine (HA.out _ (Upd.refl _ _)).mono ?_
  rintro e w1 ⟨rfl, u1⟩
  have U1 := Lib.hid u1
  have x1 := (HX.out _ u1).range
  have c3 : w1.cell? ⟨R0 + 1, 0, none⟩ = some (.int .i64 p) := by rw [cell_of_row _ _ _ _ _ _ (HP.out _ u1)]; rfl
  have c4 : w1.cell? ⟨R0 + 1, 1, none⟩ = some (.int .i64 q) := by rw [cell_of_row _ _ _ _ _ _ (HP.out _ u1)]; rfl
  clear u1
  by_cases b1 : (200 : Int) < (W.length : Int)
  · clear hc hr hm
    go_wp2
    go_ret
    exact ⟨rfl, HE.out _ U1.out⟩
  replace b1 : (W.length : Int) ≤ 200 := by omega
  by_cases b2 : p < 0
  · clear hc hr hm
    go_wp2
    go_ret
    exact ⟨rfl, HE.out _ U1.out⟩
  replace b2 : 0 ≤ p := by omega
  by_cases b3 : q < 0
  · clear hc hr hm
    go_wp2
    go_ret
    exact ⟨rfl, HE.out _ U1.out⟩
  replace b3 : 0 ≤ q := by omega
  by_cases b4 : 1000 < p
  · clear hc hr hm
    go_wp2
    go_ret
    exact ⟨rfl, HE.out _ U1.out⟩
  replace b4 : p ≤ 1000 := by omega
  by_cases b5 : 1000 < q
  · clear hc hr hm
    go_wp2
    go_ret
    exact ⟨rfl, HE.out _ U1.out⟩
  replace b5 : q ≤ 1000 := by omega
  obtain ⟨N1, rfl⟩ := Int.eq_ofNat_of_zero_le b2
  obtain ⟨N2, rfl⟩ := Int.eq_ofNat_of_zero_le b3
  go_upto_region 4 with fail
  obtain ⟨q1, q2, q3⟩ := regs_box w1 c hc.n
  have U2 := Lib.hid (U1.out.trans q2)
  have B1 := Lib.hid q1
  have B3 := Lib.hid q3
  have x2 := (HX.out _ U2.out).range
  clear q1 q2 q3
  go_upto_region 5 with (first
    | (with_reducible refine wpList_load_sz rfl 25 (.tmp 3) rfl R0 0 rfl c.cs _ x1 Tryd.underlying25 rfl 9 (Cp.cs_len hc.n) size_regs ?_)
    | (with_reducible refine wpList_store_sz rfl 25 (.tmp 8) (.tmp 47) rfl w1.heap.size 0 c.cs.toArray rfl rfl 9 (Cp.cs_sz hc.n) B3.out size_regs (Cp.cs_one c) c.cs rfl ?_))
  have hA := Lib.hid U1.out.size
  have hmo : Fl.Ok ⟨W, 0⟩ := ⟨by show W.length ≤ 1000; omega, hr⟩
  show Code.wp _ _ _ _ ((w1.alloc (.cells regsZ 25)).setCells w1.heap.size 0 c.cs)
  generalize (w1.alloc (.cells regsZ 25)).setCells w1.heap.size 0 c.cs = w2 at U2 B1 x2 ⊢
  generalize w1.heap.size = A at hA B1 ⊢
  clear U1 x1 B3 c3 c4
  obtain ⟨q1, q2, q3⟩ := regs_box w2 c hc.n
  have U3 := Lib.hid (U2.out.trans q2)
  have B2 := Lib.hid q1
  have B3 := Lib.hid q3
  have B1' := Lib.hid (B1.out.kept q2 id)
  have hAR := Lib.hid (lt_of_heap B1.out)
  have hRl := Lib.hid U2.out.size
  clear q1 q2 q3 B1
  go_upto_region 6 with (first
    | (with_reducible refine wpList_load_sz rfl 25 (.tmp 3) rfl R0 0 rfl c.cs _ x2 Tryd.underlying25 rfl 9 (Cp.cs_len hc.n) size_regs ?_)
    | (with_reducible refine wpList_store_sz rfl 25 (.tmp 9) (.tmp 48) rfl w2.heap.size 0 c.cs.toArray rfl rfl 9 (Cp.cs_sz hc.n) B3.out size_regs (Cp.cs_one c) c.cs rfl ?_))
  show Code.wp _ _ _ _ ((w2.alloc (.cells regsZ 25)).setCells w2.heap.size 0 c.cs)
  generalize (w2.alloc (.cells regsZ 25)).setCells w2.heap.size 0 c.cs = w3 at U3 B1' B2 ⊢
  generalize w2.heap.size = RB at hAR hRl B2 ⊢
  clear U2 x2 B3
  go_wp2_with fail
  refine (of_any o cap W 0 w3 (HW.out _ U3.out) (by omega) (HL.out _ U3.out)).mono ?_
  rintro e w4 ⟨B, v, rfl, F4, u4, hB⟩
  have U4 := Lib.hid (U3.out.trans u4)
  replace F4 := Lib.hid F4
  replace u4 := Lib.hid u4
  replace hB := Lib.hid hB
  go_wp2_with fail
  refine (of_any o cap W 0 w4 (HW.out _ U4.out) (by omega) (HL.out _ U4.out)).mono ?_
  rintro e w5 ⟨B2', v2, rfl, F5, u5, hB2⟩
  have D := Lib.hid (Pair.made hT0 U3.out hA.out hRl.out (Nat.ne_of_lt hAR.out) B1'.out B2.out hc hc hmo hmo F4.out u4.out hB.out F5 u5 hB2)
  have U5 := U4.out.trans u5
  have c3 : w5.cell? ⟨R0 + 1, 0, none⟩ = some (.int .i64 N1) := by rw [cell_of_row _ _ _ _ _ _ (HP.out _ U5)]; rfl
  have c4 : w5.cell? ⟨R0 + 1, 1, none⟩ = some (.int .i64 N2) := by rw [cell_of_row _ _ _ _ _ _ (HP.out _ U5)]; rfl
  clear U3 U4 U5 hA hRl hAR B1' B2 F4 u4 hB F5 u5 hB2 HW HL HX HA
  have G1 := gr w0 w5 A B v _ c ⟨W, 0⟩ [] ((N1 : Int) + (N2 : Int)) D.out.one (by omega) (by simp; omega)
  rw [show ((N1 : Int) + (N2 : Int)).toNat = N1 + N2 from by omega] at G1
  have G2 := fun W' (h : Cpu w0 W' RB B2' v2 (.slice none 0 0) c ⟨W, 0⟩ []) => gr w0 W' RB B2' v2 _ c ⟨W, 0⟩ [] N1 h (by omega) (by simp; omega)
  rw [Int.toNat_natCast] at G2
  have G3 := fun W' vl (h : Cpu w0 W' RB B2' v2 vl (c.run ⟨W, 0⟩ N1).2.c (c.run ⟨W, 0⟩ N1).2.m ([] ++ c.runL ⟨W, 0⟩ N1)) => gr w0 W' RB B2' v2 vl (c.run ⟨W, 0⟩ N1).2.c (c.run ⟨W, 0⟩ N1).2.m _ N2 h (by omega) (by have := runL_len N1 c ⟨W, 0⟩; simp; omega)
  rw [Int.toNat_natCast] at G3
  have hrp := run_parts N1 c ⟨W, 0⟩ N2
  have e1 := run_e c ⟨W, 0⟩ N1
  have e2 := run_e (c.run ⟨W, 0⟩ N1).2.c (c.run ⟨W, 0⟩ N1).2.m N2
  generalize c.runL ⟨W, 0⟩ (N1 + N2) = L0 at G1
  generalize c.runL ⟨W, 0⟩ N1 = L1 at G2 G3
  generalize c.run ⟨W, 0⟩ N1 = T1 at *
  obtain ⟨k1, c1, m1, ca1, er1⟩ := T1
  simp only at *
  generalize c1.runL m1 N2 = L2 at G3
  generalize c1.run m1 N2 = T2 at *
  obtain ⟨k2, cc2, mm2, ca2, er2⟩ := T2
  simp only at *
  rw [hrp] at G1
  clear hrp hmo hr
  by_cases he : er1 = 0
  · subst he
    rw [if_pos rfl] at G1
    have ek := Lib.hid (show ((k1 + k2 : Nat) : Int) = (k1 : Int) + (k2 : Int) from by omega)
    rw [ek.out] at G1
    replace G1 := Lib.hid G1
    replace G2 := Lib.hid G2
    replace G3 := Lib.hid G3
    go_wp2_with fail
    refine G1.out.mono ?_
    rintro e w6 ⟨rfl, vl6, C6, u6, hv6⟩
    have D6 := Lib.hid (D.out.left C6 u6 hv6)
    have U6 := C6.up
    have d3 : w6.cell? ⟨R0 + 1, 0, none⟩ = some (.int .i64 N1) := by rw [cell_of_row _ _ _ _ _ _ (HP.out _ U6)]; rfl
    have d4 : w6.cell? ⟨R0 + 1, 1, none⟩ = some (.int .i64 N2) := by rw [cell_of_row _ _ _ _ _ _ (HP.out _ U6)]; rfl
    clear G1 C6 u6 hv6 D U6 c3 c4
    go_wp2_with fail
    refine (G2.out _ D6.out.two).mono ?_
    rintro e w7 ⟨rfl, vl7, C7, u7, hv7⟩
    have D7 := Lib.hid (D6.out.right C7 u7 hv7)
    have U7 := C7.up
    have c3 : w7.cell? ⟨R0 + 1, 0, none⟩ = some (.int .i64 N1) := by rw [cell_of_row _ _ _ _ _ _ (HP.out _ U7)]; rfl
    have c4 : w7.cell? ⟨R0 + 1, 1, none⟩ = some (.int .i64 N2) := by rw [cell_of_row _ _ _ _ _ _ (HP.out _ U7)]; rfl
    clear G2 C7 u7 hv7 D6 U7 d3 d4
    go_wp2_with fail
    refine (G3.out _ _ D7.out.two).mono ?_
    rintro e w8 ⟨rfl, vl8, C8, u8, hv8⟩
    have D8 := Lib.hid (D7.out.right C8 u8 hv8)
    clear G3 C8 u8 hv8 D7 c3 c4
    obtain ⟨oa, ca, rfl, fa, ka⟩ := D8.out.one.fl.words
    obtain ⟨ob, cb, rfl, fb, kb⟩ := D8.out.two.fl.words
    have ok8 := Lib.hid D8.out.one.ok
    have hml := D8.out.one.okm.n
    have A8 := Lib.hid D8.out.one.regs
    have B8 := Lib.hid D8.out.two.regs
    have U8 := Lib.hid D8.out.one.up
    have cS := fun k => same_any oa ob ca cb mm2.W mm2.W (w8.drewN k) fa fb (by omega)
    rw [decide_eq_true rfl] at cS
    replace cS := Lib.hid cS
    clear fa fb D8 hml
    generalize mm2.W.length = ml at ka kb cS ⊢
    go_upto_region 15 with fail
    go_quiet ((go_at_call 14; exact draws0 (cS.out _)))
    have u9 := U8.out.drewN nq
    have r9 := (show RegsAt (w8.drewN nq) A cc2 from A8.out).range
    have s9 := (show RegsAt (w8.drewN nq) RB cc2 from B8.out).range
    generalize w8.drewN nq = w9 at u9 r9 s9 ⊢
    have hq := run_eqRg cc2 cc2 ok8.out.n ok8.out.n true (by simp)
    have l9 := Cp.cs_len ok8.out.n
    clear ka kb cS U8 A8 B8 ok8
    go_wp2_with (first
      | (with_reducible refine wpList_load_sz rfl 25 (.tmp 8) rfl A 0 rfl cc2.cs _ r9 Tryd.underlying25 rfl 9 l9 size_regs ?_)
      | (with_reducible refine wpList_load_sz rfl 25 (.tmp 9) rfl RB 0 rfl cc2.cs _ s9 Tryd.underlying25 rfl 9 l9 size_regs ?_))
    go_ret
    exact ⟨rfl, HE.out _ u9⟩
  · rw [if_neg he] at G1
    have he' : (er1 == 0) = false := by simpa using he
    replace G1 := Lib.hid G1
    replace G2 := Lib.hid G2
    clear G3 e2 he
    go_wp2_with fail
    refine G1.out.mono ?_
    rintro e w6 ⟨rfl, vl6, C6, u6, hv6⟩
    have D6 := Lib.hid (D.out.left C6 u6 hv6)
    have U6 := C6.up
    have d3 : w6.cell? ⟨R0 + 1, 0, none⟩ = some (.int .i64 N1) := by rw [cell_of_row _ _ _ _ _ _ (HP.out _ U6)]; rfl
    clear G1 C6 u6 hv6 D U6 c3 c4
    go_wp2_with fail
    refine (G2.out _ D6.out.two).mono ?_
    rintro e w8 ⟨rfl, vl7, C7, u7, hv7⟩
    have D8 := Lib.hid (D6.out.right C7 u7 hv7)
    clear G2 C7 u7 hv7 D6 d3
    obtain ⟨oa, ca, rfl, fa, ka⟩ := D8.out.one.fl.words
    obtain ⟨ob, cb, rfl, fb, kb⟩ := D8.out.two.fl.words
    have ok8 := Lib.hid D8.out.one.ok
    have hml := D8.out.one.okm.n
    have A8 := Lib.hid D8.out.one.regs
    have B8 := Lib.hid D8.out.two.regs
    have U8 := Lib.hid D8.out.one.up
    have cS := fun k => same_any oa ob ca cb m1.W m1.W (w8.drewN k) fa fb (by omega)
    rw [decide_eq_true rfl] at cS
    replace cS := Lib.hid cS
    clear fa fb D8 hml
    generalize m1.W.length = ml at ka kb cS ⊢
    go_upto_region 15 with fail
    go_quiet ((go_at_call 14; exact draws0 (cS.out _)))
    have u9 := U8.out.drewN nq
    have r9 := (show RegsAt (w8.drewN nq) A c1 from A8.out).range
    have s9 := (show RegsAt (w8.drewN nq) RB c1 from B8.out).range
    generalize w8.drewN nq = w9 at u9 r9 s9 ⊢
    have hq := run_eqRg c1 c1 ok8.out.n ok8.out.n true (by simp)
    have l9 := Cp.cs_len ok8.out.n
    clear ka kb cS U8 A8 B8 ok8
    go_wp2_with (first
      | (with_reducible refine wpList_load_sz rfl 25 (.tmp 8) rfl A 0 rfl c1.cs _ r9 Tryd.underlying25 rfl 9 l9 size_regs ?_)
      | (with_reducible refine wpList_load_sz rfl 25 (.tmp 9) rfl RB 0 rfl c1.cs _ s9 Tryd.underlying25 rfl 9 l9 size_regs ?_))
    go_ret
    exact ⟨rfl, HE.out _ u9⟩
end Go.Proofs.YtcbiangocfhhlaaDoor

/-
  CpuHangs, over what the laws ask of Step and Run.
-/
namespace Go.Proofs.YtcbiangocfhhlaaDoor
open Go.ChangeShapes Go.WideShapes Go.ChangeAt Go.RowKit

set_option maxRecDepth 100000 in
set_option maxHeartbeats 8000000 in
theorem cpuhangs_any (gr : GRun) (c : Cp) (hc : c.Ok) (W : List Int) (o : Option Addr) (cap : Nat) (most : Int) (w : World) (hT : Tabs w) (hW : WordsIn w (.slice o W.length cap) W) (hr : ∀ x, x ∈ W → 0 ≤ x ∧ x < 18446744073709551616)
    (hlt : 0 < W.length → ∀ k, (Value.slice o W.length cap).ownBlock = some k → k < w.heap.size) (_hm : W.length ≤ 9223372036854775807) :
    Calls Tryd.prog 6 #[.agg c.cs.toArray, .slice o W.length cap, .int .i64 most] w fun e w' => e = .returned (.bool true) ∧ Upd (fun _ => False) w w' := by
  have cA := Lib.hid (fun W (u : Upd (fun _ => False) w W) => cpawake_any gr W (hT.kept u))
  have X0 := (show RegsAt (w.alloc (.cells c.cs.toArray 25)) w.heap.size c from heap_alloc_last w _)
  have U0 := (Upd.refl (fun _ => False) w).alloc (.cells c.cs.toArray 25)
  have hT0 := hT.kept U0
  have HA := Lib.hid (fun W (u : Upd (fun _ => False) (w.alloc (.cells c.cs.toArray 25)) W) => cA.out W (U0.trans u))
  have HW := Lib.hid (fun W' (u : Upd (fun _ => False) (w.alloc (.cells c.cs.toArray 25)) W') => hW.kept hlt (U0.trans u))
  have HL := Lib.hid (fun W' (u : Upd (fun _ => False) (w.alloc (.cells c.cs.toArray 25)) W') => WordsIn.lt hlt (U0.trans u))
  have HX := Lib.hid (fun W' (u : Upd (fun _ => False) (w.alloc (.cells c.cs.toArray 25)) W') => X0.kept u id)
  have HE := Lib.hid (fun W' (u : Upd (fun _ => False) (w.alloc (.cells c.cs.toArray 25)) W') => U0.trans u)
  clear X0 U0 cA hT hW hlt
  go_enter Tryd.func6, Tryd.ntmps6
  go_wp2_with fail
  generalize w.alloc (.cells c.cs.toArray 25) = w0 at hT0 HA HW HL HX HE ⊢
  generalize w.heap.size = R0 at HX ⊢
  refine (HA.out _ (Upd.refl _ _)).mono ?_
  rintro e w1 ⟨rfl, u1⟩
  have U1 := Lib.hid u1
  have x1 := (HX.out _ u1).range
  clear u1
  by_cases b1 : (100 : Int) < (W.length : Int)
  · clear hc hr
    go_wp2
    go_ret
    exact ⟨rfl, HE.out _ U1.out⟩
  replace b1 : (W.length : Int) ≤ 100 := by omega
  by_cases b2 : most < 0
  · clear hc hr
    go_wp2
    go_ret
    exact ⟨rfl, HE.out _ U1.out⟩
  replace b2 : 0 ≤ most := by omega
  by_cases b3 : 200 < most
  · clear hc hr
    go_wp2
    go_ret
    exact ⟨rfl, HE.out _ U1.out⟩
  replace b3 : most ≤ 200 := by omega
  obtain ⟨N, rfl⟩ := Int.eq_ofNat_of_zero_le b2
  go_upto_region 4 with fail
  obtain ⟨q1, q2, q3⟩ := regs_box w1 c hc.n
  have U2 := Lib.hid (U1.out.trans q2)
  have B1 := Lib.hid q1
  have B3 := Lib.hid q3
  have x2 := (HX.out _ U2.out).range
  clear q1 q2 q3
  go_upto_region 5 with (first
    | (with_reducible refine wpList_load_sz rfl 25 (.tmp 3) rfl R0 0 rfl c.cs _ x1 Tryd.underlying25 rfl 9 (Cp.cs_len hc.n) size_regs ?_)
    | (with_reducible refine wpList_store_sz rfl 25 (.tmp 8) (.tmp 34) rfl w1.heap.size 0 c.cs.toArray rfl rfl 9 (Cp.cs_sz hc.n) B3.out size_regs (Cp.cs_one c) c.cs rfl ?_))
  have hA := Lib.hid U1.out.size
  have hmo : Fl.Ok ⟨W, 0⟩ := ⟨by show W.length ≤ 1000; omega, hr⟩
  show Code.wp _ _ _ _ ((w1.alloc (.cells regsZ 25)).setCells w1.heap.size 0 c.cs)
  generalize (w1.alloc (.cells regsZ 25)).setCells w1.heap.size 0 c.cs = w2 at U2 B1 x2 ⊢
  generalize w1.heap.size = A at hA B1 ⊢
  clear U1 x1 B3
  obtain ⟨q1, q2, q3⟩ := regs_box w2 c hc.n
  have U3 := Lib.hid (U2.out.trans q2)
  have B2 := Lib.hid q1
  have B3 := Lib.hid q3
  have B1' := Lib.hid (B1.out.kept q2 id)
  have hAR := Lib.hid (lt_of_heap B1.out)
  have hRl := Lib.hid U2.out.size
  clear q1 q2 q3 B1
  go_upto_region 6 with (first
    | (with_reducible refine wpList_load_sz rfl 25 (.tmp 3) rfl R0 0 rfl c.cs _ x2 Tryd.underlying25 rfl 9 (Cp.cs_len hc.n) size_regs ?_)
    | (with_reducible refine wpList_store_sz rfl 25 (.tmp 9) (.tmp 35) rfl w2.heap.size 0 c.cs.toArray rfl rfl 9 (Cp.cs_sz hc.n) B3.out size_regs (Cp.cs_one c) c.cs rfl ?_))
  show Code.wp _ _ _ _ ((w2.alloc (.cells regsZ 25)).setCells w2.heap.size 0 c.cs)
  generalize (w2.alloc (.cells regsZ 25)).setCells w2.heap.size 0 c.cs = w3 at U3 B1' B2 ⊢
  generalize w2.heap.size = RB at hAR hRl B2 ⊢
  clear U2 x2 B3
  go_wp2_with fail
  refine (of_any o cap W 0 w3 (HW.out _ U3.out) (by omega) (HL.out _ U3.out)).mono ?_
  rintro e w4 ⟨B, v, rfl, F4, u4, hB⟩
  have C4 := Cpu.made hT0 U3.out hA.out B1'.out hc hmo F4 u4 hB
  have B4 := Lib.hid (B2.out.kept u4 id)
  have nB : Hid (∀ k, CpuS A B v (.slice none 0 0) k → k ≠ RB) := Lib.hid (fun k hk => by
    have a1 := lt_of_heap B2.out
    have a2 := hAR.out
    rcases hk with rfl | rfl | e | e
    · omega
    · omega
    · have := (F4.row.lt k e).1; omega
    · cases e)
  have G1 := Lib.hid (gr w0 w4 A B v _ c ⟨W, 0⟩ [] N C4 (by omega) (by simp; omega))
  rw [Int.toNat_natCast] at G1
  have hLn := runL_len N c ⟨W, 0⟩
  have hrl := fun (n : Fl) (h : Like (fun a => a ∈ c.runL ⟨W, 0⟩ N) ⟨W, 0⟩ n) => run_like N c ⟨W, 0⟩ n h (fun _ h => h)
  have hfl := flp_like W (c.runL ⟨W, 0⟩ N)
  have hz := Lib.hid C4.low
  have hz2 := Lib.hid C4.lt
  rw [List.nil_append] at G1
  generalize c.runL ⟨W, 0⟩ N = L at G1 hLn hrl hfl
  have hrl' := hrl _ hfl
  clear hrl hfl C4 F4 u4 hB
  generalize c.run ⟨W, 0⟩ N = T at G1 hrl'
  obtain ⟨k1, c1, m1, ca1, e1⟩ := T
  simp only at G1 hrl'
  replace hrl' := Lib.hid hrl'
  go_wp2_with fail
  refine G1.out.mono ?_
  rintro e w5 ⟨rfl, vl5, C5, u5, hv5⟩
  have B5 := Lib.hid (B4.out.kept u5 (fun h => nB.out _ h rfl))
  have nB5 : Hid (∀ k, CpuS A B v vl5 k → k ≠ RB ∧ k < w5.heap.size) := Lib.hid (fun k hk => ⟨by
    rcases hk with h | h | h | h
    · exact nB.out k (.inl h)
    · exact nB.out k (.inr (.inl h))
    · exact nB.out k (.inr (.inr (.inl h)))
    · rcases hv5 k h with h' | h'
      · cases h'
      · have := lt_of_heap B4.out; omega, C5.lt k hk⟩)
  replace C5 := Lib.hid C5
  clear G1 u5 hv5 nB B4
  go_wp2_with fail
  refine (of_any o cap W 0 w5 (HW.out _ C5.out.up) (by omega) (HL.out _ C5.out.up)).mono ?_
  rintro e w6 ⟨B2', v2, rfl, F6, u6, hB2⟩
  have D := Lib.hid (show Pair w0 w6 A B v vl5 c1 m1 L RB B2' v2 (.slice none 0 0) c ⟨W, 0⟩ [] from ⟨C5.out.still u6, Cpu.made hT0 C5.out.up hRl.out B5.out hc hmo F6 u6 hB2, fun k hk h' => by
    have a1 := nB5.out k hk
    rcases h' with h | h | h | h
    · exact a1.1 h
    · omega
    · have := (F6.row.lt k h).1; omega
    · cases h⟩)
  have hlen := Lib.hid (show v2 = .slice none 0 0 ∨ True from .inr trivial)
  clear hlen C5 B5 nB5 u6 F6 hB2 hA hRl hAR U3 B1' B2 HX HW HL HA hz hz2 hT0
  have DF : Hid (Pair w0 w6 A B v vl5 c1 m1 L RB B2' v2 (.slice none 0 0) c ⟨flp W L 0, 0⟩ []) := Lib.hid (by rw [flp_zero]; exact D.out)
  clear D
  obtain ⟨ol, cl, rfl⟩ := rows_slice DF.out.one.fl.lds
  have hlw : Hid (∀ k, (flp W L k).length = W.length) := Lib.hid (flp_len W L)
  obtain ⟨o2, q2, rfl⟩ : ∃ o2 q2, v2 = .slice o2 W.length q2 := by
    obtain ⟨a, b, h⟩ := rows_slice DF.out.two.fl.row
    refine ⟨a, b, ?_⟩
    rw [h]
    show Value.slice a (flp W L 0).length b = _
    rw [hlw.out]
  have hbd := Lib.hid (fun k => flp_bd (L := L) (k := k) hr)
  have hmet := Lib.hid (fun k => flp_met (W := W) (L := L) (k := k))
  have hturn := Lib.hid (fun k => flp_turn (W := W) (L := L) (k := k))
  have hmn := Lib.hid (fun i j => met_next L i j)
  have G2 := Lib.hid (fun W' (h : Cpu w0 W' RB B2' (.slice o2 W.length q2) (.slice none 0 0) c ⟨flp W L W.length, 0⟩ []) => gr w0 W' RB B2' _ _ c ⟨flp W L W.length, 0⟩ [] N h (by omega) (by simp; omega))
  rw [Int.toNat_natCast] at G2
  rw [← hrl'.out.1, ← hrl'.out.2.1, ← hrl'.out.2.2.1, ← hrl'.out.2.2.2.1, ← hrl'.out.2.2.2.2, List.nil_append] at G2
  generalize (c.run ⟨flp W L W.length, 0⟩ N).2.m = m2 at G2
  clear hrl' hr hmo hc
  have hLl : Hid (L.length ≤ 400) := Lib.hid (by omega)
  clear hLn
  generalize hwl : W.length = n at *
  generalize hll : L.length = nl at *
  replace hwl := Lib.hid hwl
  replace hll := Lib.hid hll
  clear b1 b2 b3
  go_wp2_with fail
  go_loopw [15] (fun t wr => ∃ k : Nat, k ≤ n ∧ t = .int .i64 k ∧ Hid (Pair w0 wr A B v (.slice ol nl cl) c1 m1 L RB B2' (.slice o2 n q2) (.slice none 0 0) c ⟨flp W L k, 0⟩ [])) (fun t _ => n - (intOf t).toNat)
  case atStart => exact ⟨0, by omega, rfl, DF⟩
  case round =>
    obtain ⟨k, hk, rfl, hD⟩ := hrel
    clear DF
    have g0 : wr.cell? ⟨B2', 0, none⟩ = some (.slice o2 n q2) := by rw [cell_of_row _ _ _ _ _ _ hD.out.two.fl.at_]; rfl
    have f2 : wr.cell? ⟨B, 2, none⟩ = some (.slice ol nl cl) := by rw [cell_of_row _ _ _ _ _ _ hD.out.one.fl.at_]; rfl
    by_cases hlt : k < n
    · have k0 : (0 : Int) ≤ (k : Int) := by omega
      have kn : (k : Int) < (n : Int) := by omega
      go_wp2_with fail
      (try rw [show decide ((k : Int) < (n : Int)) = true from decide_eq_true kn])
      go_loopw [16, 17] (fun mt t wx => ∃ j : Nat, j ≤ nl ∧ mt = .bool (decide ((k : Int) ∈ L.take j)) ∧ t = .int .i64 j ∧ wr = wx) (fun _ t _ => nl - (intOf t).toNat)
      case atStart => exact ⟨0, by omega, by simp, rfl, rfl⟩
      case round =>
        obtain ⟨j, hj, rfl, rfl, rfl⟩ := hrel
        by_cases hjl : j < nl
        · have j0 : (0 : Int) ≤ (j : Int) := by omega
          have j1 : (j : Int) < (nl : Int) := by omega
          have jb : (j : Int) < 400 := by have := hLl.out; omega
          have step := hmn.out k j hjl
          have hld := hD.out.one.fl.lds
          rw [hll.out] at hld
          obtain ⟨gl, rfl, hc⟩ := rows_at hld (by omega)
          have cj := hc j _ (ints_getElem? .i64 L j (by rw [hll.out]; exact hjl))
          clear hc hld
          generalize L.getD j 0 = y at step cj
          generalize decide ((k : Int) ∈ L.take j) = b at step ⊢
          obtain ⟨bb, hbb⟩ : ∃ bb, (y == (k : Int)) = bb := ⟨_, rfl⟩
          rw [hbb] at step
          replace step := Lib.hid step
          cases b
          · go_wp2
            go_roundw
            case rel => exact ⟨j + 1, by omega, by rw [step.out]; rfl, by go_num, trivial⟩
            case measure => simp [intOf]; omega
          · go_wp2
            go_roundw
            case rel => exact ⟨j + 1, by omega, by rw [step.out]; rfl, by go_num, trivial⟩
            case measure => simp [intOf]; omega
        · have e : j = nl := by omega
          have hin : L.take j = L := List.take_of_length_le (by rw [hll.out]; omega)
          rw [hin]
          have hj1 : ¬ ((j : Int) < (nl : Int)) := by omega
          clear hin hj hjl
          obtain ⟨b, hb⟩ : ∃ b, decide ((k : Int) ∈ L) = b := ⟨_, rfl⟩
          rw [hb]
          cases b
          · have hfk := Lib.hid (hturn.out k hlt (of_decide_eq_false hb))
            clear hb
            have h2 := hD.out.two
            rw [← hlw.out k] at h2
            obtain ⟨g, rfl, hc⟩ := rows_at h2.fl.row (by show 0 < (flp W L k).length; rw [hlw.out]; omega)
            have ck := hc k _ (ints_at (flp W L k) k (by rw [hlw.out]; exact hlt))
            have fz := h2.fl.row.frozenAt k
            have hP := Cpu.put (m := ⟨flp W L k, 0⟩) (h2.still ((Upd.refl (fun _ => False) wr).drewN 1)) k (lxorI ((flp W L k).getD k 0) 18446744073709551615) (lxor_bd _ _)
            rw [hlw.out k] at hP
            have hD' : Hid (Pair w0 ((wr.drewN 1).setCell ⟨g, k, none⟩ (.int .u64 (lxorI ((flp W L k).getD k 0) 18446744073709551615))) A B v (.slice ol nl cl) c1 m1 L RB B2' (.slice (some ⟨g, 0, none⟩) n q2) (.slice none 0 0) c ⟨flp W L (k + 1), 0⟩ []) := Lib.hid (by
              rw [hfk.out]
              exact (hD.out.still ((Upd.refl (fun _ => False) wr).drewN 1)).right hP.1 hP.2 (fun _ h => .inl h))
            clear h2 hc hP hfk
            generalize (flp W L k).getD k 0 = y at ck hD'
            go_upto_region 18 with fail
            go_still_tail 14, (by kernel_rfl)
            change wpList _ _ _ _ _ wr.drew
            go_wp2
            go_roundw
            case rel => exact ⟨k + 1, by omega, by go_num, hD'⟩
            case measure => simp [intOf]; omega
          · have hfk := Lib.hid (hmet.out k (of_decide_eq_true hb))
            clear hb
            go_wp2
            go_roundw
            case rel => exact ⟨k + 1, by omega, by go_num, Lib.hid (by rw [hfk.out]; exact hD.out)⟩
            case measure => simp [intOf]; omega
    · have e : k = n := by omega
      subst e
      have c2 := Lib.hid (G2.out wr hD.out.two)
      clear G2 hmn hturn hmet hbd hlw
      go_wp2_with fail
      refine c2.out.mono ?_
      rintro e w8 ⟨rfl, vl8, C8, u8, hv8⟩
      have D8 := Lib.hid (hD.out.right C8 u8 hv8)
      clear C8 u8 hv8 hD c2 g0 f2
      obtain ⟨o8, q8, rfl⟩ := rows_slice D8.out.two.fl.lds
      have g2 : w8.cell? ⟨B2', 2, none⟩ = some (.slice o8 nl q8) := by rw [cell_of_row _ _ _ _ _ _ D8.out.two.fl.at_, ← hll.out]; rfl
      have f2 : w8.cell? ⟨B, 2, none⟩ = some (.slice ol nl cl) := by rw [cell_of_row _ _ _ _ _ _ D8.out.one.fl.at_]; rfl
      go_upto_region 20 with fail
      go_quiet (fail)
      have D9 := Lib.hid (D8.out.still ((Upd.refl (fun _ => False) w8).drewN nq))
      have r9 := D9.out.one.regs.range
      have s9 := D9.out.two.regs.range
      generalize w8.drewN nq = w9 at D9 r9 s9 ⊢
      have hq := run_eqRg c1 c1 D9.out.one.ok.n D9.out.one.ok.n true (by simp)
      have l9 := Cp.cs_len D9.out.one.ok.n
      clear D8 g2 f2
      go_wp2_with (first
        | (with_reducible refine wpList_load_sz rfl 25 (.tmp 8) rfl A 0 rfl c1.cs _ r9 Tryd.underlying25 rfl 9 l9 size_regs ?_)
        | (with_reducible refine wpList_load_sz rfl 25 (.tmp 9) rfl RB 0 rfl c1.cs _ s9 Tryd.underlying25 rfl 9 l9 size_regs ?_))
      go_ret
      exact ⟨rfl, HE.out _ D9.out.one.up⟩
end Go.Proofs.YtcbiangocfhhlaaDoor

/-
  The program's registers and the laws' flat words, and beside them the document's.
-/
namespace Go.Proofs.YtcbiangocfhhlaaDoor
open Go.ChangeShapes Go.WideShapes Go.ChangeAt Go.RowKit

structure Side (w0 w : World) (A B : Nat) (v vl : Value) (c : Cp) (m : Fl) (l : List Int) (N RB FB : Nat) (v5 : Value) (d : Cp) (n : Fl) : Prop where
  cpu : Cpu w0 w A B v vl c m l
  regs : RegsAt w RB d
  flat : FlatAt w N FB v5 n
  ap : ∀ k, CpuS A B v vl k → k ≠ RB ∧ k ≠ FB ∧ v5.ownBlock ≠ some k
  lo : w0.heap.size ≤ RB ∧ ∀ g, v5.ownBlock = some g → w0.heap.size ≤ g
  ne : ∀ g, v5.ownBlock = some g → g ≠ RB
  nf : RB ≠ FB
/-- the program has gone on -/
theorem Side.left {w0 w w' : World} {A B N RB FB : Nat} {v vl vl' v5 : Value} {c c' d : Cp} {m m' n : Fl} {l l' : List Int} (h : Side w0 w A B v vl c m l N RB FB v5 d n) (C : Cpu w0 w' A B v vl' c' m' l') (u : Upd (CpuS A B v vl) w w') (hv : ∀ g, vl'.ownBlock = some g → vl.ownBlock = some g ∨ w.heap.size ≤ g) : Side w0 w' A B v vl' c' m' l' N RB FB v5 d n :=
  ⟨C, h.regs.kept u (fun e => (h.ap _ e).1 rfl), h.flat.kept u (fun e => (h.ap _ e).2.1 rfl) (fun j hj e => (h.ap _ e).2.2 hj), fun k hk => by
    rcases hk with e | e | e | e
    · exact h.ap k (.inl e)
    · exact h.ap k (.inr (.inl e))
    · exact h.ap k (.inr (.inr (.inl e)))
    · rcases hv k e with e' | e'
      · exact h.ap k (.inr (.inr (.inr e')))
      · have b1 := lt_of_heap h.regs
        have b2 := lt_of_heap h.flat.at_
        exact ⟨by omega, by omega, fun q => by have := (h.flat.row.lt k q).2; omega⟩, h.lo, h.ne, h.nf⟩
/-- the document has gone on -/
theorem Side.right {w0 w w' : World} {A B N RB FB : Nat} {v vl v5 : Value} {c d d' : Cp} {m n n' : Fl} {l : List Int} (h : Side w0 w A B v vl c m l N RB FB v5 d n) (R : RegsAt w' RB d') (F : FlatAt w' N FB v5 n') (u : Upd (fun k => k = RB ∨ v5.ownBlock = some k) w w') : Side w0 w' A B v vl c m l N RB FB v5 d' n' :=
  ⟨h.cpu.kept u (fun k hk e => by
      rcases e with e | e
      · exact (h.ap k hk).1 e
      · exact (h.ap k hk).2.2 e) (fun k e => by
      rcases e with rfl | e
      · exact h.lo.1
      · exact h.lo.2 k e), R, F, h.ap, h.lo, h.ne, h.nf⟩
theorem Side.still {w0 w w' : World} {A B N RB FB : Nat} {v vl v5 : Value} {c d : Cp} {m n : Fl} {l : List Int} (h : Side w0 w A B v vl c m l N RB FB v5 d n) (u : Upd (fun _ => False) w w') : Side w0 w' A B v vl c m l N RB FB v5 d n :=
  ⟨h.cpu.still u, h.regs.kept u id, h.flat.kept u id (fun _ _ => id), h.ap, h.lo, h.ne, h.nf⟩
theorem Side.made {w0 w4 w6 : World} {A B RB FB : Nat} {v v5 : Value} {c d : Cp} {m n : Fl} (C : Cpu w0 w4 A B v (.slice none 0 0) c m []) (R : RegsAt w4 RB d) (hlo : w0.heap.size ≤ RB) (hA : RB ≠ A) (hB : RB ≠ B) (hv : ∀ g, v.ownBlock = some g → g ≠ RB) (u : Upd (fun _ => False) w4 w6) (F : FlatAt w6 w4.heap.size FB v5 n) (hF : w4.heap.size ≤ FB) :
    Side w0 w6 A B v (.slice none 0 0) c m [] w4.heap.size RB FB v5 d n :=
  ⟨C.still u, R.kept u id, F, (fun k hk => by
    have b := C.lt k hk
    refine ⟨?_, by omega, fun q => by have := (F.row.lt k q).1; omega⟩
    rcases hk with rfl | rfl | e | e
    · exact fun e => hA e.symm
    · exact fun e => hB e.symm
    · exact hv k e
    · cases e), ⟨hlo, fun g hg => by have := (F.row.lt g hg).1; have := C.up.size; omega⟩, fun g hg => by have := (F.row.lt g hg).1; have := lt_of_heap R; omega, by have := lt_of_heap R; omega⟩
end Go.Proofs.YtcbiangocfhhlaaDoor

/-
  CpuSteps, over what the laws ask of Step and Run.
-/
namespace Go.Proofs.YtcbiangocfhhlaaDoor
open Go.ChangeShapes Go.WideShapes Go.ChangeAt Go.RowKit

set_option maxRecDepth 100000 in
set_option maxHeartbeats 8000000 in
theorem cpusteps_any (gs : GStep) (gr : GRun) (c : Cp) (hc : c.Ok) (W : List Int) (o : Option Addr) (cap : Nat) (first : Int) (w : World) (hT : Tabs w) (hW : WordsIn w (.slice o W.length cap) W) (hr : ∀ x, x ∈ W → 0 ≤ x ∧ x < 18446744073709551616)
    (hlt : 0 < W.length → ∀ k, (Value.slice o W.length cap).ownBlock = some k → k < w.heap.size) (hm : W.length ≤ 9223372036854775807) :
    Calls Tryd.prog 3 #[.agg c.cs.toArray, .slice o W.length cap, .int .i64 first] w fun e w' => e = .returned (.bool true) ∧ Upd (fun _ => False) w w' := by
  obtain ⟨i0, hi⟩ : ∃ i, Tryd.prog.info? 22 = some i := Option.isSome_iff_exists.1 (by kernel_rfl)
  have hz0 : i0.zero = some (.int .u64 0) := by
    have : (Tryd.prog.info? 22).bind (·.zero) = some (.int .u64 0) := by kernel_rfl
    rw [hi] at this; exact this
  have hz1 : i0.size = 1 := by
    have : (Tryd.prog.info? 22).map (·.size) = some 1 := by kernel_rfl
    rw [hi] at this; exact Option.some.inj this
  have hz2 : i0.bytes = 8 := by
    have : (Tryd.prog.info? 22).map (·.bytes) = some 8 := by kernel_rfl
    rw [hi] at this; exact Option.some.inj this
  have cA := Lib.hid (fun W (u : Upd (fun _ => False) w W) => cpawake_any gr W (hT.kept u))
  by_cases hb : 200 < W.length
  · have hb' : (200 : Int) < (W.length : Int) := by omega
    clear hW hr hlt hT hc
    go_enter Tryd.func3, Tryd.ntmps3
    go_wp2_with fail
    refine (cA.out _ ((Upd.refl _ _).alloc _)).mono ?_
    rintro e w1 ⟨rfl, u1⟩
    have U1 := (((Upd.refl (fun _ => False) w).alloc (.cells c.cs.toArray 25)).trans u1)
    go_wp2
    go_ret
    exact ⟨rfl, U1⟩
  · have hb' : ¬ (200 : Int) < (W.length : Int) := by omega
    go_enter Tryd.func3, Tryd.ntmps3
    go_wp2_with fail
    have X0 := (show RegsAt (w.alloc (.cells c.cs.toArray 25)) w.heap.size c from heap_alloc_last w _)
    have U0 := (Upd.refl (fun _ => False) w).alloc (.cells c.cs.toArray 25)
    have hT0 := hT.kept U0
    have HA := Lib.hid (fun W (u : Upd (fun _ => False) (w.alloc (.cells c.cs.toArray 25)) W) => cA.out W (U0.trans u))
    have HW := Lib.hid (fun W' (u : Upd (fun _ => False) (w.alloc (.cells c.cs.toArray 25)) W') => hW.kept hlt (U0.trans u))
    have HL := Lib.hid (fun W' (u : Upd (fun _ => False) (w.alloc (.cells c.cs.toArray 25)) W') => WordsIn.lt hlt (U0.trans u))
    have HX := Lib.hid (fun W' (u : Upd (fun _ => False) (w.alloc (.cells c.cs.toArray 25)) W') => X0.kept u id)
    have HE := Lib.hid (fun W' (u : Upd (fun _ => False) (w.alloc (.cells c.cs.toArray 25)) W') => U0.trans u)
    generalize w.alloc (.cells c.cs.toArray 25) = w0 at hT0 HA HW HL HX HE ⊢
    generalize w.heap.size = R0 at HX ⊢
    clear hW hlt X0 U0 cA hT
    refine (HA.out _ (Upd.refl _ _)).mono ?_
    rintro e w1 ⟨rfl, u1⟩
    have U1 := Lib.hid u1
    have x1 := (HX.out _ u1).range
    clear u1
    obtain ⟨b1, b2, b3⟩ := regs_box w1 c hc.n
    have U2 := Lib.hid (U1.out.trans b2)
    have B1 := Lib.hid b1
    have B3 := Lib.hid b3
    have x2 := (HX.out _ U2.out).range
    clear b1 b2 b3
    go_upto_region 5 with (first
      | (with_reducible refine wpList_load_sz rfl 25 (.tmp 3) rfl R0 0 rfl c.cs _ x1 Tryd.underlying25 rfl 9 (Cp.cs_len hc.n) size_regs ?_)
      | (with_reducible refine wpList_store_sz rfl 25 (.tmp 8) (.tmp 23) rfl w1.heap.size 0 c.cs.toArray rfl rfl 9 (Cp.cs_sz hc.n) B3.out size_regs (Cp.cs_one c) c.cs rfl ?_))
    have hA := Lib.hid U1.out.size
    have hmo : Fl.Ok ⟨W, first⟩ := ⟨by show W.length ≤ 1000; omega, hr⟩
    show Code.wp _ _ _ _ ((w1.alloc (.cells regsZ 25)).setCells w1.heap.size 0 c.cs)
    generalize (w1.alloc (.cells regsZ 25)).setCells w1.heap.size 0 c.cs = w2 at U2 B1 x2 ⊢
    generalize w1.heap.size = A at hA B1 ⊢
    clear U1 x1 B3
    obtain ⟨b1, b2, b3⟩ := regs_box w2 c hc.n
    have U3 := Lib.hid (U2.out.trans b2)
    have B2 := Lib.hid b1
    have B3 := Lib.hid b3
    have B1' := Lib.hid (B1.out.kept b2 id)
    have hAR := Lib.hid (lt_of_heap B1.out)
    have hRl := Lib.hid U2.out.size
    clear b1 b2 b3 B1
    go_upto_region 6 with (first
      | (with_reducible refine wpList_load_sz rfl 25 (.tmp 3) rfl R0 0 rfl c.cs _ x2 Tryd.underlying25 rfl 9 (Cp.cs_len hc.n) size_regs ?_)
      | (with_reducible refine wpList_store_sz rfl 25 (.tmp 9) (.tmp 24) rfl w2.heap.size 0 c.cs.toArray rfl rfl 9 (Cp.cs_sz hc.n) B3.out size_regs (Cp.cs_one c) c.cs rfl ?_))
    show Code.wp _ _ _ _ ((w2.alloc (.cells regsZ 25)).setCells w2.heap.size 0 c.cs)
    generalize (w2.alloc (.cells regsZ 25)).setCells w2.heap.size 0 c.cs = w3 at U3 B1' B2 ⊢
    generalize w2.heap.size = RB at hAR hRl B2 ⊢
    clear U2 x2 B3
    go_wp2_with fail
    refine (of_any o cap W first w3 (HW.out _ U3.out) (by omega) (HL.out _ U3.out)).mono ?_
    rintro e w4 ⟨B, v, rfl, F4, u4, hB⟩
    have C4 := Lib.hid (Cpu.made hT0 U3.out hA.out B1'.out hc hmo F4 u4 hB)
    have hR3 := Lib.hid (lt_of_heap B2.out)
    have D4 := Lib.hid (B2.out.kept u4 id)
    have lB := Lib.hid hB
    have lv := Lib.hid (fun g hg => (F4.row.lt g hg).1)
    have U4 := Lib.hid (U3.out.trans u4)
    clear B1' B2 F4 u4 hB U3
    have HWa := Lib.hid (HW.out _ (U4.out.alloc (.cells #[] 22)))
    have HG := Lib.hid (fun (v : Value) (w5 : World) (hrow : w5.ownsRow w4.heap.size 22 1 v (0 + W.length) ([] ++ ints .u64 W)) (hg : (w4.alloc (.cells #[] 22)).grownBy w5 (some w4.heap.size)) => (⟨hg.os, hg.tape, hg.output, by have := hg.size; simp at this; omega, fun k hk _ => by
      rw [hg.block k (by simp; omega) (by simp; omega), Below.heap_alloc _ _ _ hk]⟩ : Upd (fun _ => False) w4 w5))
    go_upto_region 8 with (at_builtin; refine wpList_append_words _ rfl _ _ 26 rfl w4.heap.size 22 i0 (.int .u64 0) 8 Tryd.underlying26 hi hz0 hz1 hz2 rfl w4.heap.size 0 rfl (World.ownsRow_made w4 #[] 0 (Nat.le_refl _) (by decide) rfl) o W.length cap W rfl rfl HWa.out (by simp [maxLen]; omega) (by omega) (by simp) ?_; intro v5 w5 hrow5 hg5; obtain ⟨o5, cap5, rfl⟩ := rows_slice hrow5)
    have u5 := HG.out _ _ hrow5 hg5
    have row5 : w5.ownsRow w4.heap.size 22 1 (.slice o5 W.length cap5) W.length (ints .u64 W) := by simpa using hrow5
    have G6 := Lib.hid (show FlatAt (w5.alloc (.cells #[.slice o5 W.length cap5, .int .i64 first] 32)) w4.heap.size w5.heap.size (.slice o5 W.length cap5) ⟨W, first⟩ from ⟨heap_alloc_last w5 _, row5.alloc _⟩)
    have u6 := u5.alloc (.cells #[.slice o5 W.length cap5, .int .i64 first] 32)
    have S6 := Lib.hid (Side.made C4.out D4.out hRl.out (by have := hAR.out; omega) (by have := hR3.out; have := lB.out; omega) (fun g hg => by have := lv.out g hg; have := hR3.out; omega) u6 G6.out u5.size)
    clear HG HWa hrow5 hg5 row5 u5 u6 C4 D4 U4 lv lB hR3 hAR hA hRl G6
    generalize w5.alloc (.cells #[.slice o5 W.length cap5, .int .i64 first] 32) = w6 at S6 ⊢
    generalize w5.heap.size = FB at S6 ⊢
    generalize w4.heap.size = N4 at S6 ⊢
    generalize Value.slice o5 W.length cap5 = v5 at S6 ⊢
    generalize (⟨W, first⟩ : Fl) = m0 at S6
    clear hmo HX HW HL HA hr hb hb'
    go_wp2_with fail
    go_loopw [12] (fun t wr => ∃ (k : Nat) (d : Cp) (n : Fl) (l : List Int) (vl : Value), k ≤ 60 ∧ t = .int .i64 k ∧ Hid (l.length ≤ 2 * k) ∧ Hid (Side w0 wr A B v vl d n l N4 RB FB v5 d n)) (fun t _ => 60 - (intOf t).toNat)
    case atStart => exact ⟨0, c, m0, [], _, by omega, rfl, Lib.hid (by simp), S6⟩
    case round =>
      obtain ⟨k, d, n, l, vl, hk, rfl, hll, hS⟩ := hrel
      clear S6
      by_cases hlt : k < 60
      · have k0 : (0 : Int) ≤ (k : Int) := by omega
        have k1 : (k : Int) < 60 := by omega
        have cs := gs w0 wr A B v vl d n l hS.out.cpu (by have := hll.out; omega)
        have cR := fun W (R : RegsAt W RB d) (F : FlatAt W N4 FB v5 n) => rstep_any N4 RB FB v5 d n W hS.out.cpu.ok hS.out.cpu.okm R F hS.out.ne hS.out.nf
        have hl8 : Hid ((l ++ d.lds n).length ≤ 2 * (k + 1)) := Lib.hid (by have := hll.out; have h2 : (d.lds n).length ≤ 2 := (by unfold Cp.lds; split <;> simp); rw [List.length_append]; omega)
        clear hll
        generalize l ++ d.lds n = l8 at cs hl8
        generalize d.step n = T at cs cR
        obtain ⟨c8, m8, ca8, e8⟩ := T
        simp only at cs cR
        by_cases h0 : e8 = 0
        · subst h0
          replace cs := Lib.hid cs
          replace cR := Lib.hid cR
          go_wp2_with fail
          refine cs.out.mono ?_
          rintro e w7 ⟨rfl, vl7, C7, u7, hv7⟩
          have S7 := Lib.hid (hS.out.left C7 u7 hv7)
          clear C7 u7 hv7 hS cs
          go_wp2_with fail
          refine (cR.out _ S7.out.regs S7.out.flat).mono ?_
          rintro e w8 ⟨rfl, R8, F8, u8⟩
          have S8 := Lib.hid (S7.out.right R8 F8 u8)
          clear R8 F8 u8 S7 cR
          obtain ⟨oa, ca, rfl, fa, ka⟩ := S8.out.cpu.fl.words
          obtain ⟨ob, cb, hob⟩ := rows_slice S8.out.flat.row
          have fb : WordsIn w8 (.slice ob m8.W.length cb) m8.W := fun _ => by have := Src.of_row S8.out.flat.row; rw [hob] at this; exact this
          have kb : w8.cell? ⟨FB, 0, none⟩ = some (.slice ob m8.W.length cb) := by rw [cell_of_row _ _ _ _ _ _ S8.out.flat.at_, hob]; rfl
          have hml := S8.out.cpu.okm.n
          have cQ := fun k => same_any oa ob ca cb m8.W m8.W (w8.drewN k) fa fb (by omega)
          rw [decide_eq_true rfl] at cQ
          replace cQ := Lib.hid cQ
          clear fa fb hml hob
          generalize m8.W.length = ml at ka kb cQ ⊢
          go_upto_region 13 with fail
          go_quiet ((go_at_call 14; exact draws0 (cQ.out _)))
          have S9 := Lib.hid (S8.out.still ((Upd.refl (fun _ => False) w8).drewN nq))
          have r9 := S9.out.cpu.regs.range
          have s9 := S9.out.regs.range
          generalize w8.drewN nq = w9 at S9 r9 s9 ⊢
          have hq := run_eqRg c8 c8 S9.out.cpu.ok.n S9.out.cpu.ok.n true (by simp)
          have l9 := Cp.cs_len S9.out.cpu.ok.n
          clear ka kb cQ S8
          go_wp2_with (first
            | (with_reducible refine wpList_load_sz rfl 25 (.tmp 8) rfl A 0 rfl c8.cs _ r9 Tryd.underlying25 rfl 9 l9 size_regs ?_)
            | (with_reducible refine wpList_load_sz rfl 25 (.tmp 9) rfl RB 0 rfl c8.cs _ s9 Tryd.underlying25 rfl 9 l9 size_regs ?_))
          go_roundw
          case rel => exact ⟨k + 1, c8, m8, l8, _, by omega, by go_num, hl8, S9⟩
          case measure => simp [intOf]; omega
        by_cases h14 : e8 = 14
        · subst h14
          clear h0
          replace cs := Lib.hid cs
          replace cR := Lib.hid cR
          go_wp2_with fail
          refine cs.out.mono ?_
          rintro e w7 ⟨rfl, vl7, C7, u7, hv7⟩
          have S7 := Lib.hid (hS.out.left C7 u7 hv7)
          clear C7 u7 hv7 hS cs
          go_wp2_with fail
          refine (cR.out _ S7.out.regs S7.out.flat).mono ?_
          rintro e w8 ⟨rfl, R8, F8, u8⟩
          have S8 := Lib.hid (S7.out.right R8 F8 u8)
          clear R8 F8 u8 S7 cR
          obtain ⟨oa, ca, rfl, fa, ka⟩ := S8.out.cpu.fl.words
          obtain ⟨ob, cb, hob⟩ := rows_slice S8.out.flat.row
          have fb : WordsIn w8 (.slice ob m8.W.length cb) m8.W := fun _ => by have := Src.of_row S8.out.flat.row; rw [hob] at this; exact this
          have kb : w8.cell? ⟨FB, 0, none⟩ = some (.slice ob m8.W.length cb) := by rw [cell_of_row _ _ _ _ _ _ S8.out.flat.at_, hob]; rfl
          have hml := S8.out.cpu.okm.n
          have cQ := fun k => same_any oa ob ca cb m8.W m8.W (w8.drewN k) fa fb (by omega)
          rw [decide_eq_true rfl] at cQ
          replace cQ := Lib.hid cQ
          clear fa fb hml hob
          generalize m8.W.length = ml at ka kb cQ ⊢
          go_upto_region 13 with fail
          go_quiet ((go_at_call 14; exact draws0 (cQ.out _)))
          have S9 := Lib.hid (S8.out.still ((Upd.refl (fun _ => False) w8).drewN nq))
          have r9 := S9.out.cpu.regs.range
          have s9 := S9.out.regs.range
          generalize w8.drewN nq = w9 at S9 r9 s9 ⊢
          have hq := run_eqRg c8 c8 S9.out.cpu.ok.n S9.out.cpu.ok.n true (by simp)
          have l9 := Cp.cs_len S9.out.cpu.ok.n
          clear ka kb cQ S8
          go_wp2_with (first
            | (with_reducible refine wpList_load_sz rfl 25 (.tmp 8) rfl A 0 rfl c8.cs _ r9 Tryd.underlying25 rfl 9 l9 size_regs ?_)
            | (with_reducible refine wpList_load_sz rfl 25 (.tmp 9) rfl RB 0 rfl c8.cs _ s9 Tryd.underlying25 rfl 9 l9 size_regs ?_))
          go_roundw
          case rel => exact ⟨k + 1, c8, m8, l8, _, by omega, by go_num, hl8, S9⟩
          case measure => simp [intOf]; omega
        · have b0 : (e8 != 0) = true := by simpa using h0
          have b14 : (e8 != 14) = true := by simpa using h14
          clear h0 h14
          replace cs := Lib.hid cs
          replace cR := Lib.hid cR
          go_wp2_with fail
          refine cs.out.mono ?_
          rintro e w7 ⟨rfl, vl7, C7, u7, hv7⟩
          have S7 := Lib.hid (hS.out.left C7 u7 hv7)
          clear C7 u7 hv7 hS cs
          go_wp2_with fail
          refine (cR.out _ S7.out.regs S7.out.flat).mono ?_
          rintro e w8 ⟨rfl, R8, F8, u8⟩
          have S8 := Lib.hid (S7.out.right R8 F8 u8)
          clear R8 F8 u8 S7 cR
          obtain ⟨oa, ca, rfl, fa, ka⟩ := S8.out.cpu.fl.words
          obtain ⟨ob, cb, hob⟩ := rows_slice S8.out.flat.row
          have fb : WordsIn w8 (.slice ob m8.W.length cb) m8.W := fun _ => by have := Src.of_row S8.out.flat.row; rw [hob] at this; exact this
          have kb : w8.cell? ⟨FB, 0, none⟩ = some (.slice ob m8.W.length cb) := by rw [cell_of_row _ _ _ _ _ _ S8.out.flat.at_, hob]; rfl
          have hml := S8.out.cpu.okm.n
          have cQ := fun k => same_any oa ob ca cb m8.W m8.W (w8.drewN k) fa fb (by omega)
          rw [decide_eq_true rfl] at cQ
          replace cQ := Lib.hid cQ
          clear fa fb hml hob
          generalize m8.W.length = ml at ka kb cQ ⊢
          go_upto_region 13 with fail
          go_quiet ((go_at_call 14; exact draws0 (cQ.out _)))
          have S9 := Lib.hid (S8.out.still ((Upd.refl (fun _ => False) w8).drewN nq))
          have r9 := S9.out.cpu.regs.range
          have s9 := S9.out.regs.range
          generalize w8.drewN nq = w9 at S9 r9 s9 ⊢
          have hq := run_eqRg c8 c8 S9.out.cpu.ok.n S9.out.cpu.ok.n true (by simp)
          have l9 := Cp.cs_len S9.out.cpu.ok.n
          clear ka kb cQ S8
          go_wp2_with (first
            | (with_reducible refine wpList_load_sz rfl 25 (.tmp 8) rfl A 0 rfl c8.cs _ r9 Tryd.underlying25 rfl 9 l9 size_regs ?_)
            | (with_reducible refine wpList_load_sz rfl 25 (.tmp 9) rfl RB 0 rfl c8.cs _ s9 Tryd.underlying25 rfl 9 l9 size_regs ?_))
          go_ret
          exact ⟨rfl, HE.out _ S9.out.cpu.up⟩
      · have e : k = 60 := by omega
        subst e
        go_wp2
        go_ret
        exact ⟨rfl, HE.out _ hS.out.cpu.up⟩
end Go.Proofs.YtcbiangocfhhlaaDoor

/-
  CpuRuns, over what the laws ask of Step and Run.
-/
namespace Go.Proofs.YtcbiangocfhhlaaDoor
open Go.ChangeShapes Go.WideShapes Go.ChangeAt Go.RowKit

set_option maxRecDepth 100000 in
set_option maxHeartbeats 8000000 in
theorem cpuruns_any (_gs : GStep) (gr : GRun) (c : Cp) (hc : c.Ok) (W : List Int) (o : Option Addr) (cap : Nat) (most : Int) (w : World) (hT : Tabs w) (hW : WordsIn w (.slice o W.length cap) W) (hr : ∀ x, x ∈ W → 0 ≤ x ∧ x < 18446744073709551616)
    (hlt : 0 < W.length → ∀ k, (Value.slice o W.length cap).ownBlock = some k → k < w.heap.size) (hm : W.length ≤ 9223372036854775807) :
    Calls Tryd.prog 4 #[.agg c.cs.toArray, .slice o W.length cap, .int .i64 most] w fun e w' => e = .returned (.bool true) ∧ Upd (fun _ => False) w w' := by
  obtain ⟨i0, hi⟩ : ∃ i, Tryd.prog.info? 22 = some i := Option.isSome_iff_exists.1 (by kernel_rfl)
  have hz0 : i0.zero = some (.int .u64 0) := by
    have : (Tryd.prog.info? 22).bind (·.zero) = some (.int .u64 0) := by kernel_rfl
    rw [hi] at this; exact this
  have hz1 : i0.size = 1 := by
    have : (Tryd.prog.info? 22).map (·.size) = some 1 := by kernel_rfl
    rw [hi] at this; exact Option.some.inj this
  have hz2 : i0.bytes = 8 := by
    have : (Tryd.prog.info? 22).map (·.bytes) = some 8 := by kernel_rfl
    rw [hi] at this; exact Option.some.inj this
  have cA := Lib.hid (fun W (u : Upd (fun _ => False) w W) => cpawake_any gr W (hT.kept u))
  by_cases hb : 200 < W.length ∨ 2000 < most
  · have hb' : (200 : Int) < (W.length : Int) ∨ (2000 : Int) < most := by omega
    clear hW hr hlt hT hc
    go_enter Tryd.func4, Tryd.ntmps4
    go_wp2_with fail
    refine (cA.out _ ((Upd.refl _ _).alloc _)).mono ?_
    rintro e w1 ⟨rfl, u1⟩
    have U1 := (((Upd.refl (fun _ => False) w).alloc (.cells c.cs.toArray 25)).trans u1)
    go_wp2
    all_goals (go_ret; exact ⟨rfl, U1⟩)
  · have hb' : ¬ (200 : Int) < (W.length : Int) := by omega
    have hc' : ¬ (2000 : Int) < most := by omega
    go_enter Tryd.func4, Tryd.ntmps4
    go_wp2_with fail
    have X0 := (show RegsAt (w.alloc (.cells c.cs.toArray 25)) w.heap.size c from heap_alloc_last w _)
    have U0 := (Upd.refl (fun _ => False) w).alloc (.cells c.cs.toArray 25)
    have hT0 := hT.kept U0
    have HA := Lib.hid (fun W (u : Upd (fun _ => False) (w.alloc (.cells c.cs.toArray 25)) W) => cA.out W (U0.trans u))
    have HW := Lib.hid (fun W' (u : Upd (fun _ => False) (w.alloc (.cells c.cs.toArray 25)) W') => hW.kept hlt (U0.trans u))
    have HL := Lib.hid (fun W' (u : Upd (fun _ => False) (w.alloc (.cells c.cs.toArray 25)) W') => WordsIn.lt hlt (U0.trans u))
    have HX := Lib.hid (fun W' (u : Upd (fun _ => False) (w.alloc (.cells c.cs.toArray 25)) W') => X0.kept u id)
    have HE := Lib.hid (fun W' (u : Upd (fun _ => False) (w.alloc (.cells c.cs.toArray 25)) W') => U0.trans u)
    generalize w.alloc (.cells c.cs.toArray 25) = w0 at hT0 HA HW HL HX HE ⊢
    generalize w.heap.size = R0 at HX ⊢
    clear hW hlt X0 U0 cA hT
    refine (HA.out _ (Upd.refl _ _)).mono ?_
    rintro e w1 ⟨rfl, u1⟩
    have U1 := Lib.hid u1
    have x1 := (HX.out _ u1).range
    clear u1
    obtain ⟨b1, b2, b3⟩ := regs_box w1 c hc.n
    have U2 := Lib.hid (U1.out.trans b2)
    have B1 := Lib.hid b1
    have B3 := Lib.hid b3
    have x2 := (HX.out _ U2.out).range
    clear b1 b2 b3
    go_upto_region 5 with (first
      | (with_reducible refine wpList_load_sz rfl 25 (.tmp 3) rfl R0 0 rfl c.cs _ x1 Tryd.underlying25 rfl 9 (Cp.cs_len hc.n) size_regs ?_)
      | (with_reducible refine wpList_store_sz rfl 25 (.tmp 8) (.tmp 28) rfl w1.heap.size 0 c.cs.toArray rfl rfl 9 (Cp.cs_sz hc.n) B3.out size_regs (Cp.cs_one c) c.cs rfl ?_))
    have hA := Lib.hid U1.out.size
    have hmo : Fl.Ok ⟨W, 0⟩ := ⟨by show W.length ≤ 1000; omega, hr⟩
    show Code.wp _ _ _ _ ((w1.alloc (.cells regsZ 25)).setCells w1.heap.size 0 c.cs)
    generalize (w1.alloc (.cells regsZ 25)).setCells w1.heap.size 0 c.cs = w2 at U2 B1 x2 ⊢
    generalize w1.heap.size = A at hA B1 ⊢
    clear U1 x1 B3
    obtain ⟨b1, b2, b3⟩ := regs_box w2 c hc.n
    have U3 := Lib.hid (U2.out.trans b2)
    have B2 := Lib.hid b1
    have B3 := Lib.hid b3
    have B1' := Lib.hid (B1.out.kept b2 id)
    have hAR := Lib.hid (lt_of_heap B1.out)
    have hRl := Lib.hid U2.out.size
    clear b1 b2 b3 B1
    go_upto_region 6 with (first
      | (with_reducible refine wpList_load_sz rfl 25 (.tmp 3) rfl R0 0 rfl c.cs _ x2 Tryd.underlying25 rfl 9 (Cp.cs_len hc.n) size_regs ?_)
      | (with_reducible refine wpList_store_sz rfl 25 (.tmp 9) (.tmp 29) rfl w2.heap.size 0 c.cs.toArray rfl rfl 9 (Cp.cs_sz hc.n) B3.out size_regs (Cp.cs_one c) c.cs rfl ?_))
    show Code.wp _ _ _ _ ((w2.alloc (.cells regsZ 25)).setCells w2.heap.size 0 c.cs)
    generalize (w2.alloc (.cells regsZ 25)).setCells w2.heap.size 0 c.cs = w3 at U3 B1' B2 ⊢
    generalize w2.heap.size = RB at hAR hRl B2 ⊢
    clear U2 x2 B3
    go_wp2_with fail
    refine (of_any o cap W 0 w3 (HW.out _ U3.out) (by omega) (HL.out _ U3.out)).mono ?_
    rintro e w4 ⟨B, v, rfl, F4, u4, hB⟩
    have C4 := Lib.hid (Cpu.made hT0 U3.out hA.out B1'.out hc hmo F4 u4 hB)
    have hR3 := Lib.hid (lt_of_heap B2.out)
    have D4 := Lib.hid (B2.out.kept u4 id)
    have lB := Lib.hid hB
    have lv := Lib.hid (fun g hg => (F4.row.lt g hg).1)
    have U4 := Lib.hid (U3.out.trans u4)
    clear B1' B2 F4 u4 hB U3
    have HWa := Lib.hid (HW.out _ (U4.out.alloc (.cells #[] 22)))
    have HG := Lib.hid (fun (v : Value) (w5 : World) (hrow : w5.ownsRow w4.heap.size 22 1 v (0 + W.length) ([] ++ ints .u64 W)) (hg : (w4.alloc (.cells #[] 22)).grownBy w5 (some w4.heap.size)) => (⟨hg.os, hg.tape, hg.output, by have := hg.size; simp at this; omega, fun k hk _ => by
      rw [hg.block k (by simp; omega) (by simp; omega), Below.heap_alloc _ _ _ hk]⟩ : Upd (fun _ => False) w4 w5))
    go_upto_region 8 with (at_builtin; refine wpList_append_words _ rfl _ _ 26 rfl w4.heap.size 22 i0 (.int .u64 0) 8 Tryd.underlying26 hi hz0 hz1 hz2 rfl w4.heap.size 0 rfl (World.ownsRow_made w4 #[] 0 (Nat.le_refl _) (by decide) rfl) o W.length cap W rfl rfl HWa.out (by simp [maxLen]; omega) (by omega) (by simp) ?_; intro v5 w5 hrow5 hg5; obtain ⟨o5, cap5, rfl⟩ := rows_slice hrow5)
    have u5 := HG.out _ _ hrow5 hg5
    have row5 : w5.ownsRow w4.heap.size 22 1 (.slice o5 W.length cap5) W.length (ints .u64 W) := by simpa using hrow5
    have G6 := Lib.hid (show FlatAt (w5.alloc (.cells #[.slice o5 W.length cap5, .int .i64 0] 32)) w4.heap.size w5.heap.size (.slice o5 W.length cap5) ⟨W, 0⟩ from ⟨heap_alloc_last w5 _, row5.alloc _⟩)
    have hv5 := Lib.hid (row5.lt)
    have u6 := u5.alloc (.cells #[.slice o5 W.length cap5, .int .i64 0] 32)
    have C6 := Lib.hid (C4.out.still u6)
    have D6 := Lib.hid (D4.out.kept u6 id)
    have U6 := Lib.hid (U4.out.trans u6)
    have h5 := Lib.hid u5.size
    have hBl := Lib.hid (lt_of_heap C4.out.fl.at_)
    have hvl := Lib.hid (fun g hg => (C4.out.fl.row.lt g hg).2)
    have a1 := hAR.out
    have a2 := hR3.out
    have a3 := lB.out
    have a4 := hBl.out
    have a5 := h5.out
    have z0 := U4.out.size
    have nS : Hid (∀ k, CpuS A B v (.slice none 0 0) k → k ≠ RB ∧ k < w4.heap.size) := Lib.hid (fun k hk => by
      rcases hk with rfl | rfl | h | h
      · omega
      · omega
      · have := lv.out k h; have := hvl.out k h; omega
      · cases h)
    have n5 : Hid (∀ g, (Value.slice o5 W.length cap5).ownBlock = some g → w4.heap.size ≤ g) := Lib.hid (fun g hg => (hv5.out g hg).1)
    have rb : RB < w4.heap.size := by omega
    have z6 : w4.heap.size ≤ w5.heap.size := a5
    have z7 : Hid (w5.heap.size < (w5.alloc (.cells #[.slice o5 W.length cap5, .int .i64 0] 32)).heap.size) := Lib.hid (by simp)
    have n7 : Hid (∀ g, (Value.slice o5 W.length cap5).ownBlock = some g → g < w5.heap.size) := Lib.hid (fun g hg => (hv5.out g hg).2)
    clear HG HWa hrow5 hg5 row5 u5 u6 C4 D4 U4 h5 hBl hvl lv lB hR3 hv5 hAR hA
    generalize w5.alloc (.cells #[.slice o5 W.length cap5, .int .i64 0] 32) = w6 at G6 C6 D6 U6 z7 ⊢
    generalize w5.heap.size = FB at G6 z6 z7 n7 ⊢
    have hrl := hRl.out
    generalize hb4 : w4.heap.size = N4 at *
    have Hall := Lib.hid (And.intro rb (And.intro z6 (And.intro z0 hrl)))
    clear a1 a2 a3 a4 a5 rb z6 z0 hrl hRl hb4
    go_wp2_with fail
    refine (gr w0 w6 A B v _ c ⟨W, 0⟩ [] most C6.out (by omega) (by simp; omega)).mono ?_
    rintro e w7 ⟨rfl, vl, C7', u7, hl7⟩
    have D7 := D6.out.kept u7 (fun h => (nS.out _ h).1 rfl)
    have G7 := G6.out.kept u7 (fun h => by have := (nS.out _ h).2; have := Hall.out.2.1; omega) (fun j hj h => by have := (nS.out _ h).2; have := n5.out j hj; omega)
    have hlo := Lib.hid (show ∀ k, CpuS A B v vl k → k ≠ RB ∧ ∀ g, (Value.slice o5 W.length cap5).ownBlock = some g → g ≠ k from fun k hk => by
      have q0 := Hall.out
      rcases hk with h | h | h | h
      · exact ⟨(nS.out k (.inl h)).1, fun g hg e => by have := (nS.out k (.inl h)).2; have := n5.out g hg; omega⟩
      · exact ⟨(nS.out k (.inr (.inl h))).1, fun g hg e => by have := (nS.out k (.inr (.inl h))).2; have := n5.out g hg; omega⟩
      · exact ⟨(nS.out k (.inr (.inr (.inl h)))).1, fun g hg e => by have := (nS.out k (.inr (.inr (.inl h)))).2; have := n5.out g hg; omega⟩
      · rcases hl7 k h with h' | h'
        · cases h'
        · have := z7.out; exact ⟨by omega, fun g hg e => by have := n7.out g hg; omega⟩)
    have C7 := Lib.hid C7'
    have hD7 := Lib.hid D7
    have hG7 := Lib.hid G7
    clear C7' u7 hl7 D7 G7 C6 D6 G6 U6
    go_wp2_with fail
    refine (rrun_any N4 RB FB (.slice o5 W.length cap5) c ⟨W, 0⟩ most (by omega) w7 hc hmo hD7.out hG7.out (fun g hg e => by have := n5.out g hg; have := Hall.out; omega) (by have := Hall.out; omega)).mono ?_
    rintro e w8 ⟨rfl, D8, G8, u8⟩
    have C8 := C7.out.kept u8 (fun k hk h => by
      rcases h with h | h
      · exact (hlo.out k hk).1 h
      · exact (hlo.out k hk).2 k h rfl) (fun k h => by
      have q0 := Hall.out
      rcases h with rfl | h
      · omega
      · have := n5.out k h; omega)
    obtain ⟨ov, cv, rfl, f8, q8⟩ := C8.fl.words
    have D8' := Lib.hid D8
    have A8' := Lib.hid C8.regs
    have U8 := Lib.hid C8.up
    have ok8 := Lib.hid C8.ok
    have okm := Lib.hid C8.okm
    have q9 : w8.cell? ⟨FB, 0, none⟩ = some (.slice o5 W.length cap5) := by rw [cell_of_row _ _ _ _ _ _ G8.at_]; rfl
    have g8 := Lib.hid G8.row
    clear C8 C7 hD7 hG7 u8 D8 G8 hlo nS n5 n7 z7 Hall
    generalize c.run ⟨W, 0⟩ most.toNat = T at *
    obtain ⟨n, c', m', call, e⟩ := T
    simp only at *
    have hw : m'.W.length = W.length := by
      obtain ⟨o6, c6, h6⟩ := rows_slice g8.out
      injection h6 with _ h _
      exact h.symm
    have g9 : WordsIn w8 (.slice o5 m'.W.length cap5) m'.W := fun _ => by
      have := Src.of_row g8.out
      rw [← hw] at this
      exact this
    have cS := fun k => same_any ov o5 cv cap5 m'.W m'.W (w8.drewN k) f8 g9 (by omega)
    rw [decide_eq_true rfl, hw] at cS
    replace cS := Lib.hid cS
    rw [hw] at q8
    replace hw := Lib.hid hw
    clear f8 g9 g8 okm
    go_upto_region 10 with fail
    go_quiet ((go_at_call 14; exact draws0 (cS.out _)))
    have u9 := U8.out.drewN nq
    have r9 := (show RegsAt (w8.drewN nq) A c' from A8'.out).range
    have s9 := (show RegsAt (w8.drewN nq) RB c' from D8'.out).range
    generalize w8.drewN nq = w9 at u9 r9 s9 ⊢
    have hq := run_eqRg c' c' ok8.out.n ok8.out.n true (by simp)
    have l9 := Cp.cs_len ok8.out.n
    clear q8 q9 cS U8 D8' A8'
    go_wp2_with (first
      | (with_reducible refine wpList_load_sz rfl 25 (.tmp 8) rfl A 0 rfl c'.cs _ r9 Tryd.underlying25 rfl 9 l9 size_regs ?_)
      | (with_reducible refine wpList_load_sz rfl 25 (.tmp 9) rfl RB 0 rfl c'.cs _ s9 Tryd.underlying25 rfl 9 l9 size_regs ?_))
    go_ret
    exact ⟨rfl, HE.out _ u9⟩
end Go.Proofs.YtcbiangocfhhlaaDoor

/-
  CpuFails, over what the laws ask of Step and Run.
-/
namespace Go.Proofs.YtcbiangocfhhlaaDoor
open Go.ChangeShapes Go.WideShapes Go.ChangeAt Go.RowKit

set_option maxRecDepth 100000 in
set_option maxHeartbeats 8000000 in
theorem cpufails_any (gs : GStep) (gr : GRun) (c : Cp) (hc : c.Ok) (W : List Int) (o : Option Addr) (cap : Nat) (first : Int) (w : World) (hT : Tabs w) (hW : WordsIn w (.slice o W.length cap) W) (hr : ∀ x, x ∈ W → 0 ≤ x ∧ x < 18446744073709551616)
    (hlt : 0 < W.length → ∀ k, (Value.slice o W.length cap).ownBlock = some k → k < w.heap.size) (hm : W.length ≤ 9223372036854775807) :
    Calls Tryd.prog 8 #[.agg c.cs.toArray, .slice o W.length cap, .int .i64 first] w fun e w' => e = .returned (.bool true) ∧ Upd (fun _ => False) w w' := by
  have cA := Lib.hid (fun W (u : Upd (fun _ => False) w W) => cpawake_any gr W (hT.kept u))
  by_cases hb : 100 < W.length
  · have hb' : (100 : Int) < (W.length : Int) := by omega
    clear hW hr hlt hT hc
    go_enter Tryd.func8, Tryd.ntmps8
    go_wp2_with fail
    refine (cA.out _ ((Upd.refl _ _).alloc _)).mono ?_
    rintro e w1 ⟨rfl, u1⟩
    have U1 := (((Upd.refl (fun _ => False) w).alloc (.cells c.cs.toArray 25)).trans u1)
    go_wp2
    go_ret
    exact ⟨rfl, U1⟩
  · have hb' : ¬ (100 : Int) < (W.length : Int) := by omega
    go_enter Tryd.func8, Tryd.ntmps8
    go_wp2_with fail
    have X0 := (show RegsAt (w.alloc (.cells c.cs.toArray 25)) w.heap.size c from heap_alloc_last w _)
    have U0 := (Upd.refl (fun _ => False) w).alloc (.cells c.cs.toArray 25)
    have hT0 := hT.kept U0
    have HA := Lib.hid (fun W (u : Upd (fun _ => False) (w.alloc (.cells c.cs.toArray 25)) W) => cA.out W (U0.trans u))
    have HW := Lib.hid (fun W' (u : Upd (fun _ => False) (w.alloc (.cells c.cs.toArray 25)) W') => hW.kept hlt (U0.trans u))
    have HL := Lib.hid (fun W' (u : Upd (fun _ => False) (w.alloc (.cells c.cs.toArray 25)) W') => WordsIn.lt hlt (U0.trans u))
    have HX := Lib.hid (fun W' (u : Upd (fun _ => False) (w.alloc (.cells c.cs.toArray 25)) W') => X0.kept u id)
    have HE := Lib.hid (fun W' (u : Upd (fun _ => False) (w.alloc (.cells c.cs.toArray 25)) W') => U0.trans u)
    generalize w.alloc (.cells c.cs.toArray 25) = w0 at hT0 HA HW HL HX HE ⊢
    generalize w.heap.size = R0 at HX ⊢
    clear hW hlt X0 U0 cA hT
    refine (HA.out _ (Upd.refl _ _)).mono ?_
    rintro e w1 ⟨rfl, u1⟩
    have U1 := Lib.hid u1
    have x1 := (HX.out _ u1).range
    clear u1
    obtain ⟨b1, b2, b3⟩ := regs_box w1 c hc.n
    have U2 := Lib.hid (U1.out.trans b2)
    have B1 := Lib.hid b1
    have B3 := Lib.hid b3
    clear b1 b2 b3
    go_upto_region 3 with (first
      | (with_reducible refine wpList_load_sz rfl 25 (.tmp 3) rfl R0 0 rfl c.cs _ x1 Tryd.underlying25 rfl 9 (Cp.cs_len hc.n) size_regs ?_)
      | (with_reducible refine wpList_store_sz rfl 25 (.tmp 8) (.tmp 19) rfl w1.heap.size 0 c.cs.toArray rfl rfl 9 (Cp.cs_sz hc.n) B3.out size_regs (Cp.cs_one c) c.cs rfl ?_))
    have hA := Lib.hid U1.out.size
    have hst := (c.step_len ⟨W, first⟩).1
    have her := Lib.hid (step_err (c := c) (m := ⟨W, first⟩))
    have hmo : Fl.Ok ⟨W, first⟩ := ⟨by show W.length ≤ 1000; omega, hr⟩
    show Calls Tryd.prog 11 #[.slice o W.length cap, .int .i64 first] ((w1.alloc (.cells regsZ 25)).setCells w1.heap.size 0 c.cs) _
    generalize (w1.alloc (.cells regsZ 25)).setCells w1.heap.size 0 c.cs = w2 at U2 B1 ⊢
    generalize w1.heap.size = A at hA B1 ⊢
    clear U1 x1 B3
    refine (of_any o cap W first w2 (HW.out _ U2.out) (by omega) (HL.out _ U2.out)).mono ?_
    rintro e w3 ⟨B, v, rfl, F3, u3, hB⟩
    have C3 := Lib.hid (Cpu.made hT0 U2.out hA.out B1.out hc hmo F3 u3 hB)
    clear B1 F3 u3 hB U2 hmo hr
    go_wp2_with fail
    refine (gs w0 w3 A B v _ c ⟨W, first⟩ [] C3.out (by decide)).mono ?_
    rintro e w4 ⟨rfl, vl, C4, u4, -⟩
    obtain ⟨ov, cv, rfl, f4, q4⟩ := C4.fl.words
    have y4 := C4.regs.range
    have ok4 := C4.ok
    have U4 := Lib.hid C4.up
    have R4 := Lib.hid C4.regs
    clear C3 C4 u4
    have hd := Lib.hid (rfl : c.step ⟨W, first⟩ = c.step ⟨W, first⟩)
    generalize hS : c.step ⟨W, first⟩ = S at *
    clear hd
    obtain ⟨c', m', call, e⟩ := S
    simp only at *
    have cS := Lib.hid (fun W' (u : Upd (fun _ => False) w4 W') (h1 : WordsIn W' (.slice ov m'.W.length cv) m'.W) => same_any ov o cv cap m'.W W W' h1 (HW.out _ (U4.out.trans u)) (by omega))
    rw [hst] at q4 f4
    simp only [hst] at cS
    replace hst := Lib.hid hst
    go_wp2_with fail
    refine (cS.out w4 (Upd.refl _ _) f4).mono ?_
    rintro e5 w5 ⟨rfl, n5, rfl⟩
    have u5 := U4.out.drewN n5
    have U5 := Lib.hid u5
    have R5 := Lib.hid (show RegsAt (w4.drewN n5) A c' from R4.out)
    have x5 := (HX.out _ u5).range
    have p5 := (HX.out _ u5).pc hc
    have r5 := (show RegsAt (w4.drewN n5) A c' from R4.out).range
    generalize w4.drewN n5 = w5 at U5 R5 x5 p5 r5 u5 ⊢
    clear q4 f4 cS U4 R4 y4 HW HL HA u5
    by_cases e14 : e = 14
    · subst e14
      have hh := her.out (by decide)
      have hc' : c' = ⟨c.R, c.next⟩ := by
        rcases hh.1 with ⟨h, _⟩ | ⟨_, h⟩
        · exact absurd rfl h
        · exact h
      have hm' : decide (m'.W = W) = true := decide_eq_true (by rw [hh.2])
      rw [hm']
      clear hm' hh her
      subst hc'
      obtain ⟨b1, b2, b3⟩ := regs_box w5 c hc.n
      have U6 := Lib.hid (U5.out.trans b2)
      have B6 := Lib.hid b1
      have B3 := Lib.hid b3
      have bA := Lib.hid (R5.out.kept b2 id)
      clear b1 b2 b3
      go_upto_region 10 with (first
        | (with_reducible refine wpList_load_sz rfl 25 (.tmp 3) rfl R0 0 rfl c.cs _ x5 Tryd.underlying25 rfl 9 (Cp.cs_len hc.n) size_regs ?_)
        | (with_reducible refine wpList_store_sz rfl 25 (.tmp 13) (.tmp 37) rfl w5.heap.size 0 c.cs.toArray rfl rfl 9 (Cp.cs_sz hc.n) B3.out size_regs (Cp.cs_one c) c.cs rfl ?_))
      have P6 := Lib.hid ((HX.out _ U6.out).pc hc)
      have hAD := Lib.hid (lt_of_heap R5.out)
      have hD := Lib.hid U5.out.size
      show Code.wp _ _ _ _ ((w5.alloc (.cells regsZ 25)).setCells w5.heap.size 0 c.cs)
      generalize (w5.alloc (.cells regsZ 25)).setCells w5.heap.size 0 c.cs = w6 at U6 B6 bA P6 ⊢
      clear x5 p5 r5 R5 B3 U5
      generalize w5.heap.size = D at B6 hAD hD ⊢
      have p6 := P6.out
      have d6 := B6.out.pc hc
      have f6 := B6.out.free 8
      obtain ⟨pc0, pc1⟩ := hc.p
      go_upto_region 11 with fail
      have en : (c.pc + 1) % 65536 = c.next := by unfold Cp.next; omega
      have B7 := B6.out.setPc hc.n ((c.pc + 1) % 65536)
      have u7 := (Upd.refl (fun k => k = D) w6).setCell (p := ⟨D, 8, none⟩) (.inl rfl) (.int .u64 ((c.pc + 1) % 65536))
      have A7 := bA.out.kept u7 (by show ¬ A = D; have := hAD.out; omega)
      have U7 := Lib.hid (U6.out.setCell (p := ⟨D, 8, none⟩) (.inr hD.out) (.int .u64 ((c.pc + 1) % 65536)))
      rw [en] at B7 A7 U7 ⊢
      clear u7 U6 B6 bA P6 p6 d6 f6 hAD
      generalize w6.setCell ⟨D, 8, none⟩ (.int .u64 c.next) = w7 at B7 A7 U7 ⊢
      have r7 := B7.range
      have s7 := A7.range
      have hq := run_eqRg ⟨c.R, c.next⟩ ⟨c.R, c.next⟩ hc.n hc.n true (by simp)
      go_wp2_with (first
        | (with_reducible refine wpList_load_sz rfl 25 (.tmp 8) rfl A 0 rfl (Cp.cs ⟨c.R, c.next⟩) _ s7 Tryd.underlying25 rfl 9 (Cp.cs_len (c := ⟨c.R, c.next⟩) hc.n) size_regs ?_)
        | (with_reducible refine wpList_load_sz rfl 25 (.tmp 13) rfl D 0 rfl (Cp.cs ⟨c.R, c.next⟩) _ r7 Tryd.underlying25 rfl 9 (Cp.cs_len (c := ⟨c.R, c.next⟩) hc.n) size_regs ?_))
      go_ret
      exact ⟨rfl, HE.out _ U7.out⟩
    have e14' : (e == 14) = false := by simpa using e14
    by_cases e0 : e = 0
    · subst e0
      clear her
      generalize decide (m'.W = W) = kd
      go_wp2_with fail
      go_ret
      exact ⟨rfl, HE.out _ U5.out⟩
    · have hh := her.out e0
      have hc' : c' = c := by
        rcases hh.1 with ⟨_, h⟩ | ⟨h, _⟩
        · exact h
        · exact absurd h e14
      have hm' : decide (m'.W = W) = true := decide_eq_true (by rw [hh.2])
      rw [hm']
      clear hm' hh her
      subst hc'
      have e0' : (e == 0) = false := by simpa using e0
      have hq := run_eqRg c' c' hc.n hc.n true (by simp)
      go_wp2_with (first
        | (with_reducible refine wpList_load_sz rfl 25 (.tmp 8) rfl A 0 rfl c'.cs _ r5 Tryd.underlying25 rfl 9 (Cp.cs_len hc.n) size_regs ?_)
        | (with_reducible refine wpList_load_sz rfl 25 (.tmp 3) rfl R0 0 rfl c'.cs _ x5 Tryd.underlying25 rfl 9 (Cp.cs_len hc.n) size_regs ?_))
      go_ret
      exact ⟨rfl, HE.out _ U5.out⟩
end Go.Proofs.YtcbiangocfhhlaaDoor

/-
  The program's small functions: address, operand, computed.
-/
namespace Go.Proofs.YtcbiangocfhhlaaDoor
open Go.ChangeShapes Go.WideShapes Go.ChangeAt Go.RowKit

theorem gaddress_any (x : Int) (h0 : 0 ≤ x) (h1 : x < 18446744073709551616) (w : World) : Calls Tryd.prog 25 #[.int .u64 x] w fun e w' => e = .returned (.int .i64 (adr x)) ∧ ∃ n, w' = w.drewN n := by
  obtain ⟨ad0, ad1⟩ := adr_bd x
  have pm : x % 65536 = adr x := rfl
  generalize adr x = a at pm ad0 ad1 ⊢
  go_enter Tryd.func25, Tryd.ntmps25
  go_wp2
  go_ret
  exact ⟨rfl, 0, rfl⟩
/-- an instruction's cells -/
abbrev Ins.row (i : Ins) : List Value := [.int .i64 i.op, .int .i64 i.a, .int .i64 i.b, .int .i64 i.c, .int .i64 i.m]
/-- what is computed of registers alone -/
def Cp.val (c : Cp) (u : Ins) : Int :=
  match u.op.toNat with
  | 1 => u.m
  | 2 => IntKind.u64.wrap (c.reg u.b + c.reg u.c)
  | 3 => IntKind.u64.wrap (c.reg u.b - c.reg u.c)
  | 4 => landI (c.reg u.b) (c.reg u.c)
  | 5 => lxorI (c.reg u.b) (c.reg u.c)
  | 10 => if c.reg u.b < c.reg u.c then 1 else 0
  | _ => 0
def ValIs (c : Cp) (u : Ins) (v : Int) : Prop := c.val u = v
set_option maxRecDepth 100000 in
set_option maxHeartbeats 4000000 in
theorem goperand_any (RB : Nat) (c : Cp) (u : Ins) (hc : c.Ok) (hu : u.Ok) (w : World) (hR : RegsAt w RB c) :
    Calls Tryd.prog 19 #[.agg #[.int .i64 u.op, .int .i64 u.a, .int .i64 u.b, .int .i64 u.c, .int .i64 u.m], .pointer (some ⟨RB, 0, none⟩)] w fun e w' => e = .returned (.int .i64 (adr (IntKind.u64.wrap (c.reg u.b + u.m)))) ∧ Upd (fun _ => False) w w' := by
  have X3 := Lib.hid (show InsAt (w.alloc (.cells #[.int .i64 u.op, .int .i64 u.a, .int .i64 u.b, .int .i64 u.c, .int .i64 u.m] 50)) w.heap.size u from heap_alloc_last w _)
  have U3 := Lib.hid ((Upd.refl (fun _ => False) w).alloc (.cells #[.int .i64 u.op, .int .i64 u.a, .int .i64 u.b, .int .i64 u.c, .int .i64 u.m] 50))
  have R3 := Lib.hid (hR.kept U3.out id)
  obtain ⟨⟨ho0, ho1⟩, -, ⟨hb0, hb1⟩, -, ⟨hm0, hm1⟩, -, -, -, -⟩ := hu
  have rB := R3.out.reg hc u.b hb0 hb1
  have bB := hc.reg u.b
  obtain ⟨bv, ebv⟩ : ∃ x, c.reg u.b = x := ⟨_, rfl⟩
  rw [ebv] at rB bB ⊢
  have cA := Lib.hid (fun W => gaddress_any (IntKind.u64.wrap (bv + u.m)) (wrap_bd _).1 (wrap_bd _).2 W)
  obtain ⟨at', eat⟩ : ∃ x, adr (IntKind.u64.wrap (bv + u.m)) = x := ⟨_, rfl⟩
  rw [eat] at cA ⊢
  clear hR hc ebv eat
  go_enter Tryd.func19, Tryd.ntmps19
  go_upto_region 1 with fail
  generalize w.alloc (.cells #[.int .i64 u.op, .int .i64 u.a, .int .i64 u.b, .int .i64 u.c, .int .i64 u.m] 50) = w3 at U3 X3 R3 rB ⊢
  generalize w.heap.size = XB at X3 ⊢
  obtain ⟨d0, d1, d2, d3, d4⟩ := X3.out.c
  obtain ⟨bb, eb⟩ := Int.eq_ofNat_of_zero_le hb0
  rw [show u.b.toNat = bb from by omega] at rB
  rw [eb] at d2 hb1
  obtain ⟨kB0, kB8⟩ : (0 : Int) ≤ (bb : Int) ∧ (bb : Int) < 8 := by omega
  replace eb := Lib.hid eb
  have hmw : IntKind.u64.wrap u.m = u.m := by show u.m % 18446744073709551616 = u.m; omega
  clear ho0 ho1 hb0 hb1
  go_quiet ((go_at_call 25; exact draws0 (cA.out _)))
  go_wp2
  go_ret
  exact ⟨rfl, U3.out.drewN _⟩
set_option maxRecDepth 100000 in
set_option maxHeartbeats 4000000 in
theorem gcomputed_any (RB : Nat) (c : Cp) (u : Ins) (hc : c.Ok) (hu : u.Ok) (w : World) (hR : RegsAt w RB c) (hop : u.op = 1 ∨ u.op = 2 ∨ u.op = 3 ∨ u.op = 4 ∨ u.op = 5 ∨ u.op = 10) :
    Calls Tryd.prog 20 #[.agg #[.int .i64 u.op, .int .i64 u.a, .int .i64 u.b, .int .i64 u.c, .int .i64 u.m], .pointer (some ⟨RB, 0, none⟩)] w fun e w' => e = .returned (.int .u64 (c.val u)) ∧ Upd (fun _ => False) w w' := by
  have X3 := Lib.hid (show InsAt (w.alloc (.cells #[.int .i64 u.op, .int .i64 u.a, .int .i64 u.b, .int .i64 u.c, .int .i64 u.m] 50)) w.heap.size u from heap_alloc_last w _)
  have U3 := Lib.hid ((Upd.refl (fun _ => False) w).alloc (.cells #[.int .i64 u.op, .int .i64 u.a, .int .i64 u.b, .int .i64 u.c, .int .i64 u.m] 50))
  have R3 := Lib.hid (hR.kept U3.out id)
  obtain ⟨⟨ho0, ho1⟩, -, ⟨hb0, hb1⟩, ⟨hc0, hc1⟩, ⟨hm0, hm1⟩, -, -, -, -⟩ := hu
  have rB := R3.out.reg hc u.b hb0 hb1
  have rC := R3.out.reg hc u.c hc0 hc1
  have bB := hc.reg u.b
  have bC := hc.reg u.c
  obtain ⟨bv, ebv⟩ : ∃ x, c.reg u.b = x := ⟨_, rfl⟩
  obtain ⟨cv, ecv⟩ : ∃ x, c.reg u.c = x := ⟨_, rfl⟩
  rw [ebv] at rB bB
  rw [ecv] at rC bC
  replace ebv := Lib.hid ebv
  replace ecv := Lib.hid ecv
  clear hR hc
  go_enter Tryd.func20, Tryd.ntmps20
  go_upto_region 1 with fail
  generalize w.alloc (.cells #[.int .i64 u.op, .int .i64 u.a, .int .i64 u.b, .int .i64 u.c, .int .i64 u.m] 50) = w3 at U3 X3 R3 rB rC ⊢
  generalize w.heap.size = XB at X3 ⊢
  obtain ⟨d0, d1, d2, d3, d4⟩ := X3.out.c
  obtain ⟨bb, eb⟩ := Int.eq_ofNat_of_zero_le hb0
  rw [show u.b.toNat = bb from by omega] at rB
  rw [eb] at d2 hb1
  obtain ⟨cc, ec⟩ := Int.eq_ofNat_of_zero_le hc0
  rw [show u.c.toNat = cc from by omega] at rC
  rw [ec] at d3 hc1
  obtain ⟨kB0, kB8⟩ : (0 : Int) ≤ (bb : Int) ∧ (bb : Int) < 8 := by omega
  obtain ⟨kC0, kC8⟩ : (0 : Int) ≤ (cc : Int) ∧ (cc : Int) < 8 := by omega
  replace eb := Lib.hid eb
  replace ec := Lib.hid ec
  clear ho0 ho1 hb0 hb1 hc0 hc1
  go_quiet (fail)
  have U4 := Lib.hid (U3.out.drewN nq)
  have X4 := Lib.hid (show InsAt (w3.drewN nq) XB u from X3.out)
  clear d0 d1 d2 d3 d4 rB rC X3 R3 U3
  generalize w3.drewN nq = w4 at U4 X4 ⊢
  obtain ⟨d0, -, -, -, d4⟩ := X4.out.c
  rcases hop with hop | hop | hop | hop | hop | hop
  all_goals
    rw [hop] at d0
    replace hop := Lib.hid hop
  · have hv : ValIs c u u.m := by simp only [ValIs, Cp.val, show u.op.toNat = 1 from by have := hop.out; omega]
    replace hv := Lib.hid hv
    clear hop
    go_wp2
    go_ret
    rw [show c.val u = _ from hv.out]
    exact ⟨rfl, U4.out⟩
  · have hv : ValIs c u (IntKind.u64.wrap (bv + cv)) := by simp only [ValIs, Cp.val, show u.op.toNat = 2 from by have := hop.out; omega, ebv.out, ecv.out]
    replace hv := Lib.hid hv
    clear hop
    go_wp2
    go_ret
    rw [show c.val u = _ from hv.out]
    exact ⟨rfl, U4.out⟩
  · have hv : ValIs c u (IntKind.u64.wrap (bv - cv)) := by simp only [ValIs, Cp.val, show u.op.toNat = 3 from by have := hop.out; omega, ebv.out, ecv.out]
    replace hv := Lib.hid hv
    clear hop
    go_wp2
    go_ret
    rw [show c.val u = _ from hv.out]
    exact ⟨rfl, U4.out⟩
  · have hv : ValIs c u (landI bv cv) := by simp only [ValIs, Cp.val, show u.op.toNat = 4 from by have := hop.out; omega, ebv.out, ecv.out]
    replace hv := Lib.hid hv
    clear hop
    go_wp2
    go_ret
    rw [show c.val u = _ from hv.out]
    exact ⟨rfl, U4.out⟩
  · have hv : ValIs c u (lxorI bv cv) := by simp only [ValIs, Cp.val, show u.op.toNat = 5 from by have := hop.out; omega, ebv.out, ecv.out]
    replace hv := Lib.hid hv
    clear hop
    go_wp2
    go_ret
    rw [show c.val u = _ from hv.out]
    exact ⟨rfl, U4.out⟩
  · by_cases hz : bv < cv
    · have hv : ValIs c u 1 := by simp only [ValIs, Cp.val, show u.op.toNat = 10 from by have := hop.out; omega, ebv.out, ecv.out]; rw [if_pos hz]
      replace hv := Lib.hid hv
      clear hop
      go_wp2
      go_ret
      rw [show c.val u = _ from hv.out]
      exact ⟨rfl, U4.out⟩
    · have hv : ValIs c u 0 := by simp only [ValIs, Cp.val, show u.op.toNat = 10 from by have := hop.out; omega, ebv.out, ecv.out]; rw [if_neg hz]
      replace hv := Lib.hid hv
      clear hop
      have hz' : cv ≤ bv := by omega
      go_wp2
      go_ret
      rw [show c.val u = _ from hv.out]
      exact ⟨rfl, U4.out⟩
end Go.Proofs.YtcbiangocfhhlaaDoor
