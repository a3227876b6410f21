/-
  Texts that the laws stand on, joined: ImY, ImZ, ImL, ImG, ImI, ImJ, Laid, ImCt.
-/
import Derived.FnData
import Derived.LaidHandle
import Derived.LaidLaws
import Derived.Laws.Pointers
import Derived.Recover
import Derived.Tactics2
import Derived.Test.YtkclojinokkikaaPart2

/-
  Plain: how the program reads bytes: part by part.
-/
namespace Go.Proofs.Ytkclojinokkikaa

theorem bAt_drop (B : List Int) (d j : Nat) : bAt (B.drop d) j = bAt B (d + j) := drop_getD B d j
theorem wsAt_drop (B : List Int) (d a n : Nat) : wsAt (B.drop d) a n = wsAt B (d + a) n := by
  unfold wsAt
  refine List.map_congr_left fun i _ => ?_
  unfold wAt
  rw [wPart_drop, Nat.add_assoc]
/-- the part that the program reads there -/
def ptOf (C : List Int) : Pt := ⟨wPart C 0 2, bAt C 2 == 1, wsAt C 4 (bAt C 3).toNat⟩
theorem ptOf_at {B : List Int} {d : Nat} (h : okP (B.drop d)) (hb : ∀ x, x ∈ B → 0 ≤ x ∧ x < 256) : ptAt B d = ptOf (B.drop d) ∧ nW B d = (bAt (B.drop d) 3).toNat ∧ d + 3 < B.length := by
  obtain ⟨h1, h2, h3⟩ := h
  rw [List.length_drop] at h1 h3
  have hq : nW B d = (bAt (B.drop d) 3).toNat := by
    unfold nW
    rw [bAt_drop] at h3 ⊢
    omega
  refine ⟨?_, hq, by omega⟩
  unfold ptAt ptOf
  rw [hq, wPart_drop, wsAt_drop, bAt_drop B d 2]
  have e1 : wPart B (d + 0) 2 = bAt B d * 256 + bAt B (d + 1) := by simp [wPart]
  rw [e1]
  congr 1
theorem rdK_ok {B : List Int} {k : Nat} (h : okP (B.drop (rdK B k).2)) (hb : ∀ x, x ∈ B → 0 ≤ x ∧ x < 256) : rdK B (k + 1) = ((rdK B k).1 ++ [ptOf (B.drop (rdK B k).2)], (rdK B k).2 + 4 + 8 * (bAt (B.drop (rdK B k).2) 3).toNat) := by
  obtain ⟨e1, e2, e3⟩ := ptOf_at h hb
  rw [rdK_yes e3, e1, e2]
theorem w8_eq {a b c d e f g h : Int} (ha : 0 ≤ a ∧ a < 256) (hb : 0 ≤ b ∧ b < 256) (hc : 0 ≤ c ∧ c < 256) (hd : 0 ≤ d ∧ d < 256) (he : 0 ≤ e ∧ e < 256) (hf : 0 ≤ f ∧ f < 256) (hg : 0 ≤ g ∧ g < 256) (hh : 0 ≤ h ∧ h < 256) :
    wbytes (w8 a b c d e f g h) = [a, b, c, d, e, f, g, h] := by
  unfold wbytes wb w8
  simp only [show (2 : Int) ^ (8 * 7) = 72057594037927936 from rfl, show (2 : Int) ^ (8 * 6) = 281474976710656 from rfl, show (2 : Int) ^ (8 * 5) = 1099511627776 from rfl, show (2 : Int) ^ (8 * 4) = 4294967296 from rfl, show (2 : Int) ^ (8 * 3) = 16777216 from rfl, show (2 : Int) ^ (8 * 2) = 65536 from rfl, show (2 : Int) ^ (8 * 1) = 256 from rfl, show (2 : Int) ^ (8 * 0) = 1 from rfl]
  simp only [List.cons.injEq, and_true]
  refine ⟨?_, ?_, ?_, ?_, ?_, ?_, ?_, ?_⟩ <;> omega
theorem word_take {D : List Int} (hl : 8 ≤ D.length) (hb : ∀ x, x ∈ D → 0 ≤ x ∧ x < 256) : wbytes (wPart D 0 8) = D.take 8 := by
  match D, hl with
  | a :: b :: c :: d :: e :: f :: g :: h :: t, _ =>
    have e1 : wPart (a :: b :: c :: d :: e :: f :: g :: h :: t) 0 8 = w8 a b c d e f g h := by
      unfold w8
      simp [wPart, bAt]
    rw [e1, w8_eq (hb a (by simp)) (hb b (by simp)) (hb c (by simp)) (hb d (by simp)) (hb e (by simp)) (hb f (by simp)) (hb g (by simp)) (hb h (by simp))]
    rfl
theorem words_take {D : List Int} (hb : ∀ x, x ∈ D → 0 ≤ x ∧ x < 256) : ∀ q, 8 * q ≤ D.length → (wsAt D 0 q).flatMap wbytes = D.take (8 * q)
  | 0, _ => rfl
  | q + 1, h => by
    rw [wsAt_succ, List.flatMap_append, words_take hb q (by omega), show 8 * (q + 1) = 8 * q + 8 from by omega, List.take_add]
    congr 1
    have := word_take (D := D.drop (8 * q)) (by rw [List.length_drop]; omega) (fun x hx => hb x (List.mem_of_mem_drop hx))
    rw [wPart_drop] at this
    unfold wAt
    rw [Nat.add_zero] at this
    simp only [List.flatMap_cons, List.flatMap_nil, List.append_nil, Nat.zero_add]
    exact this
theorem part_take {C : List Int} (h : okP C) (hb : ∀ x, x ∈ C → 0 ≤ x ∧ x < 256) : pbytes (ptOf C) = C.take (4 + 8 * (bAt C 3).toNat) := by
  obtain ⟨h1, h2, h3⟩ := h
  have hw := words_take (D := C.drop 4) (fun x hx => hb x (List.mem_of_mem_drop hx)) (bAt C 3).toNat (by rw [List.length_drop]; omega)
  rw [wsAt_drop, Nat.add_zero] at hw
  unfold pbytes ptOf
  rw [hw, List.take_add]
  congr 1
  match C, h1 with
  | a :: b :: c :: d :: t, _ =>
    have ha := hb a (by simp)
    have hb' := hb b (by simp)
    have hc := hb c (by simp)
    have hd := hb d (by simp)
    have e2 : bAt (a :: b :: c :: d :: t) 2 = c := rfl
    have e3 : bAt (a :: b :: c :: d :: t) 3 = d := rfl
    have e4 : wPart (a :: b :: c :: d :: t) 0 2 = a * 256 + b := by simp [wPart, bAt]
    unfold phead
    simp only [wsAt_len]
    rw [e4, e3, e2]
    rw [e2] at h2
    have e5 : wrB (c == 1) = c := by
      by_cases e : c = 1
      · subst e; rfl
      · have : (c == 1) = false := by simpa using e
        rw [this]
        show (0 : Int) = c
        omega
    rw [e5]
    show [_, _, _, _] = [a, b, c, d]
    simp only [List.cons.injEq, and_true, true_and]
    refine ⟨by omega, by omega, by omega⟩
/-- what the first parts take of the bytes -/
theorem pre_step {B : List Int} {k : Nat} (h : okP (B.drop (rdK B k).2)) (hb : ∀ x, x ∈ B → 0 ≤ x ∧ x < 256) (hp : B.take (rdK B k).2 = bAt B 0 :: (rdK B k).1.flatMap pbytes) :
    B.take (rdK B (k + 1)).2 = bAt B 0 :: (rdK B (k + 1)).1.flatMap pbytes := by
  rw [rdK_ok h hb]
  simp only
  rw [Nat.add_assoc, List.take_add, hp, ← part_take h (fun x hx => hb x (List.mem_of_mem_drop hx)), List.flatMap_append]
  simp
/-! of a serialization -/
theorem rd_of {B : List Int} {M : List Pt} (hM : Rt M) (e : ibytes M = B) : bAt B 0 = M.length ∧ (∀ k, k < M.length → okP (B.drop (rdK B k).2)) ∧ rdK B M.length = (M, B.length) := by
  subst e
  have hl := right_len hM.r
  refine ⟨?_, fun k hk => ?_, ?_⟩
  · show (M.length : Int) % 256 = M.length
    omega
  · have hp := right_ok hM.r M[k] (List.getElem_mem hk)
    have a3 := hp.l1
    rw [rdK_take hM k (by omega)]
    simp only
    have e : ibytes M = (((M.length : Int) % 256) :: (M.take k).flatMap pbytes) ++ (pbytes M[k] ++ (M.drop (k + 1)).flatMap pbytes) := by
      unfold ibytes
      rw [List.cons_append]
      congr 1
      conv => lhs; rw [← List.take_append_drop k M, List.flatMap_append, List.drop_eq_getElem_cons hk, List.flatMap_cons]
    have hl2 : (((M.length : Int) % 256) :: (M.take k).flatMap pbytes).length = 1 + ((M.take k).flatMap pbytes).length := by rw [List.length_cons]; omega
    rw [e, ← hl2, List.drop_left]
    have q2 : bAt (pbytes M[k] ++ (M.drop (k + 1)).flatMap pbytes) 2 = wrB M[k].wr := rfl
    have q3 : bAt (pbytes M[k] ++ (M.drop (k + 1)).flatMap pbytes) 3 = (M[k].ws.length : Int) % 256 := rfl
    refine ⟨?_, ?_, ?_⟩
    · rw [List.length_append, pbytes_len]; omega
    · rw [q2]; exact (wrB_bd _).2
    · rw [q3, List.length_append, pbytes_len]; omega
  · rw [rdK_take hM M.length (Nat.le_refl _), List.take_length]
    unfold ibytes
    rw [List.length_cons, Nat.add_comm]
theorem read_yes {B : List Int} {c : Nat} (hb : ∀ x, x ∈ B → 0 ≤ x ∧ x < 256) (h0 : bAt B 0 = c) (hl : (rdK B c).1.length = c) (hd : (rdK B c).2 = B.length) (hp : B.take (rdK B c).2 = bAt B 0 :: (rdK B c).1.flatMap pbytes) (hr : rightB (rdK B c).1 = true) : RdP B (rdK B c).1 0 := by
  refine .inl ⟨rfl, ⟨hr, rdK_in hb c⟩, ?_⟩
  have := right_len hr
  rw [hd, List.take_length, h0] at hp
  conv => rhs; rw [hp]
  unfold ibytes
  rw [hl]
  congr 1
  omega
theorem read_no {B : List Int} {c k : Nat} (h0 : bAt B 0 = c) (hk : k < c) (h : ¬ okP (B.drop (rdK B k).2)) : RdP B [] 11 := by
  refine .inr ⟨rfl, rfl, fun M hM e => ?_⟩
  obtain ⟨h1, h2, _⟩ := rd_of hM e
  exact h (h2 k (by omega))
theorem read_end {B : List Int} {c : Nat} (h0 : bAt B 0 = c) (h : (rdK B c).2 ≠ B.length ∨ rightB (rdK B c).1 = false) : RdP B [] 11 := by
  refine .inr ⟨rfl, rfl, fun M hM e => ?_⟩
  obtain ⟨h1, h2, h3⟩ := rd_of hM e
  obtain rfl : c = M.length := by omega
  rw [h3] at h
  rcases h with h | h
  · exact h rfl
  · simp only at h
    rw [hM.r] at h
    cases h
theorem read_nil : RdP [] [] 11 := by
  refine .inr ⟨rfl, rfl, fun M _ e => ?_⟩
  unfold ibytes at e
  cases e
end Go.Proofs.Ytkclojinokkikaa

/-
  The program's Read: its deferred function, and itself.
-/
namespace Go.Proofs.Ytkclojinokkikaa
open Go.ChangeShapes Go.WideShapes Go.ChangeAt Go.RowKit

theorem catch_panicking (p q : Addr) (x y : Value) (older : List PanicEntry) (w : World) (hp : w.cell? p = some x) (hzp : w.frozen? p = false) (hq : (w.setCell p (.slice none 0 0)).cell? q = some y) (hzq : (w.setCell p (.slice none 0 0)).frozen? q = false) :
    CallsD Try.prog 19 #[.pointer (some p), .pointer (some q)] (.panicking ({ v := .iface 54 (.agg #[]), recovered := false } :: older)) w fun e u' w' =>
      e = .returned (.tuple #[]) ∧ u' = .panicking ({ v := .iface 54 (.agg #[]), recovered := true } :: older) ∧ w' = (w.setCell p (.slice none 0 0)).setCell q (.int .i64 11) := by
  refine callsD_of_wpS Try.func19 rfl fun c₀ cs hu => ?_
  apply wpS_seq
  apply wpS_region
  simp [wpOpsS, go_sem, recoverD, hu, Try.ntmps19, Exit.thenS]
  refine wpS_cond (t := true) (by simp [Act.eval, Array.replicate]) ?_
  simp only [if_true]
  apply wpS_region
  simp [wpOpsS, go_sem, hp, hzp, hq, hzq, bodyPostS, results, Try.results19]
theorem catch_idle (p q : Addr) (w : World) :
    CallsD Try.prog 19 #[.pointer (some p), .pointer (some q)] .returning w fun e u' w' => e = .returned (.tuple #[]) ∧ u' = .returning ∧ w' = w := by
  refine callsD_of_wpS Try.func19 rfl fun c₀ cs hu => ?_
  apply wpS_seq
  apply wpS_region
  simp [wpOpsS, go_sem, recoverD, hu, Try.ntmps19, Exit.thenS]
  refine wpS_cond (t := false) (by simp [Act.eval, Array.replicate]) ?_
  simp only [Bool.false_eq_true, if_false]
  refine wpS_of_wp (wp_skip ?_)
  cases c₀
  simp_all [bodyPostS, results, Try.results19]
theorem info_gpart : (Try.prog.info? 42).map (fun i => (i.zero, i.size, i.bytes)) = some (some (.agg #[.int .i64 0, .bool false, .slice none 0 0]), 3, 40) := by kernel_rfl
/-- the two results' cells -/
structure ResAt (w : World) (P Q : Nat) (o : Option Addr) (k c : Nat) (er : Int) : Prop where
  l : w.heap[P]? = some (.cells [.slice o k c].toArray 22 (0, 0))
  e : w.heap[Q]? = some (.cells [.int .i64 er].toArray 26 (0, 0))
theorem ResAt.cells {w : World} {P Q : Nat} {o : Option Addr} {k c : Nat} {er : Int} (h : ResAt w P Q o k c er) : w.cell? ⟨P, 0, none⟩ = some (.slice o k c) ∧ w.cell? ⟨Q, 0, none⟩ = some (.int .i64 er) ∧ w.frozen? ⟨P, 0, none⟩ = false ∧ w.frozen? ⟨Q, 0, none⟩ = false :=
  ⟨by rw [cell_of_row _ _ _ _ _ _ h.l]; rfl, by rw [cell_of_row _ _ _ _ _ _ h.e]; rfl, frozen_block h.l 0, frozen_block h.e 0⟩
theorem ResAt.setL {w : World} {P Q : Nat} {o : Option Addr} {k c : Nat} {er : Int} (h : ResAt w P Q o k c er) (hPQ : ¬ P = Q) (o' : Option Addr) (k' c' : Nat) : ResAt (w.setCell ⟨P, 0, none⟩ (.slice o' k' c')) P Q o' k' c' er :=
  ⟨heap_setCell_same h.l 0 _, (Upd.setCell (S := (· = P)) (p := ⟨P, 0, none⟩) (Upd.refl _ w) (.inl rfl) _).at h.e (fun e => hPQ e.symm)⟩
theorem ResAt.setE {w : World} {P Q : Nat} {o : Option Addr} {k c : Nat} {er : Int} (h : ResAt w P Q o k c er) (hPQ : ¬ P = Q) (er' : Int) : ResAt (w.setCell ⟨Q, 0, none⟩ (.int .i64 er')) P Q o k c er' :=
  ⟨(Upd.setCell (S := (· = Q)) (p := ⟨Q, 0, none⟩) (Upd.refl _ w) (.inl rfl) _).at h.l hPQ, heap_setCell_same h.e 0 _⟩
theorem ResAt.kept {S : Nat → Prop} {w w' : World} {P Q : Nat} {o : Option Addr} {k c : Nat} {er : Int} (h : ResAt w P Q o k c er) (u : Upd S w w') (hP : ¬ S P) (hQ : ¬ S Q) : ResAt w' P Q o k c er := ⟨u.at h.l hP, u.at h.e hQ⟩
/-- the deferred call -/
abbrev dfr (P Q : Nat) : Deferred := { target := .fn (.func 19) #[.pointer (some ⟨P, 0, none⟩), .pointer (some ⟨Q, 0, none⟩)], args := #[] }
theorem door_ret {tmps : Array Value} {w : World} {P Q : Nat} {o : Option Addr} {k c : Nat} {er : Int} {R : Ending → World → Prop} (h2 : tmps.getD 2 undef = .pointer (some ⟨P, 0, none⟩)) (h3 : tmps.getD 3 undef = .pointer (some ⟨Q, 0, none⟩)) (h : ResAt w P Q o k c er) (hR : R (.returned (.tuple #[.slice o k c, .int .i64 er])) w) :
    Leaves Try.prog Try.f12 tmps R [dfr P Q] .returning w := by
  refine leaves_cons (f := 19) (args := #[.pointer (some ⟨P, 0, none⟩), .pointer (some ⟨Q, 0, none⟩)]) (by simp) (by simp [go_sem]) ?_
  refine (catch_idle ⟨P, 0, none⟩ ⟨Q, 0, none⟩ _).mono ?_
  rintro e u' w'' ⟨rfl, rfl, rfl⟩
  obtain ⟨c1, c2, -, -⟩ := h.cells
  have h2' : tmps[2]?.getD undef = .pointer (some ⟨P, 0, none⟩) := by simpa using h2
  have h3' : tmps[3]?.getD undef = .pointer (some ⟨Q, 0, none⟩) := by simpa using h3
  simp [Leaves, settle, results, Try.results12, go_sem, h2', h3', c1, c2]
  exact hR
theorem door_panic {tmps : Array Value} {w : World} {P Q : Nat} {o : Option Addr} {k c : Nat} {er : Int} {R : Ending → World → Prop} (h2 : tmps.getD 2 undef = .pointer (some ⟨P, 0, none⟩)) (h3 : tmps.getD 3 undef = .pointer (some ⟨Q, 0, none⟩)) (hPQ : ¬ P = Q) (h : ResAt w P Q o k c er) (hR : R (.returned (.tuple #[.slice none 0 0, .int .i64 11])) ((w.setCell ⟨P, 0, none⟩ (.slice none 0 0)).setCell ⟨Q, 0, none⟩ (.int .i64 11))) :
    Leaves Try.prog Try.f12 tmps R [dfr P Q] (.panicking [endP]) w := by
  refine leaves_cons (f := 19) (args := #[.pointer (some ⟨P, 0, none⟩), .pointer (some ⟨Q, 0, none⟩)]) (by simp) (by simp [go_sem]) ?_
  obtain ⟨c1, c2, z1, z2⟩ := h.cells
  obtain ⟨d1, d2, y1, y2⟩ := (h.setL hPQ none 0 0).cells
  refine (catch_panicking ⟨P, 0, none⟩ ⟨Q, 0, none⟩ _ _ [] _ c1 z1 d2 y2).mono ?_
  rintro e u' w'' ⟨rfl, rfl, rfl⟩
  obtain ⟨f1, f2, -, -⟩ := ((h.setL hPQ none 0 0).setE hPQ 11).cells
  have h2' : tmps[2]?.getD undef = .pointer (some ⟨P, 0, none⟩) := by simpa using h2
  have h3' : tmps[3]?.getD undef = .pointer (some ⟨Q, 0, none⟩) := by simpa using h3
  simp [Leaves, settle, results, Try.results12, go_sem, h2', h3', f1, f2]
  exact hR
theorem u64n (x : Int) (h0 : 0 ≤ x) : ∃ k : Nat, x = (k : Int) := ⟨x.toNat, by omega⟩
set_option maxRecDepth 100000 in
set_option maxHeartbeats 8000000 in
theorem gread_any : IRead := by
  intro w ao cap B hB hb hn hcap
  have hmf : ∀ (fn : Fn) (first cap : Array Value) (w : World), (Instr.makeFunc fn first cap).run Try.prog w = .ok (.func fn first cap) w := fun _ _ _ _ => rfl
  obtain ⟨i0, hi0, hz0, hz1, hz2⟩ := info_parts info_gpart
  have Hb := Lib.hid hb
  have hS0 := Lib.hid (show ∀ w1, w1 = (((w.alloc (.cells #[.slice none 0 0] 22)).alloc (.cells #[.int .i64 0] 26)).alloc (.cells #[.slice ao B.length cap] 49)) → RdAt w1 w.heap.size (w.heap.size + 1 + 1) B ∧ ResAt w1 w.heap.size (w.heap.size + 1) none 0 0 0 ∧ Upd (fun _ => False) w w1 from fun w1 e => by
    subst e
    have u1 : Upd (fun _ => False) w (w.alloc (.cells #[.slice none 0 0] 22)) := (Upd.refl _ _).alloc _
    have u2 := u1.alloc (.cells #[.int .i64 0] 26)
    have u3 := u2.alloc (.cells #[.slice ao B.length cap] 49)
    have p1 := heap_alloc_last w (.cells #[.slice none 0 0] 22)
    have p2 := heap_alloc_last (w.alloc (.cells #[.slice none 0 0] 22)) (.cells #[.int .i64 0] 26)
    have p3 := heap_alloc_last ((w.alloc (.cells #[.slice none 0 0] 22)).alloc (.cells #[.int .i64 0] 26)) (.cells #[.slice ao B.length cap] 49)
    have s1 : (w.alloc (.cells #[.slice none 0 0] 22)).heap.size = w.heap.size + 1 := by simp
    have s2 : ((w.alloc (.cells #[.slice none 0 0] 22)).alloc (.cells #[.int .i64 0] 26)).heap.size = w.heap.size + 1 + 1 := by simp
    rw [s1] at p2
    rw [s2] at p3
    have q1 := ((Upd.refl (fun _ => False) (w.alloc (.cells #[.slice none 0 0] 22))).alloc (.cells #[.int .i64 0] 26)).alloc (.cells #[.slice ao B.length cap] 49)
    have q2 := (Upd.refl (fun _ => False) ((w.alloc (.cells #[.slice none 0 0] 22)).alloc (.cells #[.int .i64 0] 26))).alloc (.cells #[.slice ao B.length cap] 49)
    exact ⟨⟨⟨ao, cap, p3, hB.kept u3, hcap, fun j hj h0 => (hB h0).2 j hj⟩, by omega⟩, ⟨q1.at p1 id, q2.at p2 id⟩, u3⟩)
  have hr0 := Lib.hid (fun w1 => show World.ownsRow w1 w.heap.size 42 3 (.slice none 0 0) 0 [] from rows_new w1 _ _ _)
  have hnum := Lib.hid (fun R W (h : RdAt W w.heap.size R (B.drop 0)) => gnum_at w.heap.size R B 0 1 W (Nat.zero_le _) (by decide) (by decide) h hb hn)
  have hpart := Lib.hid (fun R d W (h : RdAt W w.heap.size R (B.drop d)) => gpart_any w.heap.size R (B.drop d) W h (fun x hx => hb x (List.mem_of_mem_drop hx)) (by rw [List.length_drop]; omega))
  clear hB hb
  go_enter_defers Try.func12, Try.ntmps12
  go_wp2_with fail
  obtain ⟨rd1, rs1, u1⟩ := hS0.out _ rfl
  clear hS0
  generalize ((w.alloc (.cells #[.slice none 0 0] 22)).alloc (.cells #[.int .i64 0] 26)).alloc (.cells #[.slice ao B.length cap] 49) = w1 at rd1 rs1 u1 ⊢
  have hN := Lib.hid (rfl : w.heap.size = w.heap.size)
  generalize hQ : w.heap.size + 1 = Q at rd1 rs1 ⊢
  generalize hR : Q + 1 = R at rd1 ⊢
  generalize hP : w.heap.size = P at rd1 rs1 hr0 hnum hpart hQ ⊢
  replace hP := Lib.hid hP
  have hPQ : ¬ P = Q := by omega
  have hQP : ¬ Q = P := by omega
  have hPR : ¬ P = R := by omega
  have hQR : ¬ Q = R := by omega
  clear hN
  have hset := Lib.hid (fun w' (a : Value) (b : Value) (u : Upd (fun _ => False) w w') => show Upd (fun _ => False) w ((w'.setCell ⟨P, 0, none⟩ a).setCell ⟨Q, 0, none⟩ b) from (u.setCell (p := ⟨P, 0, none⟩) (.inr (Nat.le_of_eq hP.out)) a).setCell (p := ⟨Q, 0, none⟩) (.inr (by show w.heap.size ≤ Q; rw [hP.out]; omega)) b)
  refine (hnum.out R w1 rd1).mono ?_
  rintro e w2 (⟨l2, rfl, rd2, u2⟩ | ⟨l2, rfl, u2⟩)
  rotate_left
  · refine door_panic rfl rfl hPQ (rs1.kept u2 (fun h => h) (fun h => h)) ⟨none, 0, [], 11, rfl, ?_, PartsIn.nil, ?_⟩
    · have : B = [] := List.length_eq_zero_iff.1 (by omega)
      subst this
      exact read_nil
    · exact hset.out _ _ _ (u1.trans u2)
  rw [wPart1]
  have hc0 := bAt_bd Hb.out 0
  have hB0 := Lib.hid (show B.take 1 = bAt B 0 :: ([] : List Pt).flatMap pbytes from by
    match B, l2 with
    | a :: t, _ => rfl)
  obtain ⟨cnt, hcnt⟩ := u64n (bAt B 0) hc0.1
  have hcn : cnt ≤ 255 := by omega
  rw [hcnt]
  have Hc := Lib.hid hcnt
  have hno := Lib.hid (fun (k : Nat) (hk : k < cnt) h => read_no (B := B) hcnt hk h)
  have hend := Lib.hid (fun h => read_end (B := B) (c := cnt) hcnt h)
  have rs2 := Lib.hid (rs1.kept u2 hPR hQR)
  have rd2' := Lib.hid rd2
  have hNR : P ≤ R := by omega
  have hup := Lib.hid (fun (c d : World) (h : Upd (fun _ => False) w c) (S : Nat → Prop) (k : Upd S c d) (hs : ∀ j, S j → P ≤ j) => upd_since h k (fun j hj => by rw [hP.out]; exact hs j hj))
  have V2 := Lib.hid (hup.out _ _ u1 _ u2 (fun j h => by omega))
  have hr2 := Lib.hid (hr0.out w2)
  clear hcnt hc0 rd1 rs1 u1 rd2 u2 hnum hr0
  go_wp2_with fail
  go_loopw [13] (fun t wr => ∃ (k : Nat) (o : Option Addr) (c : Nat) (C : List Value) (d : Nat), k ≤ cnt ∧ t = .int .u64 k ∧ d ≤ B.length ∧ Hid ((rdK B k).1.length = k ∧ (rdK B k).2 = d) ∧ Hid (B.take (rdK B k).2 = bAt B 0 :: (rdK B k).1.flatMap pbytes) ∧ Hid (RdAt wr P R (B.drop d)) ∧ Hid (ResAt wr P Q o k c 0) ∧ Hid (wr.ownsRow P 42 3 (.slice o k c) k C) ∧ Hid (PCo wr P (rdK B k).1 C) ∧ Hid (Upd (fun _ => False) w wr)) (fun t _ => cnt - (intOf t).toNat)
  case atStart => exact ⟨0, none, 0, [], 1, by omega, rfl, l2, Lib.hid ⟨rfl, rfl⟩, hB0, rd2', rs2, hr2, Lib.hid (PCo.nil _ _), V2⟩
  case round =>
    clear hB0 rd2' rs2 hr2 V2
    obtain ⟨k, o, c, C, d, hk, rfl, hd, hkl, hpre, hrd, hrs, hrow, hC, hU⟩ := hrel
    by_cases hlt : k < cnt
    · have q1 : (k : Int) < (cnt : Int) := by omega
      go_wp2_with fail
      refine (hpart.out R d wr hrd.out).mono ?_
      rintro e w3 (⟨hok, o', c', rfl, hw3, rd3, u3⟩ | ⟨hbad, hcase, u3⟩)
      rotate_left
      · have er := hno.out k hlt (by rw [hkl.out.2]; exact hbad)
        have rs3 := hrs.out.kept u3 hPR hQR
        have V3 := hup.out _ _ hU.out _ u3 (fun j h => by omega)
        rcases hcase with rfl | rfl
        · exact door_panic rfl rfl hPQ rs3 ⟨none, 0, [], 11, rfl, er, PartsIn.nil, hset.out _ _ _ V3⟩
        · have rsA := rs3.kept ((Upd.refl (fun _ => False) w3).alloc (.cells #[.int .i64 0, .bool false, .slice none 0 0] 42)) id id
          have VA := Lib.hid (V3.alloc (.cells #[.int .i64 0, .bool false, .slice none 0 0] 42))
          have RA := Lib.hid rsA
          clear rsA V3 rs3 hbad u3 hrd hrs hrow hC hU
          go_upto_region 7 with fail
          generalize w3.alloc (.cells #[.int .i64 0, .bool false, .slice none 0 0] 42) = wA at RA VA ⊢
          obtain ⟨c1, c2, z1, z2⟩ := RA.out.cells
          obtain ⟨d1, d2, y1, y2⟩ := (RA.out.setL hPQ none 0 0).cells
          go_wp2
          exact door_ret rfl rfl ((RA.out.setL hPQ none 0 0).setE hPQ 11) ⟨none, 0, [], 11, rfl, er, PartsIn.nil, hset.out _ _ _ VA.out⟩
      have hrX : ∃ y, wr.heap[R]? = some (.cells y 49 (0, 0)) := by
        obtain ⟨_, _, h, _⟩ := hrd.out.h
        exact ⟨_, h⟩
      obtain ⟨y, hrX⟩ := hrX
      have rs3 := Lib.hid (hrs.out.kept u3 hPR hQR)
      have V3 := Lib.hid (hup.out _ _ hU.out _ u3 (fun j h => by omega))
      have row3 := Lib.hid (rows_kept hrow.out u3 (img_ne hrow.out hrX (by decide)))
      have C3 := Lib.hid (hC.out.kept u3 (fun j h cs e => by subst h; rw [hrX] at e; simp only [Option.some.injEq, Obj.cells.injEq] at e; exact absurd e.2.1 (by decide)))
      have W3 := Lib.hid (rows_low hw3 (by have := hU.out.size; rw [hP.out] at this; exact this))
      have rd3' := Lib.hid rd3
      have hstep := Lib.hid (rdK_ok (by rw [hkl.out.2]; exact hok) Hb.out)
      have hpre' := Lib.hid (pre_step (by rw [hkl.out.2]; exact hok) Hb.out hpre.out)
      rw [hkl.out.2] at hstep
      have hd' : d + 4 + 8 * (bAt (B.drop d) 3).toNat ≤ B.length := by
        have := hok.2.2
        have h2 := hok.1
        rw [List.length_drop] at this h2
        omega
      rw [List.drop_drop, ← Nat.add_assoc] at rd3'
      have hpt := Lib.hid (show ptOf (B.drop d) = ⟨wPart (B.drop d) 0 2, bAt (B.drop d) 2 == 1, wsAt (B.drop d) 4 (bAt (B.drop d) 3).toNat⟩ from rfl)
      clear hrd hrs hrow hC hU hw3 rd3 u3 hrX hok hpre
      generalize wPart (B.drop d) 0 2 = pg at hpt ⊢
      generalize (bAt (B.drop d) 2 == 1) = pw at hpt ⊢
      generalize (bAt (B.drop d) 3).toNat = q at hpt W3 rd3' hd' hstep ⊢
      have hwl := wsAt_len (B.drop d) 4 q
      generalize wsAt (B.drop d) 4 q = ws at hpt W3 hwl
      generalize ptOf (B.drop d) = pt at hpt hstep
      have BX := Lib.hid (heap_alloc_last w3 (.cells #[.int .i64 pg, .bool pw, .slice o' q c'] 42))
      have UX := Lib.hid ((Upd.refl (fun _ => False) w3).alloc (.cells #[.int .i64 pg, .bool pw, .slice o' q c'] 42))
      go_upto_region 8 with fail
      generalize w3.alloc (.cells #[.int .i64 pg, .bool pw, .slice o' q c'] 42) = w4 at BX UX ⊢
      generalize w3.heap.size = M at BX ⊢
      have rs4 := Lib.hid (rs3.out.kept UX.out id id)
      have V4 := Lib.hid (V3.out.trans UX.out)
      have row4 := Lib.hid (rows_still row3.out UX.out)
      have C4 := Lib.hid (C3.out.still UX.out)
      have W4 := Lib.hid (rows_still W3.out UX.out)
      have rd4 := Lib.hid (rd3'.out.kept UX.out id (fun _ h => h.elim))
      clear UX rs3 V3 row3 C3 W3 rd3'
      have CW := Lib.hid (C4.out.snoc (p := ⟨pg, pw, ws⟩) (ao := o') (cap := c') (by simp only [hwl]; exact W4.out))
      rw [show ptC ⟨pg, pw, ws⟩ o' c' = [.int .i64 pg, .bool pw, .slice o' q c'] from by unfold ptC; simp only [hwl]] at CW
      rw [hpt.out] at hstep
      have BR := Lib.hid (part_range (part_cells BX.out).1 (part_cells BX.out).2.1 (part_cells BX.out).2.2)
      have hs4 := V4.out.size
      rw [hP.out] at hs4
      obtain ⟨c1, -, z1, -⟩ := rs4.out.cells
      clear C4 W4 BX hpt hwl
      go_wp2_with (first
        | (with_reducible refine wpList_load_sz rfl 42 (.tmp 5) rfl M 0 rfl [.int .i64 pg, .bool pw, .slice o' q c'] _ BR.out Try.underlying42 rfl 3 (rpart_len _ _ _) size_gpart ?_)
        | (at_builtin; refine wpList_append_own _ rfl _ _ 22 rfl P 42 i0 (.agg #[.int .i64 0, .bool false, .slice none 0 0]) 3 40 Try.underlying22 hi0 hz0 hz1 hz2 rfl (by decide) _ _ _ rfl (rows_still row4.out ((Upd.refl _ _).alloc _)) ⟨w4.heap.size, 0, none⟩ 1 1 [.int .i64 pg, .bool pw, .slice o' q c'] rfl rfl (rows_src _ _ _) (by simp [Value.oneCell']) (by simp [maxLen]; omega) (by omega) (by simp; omega) ?_; intro v' w5 hown' hgrow _; clear c1 z1; have rs5 : Hid (ResAt w5 P Q o k c 0) := Lib.hid ⟨grown_box (v := .slice o k c) hgrow rs4.out.l (img_ne row4.out rs4.out.l (by decide)), grown_box (v := .slice o k c) hgrow rs4.out.e (img_ne row4.out rs4.out.e (by decide))⟩; obtain ⟨c1, -, z1, -⟩ := rs5.out.cells; have hg5 := Lib.hid hgrow; obtain ⟨o6, c6, rfl⟩ := rows_slice hown'))
      have hgu := Lib.hid (grown_upd (v := .slice o k c) hg5.out)
      have u5 := Lib.hid (Upd.setCell (S := (· = P)) (p := ⟨P, 0, none⟩) (Upd.refl (· = P) w5) (.inl rfl) (.slice o6 (k + 1) c6))
      have rd5 : Hid (RdAt (w5.setCell ⟨P, 0, none⟩ (.slice o6 (k + 1) c6)) P R (B.drop (d + 4 + 8 * q))) := Lib.hid (by
        obtain ⟨_, _, hx, _⟩ := rd4.out.h
        exact (rd4.out.kept hgu.out (fun e => img_ne row4.out hx (by decide) R e rfl) (fun j h => (row4.out.lt j h).1)).kept u5.out (fun h => by omega) (fun j h => by omega))
      have rs6 := Lib.hid (rs5.out.setL hPQ o6 (k + 1) c6)
      have row6 := Lib.hid (rows_kept (S := (· = P)) hown' u5.out (img_ne hown' rs5.out.l (by decide)))
      have CW6 := Lib.hid ((CW.out.kept hgu.out (own_ty row4.out (by decide))).kept u5.out (fun j h cs e => by subst h; rw [rs5.out.l] at e; simp only [Option.some.injEq, Obj.cells.injEq] at e; exact absurd e.2.1 (by decide)))
      have V6 := Lib.hid ((rows_grown row4.out hg5.out V4.out (Nat.le_of_eq hP.out)).setCell (p := ⟨P, 0, none⟩) (.inr (Nat.le_of_eq hP.out)) (.slice o6 (k + 1) c6))
      rw [← show (rdK B (k + 1)).1 = (rdK B k).1 ++ [⟨pg, pw, ws⟩] from by rw [hstep.out]] at CW6
      exact ⟨⟨k + 1, o6, c6, _, d + 4 + 8 * q, by omega, by go_num, hd', Lib.hid ⟨by rw [hstep.out, List.length_append, hkl.out.1]; rfl, by rw [hstep.out]⟩, hpre', rd5, rs6, row6, CW6, V6⟩, by simp [intOf]; omega⟩
    · obtain rfl : k = cnt := by omega
      have q1 : ¬ (k : Int) < (k : Int) := by omega
      obtain ⟨od, cd, hh, -⟩ := hrd.out.h
      have hcR : wr.cell? ⟨R, 0, none⟩ = some (.slice od (B.drop d).length cd) := by rw [cell_of_row _ _ _ _ _ _ hh]; rfl
      obtain ⟨c1, c2, z1, z2⟩ := hrs.out.cells
      obtain ⟨d1, d2, y1, y2⟩ := (hrs.out.setL hPQ none 0 0).cells
      rw [List.length_drop] at hcR
      clear hh
      by_cases hdn : d < B.length
      · have er := hend.out (.inl (by rw [hkl.out.2]; omega))
        have q2 : (0 : Int) < ((B.length - d : Nat) : Int) := by omega
        have q3 : 0 < B.length - d := by omega
        go_wp2
        exact door_ret rfl rfl ((hrs.out.setL hPQ none 0 0).setE hPQ 11) ⟨none, 0, [], 11, rfl, er, PartsIn.nil, hset.out _ _ _ hU.out⟩
      · have hz : B.length - d = 0 := by omega
        rw [hz] at hcR
        have hin := Lib.hid (hC.out.pcs.in_ hkl.out.1 hrow.out)
        have hR := gright_raw wr o c (rdK B k).1 hin.out (by rw [hkl.out.1]; omega)
        rw [hkl.out.1] at hR
        have hRH := Lib.hid hR
        have hy := Lib.hid (fun h => read_yes (B := B) (c := k) Hb.out Hc.out hkl.out.1 (by rw [hkl.out.2]; omega) hpre.out h)
        have hn' := Lib.hid (fun h => hend.out (.inr h))
        clear hR hend
        have hfin := Lib.hid (fun w6 (u : Upd (fun _ => False) wr w6) => show PartsIn ((w6.setCell ⟨P, 0, none⟩ (.slice o k c)).setCell ⟨Q, 0, none⟩ (.int .i64 0)) o (rdK B k).1 from by
          have rs7 := hrs.out.kept u id id
          have U7 : Upd (fun j => j = P ∨ j = Q) w6 ((w6.setCell ⟨P, 0, none⟩ (.slice o k c)).setCell ⟨Q, 0, none⟩ (.int .i64 0)) := (((Upd.refl _ w6).setCell (p := ⟨P, 0, none⟩) (.inl (.inl rfl)) _).setCell (p := ⟨Q, 0, none⟩) (.inl (.inr rfl)) _)
          have row7 := rows_still hrow.out u
          have row8 := rows_kept row7 U7 (fun j h s => by
            rcases s with s | s
            · exact img_ne row7 rs7.l (by decide) j h s
            · exact img_ne row7 rs7.e (by decide) j h s)
          have C8 := (hC.out.still u).kept U7 (fun j h cs e => by
            rcases h with h | h
            · subst h; rw [rs7.l] at e; simp only [Option.some.injEq, Obj.cells.injEq] at e; exact absurd e.2.1 (by decide)
            · subst h; rw [rs7.e] at e; simp only [Option.some.injEq, Obj.cells.injEq] at e; exact absurd e.2.1 (by decide))
          exact C8.pcs.in_ hkl.out.1 row8)
        have hl := Lib.hid hkl.out.1
        generalize (rdK B k).1 = L at hin hRH hy hn' hl hfin
        generalize rightB L = ans at hRH hy hn'
        clear hC hrow hpre hkl hin
        go_wp2_with fail
        refine hRH.out.mono ?_
        rintro e w6 ⟨rfl, u6⟩
        have rs6 := Lib.hid (hrs.out.kept u6 id id)
        have V6 := Lib.hid (hU.out.trans u6)
        have hF := Lib.hid (hfin.out w6 u6)
        clear c1 c2 z1 z2 d1 d2 y1 y2 u6 hRH hfin
        cases ans
        · obtain ⟨c1, c2, z1, z2⟩ := rs6.out.cells
          obtain ⟨d1, d2, y1, y2⟩ := (rs6.out.setL hPQ none 0 0).cells
          have er := hn'.out rfl
          go_wp2
          exact door_ret rfl rfl ((rs6.out.setL hPQ none 0 0).setE hPQ 11) ⟨none, 0, [], 11, rfl, er, PartsIn.nil, hset.out _ _ _ V6.out⟩
        · obtain ⟨c1, c2, z1, z2⟩ := rs6.out.cells
          obtain ⟨d1, d2, y1, y2⟩ := (rs6.out.setL hPQ o k c).cells
          have er := hy.out rfl
          go_wp2
          exact door_ret rfl rfl ((rs6.out.setL hPQ o k c).setE hPQ 0) ⟨o, c, L, 0, by rw [hl.out], er, hF.out, hset.out _ _ _ V6.out⟩
end Go.Proofs.Ytkclojinokkikaa

/-
  The laws' light: may parts be gone through?
-/
namespace Go.Proofs.Ytkclojinokkikaa
open Go.ChangeShapes Go.WideShapes Go.ChangeAt Go.RowKit

theorem lightB_end {L : List Pt} {k : Nat} (h : lightK L k = true) (hk : k = min L.length 40) : lightB L = decide (L.length ≤ 30) := by
  subst hk
  unfold lightB
  rw [h, Bool.true_and]
set_option maxHeartbeats 4000000 in
theorem light_any (ao : Option Addr) (cap : Nat) (L : List Pt) (w : World) (hL : PartsIn w ao L) (hn : L.length ≤ 9223372036854775807) :
    Calls Try.prog 8 #[.slice ao L.length cap] w fun e w' => e = .returned (.bool (lightB L)) ∧ w' = w := by
  have HL := Lib.hid hL
  have h0 := Lib.hid (show lightK L 0 = true from rfl)
  have hd := Lib.hid (fun (k : Nat) (h : lightK L k = true) (e : k = min L.length 40) => lightB_end h e)
  have hno := Lib.hid (fun (k : Nat) (h1 : k < L.length) (h2 : k < 40) (h3 : 40 < (L.getD k Pt.zero).ws.length) => lightK_no h1 h2 h3)
  have hst := Lib.hid (lightK_succ L)
  generalize lightB L = ans at hd hno ⊢
  generalize hn' : L.length = n at hn hd hno ⊢
  replace hn' := Lib.hid hn'
  clear hL
  go_enter Try.func8, Try.ntmps8
  go_wp2_with fail
  go_loopw [3] (fun t wr => ∃ k : Nat, k ≤ n ∧ k ≤ 40 ∧ t = .int .i64 k ∧ Hid (lightK L k = true) ∧ wr = w) (fun t _ => 40 - (intOf t).toNat)
  case atStart => exact ⟨0, by omega, by omega, rfl, h0, rfl⟩
  case round =>
    obtain ⟨k, hk, hk4, rfl, hlk, rfl⟩ := hrel
    by_cases hlt : k < n
    · by_cases h40 : k < 40
      · obtain ⟨b, off, rfl, hb, a1, c1, d0, d1, d2, d3⟩ := HL.out.at (by rw [hn'.out]; exact hlt)
        have k0 : (0 : Int) ≤ (k : Int) := by omega
        have k1 : (k : Int) < (n : Int) := by omega
        have k2 : (k : Int) < 40 := by omega
        have hs := Lib.hid (hst.out k)
        have hno' := Lib.hid (hno.out k hlt h40)
        clear d0 d1 d3 hb
        generalize (L.getD k Pt.zero).ws.length = m at d2 hs hno'
        by_cases hm : 40 < m
        · have e := hno'.out hm
          subst e
          have m1 : (40 : Int) < (m : Int) := by omega
          go_wp2
          go_ret
          exact ⟨rfl, rfl⟩
        · have m1 : ¬ (40 : Int) < (m : Int) := by omega
          have hs' : Hid (lightK L (k + 1) = true) := Lib.hid (by rw [hs.out, hlk.out, decide_eq_true (by omega)]; rfl)
          go_wp2
          exact ⟨⟨k + 1, by omega, by omega, by go_num, hs', by trivial⟩, by simp [intOf]; omega⟩
      · have k2 : ¬ (k : Int) < 40 := by omega
        have k1 : (k : Int) < (n : Int) := by omega
        have e := hd.out k hlk.out (by omega)
        have e2 : decide (n ≤ 30) = decide ((n : Int) ≤ 30) := decide_eq_decide.2 (by omega)
        rw [e2] at e
        subst e
        go_wp2
        go_ret
        exact ⟨rfl, rfl⟩
    · have k1 : ¬ (k : Int) < (n : Int) := by omega
      have e := hd.out k hlk.out (by omega)
      have e2 : decide (n ≤ 30) = decide ((n : Int) ≤ 30) := decide_eq_decide.2 (by omega)
      rw [e2] at e
      subst e
      go_wp2
      go_ret
      exact ⟨rfl, rfl⟩
end Go.Proofs.Ytkclojinokkikaa

/-
  The laws' awake, over what Read answers.
-/
namespace Go.Proofs.Ytkclojinokkikaa
open Go.ChangeShapes Go.WideShapes Go.ChangeAt Go.RowKit

theorem row_lit (k : IntKind) (w : World) (W : List Int) (t : TypeId) : RowIn k (w.alloc (.cells (ints k W).toArray t)) (.slice (some ⟨w.heap.size, 0, none⟩) W.length W.length) W := fun _ =>
  ⟨.inr ⟨w.heap.size, 0, W.length, rfl, by simp [ints], fun j u hj => by have := rows_src w (ints k W) t j u hj; rwa [add_mid0] at this⟩, fun b hb => by
    simp only [Value.ownBlock, Option.some.injEq] at hb
    subst hb
    simp⟩
set_option maxRecDepth 100000 in
set_option maxHeartbeats 4000000 in
theorem iawake_any (hR : IRead) (w : World) : Calls Try.prog 7 #[] w fun e w' => e = .returned (.bool true) ∧ Upd (fun _ => False) w w' := by
  have HR := Lib.hid hR
  clear hR
  have r1 := Lib.hid (row_lit .u8 w oneB 5)
  have U1 := Lib.hid ((Upd.refl (fun _ => False) w).alloc (.cells (ints .u8 oneB).toArray 5))
  go_enter Try.func7, Try.ntmps7
  go_wp2_with fail
  refine (HR.out (w.alloc (.cells (ints .u8 oneB).toArray 5)) (some ⟨w.heap.size, 0, none⟩) 13 oneB r1.out (by decide) (by decide) (by decide)).mono ?_
  rintro e w2 ⟨o, c, L, er, rfl, hrd, hp, u2⟩
  obtain ⟨rfl, rfl⟩ := hrd.uniq one_is
  obtain ⟨b, off, rfl, hb, a1, c1, d0, d1, d2, d3⟩ := hp.at (k := 0) (by decide)
  obtain ⟨b', off', rfl, hb', hc'⟩ := d3.at 0 (by decide)
  have U2 := Lib.hid (U1.out.trans u2)
  have r2 := Lib.hid (row_lit .u8 w2 (oneB.take 5) 5)
  have u3 := (Upd.refl (fun _ => False) w2).alloc (.cells (ints .u8 (oneB.take 5)).toArray 5)
  have hK := Lib.hid (show ∀ W, Upd (fun _ => False) w2 W → W.cell? ⟨b, off, none⟩ = some (.int .i64 5) ∧ W.cell? ⟨b, off + 1, none⟩ = some (.bool true) ∧ W.cell? ⟨b, off + 2, none⟩ = some (.slice (some ⟨b', off', none⟩) 1 c1) ∧ W.cell? ⟨b', off', none⟩ = some (.int .u64 7) from fun W u => ⟨u.cell d0 id, u.cell d1 id, u.cell d2 id, u.cell (hc' 0 (by decide)) id⟩)
  clear d0 d1 d2 d3 hb hb' hc' hp u2 r1 U1
  go_wp2_with fail
  refine (HR.out (w2.alloc (.cells (ints .u8 (oneB.take 5)).toArray 5)) (some ⟨w2.heap.size, 0, none⟩) 5 (oneB.take 5) r2.out (by decide) (by decide) (by decide)).mono ?_
  rintro e w3 ⟨o4, c4, L, er, rfl, hrd, hp, u4⟩
  obtain ⟨rfl, rfl⟩ := hrd.uniq five_is
  obtain ⟨k0, k1, k2, k3⟩ := hK.out _ (u3.trans u4)
  have U4 := Lib.hid ((U2.out.trans u3).trans u4)
  clear hK u3 u4 U2 r2 hp hrd HR
  rw [show oneL.length = 1 from rfl]
  go_wp2
  go_ret
  exact ⟨rfl, U4.out⟩
end Go.Proofs.Ytkclojinokkikaa

/-
  The law ImageReads, over what Right, Bytes and Read answer.
-/
namespace Go.Proofs.Ytkclojinokkikaa
open Go.ChangeShapes Go.WideShapes Go.ChangeAt Go.RowKit

theorem rd_ws {B : List Int} {L : List Pt} {e : Int} (h : RdP B L e) : ∀ p, p ∈ L → p.ws.length ≤ 100000 := by
  intro p hp
  rcases h with ⟨_, h, _⟩ | ⟨_, rfl, _⟩
  · have := (right_ok h.r p hp).l1
    omega
  · cases hp
set_option maxRecDepth 100000 in
set_option maxHeartbeats 8000000 in
theorem reads_any (iT : IRight) (iB : IBytes) (iR : IRead) (ao : Option Addr) (cap : Nat) (L : List Pt) (bo : Option Addr) (bcap : Nat) (B : List Int) (w : World) (hL : PartsIn w ao L) (hg : PgIn L) (hi : PIn L) (hn : L.length ≤ 9223372036854775807)
    (hB : RowIn .u8 w (.slice bo B.length bcap) B) (hb : ∀ x, x ∈ B → 0 ≤ x ∧ x < 256) (hbc : B.length ≤ bcap) :
    Calls Try.prog 3 #[.slice ao L.length cap, .slice bo B.length bcap] w fun e w' => e = .returned (.bool true) ∧ Upd (fun _ => False) w w' := by
  have hA := Lib.hid (fun W => iawake_any iR W)
  have HL := Lib.hid hL
  have HB := Lib.hid hB
  have hLi := Lib.hid (fun W (h : PartsIn W ao L) => light_any ao cap L W h hn)
  cases hl : lightB L
  · rw [hl] at hLi
    clear iT iB iR hB hb hbc hg hi hL
    go_enter Try.func3, Try.ntmps3
    go_wp2_with fail
    refine (hA.out w).mono ?_
    rintro e w1 ⟨rfl, u1⟩
    have U1 := Lib.hid u1
    go_wp2_with fail
    refine (hLi.out w1 (HL.out.kept u1)).mono ?_
    rintro e w2 ⟨rfl, rfl⟩
    clear u1
    go_wp2
    go_ret
    exact ⟨rfl, U1.out⟩
  by_cases h3 : 3000 < B.length
  · rw [hl] at hLi
    clear iT iB iR hB hb hbc hg hi hL
    have k3 : 3000 < (B.length : Int) := by omega
    go_enter Try.func3, Try.ntmps3
    go_wp2_with fail
    refine (hA.out w).mono ?_
    rintro e w1 ⟨rfl, u1⟩
    have U1 := Lib.hid u1
    go_wp2_with fail
    refine (hLi.out w1 (HL.out.kept u1)).mono ?_
    rintro e w2 ⟨rfl, rfl⟩
    clear u1
    go_wp2
    go_ret
    exact ⟨rfl, U1.out⟩
  have k3 : ¬ 3000 < (B.length : Int) := by omega
  have hl30 := light_len hl
  rw [hl] at hLi
  have h1 := Lib.hid (fun W (h : PartsIn W ao L) => iB W ao cap L h hg hi hn)
  have h2 := Lib.hid (fun W (h : PartsIn W ao L) => to_any ao cap L W h (by omega))
  have h4 := Lib.hid (fun W o c (h : PartsIn W o L) => rbytes_any o c L W h hi hn)
  have h5 := Lib.hid (fun W h => iR W bo bcap B h hb (by omega) hbc)
  have h6 := Lib.hid (fun W h => rread_any bo bcap B W h hb (by omega))
  have h8 := Lib.hid (fun W (h : PartsIn W ao L) => iT W ao cap L h hg hi hn)
  have h9 := Lib.hid (fun W o c (h : PartsIn W o L) => rright_any o c L W h hn)
  have hrd := Lib.hid (rd_is hb)
  generalize rdV B = V at h6 hrd
  generalize rdE B = E at h6 hrd
  generalize byV L = X at h1 h4
  generalize byE L = xe at h1 h4
  generalize rightB L = rt at h8 h9
  clear iT iB iR hB hb hbc hg hi hL hl
  go_enter Try.func3, Try.ntmps3
  go_wp2_with fail
  refine (hA.out w).mono ?_
  rintro e w1 ⟨rfl, u1⟩
  have U1 := Lib.hid u1
  go_wp2_with fail
  refine (hLi.out w1 (HL.out.kept u1)).mono ?_
  rintro e w2 ⟨rfl, rfl⟩
  clear u1
  go_wp2_with fail
  refine (h1.out w2 (HL.out.kept U1.out)).mono ?_
  rintro e w3 ⟨o3, c3, rfl, r3, -, u3⟩
  have U3 := Lib.hid (U1.out.trans u3)
  have R3 := Lib.hid r3
  clear u3 r3 U1
  go_wp2_with fail
  refine (h2.out w3 (HL.out.kept U3.out)).mono ?_
  rintro e w4 ⟨o4, c4, rfl, p4, u4⟩
  have U4 := Lib.hid (U3.out.trans u4)
  have R4 := Lib.hid (R3.out.kept u4)
  clear R3 U3 u4
  go_wp2_with fail
  refine (h4.out w4 o4 c4 p4).mono ?_
  rintro e w5 ⟨o5, c5, rfl, r5, u5⟩
  have U5 := Lib.hid (U4.out.trans u5)
  have R5 := Lib.hid (R4.out.kept u5)
  have S5 := Lib.hid r5
  clear R4 U4 u5 r5 p4
  go_wp2_with fail
  refine (h5.out w5 (HB.out.kept U5.out)).mono ?_
  rintro e w6 ⟨o6, c6, M, er, rfl, hm, p6, u6⟩
  obtain ⟨rfl, rfl⟩ := hm.uniq hrd.out
  have U6 := Lib.hid (U5.out.trans u6)
  have R6 := Lib.hid (R5.out.kept u6)
  have S6 := Lib.hid (S5.out.kept u6)
  have P6 := Lib.hid p6
  clear R5 U5 S5 u6 p6 hrd
  go_wp2_with fail
  refine (h6.out w6 (HB.out.kept U6.out)).mono ?_
  rintro e w7 ⟨o7, c7, rfl, p7, u7⟩
  have U7 := Lib.hid (U6.out.trans u7)
  have R7 := Lib.hid (R6.out.kept u7)
  have S7 := Lib.hid (S6.out.kept u7)
  have P7 := Lib.hid (P6.out.kept u7)
  have Q7 := Lib.hid p7
  clear R6 U6 S6 P6 u7 p7
  have hml := (rd_pg hm).2.2
  have hmw := Lib.hid (rd_ws hm)
  clear hm
  go_wp2_with fail
  refine (to_any o6 c6 M w7 P7.out (by omega)).mono ?_
  rintro e w8 ⟨o8, c8, rfl, p8, u8⟩
  have U8 := Lib.hid (U7.out.trans u8)
  have R8 := Lib.hid (R7.out.kept u8)
  have S8 := Lib.hid (S7.out.kept u8)
  have Q8 := Lib.hid (Q7.out.kept u8)
  clear R7 U7 S7 P7 Q7 u8
  go_wp2_with fail
  refine (psame_any o8 o7 c8 c7 M M w8 p8 Q8.out (by omega) hmw.out).mono ?_
  rintro e w9 ⟨rfl, m9, rfl⟩
  rw [decide_eq_true (rfl : M = M)]
  clear p8 Q8
  have u9 := (Upd.refl (fun _ => False) w8).drewN m9
  have U9 := Lib.hid (U8.out.trans u9)
  have R9 := Lib.hid (R8.out.kept u9)
  have S9 := Lib.hid (S8.out.kept u9)
  clear R8 S8 U8 u9
  generalize w8.drewN m9 = w9 at R9 S9 U9 ⊢
  generalize hS : strB X = S
  replace hS := Lib.hid hS
  go_wp2_with (first
    | (refine wpList_strB rfl 23 9 (.tmp 54) rfl 5 o3 X.length c3 X rfl rfl R9.out Try.underlying23 Try.underlying5 Try.underlying9 S hS.out ?_)
    | (refine wpList_strB rfl 23 9 (.tmp 56) rfl 5 o5 X.length c5 X rfl rfl S9.out Try.underlying23 Try.underlying5 Try.underlying9 S hS.out ?_))
  refine (h8.out w9 (HL.out.kept U9.out)).mono ?_
  rintro e wA ⟨rfl, uA⟩
  have UA := Lib.hid (U9.out.trans uA)
  clear R9 S9 U9 uA
  go_wp2_with fail
  refine (h2.out wA (HL.out.kept UA.out)).mono ?_
  rintro e wB ⟨oB, cB, rfl, pB, uB⟩
  have UB := Lib.hid (UA.out.trans uB)
  clear UA uB
  go_wp2_with fail
  refine (h9.out wB oB cB pB).mono ?_
  rintro e wC ⟨rfl, uC⟩
  have UC := Lib.hid (UB.out.trans uC)
  clear UB uC pB
  have hbe : (rt == rt) = true := by simp
  go_wp2
  go_ret
  exact ⟨rfl, UC.out⟩
end Go.Proofs.Ytkclojinokkikaa

/-
  The law ImageBack, over what Right, Bytes and Read answer.
-/
namespace Go.Proofs.Ytkclojinokkikaa
open Go.ChangeShapes Go.WideShapes Go.ChangeAt Go.RowKit

theorem byV_in (L : List Pt) : ∀ x, x ∈ byV L → 0 ≤ x ∧ x < 256 := by
  unfold byV
  split
  · rename_i h; exact wb_in h
  · intro x hx; cases hx
theorem byV_len (L : List Pt) : (byV L).length ≤ 2113 := by
  unfold byV
  split
  · rename_i h
    have h1 := right_len h
    have h2 := preB_len (fun p hp => (right_ok h p hp).l1) L.length (Nat.le_refl _)
    rw [preB_all] at h2
    omega
  · exact Nat.zero_le _
theorem rd_nil : RdP [] [] 11 := .inr ⟨rfl, rfl, fun M _ e => by unfold ibytes at e; cases e⟩
set_option maxRecDepth 100000 in
set_option maxHeartbeats 8000000 in
theorem back_any (iT : IRight) (iB : IBytes) (iR : IRead) (ao : Option Addr) (cap : Nat) (L : List Pt) (bo : Option Addr) (bcap : Nat) (B : List Int) (w : World) (hL : PartsIn w ao L) (hg : PgIn L) (hi : PIn L) (hn : L.length ≤ 9223372036854775807)
    (hB : RowIn .u8 w (.slice bo B.length bcap) B) (hb : ∀ x, x ∈ B → 0 ≤ x ∧ x < 256) (hbc : B.length ≤ bcap) :
    Calls Try.prog 4 #[.slice ao L.length cap, .slice bo B.length bcap] w fun e w' => e = .returned (.bool true) ∧ Upd (fun _ => False) w w' := by
  have hA := Lib.hid (fun W => iawake_any iR W)
  have HL := Lib.hid hL
  have HB := Lib.hid hB
  have hLi := Lib.hid (fun W (h : PartsIn W ao L) => light_any ao cap L W h hn)
  cases hl : lightB L
  · rw [hl] at hLi
    clear iT iB iR hB hb hbc hg hi hL
    go_enter Try.func4, Try.ntmps4
    go_wp2_with fail
    refine (hA.out w).mono ?_
    rintro e w1 ⟨rfl, u1⟩
    have U1 := Lib.hid u1
    go_wp2_with fail
    refine (hLi.out w1 (HL.out.kept u1)).mono ?_
    rintro e w2 ⟨rfl, rfl⟩
    clear u1
    go_wp2
    go_ret
    exact ⟨rfl, U1.out⟩
  by_cases h3 : 3000 < B.length
  · rw [hl] at hLi
    clear iT iB iR hB hb hbc hg hi hL
    have k3 : 3000 < (B.length : Int) := by omega
    go_enter Try.func4, Try.ntmps4
    go_wp2_with fail
    refine (hA.out w).mono ?_
    rintro e w1 ⟨rfl, u1⟩
    have U1 := Lib.hid u1
    go_wp2_with fail
    refine (hLi.out w1 (HL.out.kept u1)).mono ?_
    rintro e w2 ⟨rfl, rfl⟩
    clear u1
    go_wp2
    go_ret
    exact ⟨rfl, U1.out⟩
  have k3 : ¬ 3000 < (B.length : Int) := by omega
  have hl30 := light_len hl
  rw [hl] at hLi
  have h1 := Lib.hid (fun W (h : PartsIn W ao L) => iB W ao cap L h hg hi hn)
  have h2 := Lib.hid (fun W (h : PartsIn W ao L) => to_any ao cap L W h (by omega))
  have hx1 := byV_in L
  have hx2 := byV_len L
  have h3 := Lib.hid (fun W o c h (hc : (byV L).length ≤ c) => iR W o c (byV L) h hx1 (by omega) hc)
  have h5 := Lib.hid (fun W h => iR W bo bcap B h hb (by omega) hbc)
  have h7 := Lib.hid (fun W o c N er (hr : RdP B N er) (h : PartsIn W o N) => iB W o c N h (rd_pg hr).1 (rd_pg hr).2.1 (by have := (rd_pg hr).2.2; omega))
  have h8 := Lib.hid (fun W (h : PartsIn W ao L) => iT W ao cap L h hg hi hn)
  have hq : Hid ((byE L = 0 ∧ rightB L = true ∧ RdP (byV L) L 0) ∨ (byE L = 1 ∧ RdP (byV L) [] 11)) := Lib.hid (by
    unfold byE byV
    by_cases hr : rightB L = true
    · rw [if_pos hr, if_pos hr]
      exact .inl ⟨rfl, hr, .inl ⟨rfl, ⟨hr, hi⟩, rfl⟩⟩
    · rw [if_neg hr, if_neg hr]
      exact .inr ⟨rfl, rd_nil⟩)
  generalize byV L = X at h1 h3 hq
  generalize byE L = xe at h1 hq
  generalize rightB L = rt at h8 hq
  clear iT iB iR hB hb hbc hg hi hL hl hx1 hx2
  go_enter Try.func4, Try.ntmps4
  go_wp2_with fail
  refine (hA.out w).mono ?_
  rintro e w1 ⟨rfl, u1⟩
  have U1 := Lib.hid u1
  go_wp2_with fail
  refine (hLi.out w1 (HL.out.kept u1)).mono ?_
  rintro e w2 ⟨rfl, rfl⟩
  clear u1
  go_wp2_with fail
  refine (h1.out w2 (HL.out.kept U1.out)).mono ?_
  rintro e w3 ⟨o3, c3, rfl, r3, hc3, u3⟩
  have U3 := Lib.hid (U1.out.trans u3)
  clear u3 U1
  go_wp2_with fail
  refine (h3.out w3 o3 c3 r3 hc3).mono ?_
  rintro e w4 ⟨o4, c4, M, f, rfl, hm, p4, u4⟩
  have U4 := Lib.hid (U3.out.trans u4)
  have P4 := Lib.hid p4
  clear r3 U3 u4 p4
  have hml := (rd_pg hm).2.2
  have hmw := Lib.hid (rd_ws hm)
  have hq' : Hid ((xe = 0 ∧ rt = true ∧ M = L ∧ f = 0) ∨ xe = 1) := Lib.hid (by
    rcases hq.out with ⟨a, b, c⟩ | ⟨a, _⟩
    · exact .inl ⟨a, b, (hm.uniq c).1, (hm.uniq c).2⟩
    · exact .inr a)
  clear hm hq
  go_wp2_with fail
  refine (to_any o4 c4 M w4 P4.out (by omega)).mono ?_
  rintro e w5 ⟨o5, c5, rfl, p5, u5⟩
  have U5 := Lib.hid (U4.out.trans u5)
  have P5 := Lib.hid p5
  clear U4 u5 p5 P4
  go_wp2_with fail
  refine (h2.out w5 (HL.out.kept U5.out)).mono ?_
  rintro e w6 ⟨o6, c6, rfl, p6, u6⟩
  have U6 := Lib.hid (U5.out.trans u6)
  have P6 := Lib.hid (P5.out.kept u6)
  clear U5 u6 P5
  go_wp2_with fail
  refine (psame_any o5 o6 c5 c6 M L w6 P6.out p6 (by omega) hmw.out).mono ?_
  rintro e w7 ⟨rfl, m7, rfl⟩
  have U7 := Lib.hid (U6.out.drewN m7)
  clear U6 P6 p6
  generalize w6.drewN m7 = w7 at U7 ⊢
  go_upto_region 8 with fail
  have hs : Hid (∀ N g, RdP B N g → (g = 0 ∧ byE N = 0 ∧ byV N = B) ∨ g = 11) := Lib.hid (fun N g h => by
    rcases h with ⟨rfl, h, e⟩ | ⟨rfl, _⟩
    · exact .inl ⟨rfl, by unfold byE; rw [if_pos h.r], by unfold byV; rw [if_pos h.r, e]⟩
    · exact .inr rfl)
  rcases hq'.out with ⟨a1, a2, a3, a4⟩ | a1
  · subst a1 a2 a4
    subst a3
    rw [decide_eq_true (rfl : M = M)]
    clear hq' hml hmw h1 h2 h3
    go_wp2_with fail
    refine (h8.out w7 (HL.out.kept U7.out)).mono ?_
    rintro e w8 ⟨rfl, u8⟩
    have U8 := Lib.hid (U7.out.trans u8)
    clear U7 u8
    go_wp2_with fail
    refine (h5.out w8 (HB.out.kept U8.out)).mono ?_
    rintro e w9 ⟨o9, c9, N, g, rfl, hN, p9, u9⟩
    have U9 := Lib.hid (U8.out.trans u9)
    clear U8 u9
    go_wp2_with fail
    refine (h7.out w9 o9 c9 N g hN p9).mono ?_
    rintro e wA ⟨oA, cA, rfl, rA, -, uA⟩
    have UA := Lib.hid (U9.out.trans uA)
    have RB := Lib.hid (HB.out.kept UA.out)
    clear U9 uA p9
    rcases hs.out N g hN with ⟨rfl, e1, e2⟩ | rfl
    · rw [e1, e2]
      rw [e2] at rA
      have RA := Lib.hid rA
      clear rA e1 e2 hN
      generalize hS : strB B = S
      replace hS := Lib.hid hS
      go_wp2_with (first
        | (refine wpList_strB rfl 23 9 (.tmp 75) rfl 5 oA B.length cA B rfl rfl RA.out Try.underlying23 Try.underlying5 Try.underlying9 S hS.out ?_)
        | (refine wpList_strB rfl 23 9 (.tmp 77) rfl 5 bo B.length bcap B rfl rfl RB.out Try.underlying23 Try.underlying5 Try.underlying9 S hS.out ?_))
      go_ret
      exact ⟨rfl, UA.out⟩
    · clear rA hN
      generalize byE N = ye
      generalize byV N = Y
      go_wp2
      all_goals go_ret
      all_goals exact ⟨rfl, UA.out⟩
  · subst a1
    clear hq' h1 h2 h3 hml hmw
    generalize decide (M = L) = alike
    go_wp2_with fail
    refine (h5.out w7 (HB.out.kept U7.out)).mono ?_
    rintro e w9 ⟨o9, c9, N, g, rfl, hN, p9, u9⟩
    have U9 := Lib.hid (U7.out.trans u9)
    clear U7 u9
    go_wp2_with fail
    refine (h7.out w9 o9 c9 N g hN p9).mono ?_
    rintro e wA ⟨oA, cA, rfl, rA, -, uA⟩
    have UA := Lib.hid (U9.out.trans uA)
    have RB := Lib.hid (HB.out.kept UA.out)
    clear U9 uA p9
    rcases hs.out N g hN with ⟨rfl, e1, e2⟩ | rfl
    · rw [e1, e2]
      rw [e2] at rA
      have RA := Lib.hid rA
      clear rA e1 e2 hN
      generalize hS : strB B = S
      replace hS := Lib.hid hS
      go_wp2_with (first
        | (refine wpList_strB rfl 23 9 (.tmp 75) rfl 5 oA B.length cA B rfl rfl RA.out Try.underlying23 Try.underlying5 Try.underlying9 S hS.out ?_)
        | (refine wpList_strB rfl 23 9 (.tmp 77) rfl 5 bo B.length bcap B rfl rfl RB.out Try.underlying23 Try.underlying5 Try.underlying9 S hS.out ?_))
      go_ret
      exact ⟨rfl, UA.out⟩
    · clear rA hN
      generalize byE N = ye
      generalize byV N = Y
      go_wp2
      all_goals go_ret
      all_goals exact ⟨rfl, UA.out⟩
end Go.Proofs.Ytkclojinokkikaa

/-
  Package-level variables of integers and bools that a row lists: their cells, out of the row's condition. Over any program.
-/
namespace Go.Proofs.Ytkclojinokkikaa.Fr
open Go.ChangeShapes Go.WideShapes Go.ChangeAt Go.RowKit
mutual
/-- the cells of a datum made of integers and bools -/
def datCells : DataW Unit → List Value
  | .lit (.int k z) => [.int k z]
  | .lit (.bool b) => [.bool b]
  | .agg ps => datAll ps
  | _ => []
def datAll : List (DataW Unit) → List Value
  | [] => []
  | d :: r => datCells d ++ datAll r
end
/-- the variable's cells -/
def VarIs (w : World) (g : Nat) (cs : List Value) : Prop := ∀ j v, cs[j]? = some v → w.cell? ⟨g, j, none⟩ = some v
theorem datAll_rows (k : Nat) : ∀ (xs : List (DataW Unit × List MemPlace)) (cs : List Value), cs.length = xs.length * k → (∀ i (h : i < xs.length), (cs.drop (i * k)).take k = datCells (xs[i]).1) → cs = datAll (xs.map (·.1))
  | [], cs, hl, _ => by
    have : cs = [] := List.eq_nil_of_length_eq_zero (by simpa using hl)
    subst this
    rfl
  | x :: xs, cs, hl, h => by
    have hl' : cs.length = xs.length * k + k := by rw [hl, List.length_cons, Nat.succ_mul]
    have h0 := h 0 (by simp)
    rw [Nat.zero_mul, List.drop_zero] at h0
    rw [← List.take_append_drop k cs, h0]
    simp only [List.map_cons, datAll, List.getElem_cons_zero]
    congr 1
    refine datAll_rows k xs _ (by rw [List.length_drop]; omega) fun i hi => ?_
    have := h (i + 1) (by simpa using hi)
    rw [Nat.succ_mul] at this
    simpa [List.drop_drop, Nat.add_comm] using this
theorem datAll_fs {P : Program} {g : TypeId → Option (List (Option IntKind))} : ∀ (fs : List Field) (o : Nat) (ks : List (Option IntKind)) (cs : List Value) (xs : List (DataW Unit × List MemPlace)), flatFs P g fs o = some ks → cs.length = ks.length → xs.length = fs.length →
      (∀ (i : Nat) (f : Field) (x : DataW Unit × List MemPlace), fs[i]? = some f → xs[i]? = some x → (cs.drop (f.offset - o)).take (P.cellsOf f.type) = datCells x.1) → cs = datAll (xs.map (·.1))
  | [], o, ks, cs, xs, hk, hl, hx, _ => by
    simp only [flatFs, Option.some.injEq] at hk
    subst hk
    have e1 : cs = [] := List.eq_nil_of_length_eq_zero (by simpa using hl)
    have e2 : xs = [] := List.eq_nil_of_length_eq_zero (by simpa using hx)
    subst e1 e2
    rfl
  | f :: fs, o, ks, cs, [], hk, hl, hx, h => by simp at hx
  | f :: fs, o, ks, cs, x :: xs, hk, hl, hx, h => by
    simp only [flatFs] at hk
    split at hk
    · rename_i l r hgl hr
      split at hk
      · rename_i hc
        obtain ⟨ho, hll⟩ := hc
        simp only [Option.some.injEq] at hk
        subst hk
        rw [List.length_append] at hl
        have h0 := h 0 f x rfl rfl
        rw [ho, Nat.sub_self, List.drop_zero] at h0
        rw [← List.take_append_drop (P.cellsOf f.type) cs, h0]
        simp only [List.map_cons, datAll]
        congr 1
        refine datAll_fs fs _ r _ xs hr (by rw [List.length_drop]; omega) (by simpa using hx) fun i f' x' hi hi' => ?_
        have hy := h (i + 1) f' x' hi hi'
        have hge : o + P.cellsOf f.type ≤ f'.offset := flatFs_ge hr i f' hi
        rw [List.drop_drop, show P.cellsOf f.type + (f'.offset - (o + P.cellsOf f.type)) = f'.offset - o from by omega]
        exact hy
      · cases hk
    · cases hk
theorem cells_flat {P : Program} {w : World} {base : Nat} {spare : Nat → Bool} {held : Bool} : ∀ (d : Nat) (t : TypeId) (ks : List (Option IntKind)) (fuel : Nat) (cs : List Value) (x : DataW Unit × List MemPlace),
    flat P d t = some ks → DataW.trod (fun _ => ()) P w base spare held fuel t cs = some x → cs = datCells x.1
  | 0, _, _, _, _, _, h, _ => by simp [flat] at h
  | d + 1, t, ks, fuel, cs, x, h, ht => by
    have hlen0 := (okLeaves_of (d + 1) t ks fuel cs x h ht).1
    unfold flat at h
    split at h
    · rename_i k hu
      obtain ⟨z, rfl, rfl, hw⟩ := DataW.trod_int hu ht
      rfl
    · rename_i hu
      obtain ⟨b, rfl, rfl⟩ := DataW.trod_bool hu ht
      rfl
    · rename_i n e hu
      split at h
      · rename_i l hl
        split at h
        · rename_i hc
          obtain ⟨c1, c2⟩ := hc
          obtain ⟨xs, m, _, rfl, hlen, hxl, hrd⟩ := DataW.trod_array hu ht
          show cs = datAll (xs.map (·.1))
          refine datAll_rows (P.cellsOf e) xs cs (by rw [hlen, c2, hxl]) fun i hi => ?_
          have := hrd i (by omega)
          rw [List.getElem?_eq_getElem hi] at this
          exact cells_flat d e l m _ _ hl this
        · cases h
      · cases h
    · rename_i fs hu
      split at h
      · rename_i l hl
        split at h
        · rename_i hc
          simp only [Option.some.injEq] at h
          subst h
          obtain ⟨xs, m, _, rfl, hlen, hxl, hrd⟩ := DataW.trod_struct hu ht
          show cs = datAll (xs.map (·.1))
          refine datAll_fs fs.toList 0 l cs xs hl hlen0 (by rw [hxl]; simp) fun i f x hi hx => ?_
          have hi' : fs[i]? = some f := by simpa using hi
          have := hrd i f hi'
          rw [hx] at this
          rw [Nat.sub_zero]
          have hfl : ∃ l', flat P d f.type = some l' := by
            clear this hi' hx hrd hlen hxl hlen0 ht
            revert i hi
            generalize (0 : Nat) = o at hl
            generalize fs.toList = F at hl
            clear hc
            induction F generalizing o l with
            | nil => intro i hi; simp at hi
            | cons a r ih =>
              intro i hi
              simp only [flatFs] at hl
              split at hl
              · rename_i l1 r1 h1 h2
                cases i with
                | zero => simp only [List.getElem?_cons_zero, Option.some.injEq] at hi; subst hi; exact ⟨_, h1⟩
                | succ i => exact ih _ _ h2 i hi
              · cases hl
          obtain ⟨l', hl'⟩ := hfl
          exact cells_flat d f.type l' m _ _ hl' this
        · cases h
      · cases h
    · cases h
/-- a listed variable's cells -/
theorem varIs_of_vars {P : Program} {w : World} (D : Nat) : ∀ (l : List (String × DataW Unit)) (ps : List MemPlace), DataW.LaidVars P w l ps → ∀ (n : String) (d : DataW Unit), (n, d) ∈ l → ∀ (g : Nat) (t : TypeId) (ks : List (Option IntKind)),
    P.globalNamed n = some g → (P.globals[g]?).map (·.type) = some t → flat P D t = some ks → VarIs w g (datCells d)
  | [], _, _, n, d, hm, _, _, _, _, _, _ => by cases hm
  | (n0, d0) :: r, ps, h, n, d, hm, g, t, ks, hg, ht, hf => by
    obtain ⟨g0, t0, cs, fuel, p, q, hg0, ht0, hv, hd, hr, _⟩ := h
    rcases List.mem_cons.1 hm with e | hm'
    · cases e
      obtain rfl := Option.some.inj (hg.symm.trans hg0)
      obtain rfl := Option.some.inj (ht.symm.trans ht0)
      have e := cells_flat D t ks fuel cs.toList _ hf hd
      intro j v hj
      rw [World.var?_cell hg0 hv j, ← hj, ← e]
      simp
    · exact varIs_of_vars D r q hr n d hm' g t ks hg ht hf
theorem varIs_of_laid {P : Program} {w : World} {l : List (String × DataW Unit)} (D : Nat) (h : laidMet P l w) (n : String) (d : DataW Unit) (hm : (n, d) ∈ l) {g : Nat} {t : TypeId} {ks : List (Option IntKind)}
    (hg : P.globalNamed n = some g) (ht : (P.globals[g]?).map (·.type) = some t) (hf : flat P D t = some ks) : VarIs w g (datCells d) := by
  obtain ⟨ps, hl, _⟩ := h
  exact varIs_of_vars D l ps hl n d hm g t ks hg ht hf
end Go.Proofs.Ytkclojinokkikaa.Fr

/-
  The law ImageCut, over what Right, Bytes and Read answer.
-/
namespace Go.Proofs.Ytkclojinokkikaa
open Go.ChangeShapes Go.WideShapes Go.ChangeAt Go.RowKit

theorem RowIn.take {w : World} {b off n cap : Nat} {C : List Int} {k : IntKind} (h : RowIn k w (.slice (some ⟨b, off, none⟩) n cap) C) (hn : C.length = n) (m : Nat) (hm : m ≤ n) (c : Nat) : RowIn k w (.slice (some ⟨b, off, none⟩) m c) (C.take m) := fun h0 => by
  rw [List.length_take] at h0
  obtain ⟨b', off', e, hb, hc⟩ := h.at' hn 0 (by omega)
  simp only [Option.some.injEq, Addr.mk.injEq, and_true] at e
  obtain ⟨rfl, rfl⟩ := e
  have hl : (C.take m).length = m := by rw [List.length_take]; omega
  refine ⟨.inr ⟨b, off, c, by rw [hl], by simp [ints], fun j u hj => ?_⟩, fun d hd => ?_⟩
  · have hj' : j < m := by
      have := (List.getElem?_eq_some_iff.1 hj).1
      rw [ints, List.length_map, hl] at this
      exact this
    rw [ints_getElem? k _ _ (by rw [hl]; exact hj')] at hj
    simp only [Option.some.injEq] at hj
    subst hj
    rw [List.getD_eq_getElem?_getD, List.getElem?_take, if_pos hj', ← List.getD_eq_getElem?_getD]
    exact hc j (by omega)
  · simp only [Value.ownBlock, Option.some.injEq] at hd
    exact hd ▸ hb
theorem made_own (w : World) (e : TypeId) (sz : Nat) : (w.alloc (.cells #[] e)).ownsRow w.heap.size e sz (.slice (some ⟨w.heap.size, 0, none⟩) 0 0) 0 [] :=
  ⟨by simp, .inr ⟨w.heap.size, 0, #[], rfl, Nat.le_refl _, heap_alloc_last w _, Nat.le_refl _, Nat.zero_le _, by simp, by simp⟩⟩
theorem made_upd {wr w4 : World} {e : TypeId} (g4 : (wr.alloc (.cells #[] e)).grownBy w4 (Value.slice (some ⟨wr.heap.size, 0, none⟩) 0 0).ownBlock) : Upd (fun _ => False) wr w4 := by
  refine ⟨g4.os, g4.tape, g4.output, by have := g4.size; simp at this; omega, fun k hk _ => ?_⟩
  rw [g4.block k (by simp; omega) (fun e' => by simp [Value.ownBlock] at e'; omega)]
  exact Below.heap_alloc _ _ _ hk
theorem ints_one' (X : List Int) : ∀ u ∈ ints .u8 X, u.oneCell' = true := fun u hu => by
  obtain ⟨z, _, rfl⟩ := List.mem_map.1 hu
  rfl
set_option maxRecDepth 100000 in
set_option maxHeartbeats 8000000 in
theorem cut_any (iT : IRight) (iB : IBytes) (iR : IRead) (ao : Option Addr) (cap : Nat) (L : List Pt) (z : Int) (w : World) (hL : PartsIn w ao L) (hg : PgIn L) (hi : PIn L) (hn : L.length ≤ 9223372036854775807) (hz : -9223372036854775808 ≤ z ∧ z < 9223372036854775808) :
    Calls Try.prog 5 #[.slice ao L.length cap, .int .i64 z] w fun e w' => e = .returned (.bool true) ∧ Upd (fun _ => False) w w' := by
  have hA := Lib.hid (fun W => iawake_any iR W)
  have HL := Lib.hid hL
  have hLi := Lib.hid (fun W (h : PartsIn W ao L) => light_any ao cap L W h hn)
  have h1 := Lib.hid (fun W (h : PartsIn W ao L) => iB W ao cap L h hg hi hn)
  have h8 := Lib.hid (fun W (h : PartsIn W ao L) => iT W ao cap L h hg hi hn)
  have hx1 := Lib.hid (byV_in L)
  have hx2 := byV_len L
  have HR := Lib.hid iR
  by_cases hr : rightB L = true
  case neg =>
    have hr' : rightB L = false := by simpa using hr
    have e1 : byE L = 1 := by unfold byE; rw [if_neg hr]
    rw [hr'] at h8
    rw [e1] at h1
    generalize byV L = X at h1 hx1 hx2
    generalize lightB L = li at hLi
    clear iT iB iR hg hi hL hr hr' e1
    go_enter Try.func5, Try.ntmps5
    go_wp2_with fail
    refine (hA.out w).mono ?_
    rintro e w1 ⟨rfl, u1⟩
    have U1 := Lib.hid u1
    go_wp2_with fail
    refine (hLi.out w1 (HL.out.kept u1)).mono ?_
    rintro e w2 ⟨rfl, rfl⟩
    clear u1
    go_wp2_with fail
    refine (h1.out w2 (HL.out.kept U1.out)).mono ?_
    rintro e w3 ⟨o3, c3, rfl, r3, hc3, u3⟩
    have U3 := Lib.hid (U1.out.trans u3)
    clear u3 U1 r3 hc3
    cases li
    · go_wp2
      go_ret
      exact ⟨rfl, U3.out⟩
    · go_wp2_with fail
      refine (h8.out w3 (HL.out.kept U3.out)).mono ?_
      rintro e w4 ⟨rfl, u4⟩
      have U4 := Lib.hid (U3.out.trans u4)
      clear u4 U3
      go_wp2
      go_ret
      exact ⟨rfl, U4.out⟩
  have e1 : byE L = 0 := by unfold byE; rw [if_pos hr]
  have e2 : byV L = ibytes L := by unfold byV; rw [if_pos hr]
  have hpos : 0 < (ibytes L).length := by unfold ibytes; simp
  have hk := Lib.hid (fun k (h : k < (ibytes L).length) => show RdP ((ibytes L).take k) [] 11 from .inr ⟨rfl, rfl, fun M hM => cut_no ⟨hr, hi⟩ h hM⟩)
  have hmore := Lib.hid (show RdP (ibytes L ++ [0]) [] 11 from .inr ⟨rfl, rfl, fun M hM => more_no ⟨hr, hi⟩ hM⟩)
  rw [hr] at h8
  rw [e1, e2] at h1
  rw [e2] at hx1 hx2
  generalize ibytes L = X at h1 hx1 hx2 hpos hk hmore
  clear iT iB iR hg hi hL hr e1 e2
  go_enter Try.func5, Try.ntmps5
  go_wp2_with fail
  refine (hA.out w).mono ?_
  rintro e w1 ⟨rfl, u1⟩
  have U1 := Lib.hid u1
  go_wp2_with fail
  refine (hLi.out w1 (HL.out.kept u1)).mono ?_
  rintro e w2 ⟨rfl, rfl⟩
  clear u1
  generalize lightB L = li
  go_wp2_with fail
  refine (h1.out w2 (HL.out.kept U1.out)).mono ?_
  rintro e w3 ⟨o3, c3, rfl, r3, hc3, u3⟩
  have U3 := Lib.hid (U1.out.trans u3)
  have R3 := Lib.hid r3
  clear u3 U1 r3
  cases li
  · go_wp2
    go_ret
    exact ⟨rfl, U3.out⟩
  by_cases hz0 : z < 0
  · go_wp2_with fail
    refine (h8.out w3 (HL.out.kept U3.out)).mono ?_
    rintro e w4 ⟨rfl, u4⟩
    have U4 := Lib.hid (U3.out.trans u4)
    clear u4 U3
    go_wp2
    go_ret
    exact ⟨rfl, U4.out⟩
  generalize hl : X.length = n at hpos R3 hc3 hx2 hk
  obtain ⟨b, off, rfl, hbb, hcell⟩ := RowIn.at' R3.out hl 0 hpos
  obtain ⟨zn, rfl⟩ : ∃ zn : Nat, z = (zn : Int) := ⟨z.toNat, by omega⟩
  have hne : ¬ n = 0 := by omega
  have hne2 : ¬ (n : Int) = 0 := by omega
  have hmod : (zn : Int).tmod (n : Int) = ((zn % n : Nat) : Int) := by
    rw [Int.tmod_eq_emod_of_nonneg (by omega)]
    rfl
  have hlt := Nat.mod_lt zn hpos
  have hwr : IntKind.i64.wrap ((zn % n : Nat) : Int) = ((zn % n : Nat) : Int) := IntWalk.i64_in _ (by omega)
  have hneb : ((n : Int) == 0) = false := by simpa using hne2
  have hzb : ¬ (zn : Int) < 0 := by omega
  go_upto_region 6 with fail
  generalize hq : zn % n = q at hmod hlt hwr
  have hk0 : (0 : Int) ≤ (q : Int) := by omega
  have hkc : (q : Int) ≤ (c3 : Int) := by omega
  go_wp2_with fail
  have htl : (X.take q).length = q := by rw [List.length_take, hl]; omega
  have hrd := HR.out w3 (some ⟨b, off, none⟩) c3 (X.take q) (by rw [htl]; exact R3.out.take hl q (by omega) c3) (fun x hx => hx1.out x (List.mem_of_mem_take hx)) (by rw [htl]; omega) (by rw [htl]; omega)
  rw [htl] at hrd
  refine hrd.mono ?_
  rintro e w4 ⟨o4, c4, M, er, rfl, hm, -, u4⟩
  obtain ⟨rfl, rfl⟩ := hm.uniq (hk.out q hlt)
  have U4 := Lib.hid (U3.out.trans u4)
  have R4 := Lib.hid (R3.out.kept u4)
  clear hrd hm u4 R3 U3 hcell
  obtain ⟨i0, hi0, hz0, hz1, hz2⟩ := info_parts info_u8
  have own0 := Lib.hid (made_own w4 5 1)
  have u5 : Upd (fun _ => False) w4 (w4.alloc (.cells #[] 5)) := (Upd.refl _ _).alloc _
  have hnews : Hid (∀ j u, (ints .u8 X)[j]? = some u → (w4.alloc (.cells #[] 5)).cell? ((⟨b, off, none⟩ : Addr).add j) = some u) := Lib.hid (fun j u hj => by
    have hj' : j < n := by
      have := (List.getElem?_eq_some_iff.1 hj).1
      simpa [ints, hl] using this
    obtain ⟨b', off', e, hb, hc⟩ := (R4.out.kept u5).at' hl 0 hpos
    simp only [Option.some.injEq, Addr.mk.injEq, and_true] at e
    obtain ⟨rfl, rfl⟩ := e
    rw [ints_getElem? .u8 _ _ (by rw [hl]; exact hj')] at hj
    simp only [Option.some.injEq] at hj
    subst hj
    rw [add_mid0]
    exact hc j hj')
  have hil : (ints .u8 X).length = n * 1 := by simp [ints, hl]
  clear u5
  rw [List.length_nil]
  go_wp2_with (first
    | (at_builtin; refine wpList_append_own _ rfl (.tmp 59) (.tmp 60) 23 rfl w4.heap.size 5 i0 (.int .u8 0) 1 1 Try.underlying23 hi0 hz0 hz1 hz2 rfl (by decide) _ _ _ rfl own0.out ⟨b, off, none⟩ n c3 (ints .u8 X) rfl hil hnews.out (ints_one' X) (by simp [maxLen]; omega) (by omega) (by simp) ?_; intro v' w5 hown' hgrow _; rw [Nat.zero_add, List.nil_append] at hown'; have u5 := Lib.hid (made_upd hgrow); have r5 := Lib.hid hown'; obtain ⟨o5, c5, rfl⟩ := rows_slice hown'; clear hgrow hown')
    | (at_builtin; refine wpList_append_own _ rfl (.tmp 61) (.tmp 62) 23 rfl w4.heap.size 5 i0 (.int .u8 0) 1 1 Try.underlying23 hi0 hz0 hz1 hz2 rfl (by decide) _ _ _ rfl (rows_still r5.out ((Upd.refl _ _).alloc _)) ⟨w5.heap.size, 0, none⟩ 1 1 [.int .u8 0] rfl rfl (rows_src _ _ _) (by simp [Value.oneCell']) (by simp [maxLen]; omega) (by omega) (by have := u5.out.size; simp; omega) ?_; intro v' w6 hown' hgrow _; have u6 := Lib.hid (rows_grown r5.out hgrow u5.out (Nat.le_refl _)); have r6 := Lib.hid hown'; obtain ⟨o6, c6, rfl⟩ := rows_slice hown'; clear hgrow hown'))
  have hlen : (X ++ [0]).length = n + 1 := by rw [List.length_append, hl]; simp
  have row : w6.ownsRow w4.heap.size 5 1 (.slice o6 (X ++ [0]).length c6) (X ++ [0]).length (ints .u8 (X ++ [0])) := by
    rw [hlen]
    rw [ints, List.map_append]
    exact r6.out
  have hrd := HR.out w6 o6 c6 (X ++ [0]) (RowIn.of_row row) (fun x hx => by
    rcases List.mem_append.1 hx with h | h
    · exact hx1.out x h
    · simp only [List.mem_singleton] at h; omega) (by rw [hlen]; omega) (img_cap row)
  rw [hlen] at hrd
  refine hrd.mono ?_
  rintro e w7 ⟨o7, c7, M, er, rfl, hm, -, u7⟩
  obtain ⟨rfl, rfl⟩ := hm.uniq hmore.out
  have U7 := Lib.hid ((U4.out.trans u6.out).trans u7)
  clear hrd row r6 r5 u6 u5 u7 hm
  go_wp2
  go_ret
  exact ⟨rfl, U7.out⟩
end Go.Proofs.Ytkclojinokkikaa
