/-
  The document's own allocator: Free.
-/
import Derived.Test.YtmobhojblclmjaaBuU
import Derived.Deep.RegionLaw
namespace Go.Proofs.Ytmobhojblclmjaa
open Go.ChangeShapes Go.WideShapes Go.ChangeAt Go.RowKit

theorem erase_at (l : List (Nat × Nat)) (x : Nat × Nat) : ∀ i, i < l.length → (∀ j, j < i → l.getD j (0, 0) ≠ x) → l.getD i (0, 0) = x → l.erase x = l.take i ++ l.drop (i + 1) := by
  induction l with
  | nil => intro i hi; simp at hi
  | cons y r ih =>
    intro i hi hno hx
    cases i with
    | zero =>
      have : y = x := hx
      subst this
      simp
    | succ i =>
      have h0 : y ≠ x := hno 0 (by omega)
      rw [List.erase_cons_tail (by simpa using h0), ih i (by simpa using hi) (fun j hj => hno (j + 1) (by omega)) hx]
      simp
/-- which of the given blocks are it? -/
def isB (x : Nat × Nat) (f o : Int) : Bool := decide ((x.1 : Int) = f ∧ (x.2 : Int) = o)

/-- given back from f up to i -/
def addTo (F : Nat → Bool) (f i : Nat) : Nat → Bool := fun j => F j || (decide (f ≤ j) && decide (j < i))
theorem addTo_start (F : Nat → Bool) (f : Nat) : addTo F f f = F := by
  funext j
  unfold addTo
  rw [show (decide (f ≤ j) && decide (j < f)) = false from by simp]
  simp
theorem addTo_step (n : Nat) (F : Nat → Bool) (f i : Nat) (h : f ≤ i) : fcells n (updF (addTo F f i) i true) = fcells n (addTo F f (i + 1)) := fcells_congr fun j _ => by
  unfold updF addTo
  by_cases e : j = i
  · rw [if_pos e, e]; simp [h]
  · rw [if_neg e]
    by_cases h2 : j < i
    · simp [h2, Nat.lt_succ_of_lt h2]
    · simp [h2, show ¬ j < i + 1 from by omega]
/-! parts of a slice of blocks -/
theorem size_rblock : (Try.prog.info? 47).map (·.size) = some 2 := by kernel_rfl
theorem run_size_rblock (w : World) : (sizeOf (Try.prog.elem 43)).run Try.prog w = .ok 2 w := by kernel_rfl
theorem bcells_take (l : List (Nat × Nat)) (i : Nat) : (bcells l).take (i * 2) = bcells (l.take i) := by
  induction l generalizing i with
  | nil => simp [bcells]
  | cons x r ih =>
    cases i with
    | zero => simp [bcells]
    | succ i =>
      rw [show x :: r = [x] ++ r from rfl, bcells_app, show (i + 1) * 2 = i * 2 + 2 from by omega, List.take_append]
      have e : (bcells [x]).length = 2 := rfl
      rw [e, List.take_of_length_le (by rw [e]; omega), show i * 2 + 2 - 2 = i * 2 from by omega, ih]
      simp [bcells]
theorem bcells_drop (l : List (Nat × Nat)) (i : Nat) : (bcells l).drop (i * 2) = bcells (l.drop i) := by
  induction l generalizing i with
  | nil => simp [bcells]
  | cons x r ih =>
    cases i with
    | zero => simp
    | succ i =>
      rw [show x :: r = [x] ++ r from rfl, bcells_app, show (i + 1) * 2 = i * 2 + 2 from by omega, List.drop_append]
      have e : (bcells [x]).length = 2 := rfl
      rw [e, List.drop_eq_nil_of_le (by rw [e]; omega), show i * 2 + 2 - 2 = i * 2 from by omega, ih]
      simp
-- s[:i]
set_option maxRecDepth 100000 in
theorem slice_to (o : Option Addr) (ln cap i : Nat) (h1 : i ≤ cap) : ∃ y, (∀ w : World, (Instr.sliceAt 43 (.slice o ln cap) none (some (.int .i64 (i : Int))) none).run Try.prog w = .ok y w) ∧
    ∀ (w : World) (l : List (Nat × Nat)), Src w (.slice o ln cap) ln 2 (bcells l) → i ≤ l.length → l.length = ln → Src w y i 2 (bcells (l.take i)) := by
  refine ⟨.slice (if cap = 0 then o else o.map (·.add (0 * 2))) (i - 0) (cap - 0), fun w => ?_, fun w l hs hi hl => ?_⟩
  · rw [run_sliceAt_slice w _ _ _ _ _ Try.underlying43, run_slice_h w _ _ _ _ Try.underlying43 _ _ (by omega) (by omega), run_size_rblock]
    simp [sliced]
  · rcases hs with ⟨h, rfl, h3⟩ | ⟨b, off, c, h, h2, h3⟩
    · simp at h
      obtain ⟨rfl, rfl⟩ := h
      have : i = 0 := by omega
      subst this
      exact .inl ⟨by simp, rfl, by simp [bcells]⟩
    · simp at h
      obtain ⟨rfl, rfl⟩ := h
      refine .inr ⟨b, off, cap, by simp [Option.map, add_mid0], by rw [bcells_length, List.length_take]; omega, fun j u hu => h3 j u ?_⟩
      rw [← bcells_take, List.getElem?_take] at hu
      split at hu
      · exact hu
      · cases hu
-- s[i:]
set_option maxRecDepth 100000 in
theorem slice_from (o : Option Addr) (ln cap i : Nat) (h1 : i ≤ ln) (h2 : ln ≤ cap) : ∃ y, (∀ w : World, (Instr.sliceAt 43 (.slice o ln cap) (some (.int .i64 (i : Int))) none none).run Try.prog w = .ok y w) ∧
    ∀ (w : World) (l : List (Nat × Nat)), Src w (.slice o ln cap) ln 2 (bcells l) → l.length = ln → Src w y (ln - i) 2 (bcells (l.drop i)) := by
  refine ⟨.slice (if cap = i then o else o.map (·.add (i * 2))) (ln - i) (cap - i), fun w => ?_, fun w l hs hl => ?_⟩
  · rw [run_sliceAt_slice w _ _ _ _ _ Try.underlying43, run_slice_l w _ _ _ _ Try.underlying43 _ _ (by omega) (by omega), run_size_rblock]
    simp [sliced]
  · rcases hs with ⟨h, rfl, h3⟩ | ⟨b, off, c, h, h4, h3⟩
    · simp at h
      obtain ⟨rfl, rfl⟩ := h
      have : i = 0 := by omega
      subst this
      exact .inl ⟨by simp, rfl, by simp; exact h3⟩
    · simp at h
      obtain ⟨rfl, rfl⟩ := h
      by_cases hci : cap = i
      · have hz : ln - i = 0 := by omega
        have hd : l.drop i = [] := List.drop_eq_nil_of_le (by omega)
        refine .inr ⟨b, off, cap - i, by simp [hci], by rw [hd, hz]; rfl, fun j u hu => ?_⟩
        rw [hd] at hu
        simp [bcells] at hu
      · refine .inr ⟨b, off + i * 2, cap - i, by simp [hci, add_mid0], by rw [bcells_length, List.length_drop]; omega, fun j u hu => ?_⟩
        rw [Nat.add_assoc]
        refine h3 (i * 2 + j) u ?_
        rw [← bcells_drop, List.getElem?_drop] at hu
        exact hu


theorem row_cap {w : World} {base sz k n cap : Nat} {e : TypeId} {o : Option Addr} {xs : List Value} (h : w.ownsRow base e sz (.slice o n cap) k xs) : k ≤ cap := by
  rcases h.2 with ⟨h1, h2⟩ | ⟨g, cap', cur, h1, _, _, h3, _⟩
  · omega
  · simp at h1; omega
/-- onto a new empty slice: nothing that was there has turned -/
theorem app_upd {wr w4 : World} {e : TypeId} (g4 : ((wr.alloc (.cells #[] e)).drew).grownBy w4 (Value.slice (some ⟨wr.heap.size, 0, none⟩) 0 0).ownBlock) : Upd (fun _ => False) wr w4 := by
  refine ⟨g4.os, g4.tape, g4.output, by have := g4.size; simp at this; omega, fun k hk _ => ?_⟩
  rw [g4.block k (by simp; omega) (fun e' => by simp [Value.ownBlock] at e'; omega)]
  exact Below.heap_alloc _ _ _ hk
theorem app_upd2 {wr w4 w5 : World} {v : Value} (u : Upd (fun _ => False) wr w4) (g5 : w4.grownBy w5 v.ownBlock) (h4 : ∀ k, v.ownBlock = some k → wr.heap.size ≤ k) : Upd (fun _ => False) wr w5 :=
  ⟨g5.os.trans u.os, g5.tape.trans u.tape, g5.output.trans u.output, Nat.le_trans u.size g5.size, fun k hk _ => (g5.block k (Nat.lt_of_lt_of_le hk u.size) (fun e' => by have := h4 k e'.symm; omega)).trans (u.block k hk (fun h => h))⟩
set_option maxRecDepth 100000 in
set_option maxHeartbeats 4000000 in
theorem rFree_any (C MP FB : Nat) (g : Value) (b : Bud) (m : Mem) (f o : Int) (w : World) (h : RBud w C MP FB g b) (hm : RefAt w MP m) (hn : m.n = b.n) :
    Calls Try.prog 18 #[.pointer (some ⟨C, 0, none⟩), .int .i64 f, .int .i64 o] w fun e w' =>
      ((∀ x, x ∈ b.gave → isB x f o = false) ∧ e = .returned (.int .i64 2) ∧ w = w') ∨
      (∃ x g', x ∈ b.gave ∧ (x.1 : Int) = f ∧ (x.2 : Int) = o ∧ e = .returned (.int .i64 0) ∧ RBud w' C MP FB g' (b.take x) ∧ RefAt w' MP (m.scrub f ((2 ^ x.2 : Nat) : Int)) ∧ Upd (fun k => k = C ∨ k = FB ∨ k = m.B) w w' ∧ ∀ k, g'.ownBlock = some k → w.heap.size ≤ k) := by
  have hr := brow_of h.gv
  have hgl := h.ok.gave_len
  have hc2 := h.c2
  obtain ⟨og, capg, rfl, hc⟩ := hr
  obtain ⟨ln, hln⟩ : ∃ ln, b.gave.length = ln := ⟨_, rfl⟩
  rw [hln] at hc hgl hc2
  have HLn := Lib.hid hln
  clear hln
  go_enter Try.func18, Try.ntmps18
  go_wp2
  go_loop [7] (fun t => ∃ i : Nat, i ≤ ln ∧ t = .int .i64 i ∧ Hid (∀ j, j < i → isB (b.gave.getD j (0, 0)) f o = false)) (fun t => ln - (intOf t).toNat)
  case atStart => exact ⟨0, by omega, rfl, Lib.hid fun j hj => by omega⟩
  case round =>
    obtain ⟨i, hi, rfl, hno⟩ := hrel
    by_cases hlt : i < ln
    · obtain ⟨gb, rfl, c0, c1⟩ := hc i hlt
      have hin : (i : Int) < (ln : Int) := by omega
      obtain ⟨x, hx⟩ : ∃ x, b.gave.getD i (0, 0) = x := ⟨_, rfl⟩
      rw [hx] at c0 c1
      by_cases hq : (x.1 : Int) = f ∧ (x.2 : Int) = o
      · obtain ⟨rfl, rfl⟩ := hq
        have hgv := h.gv
        rw [HLn.out] at hgv
        have hcap : ln ≤ capg := row_cap hgv
        have hdr : ((w.alloc (.cells #[] 47)).drew).ownsRow 0 47 2 (.slice (some ⟨gb, 0, none⟩) ln capg) ln (bcells b.gave) := (hgv.alloc _)
        have hmade : ((w.alloc (.cells #[] 47)).drew).ownsRow w.heap.size 47 2 (.slice (some ⟨w.heap.size, 0, none⟩) 0 0) 0 [] := World.ownsRow_made w #[] 0 (Nat.le_refl _) (by decide) rfl
        have hda : ((w.alloc (.cells #[] 47)).drew).cell? ⟨C, 2, none⟩ = some (.slice (some ⟨gb, 0, none⟩) ln capg) := by
          have := ((Upd.refl (fun _ => False) w).alloc (.cells #[] 47)).cell hc2 (fun h => h)
          simpa using this
        have hd : w.drew.cell? ⟨C, 2, none⟩ = some (.slice (some ⟨gb, 0, none⟩) ln capg) := by simpa using hc2
        obtain ⟨y1, hy1, hs1⟩ := slice_to (some ⟨gb, 0, none⟩) ln capg i (by omega)
        obtain ⟨y2, hy2, hs2⟩ := slice_from (some ⟨gb, 0, none⟩) ln capg (i + 1) (by omega) hcap
        have Hs1 := Lib.hid hs1
        have Hs2 := Lib.hid hs2
        have hy2' : ∀ w : World, (Instr.sliceAt 43 (.slice (some ⟨gb, 0, none⟩) ln capg) (some (.int .i64 ((i : Int) + 1))) none none).run Try.prog w = .ok y2 w := hy2
        have hw1 : IntKind.i64.wrap ((i : Int) + 1) = i + 1 := IntWalk.i64_in _ (by omega)
        obtain ⟨i0, hi0, hz0, hz1, hz2⟩ := info_parts info_rblock
        have hil : b.gave.length = ln := HLn.out
        clear hs1 hs2 hy2 hc
        go_upto_region 5 with fail
        go_cut [45] (fun _ wx => ∃ (og5 : Option Addr) (cap5 : Nat) (w5 : World), Upd (fun _ => False) w w5 ∧ w5.ownsRow w.heap.size 47 2 (.slice og5 (i + (ln - (i + 1))) cap5) (i + (ln - (i + 1))) (bcells (b.gave.take i ++ b.gave.drop (i + 1))) ∧ wx = w5.setCell ⟨C, 2, none⟩ (.slice og5 (i + (ln - (i + 1))) cap5))
        case first =>
          go_region_law (first
            | (refine step_append_src _ (by rfl) (.tmp 30) (.tmp 36) 43 (by rfl) w.heap.size 47 i0 (.agg #[.int .i64 0, .int .i64 0]) 2 16 Try.underlying43 hi0 hz0 hz1 hz2 rfl (by decide) (.slice (some ⟨w.heap.size, 0, none⟩) 0 0) 0 [] (by rfl) hmade y1 i (bcells (b.gave.take i)) (by rfl) (Hs1.out _ _ (Src.of_row hdr) (by omega) hil) (bcells_one _) (by simp [maxLen]; omega) (by omega) (by simp) ?_; intro v4 w4 own4 grow4; rw [Nat.zero_add, List.nil_append] at own4; obtain ⟨og4, cap4, rfl⟩ := slice2 own4; have u4 := app_upd grow4; have k4 := u4.cell hc2 (fun h => h))
            | (refine step_append_src _ (by rfl) (.tmp 37) (.tmp 44) 43 (by rfl) w.heap.size 47 i0 (.agg #[.int .i64 0, .int .i64 0]) 2 16 Try.underlying43 hi0 hz0 hz1 hz2 rfl (by decide) (.slice og4 i cap4) i (bcells (b.gave.take i)) (by rfl) own4 y2 (ln - (i + 1)) (bcells (b.gave.drop (i + 1))) (by rfl) (Hs2.out _ _ (Src.of_row (row_kept hgv u4 (fun _ _ h => h))) hil) (bcells_one _) (by simp [maxLen]; omega) (by omega) (by have := u4.size; omega) ?_; intro v5 w5 own5 grow5; rw [← bcells_app] at own5; obtain ⟨og5, cap5, rfl⟩ := slice2 own5; have u5 := app_upd2 u4 grow5 (fun k hk => (own4.lt k hk).1); have k5 := u5.cell hc2 (fun h => h); have hf5 := frozen_block (u5.at h.head (fun h => h)) 2))
          all_goals (go_wp2_with fail)
          all_goals go_meet
          all_goals exact ⟨og5, cap5, w5, u5, own5, rfl⟩
        case rest =>
          obtain ⟨og5, cap5, w5, u5, own5, rfl⟩ := hcut
          have hxm : x ∈ b.gave := by rw [← hx, List.getD_eq_getElem?_getD, List.getElem?_eq_getElem (by omega)]; exact List.getElem_mem _
          have her := erase_at b.gave x i (by omega) (fun j hj e => by
            have := hno.out j hj
            rw [e] at this
            simp [isB] at this) hx
          rw [← her] at own5
          have hlen : i + (ln - (i + 1)) = (b.take x).gave.length := by
            show _ = (b.gave.erase x).length
            rw [her, List.length_append, List.length_take, List.length_drop]
            omega
          rw [hlen] at own5 ⊢
          obtain ⟨x8, xal, xres, xle⟩ := h.ok.blk x hxm
          have uS : Upd (· = C) w5 (w5.setCell ⟨C, 2, none⟩ (.slice og5 (b.take x).gave.length cap5)) := (Upd.refl (· = C) w5).setCell (.inl rfl) _
          have hCl := lt_of_heap h.head
          have hrow := row_kept (row_base own5 (Nat.zero_le _)) uS (fun k hk e => by have := (own5.lt k hk).1; omega)
          have hown := own5.lt
          have hCF := h.neCF
          have hfr6 := uS.at (u5.at h.fr (fun h => h)) (fun e => hCF e.symm)
          have hh6 : (w5.setCell ⟨C, 2, none⟩ (.slice og5 (b.take x).gave.length cap5)).heap[C]? = some (.cells #[.pointer (some ⟨MP, 0, none⟩), .slice (some ⟨FB, 0, none⟩) b.n b.n, .slice og5 (b.take x).gave.length cap5] 45 (0, 0)) := heap_setCell_same (C := [.pointer (some ⟨MP, 0, none⟩), .slice (some ⟨FB, 0, none⟩) b.n b.n, .slice (some ⟨gb, 0, none⟩) b.gave.length capg]) (u5.at h.head (fun h => h)) 2 _
          have hMC : MP ≠ C ∧ m.B ≠ C := ⟨fun e => by have h1 := hm.head; rw [e, h.head] at h1; simp at h1, fun e => by have h1 := hm.body; rw [e, h.head] at h1; simp at h1⟩
          have hMF : MP ≠ FB ∧ m.B ≠ FB := ⟨fun e => by have h1 := hm.head; rw [e, h.fr] at h1; simp at h1, fun e => by have h1 := hm.body; rw [e, h.fr] at h1; simp at h1⟩
          have hm6 := (hm.kept u5 (fun h => h) (fun h => h)).kept uS hMC.1 hMC.2
          have U6 : Upd (fun k => k = C ∨ k = FB ∨ k = m.B) w (w5.setCell ⟨C, 2, none⟩ (.slice og5 (b.take x).gave.length cap5)) := (u5.mono (fun _ _ h => h.elim)).trans (uS.mono (fun _ _ h => .inl h))
          generalize w5.setCell ⟨C, 2, none⟩ (.slice og5 (b.take x).gave.length cap5) = W6 at hrow hfr6 hh6 hm6 U6 ⊢
          clear uS u5 own5
          obtain ⟨f, hf⟩ : ∃ f, x.1 = f := ⟨_, rfl⟩
          obtain ⟨o, ho⟩ : ∃ o, x.2 = o := ⟨_, rfl⟩
          have hxe : x = (f, o) := by rw [← hf, ← ho]
          rw [hf] at xal xres xle
          rw [ho] at x8 xal xle
          have hc0 : W6.cell? ⟨C, 0, none⟩ = some (.pointer (some ⟨MP, 0, none⟩)) := by rw [cell_of_row W6 C 0 _ _ _ hh6]; rfl
          have hd0 : W6.drew.cell? ⟨C, 0, none⟩ = some (.pointer (some ⟨MP, 0, none⟩)) := by simpa using hc0
          have hpow := fun wx => rpower_any o wx x8
          have hbd := pw_bd o x8
          have hpw := Lib.hid (show pw o = ((2 ^ o : Nat) : Int) from rfl)
          have hmd : RefAt W6.drew MP m := hm6.kept ((Upd.refl (fun _ => False) W6).drew) (fun h => h) (fun h => h)
          have hbn := h.ok.hi
          have hxle : (f : Int) + pw o ≤ (b.n : Int) := by have := hpw.out; omega
          rw [hf, ho]
          generalize pw o = po at hpow hbd hpw hxle
          go_upto_region 6 with fail
          go_region_held3 (fun w' => w'.cell? ⟨C, 0, none⟩ = some (.pointer (some ⟨MP, 0, none⟩)))
            (first
              | exact hc0
              | exact hd0
              | exact k8)
            (first
              | (go_at_call 33; refine (hpow _).mono ?_; rintro z w7 ⟨rfl, rfl⟩)
              | (go_at_call 35; refine (rScrub_any MP m f po _ hmd).mono ?_; rintro z w8 ⟨rfl, hm8, U8⟩; have k8 := U8.cell hd0 (fun e => hMC.2 e.symm)))
          have hW6d : W6.drew.heap[C]? = _ := hh6
          have hF6d : W6.drew.heap[FB]? = _ := hfr6
          have hh8 := U8.at hW6d (fun e => hMC.2 e.symm)
          have hfr8 := Lib.hid (U8.at hF6d (fun e => hMF.2 e.symm))
          have hr6 : W6.drew.ownsRow 0 47 2 (.slice og5 (b.take x).gave.length cap5) (b.take x).gave.length (bcells (b.gave.erase x)) := hrow
          have hr8 := row_kept hr6 U8 (ty_ne hr6 (show W6.drew.heap[m.B]? = _ from hm6.body) (by decide))
          have U9 : Upd (fun k => k = C ∨ k = FB ∨ k = m.B) w w8 := U6.trans (((Upd.refl _ W6).drew).trans (U8.mono (fun _ _ h => .inr (.inr h))))
          have c18 : w8.cell? ⟨C, 1, none⟩ = some (.slice (some ⟨FB, 0, none⟩) b.n b.n) := by rw [cell_of_row w8 C 1 _ _ _ hh8]; rfl
          have hgF8 := ty_ne hr8 hfr8.out (by decide)
          have hMw : (m.scrub f po).B = m.B := Mem.scrub_B _ _ _
          clear U8 hr6 hF6d hW6d hrow hfr6 hh6 hm6 U6 hc0 hd0 k8 hmd
          go_wp2_with fail
          go_loopw [8] (fun t wr => ∃ j : Nat, f ≤ j ∧ (j : Int) ≤ f + po ∧ t = .int .i64 j ∧ Upd (· = FB) w8 wr ∧ Hid (wr.heap[FB]? = some (.cells (fcells b.n (addTo b.F f j)).toArray 4 (0, 0)))) (fun t _ => 256 - (intOf t).toNat)
          case atStart => exact ⟨f, Nat.le_refl _, by omega, rfl, Upd.refl _ _, Lib.hid (by rw [addTo_start]; exact hfr8.out)⟩
          case round =>
            obtain ⟨j, j1, j2, rfl, U, hF⟩ := hrel
            have hc1 : wr.cell? ⟨C, 1, none⟩ = some (.slice (some ⟨FB, 0, none⟩) b.n b.n) := U.cell c18 hCF
            by_cases hlj : (j : Int) < f + po
            · have hjn : j < b.n := by omega
              have hci := fcell hF.out j hjn
              have hfz := frozen_block hF.out j
              have hil' : (j : Int) < (b.n : Int) := by omega
              have hset := Lib.hid (show (wr.setCell ⟨FB, j, none⟩ (.bool true)).heap[FB]? = some (.cells (fcells b.n (addTo b.F f (j + 1))).toArray 4 (0, 0)) from by rw [heap_setCell_same hF.out j (.bool true), fcells_set, addTo_step b.n b.F f j j1])
              generalize addTo b.F f j j = bi at hci
              go_wp2_with (go_at_call 33; refine (hpow _).mono ?_; rintro z w3 ⟨rfl, rfl⟩)
              go_roundw
              case rel => exact ⟨j + 1, by omega, by omega, by go_num, U.setCell (.inl rfl) _, hset⟩
              case measure => simp [intOf]; omega
            · have e : j = f + 2 ^ o := by have := hpw.out; omega
              have hF2 := Lib.hid (show wr.heap[FB]? = some (.cells (fcells (b.take x).n (b.take x).F).toArray 4 (0, 0)) from by have := hF.out; rw [e] at this; rw [hxe]; exact this)
              have hfin : RBud wr C MP FB (.slice og5 (b.take x).gave.length cap5) (b.take x) := ⟨U.at hh8 hCF, hF2.out, row_kept hr8 U hgF8, h.ok.take hxm⟩
              have hmf : RefAt wr MP (m.scrub x.1 ((2 ^ x.2 : Nat) : Int)) := by
                rw [hf, ho, ← hpw.out]
                exact hm8.kept U hMF.1 (by rw [hMw]; exact hMF.2)
              have HF := Lib.hid hfin
              have HM := Lib.hid hmf
              have hUw : Upd (fun k => k = C ∨ k = FB ∨ k = m.B) w wr := U9.trans (U.mono (fun _ _ h => .inr (.inl h)))
              clear e hF hF2 hfin hmf
              go_wp2_with (go_at_call 33; refine (hpow _).mono ?_; rintro z w3 ⟨rfl, rfl⟩)
              go_ret
              exact .inr ⟨x, .slice og5 (b.take x).gave.length cap5, hxm, rfl, rfl, rfl, HF.out, HM.out, hUw, fun k hk => (hown k hk).1⟩
      · have hnx : isB x f o = false := decide_eq_false hq
        have hst : Hid (∀ j, j < i + 1 → isB (b.gave.getD j (0, 0)) f o = false) := Lib.hid fun j hj => by
          rcases Nat.lt_or_ge j i with h1 | h1
          · exact hno.out j h1
          · rw [show j = i from by omega, hx]; exact hnx
        have hq' : ((x.1 : Int) == f && (x.2 : Int) == o) = false := by
          cases h1 : ((x.1 : Int) == f && (x.2 : Int) == o)
          · rfl
          · simp at h1; exact absurd h1 hq
        generalize x.1 = x1 at c0 hq hq'
        generalize x.2 = x2 at c1 hq hq'
        clear hx hnx hc
        go_wp2
        all_goals exact ⟨⟨i + 1, by omega, by go_num, hst⟩, by simp [intOf]; omega⟩
    · have e : i = ln := by omega
      have hall := Lib.hid (show ∀ x, x ∈ b.gave → isB x f o = false from fun x hx => by
        obtain ⟨j, hj, rfl⟩ := List.getElem_of_mem hx
        have := hno.out j (by rw [e, ← HLn.out]; exact hj)
        rwa [List.getD_eq_getElem?_getD, List.getElem?_eq_getElem hj] at this)
      go_wp2
      go_ret
      exact .inl ⟨by first | exact hall.out | exact fun a c hac => hall.out (a, c) hac, rfl, rfl⟩
end Go.Proofs.Ytmobhojblclmjaa
