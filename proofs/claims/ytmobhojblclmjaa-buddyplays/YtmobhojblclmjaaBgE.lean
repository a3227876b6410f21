/-
  Package buddy: Blocks.
-/
import Derived.Test.YtmobhojblclmjaaBgD
namespace Go.Proofs.Ytmobhojblclmjaa
open Go.ChangeShapes Go.WideShapes Go.ChangeAt Go.RowKit Go.Maps

theorem mxTo_over {F : Nat → Bool} {n : Nat} (hF : ∀ j, F j = true → j < n) : ∀ d, mxTo F n (n + d) = mxTo F n n
  | 0 => rfl
  | d + 1 => by
    have : F (n + d) = false := by
      cases h : F (n + d)
      · rfl
      · have := hF _ h; omega
    rw [← Nat.add_assoc, mxTo_skip this, mxTo_over hF d]
theorem Bud.Ok.low {b : Bud} (h : b.Ok) (j : Nat) (hj : b.F j = true) : j < b.n := ((h.fr j).1 hj).2.1
theorem info_block : (Try.prog.info? 60).map (fun i => (i.zero, i.size, i.bytes)) = some (some (.agg #[.int .i64 0, .int .i64 0]), 2, 16) := by kernel_rfl
theorem alloc_two (w : World) (x y : Int) (t : TypeId) :
    ((w.alloc (.cells #[.int .i64 0, .int .i64 0] t)).setCells w.heap.size 0 [.int .i64 x, .int .i64 y]).heap[w.heap.size]? = some (.cells #[.int .i64 x, .int .i64 y] t (0, 0)) ∧
    Upd (fun _ => False) w ((w.alloc (.cells #[.int .i64 0, .int .i64 0] t)).setCells w.heap.size 0 [.int .i64 x, .int .i64 y]) ∧ (w.alloc (.cells #[.int .i64 0, .int .i64 0] t)).there w.heap.size 0 2 :=
  alloc_store w .i64 [0, 0] [x, y] t rfl

set_option maxRecDepth 100000 in
set_option maxHeartbeats 2000000 in
theorem bBlocks_any (A MA GB : Nat) (m : Mem) (b : Bud) (w : World) (h : BudAt w A MA GB b) (hm : MemAt w MA m) (hn : m.n = b.n) :
    Calls Try.prog 22 #[.pointer (some ⟨A, 0, none⟩)] w fun e w' => ∃ v, e = .returned v ∧ w'.ownsRow w.heap.size 60 2 v (blocks b.F b.n).length (bcells (blocks b.F b.n)) ∧ Upd (fun _ => False) w w' := by
  obtain ⟨i0, hi, hz0, hz1, hz2⟩ := info_parts info_block
  have hb2 := h.ok.hi
  have hz := zero_bools
  obtain ⟨Z, hZ⟩ : ∃ Z, (fcells 256 fun _ => false) = Z := ⟨_, rfl⟩
  rw [hZ] at hz
  have HZ := Lib.hid (show Z.length = 256 from by rw [← hZ]; exact fcells_len _ _)
  clear hZ
  obtain ⟨L, hL⟩ : ∃ L, fcells 256 b.F = L := ⟨_, rfl⟩
  have HL := Lib.hid (show L.length = 256 from by rw [← hL]; exact fcells_len _ _)
  have O1 := Lib.hid (show L.toArray.all (·.oneCell') = true from by rw [← hL]; exact fcells_one _ _)
  have hok := Lib.hid h.ok
  have hfree := Lib.hid (bfree_any A MA GB m b w h hm hn)
  have hlong := Lib.hid (fun i W hi' => blong_any b.F b.n i W hi' h.ok.hi h.ok.low)
  rw [hL] at hfree hlong
  clear hL
  obtain ⟨N, hN⟩ : ∃ N, w.heap.size = N := ⟨_, rfl⟩
  rw [hN]
  go_enter Try.func22, Try.ntmps22
  go_wp2_with fail
  refine hfree.out.mono ?_
  rintro e w1 ⟨rfl, U1⟩
  clear hfree
  have hal := heap_alloc_last w1 (.cells Z.toArray 80)
  have T1 := Lib.hid (row_there hal 256 (by rw [HZ.out]; exact Nat.le_refl _))
  have hld := heap_setCells_same w1.heap.size 80 L 0 (w1.alloc (.cells Z.toArray 80)) _ hal (by rw [HZ.out, HL.out]; exact Nat.le_refl _)
  rw [splice_all _ _ (by rw [HZ.out, HL.out])] at hld
  have U2 : Upd (fun _ => False) w ((w1.alloc (.cells Z.toArray 80)).setCells w1.heap.size 0 L) := U1.trans (Upd.setCells (by right; exact Nat.le_refl _) _ _ ((Upd.refl _ _).alloc _))
  have U1s := U1.size
  have HLd := Lib.hid hld
  clear hal hld U1
  go_upto_region 3 with ((with_reducible refine wpList_store_sz rfl 80 (.tmp 4) (.tmp 9) rfl w1.heap.size 0 L.toArray rfl rfl 256 (by simpa using HL.out) T1.out size_bools O1.out _ rfl ?_))
  generalize (w1.alloc (.cells Z.toArray 80)).setCells w1.heap.size 0 L = W at HLd U2 ⊢
  generalize w1.heap.size = K at HLd U1s ⊢
  clear T1 hz HZ O1
  go_wp2
  go_loopw [3, 5] (fun v t wr => ∃ i : Nat, i ≤ 256 ∧ t = .int .i64 i ∧ wr.ownsRow N 60 2 v (mxTo b.F b.n i).length (bcells (mxTo b.F b.n i)) ∧ Upd (fun _ => False) w wr ∧ Hid (wr.heap[K]? = some (.cells L.toArray 80 (0, 0))) ∧ Hid (Edge b.F b.n i)) (fun _ t _ => 256 - (intOf t).toNat)
  case atStart => exact ⟨0, by omega, rfl, World.ownsRow_nil _ _ _ _, U2, HLd, Lib.hid (edge_zero _ _)⟩
  case round =>
    obtain ⟨i, hi', rfl, hrow, hU, hK, hE⟩ := hrel
    have hsize := hU.size
    by_cases hlt : i < 256
    · have R1 := Lib.hid (row_range hK.out)
      have hlg := Lib.hid (fun W => hlong.out i W hlt)
      cases hF : b.F i
      · have hv := Lib.hid (show lres i (bestTo b.F b.n i 9) = .tuple #[.agg #[.int .i64 0, .int .i64 0], .bool false] from by rw [bestTo_none hF 9]; rfl)
        have hE' := Lib.hid (edge_skip hF hE.out)
        have hm' := Lib.hid (mxTo_skip (n := b.n) hF)
        go_wp2_with (with_reducible refine wpList_load_sz rfl 80 (.tmp 4) rfl K 0 rfl L _ R1.out Try.underlying80 rfl 256 HL.out size_bools ?_)
        refine (hlg.out _).mono ?_
        rintro e w3 ⟨rfl, U3⟩
        rw [hv.out]
        obtain ⟨a1, a2, a3⟩ := alloc_two w3 0 0 60
        have A3 := Lib.hid a3
        have hrow3 := row_kept hrow (U3.trans a2) (fun _ _ h => h)
        have hK3 := Lib.hid ((U3.trans a2).at hK.out (fun h => h))
        have hU3 := hU.trans (U3.trans a2)
        clear a1 a3 a2 U3 hlong hlg R1 hK hU hE hrow hF
        go_upto_region 6 with ((with_reducible refine wpList_store_sz rfl 60 (.tmp 6) (.tmp 16) rfl w3.heap.size 0 #[.int .i64 0, .int .i64 0] rfl rfl 2 (two_sz _ _) A3.out size_block (two_one _ _) [.int .i64 0, .int .i64 0] (two_ls _ _) ?_))
        generalize (w3.alloc (.cells #[.int .i64 0, .int .i64 0] 60)).setCells w3.heap.size 0 [.int .i64 0, .int .i64 0] = W3 at hrow3 hK3 hU3 ⊢
        clear A3
        go_wp2
        exact ⟨⟨i + 1, by omega, by go_num, by rw [hm'.out]; exact hrow3, hU3, hK3, hE'⟩, by simp [intOf]; omega⟩
      · have hin := hok.out.low i hF
        obtain ⟨q, hq, hmax⟩ := edge_mx hE.out hF hin
        have hv := Lib.hid (show lres i (bestTo b.F b.n i 9) = .tuple #[.agg #[.int .i64 i, .int .i64 q], .bool true] from by
          rw [bestTo_is hq.b hq.hi hmax 9 (by have := hq.hi; omega) (by omega)]
          unfold lres
          rw [if_neg (by omega)])
        have hE' := Lib.hid (edge_jump hq hE.out)
        have hm' := Lib.hid (mxTo_jump hq)
        have hql := hq.b.le
        have hq8 := hq.hi
        have hbd := pw_bd q hq8
        have hpw := Lib.hid (show pw q = ((2 ^ q : Nat) : Int) from rfl)
        have hfit : (i : Int) + pw q ≤ 256 := by have := hpw.out; omega
        have hml : (mxTo b.F b.n i).length ≤ i := mxTo_len _ _ _
        obtain ⟨o, cap, rfl⟩ := slice2 hrow
        clear hmax hq
        go_wp2_with (with_reducible refine wpList_load_sz rfl 80 (.tmp 4) rfl K 0 rfl L _ R1.out Try.underlying80 rfl 256 HL.out size_bools ?_)
        refine (hlg.out _).mono ?_
        rintro e w3 ⟨rfl, U3⟩
        rw [hv.out]
        have hlo := fun j ej => ((row_kept hrow U3 (fun _ _ h => h)).lt j ej).2
        obtain ⟨a1, a2, a3⟩ := alloc_two w3 i q 60
        have A3 := Lib.hid a3
        have hrow3 := row_kept hrow (U3.trans a2) (fun _ _ h => h)
        have hK3 := Lib.hid ((U3.trans a2).at hK.out (fun h => h))
        have hU3 := hU.trans (U3.trans a2)
        clear a3 a2 U3 hlong hlg R1 hK hU hE hrow hF
        go_upto_region 6 with ((with_reducible refine wpList_store_sz rfl 60 (.tmp 6) (.tmp 16) rfl w3.heap.size 0 #[.int .i64 i, .int .i64 q] rfl rfl 2 (two_sz _ _) A3.out size_block (two_one _ _) [.int .i64 i, .int .i64 q] (two_ls _ _) ?_))
        generalize (w3.alloc (.cells #[.int .i64 0, .int .i64 0] 60)).setCells w3.heap.size 0 [.int .i64 i, .int .i64 q] = W3 at hrow3 hK3 hU3 a1 ⊢
        obtain ⟨b0, b1⟩ := box2 a1
        generalize w3.heap.size = M at a1 b0 b1 hlo ⊢
        clear A3
        have hs3 := hU3.size
        have hNe := ty_ne hrow3 hK3.out (by decide)
        go_upto_region 9 with ((at_builtin; refine wpList_append_own _ rfl _ _ 51 rfl N 60 i0 (.agg #[.int .i64 0, .int .i64 0]) 2 16 Try.underlying51 hi hz0 hz1 hz2 rfl (by decide) _ _ _ rfl (hrow3.alloc _) ⟨W3.heap.size, 0, none⟩ 1 1 [.int .i64 i, .int .i64 q] rfl rfl (cell_two _ _ _ _) (by simp [Value.oneCell']) (by simp [maxLen]; omega) (by omega) (by simp; omega) ?_; intro v' w4 hown' hgrow _; obtain ⟨g', cap', rfl⟩ := ownsRow_succ hown'))
        rename_i hnl
        have hgr : (W3.alloc (.cells #[.int .i64 i, .int .i64 q] 60)).grownBy w4 (Value.slice o (mxTo b.F b.n i).length cap).ownBlock := hgrow
        have hM3 := lt_of_heap a1
        have hat : ∀ (k : Nat) (ob : Obj), W3.heap[k]? = some ob → (∀ j, (Value.slice o (mxTo b.F b.n i).length cap).ownBlock = some j → ¬ j = k) → w4.heap[k]? = some ob := fun k ob hk hne => by
          have hlt := lt_of_heap hk
          rw [hgr.block k (by simp; omega) (fun e => hne k e.symm rfl), Below.heap_alloc _ _ _ hlt]
          exact hk
        have a4 := hat M _ a1 (fun j ej => by have := hlo j ej; omega)
        have hK4 := Lib.hid (hat K _ hK3.out hNe)
        have hU4 : Upd (fun _ => False) w w4 := ⟨hgr.os.trans hU3.os, hgr.tape.trans hU3.tape, hgr.output.trans hU3.output, by have := hgr.size; simp at this; omega, fun k hk hs => by
          rw [hgr.block k (by simp; omega) (fun e => by have := (hrow3.lt k e.symm).1; omega), Below.heap_alloc _ _ _ (by omega)]
          exact hU3.block k hk hs⟩
        obtain ⟨b40, b41⟩ := box2 a4
        have hown4 := Lib.hid hown'
        clear hnl hgrow hgr hat hown' hK3 hU3 a1 a4 b0 b1 hrow3 hlo hNe
        go_wp2_with (first
          | (with_reducible refine wpList_shl1 rfl _ _ _ _ rfl rfl q hq8 rfl ?_)
          | go_in)
        have hp2 := Nat.two_pow_pos q
        exact ⟨⟨i + 2 ^ q, by omega, by rw [hpw.out]; congr 1, by rw [hm'.out, bcells_app, List.length_append]; exact hown4.out, hU4, hK4, hE'⟩, by rw [hpw.out]; simp only [intOf]; omega⟩
    · have e : i = 256 := by omega
      subst e
      obtain ⟨o, cap, rfl⟩ := slice2 hrow
      have Hrow := Lib.hid (show wr.ownsRow N 60 2 (.slice o (mxTo b.F b.n 256).length cap) (blocks b.F b.n).length (bcells (blocks b.F b.n)) from by
        have e : mxTo b.F b.n 256 = blocks b.F b.n := by
          have := mxTo_over hok.out.low (256 - b.n)
          rwa [show b.n + (256 - b.n) = 256 from by omega] at this
        rw [e] at hrow ⊢
        exact hrow)
      clear hrow
      go_wp2
      go_ret
      exact ⟨_, rfl, Hrow.out, hU⟩
end Go.Proofs.Ytmobhojblclmjaa
