/-
  Package memory: Fill, Frame.
-/
import Derived.Test.YtjcemelpdffnkaaMemC
import Derived.StillTailTactics
namespace Go.Proofs.Ytjcemelpdffnkaa
open Go.ChangeShapes Go.WideShapes Go.ChangeAt Go.RowKit

/-- a frame filled -/
def Mem.fill (m : Mem) (f : Int) (vs : List Int) : Mem := if m.ex f 1 then m.lay (f.toNat * 16) vs else m
theorem range_alloc (w : World) (k : IntKind) (vs : List Int) (t : TypeId) : (w.alloc (.cells (ints k vs).toArray t)).rangeAt w.heap.size 0 (ints k vs) := by
  have := World.rangeAt_of_block (heap_alloc_last w (.cells (ints k vs).toArray t)) 0 vs.length
  have e : ((ints k vs).toArray.extract 0 (0 + vs.length)).toList = ints k vs := by
    simp [List.extract, List.take_of_length_le, ints_length]
  rwa [e] at this
theorem MemAt.alloc {w : World} {A : Nat} {m : Mem} (h : MemAt w A m) (o : Obj) : MemAt (w.alloc o) A m := h.kept ((Upd.refl (fun _ => False) w).alloc o) (fun x => x) (fun x => x)
theorem MemAt.drew {w : World} {A : Nat} {m : Mem} (h : MemAt w A m) : MemAt w.drew A m := h.kept (Upd.refl (fun _ => False) w).drew (fun x => x) (fun x => x)
set_option maxHeartbeats 400000 in
theorem fill_any (A : Nat) (m : Mem) (f : Int) (vs : List Int) (w : World) (h : MemAt w A m) (hv : vs.length = 16) :
    Calls Try.prog 14 #[.pointer (some ⟨A, 0, none⟩), .int .i64 f, .agg (ints .u64 vs).toArray] w fun e w' => e = .returned (.int .i64 (errI (m.ex f 1))) ∧ MemAt w' A (m.fill f vs) ∧ Upd (· = m.B) w w' := by
  have HV := Lib.hid hv
  clear hv
  have h' := h.alloc (.cells (ints .u64 vs).toArray 37)
  have hn := lt_of_heap h.body
  have ra := Lib.hid (range_alloc w .u64 vs 37)
  cases hb : m.ex f 1
  · have hr := Lib.hid (show m.fill f vs = m from by unfold Mem.fill; rw [hb]; rfl)
    have hb' := Lib.hid hb
    clear hb
    go_enter Try.func14, Try.ntmps14
    go_wp2_with fail
    refine (exist_any A m f 1 _ h' (by omega)).mono ?_
    rintro e w' ⟨rfl, rfl⟩
    rw [hb'.out]
    go_wp2
    go_ret
    exact ⟨rfl, by rw [hr.out]; exact h', (Upd.refl _ _).alloc _⟩
  · obtain ⟨b1, b2, b3⟩ := of_decide_eq_true hb
    have h2 := h.hi
    obtain ⟨F, rfl⟩ := Int.eq_ofNat_of_zero_le b2
    have hr := Lib.hid (show m.fill F vs = m.lay (F * 16) vs from by unfold Mem.fill; rw [hb, if_pos rfl]; simp)
    have hb' := Lib.hid hb
    clear hb
    go_enter Try.func14, Try.ntmps14
    go_wp2_with fail
    refine (exist_any A m _ 1 _ h' (by omega)).mono ?_
    rintro e w' ⟨rfl, rfl⟩
    rw [hb'.out]
    go_wp2_with fail
    have hU : Upd (· = m.B) w (w.alloc (.cells (ints .u64 vs).toArray 37)) := (Upd.refl _ _).alloc _
    generalize w.alloc (.cells (ints .u64 vs).toArray 37) = W at h' ra hU ⊢
    have hM := h'.drew
    have hR := Lib.hid (show W.drew.rangeAt w.heap.size 0 (ints .u64 vs) from by simpa using ra.out)
    have hl := Lib.hid (hM.lay (F * 16) vs (by rw [HV.out]; omega))
    have ht := Lib.hid (hM.there (F * 16) 16 (by omega))
    have hU' := hU.drew
    clear hU ra h'
    refine wp_region_tail 7 (by kernel_rfl) (by kernel_rfl) ?_
    simp only [List.take_succ_cons, List.take_zero, List.drop_succ_cons, List.drop_zero]
    intro w2 hw2
    rw [← hw2] at hM hR hl ht hU'
    clear hw2
    have hc := hM.cellA
    have hF : (F : Int) < (m.n : Int) := by omega
    repeat (first | (with_reducible refine wpStill_load_sz rfl 37 (.tmp 5) rfl w.heap.size 0 rfl (ints .u64 vs) _ hR.out Try.underlying37 rfl 16 (by rw [ints_length]; exact HV.out) size_arr ?_) | still_step)
    refine wpStill_nil ?_
    go_wp2_with (with_reducible refine wpList_store_sz rfl 58 (.tmp 17) (.tmp 16) rfl m.B (F * 16) (ints .u64 vs).toArray rfl rfl 16 (by rw [List.size_toArray, ints_length]; exact HV.out) ht.out size_words (ints_one _ _) _ rfl ?_)
    go_ret
    exact ⟨rfl, by rw [hr.out]; exact hl.out, hU'.trans (Upd.setCells (by left; rfl) _ _ (Upd.refl _ _))⟩
/-- what Frame tells -/
def Mem.frI (m : Mem) (f : Int) : List Int := if m.ex f 1 then m.fr f.toNat else noughts
def zs16 : Array Value := (ints .u64 noughts).toArray
theorem alloc2_facts (w : World) (t1 t2 : TypeId) (c1 c2 : Array Value) : ((w.alloc (.cells c1 t1)).alloc (.cells c2 t2)).heap[w.heap.size]? = some (.cells c1 t1 (0, 0)) ∧
    ((w.alloc (.cells c1 t1)).alloc (.cells c2 t2)).heap[w.heap.size + 1]? = some (.cells c2 t2 (0, 0)) := by
  constructor
  · rw [Below.heap_alloc _ _ _ (by simp), heap_alloc_last]
  · have := heap_alloc_last (w.alloc (.cells c1 t1)) (.cells c2 t2)
    simpa using this
set_option maxHeartbeats 400000 in
theorem frame_any (A : Nat) (m : Mem) (f : Int) (w : World) (h : MemAt w A m) :
    Calls Try.prog 19 #[.pointer (some ⟨A, 0, none⟩), .int .i64 f] w fun e w' => e = .returned (.tuple #[.agg (ints .u64 (m.frI f)).toArray, .int .i64 (errI (m.ex f 1))]) ∧ MemAt w' A m ∧ Upd (fun _ => False) w w' := by
  have h' := (h.alloc (.cells #[.int .u64 0, .int .u64 0, .int .u64 0, .int .u64 0, .int .u64 0, .int .u64 0, .int .u64 0, .int .u64 0, .int .u64 0, .int .u64 0, .int .u64 0, .int .u64 0, .int .u64 0, .int .u64 0, .int .u64 0, .int .u64 0] 37)).alloc (.cells #[.int .u64 0, .int .u64 0, .int .u64 0, .int .u64 0, .int .u64 0, .int .u64 0, .int .u64 0, .int .u64 0, .int .u64 0, .int .u64 0, .int .u64 0, .int .u64 0, .int .u64 0, .int .u64 0, .int .u64 0, .int .u64 0] 58)
  obtain ⟨f1, f2⟩ := alloc2_facts w 37 58 #[.int .u64 0, .int .u64 0, .int .u64 0, .int .u64 0, .int .u64 0, .int .u64 0, .int .u64 0, .int .u64 0, .int .u64 0, .int .u64 0, .int .u64 0, .int .u64 0, .int .u64 0, .int .u64 0, .int .u64 0, .int .u64 0] #[.int .u64 0, .int .u64 0, .int .u64 0, .int .u64 0, .int .u64 0, .int .u64 0, .int .u64 0, .int .u64 0, .int .u64 0, .int .u64 0, .int .u64 0, .int .u64 0, .int .u64 0, .int .u64 0, .int .u64 0, .int .u64 0]
  have hU : Upd (fun _ => False) w ((w.alloc (.cells #[.int .u64 0, .int .u64 0, .int .u64 0, .int .u64 0, .int .u64 0, .int .u64 0, .int .u64 0, .int .u64 0, .int .u64 0, .int .u64 0, .int .u64 0, .int .u64 0, .int .u64 0, .int .u64 0, .int .u64 0, .int .u64 0] 37)).alloc (.cells #[.int .u64 0, .int .u64 0, .int .u64 0, .int .u64 0, .int .u64 0, .int .u64 0, .int .u64 0, .int .u64 0, .int .u64 0, .int .u64 0, .int .u64 0, .int .u64 0, .int .u64 0, .int .u64 0, .int .u64 0, .int .u64 0] 58)) := ((Upd.refl _ _).alloc _).alloc _
  have F1 : Hid (((w.alloc (.cells #[.int .u64 0, .int .u64 0, .int .u64 0, .int .u64 0, .int .u64 0, .int .u64 0, .int .u64 0, .int .u64 0, .int .u64 0, .int .u64 0, .int .u64 0, .int .u64 0, .int .u64 0, .int .u64 0, .int .u64 0, .int .u64 0] 37)).alloc (.cells #[.int .u64 0, .int .u64 0, .int .u64 0, .int .u64 0, .int .u64 0, .int .u64 0, .int .u64 0, .int .u64 0, .int .u64 0, .int .u64 0, .int .u64 0, .int .u64 0, .int .u64 0, .int .u64 0, .int .u64 0, .int .u64 0] 58)).heap[w.heap.size]? = some (.cells (ints .u64 noughts).toArray 37 (0, 0))) := f1
  have F2 : Hid (((w.alloc (.cells #[.int .u64 0, .int .u64 0, .int .u64 0, .int .u64 0, .int .u64 0, .int .u64 0, .int .u64 0, .int .u64 0, .int .u64 0, .int .u64 0, .int .u64 0, .int .u64 0, .int .u64 0, .int .u64 0, .int .u64 0, .int .u64 0] 37)).alloc (.cells #[.int .u64 0, .int .u64 0, .int .u64 0, .int .u64 0, .int .u64 0, .int .u64 0, .int .u64 0, .int .u64 0, .int .u64 0, .int .u64 0, .int .u64 0, .int .u64 0, .int .u64 0, .int .u64 0, .int .u64 0, .int .u64 0] 58)).heap[w.heap.size + 1]? = some (.cells (ints .u64 noughts).toArray 58 (0, 0))) := f2
  clear f1 f2
  cases hb : m.ex f 1
  · have hr := Lib.hid (show m.frI f = noughts from by unfold Mem.frI; rw [hb]; rfl)
    have hb' := Lib.hid hb
    clear hb
    go_enter Try.func19, Try.ntmps19
    go_wp2_with fail
    refine (exist_any A m f 1 _ h' (by omega)).mono ?_
    rintro e w' ⟨rfl, rfl⟩
    rw [hb'.out]
    generalize (w.alloc (.cells #[.int .u64 0, .int .u64 0, .int .u64 0, .int .u64 0, .int .u64 0, .int .u64 0, .int .u64 0, .int .u64 0, .int .u64 0, .int .u64 0, .int .u64 0, .int .u64 0, .int .u64 0, .int .u64 0, .int .u64 0, .int .u64 0] 37)).alloc (.cells #[.int .u64 0, .int .u64 0, .int .u64 0, .int .u64 0, .int .u64 0, .int .u64 0, .int .u64 0, .int .u64 0, .int .u64 0, .int .u64 0, .int .u64 0, .int .u64 0, .int .u64 0, .int .u64 0, .int .u64 0, .int .u64 0] 58) = W at h' F1 F2 hU ⊢
    have R2 := Lib.hid (rangeAt_block F2.out)
    have T1 := Lib.hid (there_block F1.out 0 16 (Nat.le_refl _))
    have hu : W.heap.size = W.heap.size := rfl
    go_wp2_with (first
      | (with_reducible refine wpList_load_sz rfl 58 (.tmp 6) rfl (w.heap.size + 1) 0 rfl (ints .u64 noughts) _ R2.out Try.underlying58 rfl 16 rfl size_words ?_)
      | (with_reducible refine wpList_store_sz rfl 37 (.tmp 4) (.tmp 11) rfl w.heap.size 0 (ints .u64 noughts).toArray rfl rfl 16 rfl T1.out size_arr (ints_one _ _) _ rfl ?_))
    have hld := heap_setCells_same w.heap.size 37 (ints .u64 noughts) 0 W (ints .u64 noughts) F1.out (Nat.le_refl _)
    rw [splice_ints, splice_all _ _ rfl] at hld
    have hlt := lt_of_heap h.head
    have hlt2 := lt_of_heap h.body
    have hM2 : MemAt (W.setCells w.heap.size 0 (ints .u64 noughts)) A m := h'.kept (S := (· = w.heap.size)) (Upd.setCells (by left; rfl) _ _ (Upd.refl _ _)) (by omega) (by omega)
    have hU2 : Upd (fun _ => False) w (W.setCells w.heap.size 0 (ints .u64 noughts)) := Upd.setCells (by right; exact Nat.le_refl _) _ _ hU
    generalize W.setCells w.heap.size 0 (ints .u64 noughts) = W2 at hld hM2 hU2 ⊢
    refine bodyPost_ret (v := .tuple #[.agg (ints .u64 noughts).toArray, .int .i64 1]) ?_ rfl ⟨by rw [hr.out]; rfl, hM2, hU2⟩
    have := run_loadVar_mid (P := Try.prog) W2 w.heap.size 0 37 (ints .u64 noughts) _ (rangeAt_block hld) Try.underlying37 rfl size_arr
    simp [results, Try.results19, asAddr, this]
  · obtain ⟨b1, b2, b3⟩ := of_decide_eq_true hb
    have h2 := h.hi
    obtain ⟨F, rfl⟩ := Int.eq_ofNat_of_zero_le b2
    have hr := Lib.hid (show m.frI F = m.fr F from by unfold Mem.frI; rw [hb, if_pos rfl]; rfl)
    have hln := Lib.hid (h.fr_len F (by omega))
    have hb' := Lib.hid hb
    clear hb
    go_enter Try.func19, Try.ntmps19
    go_wp2_with fail
    refine (exist_any A m _ 1 _ h' (by omega)).mono ?_
    rintro e w' ⟨rfl, rfl⟩
    rw [hb'.out]
    generalize (w.alloc (.cells #[.int .u64 0, .int .u64 0, .int .u64 0, .int .u64 0, .int .u64 0, .int .u64 0, .int .u64 0, .int .u64 0, .int .u64 0, .int .u64 0, .int .u64 0, .int .u64 0, .int .u64 0, .int .u64 0, .int .u64 0, .int .u64 0] 37)).alloc (.cells #[.int .u64 0, .int .u64 0, .int .u64 0, .int .u64 0, .int .u64 0, .int .u64 0, .int .u64 0, .int .u64 0, .int .u64 0, .int .u64 0, .int .u64 0, .int .u64 0, .int .u64 0, .int .u64 0, .int .u64 0, .int .u64 0] 58) = W at h' F1 F2 hU ⊢
    go_wp2_with fail
    refine wp_region_tail 8 (by kernel_rfl) (by kernel_rfl) ?_
    simp only [List.take_succ_cons, List.take_zero, List.drop_succ_cons, List.drop_zero]
    intro w2 hw2
    have F1' : Hid (w2.heap[w.heap.size]? = some (.cells (ints .u64 noughts).toArray 37 (0, 0))) := by rw [hw2]; exact F1.out
    have F2' : Hid (w2.heap[w.heap.size + 1]? = some (.cells (ints .u64 noughts).toArray 58 (0, 0))) := by rw [hw2]; exact F2.out
    have hM : MemAt w2 A m := by rw [hw2]; exact h'.drew
    have hU' : Upd (fun _ => False) w w2 := by rw [hw2]; exact hU.drew
    clear hw2 h' F1 F2 hU
    have hc := hM.cellA
    have hF : (F : Int) < (m.n : Int) := by omega
    have hRg := Lib.hid (hM.range F)
    generalize m.fr F = L at *
    repeat still_step
    refine wpStill_nil ?_
    refine wpList_copy_ints rfl (.tmp 12) (.tmp 19) 46 46 rfl 31 Try.underlying46 size_u64 (w.heap.size + 1) 16 16 m.B (F * 16) 16 16 rfl rfl .u64 noughts L 58 F2'.out rfl hln.out rfl hRg.out ?_
    intro w3 G2 U3
    have hlt := lt_of_heap h.head
    have hlt2 := lt_of_heap h.body
    have F3 := Lib.hid (U3.at F1'.out (by omega))
    have hM3 := hM.kept U3 (by omega) (by omega)
    have hU3 : Upd (fun _ => False) w w3 := ⟨U3.os.trans hU'.os, U3.tape.trans hU'.tape, U3.output.trans hU'.output, Nat.le_trans hU'.size U3.size, fun i hi hs => (U3.block i (Nat.lt_of_lt_of_le hi hU'.size) (by omega)).trans (hU'.block i hi hs)⟩
    clear U3 hU' hM F1' F2' hRg hc
    have R2 := Lib.hid (rangeAt_block G2.out)
    have T1 := Lib.hid (there_block F3.out 0 16 (Nat.le_refl _))
    go_wp2_with (first
      | (with_reducible refine wpList_load_sz rfl 58 (.tmp 6) rfl (w.heap.size + 1) 0 rfl (ints .u64 L) _ R2.out Try.underlying58 rfl 16 (by rw [ints_length]; exact hln.out) size_words ?_)
      | (with_reducible refine wpList_store_sz rfl 37 (.tmp 4) (.tmp 21) rfl w.heap.size 0 (ints .u64 L).toArray rfl rfl 16 (by rw [List.size_toArray, ints_length]; exact hln.out) T1.out size_arr (ints_one _ _) _ rfl ?_))
    have hld := heap_setCells_same w.heap.size 37 (ints .u64 L) 0 w3 (ints .u64 noughts) F3.out (by rw [ints_length, ints_length, hln.out]; exact Nat.le_refl _)
    rw [splice_ints, splice_all _ _ (by rw [hln.out]; rfl)] at hld
    have hM2 : MemAt (w3.setCells w.heap.size 0 (ints .u64 L)) A m := hM3.kept (S := (· = w.heap.size)) (Upd.setCells (by left; rfl) _ _ (Upd.refl _ _)) (by omega) (by omega)
    have hU2 : Upd (fun _ => False) w (w3.setCells w.heap.size 0 (ints .u64 L)) := Upd.setCells (by right; exact Nat.le_refl _) _ _ hU3
    generalize w3.setCells w.heap.size 0 (ints .u64 L) = W2 at hld hM2 hU2 ⊢
    refine bodyPost_ret (v := .tuple #[.agg (ints .u64 L).toArray, .int .i64 0]) ?_ rfl ⟨by rw [hr.out]; rfl, hM2, hU2⟩
    have := run_loadVar_mid (P := Try.prog) W2 w.heap.size 0 37 (ints .u64 L) _ (rangeAt_block hld) Try.underlying37 rfl (by rw [ints_length, hln.out]; exact size_arr)
    simp [results, Try.results19, asAddr, this]
end Go.Proofs.Ytjcemelpdffnkaa
