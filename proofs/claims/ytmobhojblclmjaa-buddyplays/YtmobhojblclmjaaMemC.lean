/-
  Package memory: Scrub, Zero, Frame, Fill.
-/
import Derived.Test.YtmobhojblclmjaaMemB
import Derived.RegionTactic
namespace Go.Proofs.Ytmobhojblclmjaa
open Go.ChangeShapes Go.WideShapes Go.ChangeAt Go.RowKit

theorem size_words : (Try.prog.info? 79).map (·.size) = some 16 := by kernel_rfl
theorem size_arr : (Try.prog.info? 78).map (·.size) = some 16 := by kernel_rfl
def noughts : List Int := List.replicate 16 0
theorem MemAt.there {w : World} {A : Nat} {m : Mem} (h : MemAt w A m) (o k : Nat) (hf : o + k ≤ 16 * m.n) : w.there m.B o k := fun j hj =>
  ⟨by rw [h.cellB (o + j) (by omega)]; rfl, h.freeB _⟩
theorem one16 : (#[.int .u64 0, .int .u64 0, .int .u64 0, .int .u64 0, .int .u64 0, .int .u64 0, .int .u64 0, .int .u64 0, .int .u64 0, .int .u64 0, .int .u64 0, .int .u64 0, .int .u64 0, .int .u64 0, .int .u64 0, .int .u64 0] : Array Value).all (·.oneCell') = true := by
  rw [show (#[.int .u64 0, .int .u64 0, .int .u64 0, .int .u64 0, .int .u64 0, .int .u64 0, .int .u64 0, .int .u64 0, .int .u64 0, .int .u64 0, .int .u64 0, .int .u64 0, .int .u64 0, .int .u64 0, .int .u64 0, .int .u64 0] : Array Value) = (ints .u64 noughts).toArray from rfl]; exact ints_one _ _
theorem sz16 : (#[.int .u64 0, .int .u64 0, .int .u64 0, .int .u64 0, .int .u64 0, .int .u64 0, .int .u64 0, .int .u64 0, .int .u64 0, .int .u64 0, .int .u64 0, .int .u64 0, .int .u64 0, .int .u64 0, .int .u64 0, .int .u64 0] : Array Value).size = 16 := rfl
theorem ls16 : (#[.int .u64 0, .int .u64 0, .int .u64 0, .int .u64 0, .int .u64 0, .int .u64 0, .int .u64 0, .int .u64 0, .int .u64 0, .int .u64 0, .int .u64 0, .int .u64 0, .int .u64 0, .int .u64 0, .int .u64 0, .int .u64 0] : Array Value).toList = ints .u64 noughts := rfl
/-- frames scrubbed -/
def Mem.scrubN (m : Mem) (f k : Nat) : Mem := m.lay (f * 16) (List.replicate (k * 16) 0)
def Mem.scrub (m : Mem) (f k : Int) : Mem := if m.ex f k then m.scrubN f.toNat k.toNat else m
theorem Mem.scrubN_zero (m : Mem) (f : Nat) : m.scrubN f 0 = m := by simp [Mem.scrubN, Mem.lay, splice]
theorem Mem.scrubN_succ (m : Mem) (f k : Nat) (h : (f + k + 1) * 16 ≤ m.ws.length) : (m.scrubN f k).lay ((f + k) * 16) noughts = m.scrubN f (k + 1) := by
  unfold Mem.scrubN Mem.lay noughts
  simp only [Mem.mk.injEq, true_and]
  have := splice_splice m.ws (f * 16) (List.replicate (k * 16) 0) (List.replicate 16 0) (by simp; omega)
  rw [List.length_replicate, List.replicate_append_replicate] at this
  rw [show (f + k) * 16 = f * 16 + k * 16 from by omega, this, show (k + 1) * 16 = k * 16 + 16 from by omega]
set_option maxHeartbeats 400000 in
theorem scrub_any (A : Nat) (m : Mem) (f k : Int) (w : World) (h : MemAt w A m) (hk : k ≤ 9223372036854775807) :
    Calls Try.prog 34 #[.pointer (some ⟨A, 0, none⟩), .int .i64 f, .int .i64 k] w fun e w' => e = .returned (.int .i64 (errI (m.ex f k))) ∧ MemAt w' A (m.scrub f k) ∧ Upd (· = m.B) w w' := by
  cases hb : m.ex f k
  · have hr := Lib.hid (show m.scrub f k = m from by unfold Mem.scrub; rw [hb]; rfl)
    have hb' := Lib.hid hb
    have hk' := Lib.hid hk
    clear hb hk
    go_enter Try.func34, Try.ntmps34
    go_wp2_with fail
    refine (exist_any A m f k _ h hk'.out).mono ?_
    rintro e w' ⟨rfl, rfl⟩
    rw [hb'.out]
    go_wp2
    go_ret
    exact ⟨rfl, by rw [hr.out]; exact h, Upd.refl _ _⟩
  · obtain ⟨b1, b2, b3⟩ := of_decide_eq_true hb
    have h2 := h.hi
    obtain ⟨F, rfl⟩ := Int.eq_ofNat_of_zero_le b2
    obtain ⟨K, rfl⟩ := Int.eq_ofNat_of_zero_le (by omega : 0 ≤ k)
    have hr := Lib.hid (show m.scrub F K = m.scrubN F K from by unfold Mem.scrub; rw [hb, if_pos rfl]; simp)
    have hb' := Lib.hid hb
    have hk' := Lib.hid hk
    clear hb hk
    go_enter Try.func34, Try.ntmps34
    go_wp2_with fail
    refine (exist_any A m _ _ _ h hk'.out).mono ?_
    rintro e w' ⟨rfl, rfl⟩
    rw [hb'.out]
    go_wp2
    go_loopw [14] (fun t wr => ∃ j : Nat, j ≤ K ∧ t = .int .i64 j ∧ MemAt wr A (m.scrubN F j) ∧ Upd (· = m.B) w wr) (fun t _ => K - (intOf t).toNat)
    case atStart => exact ⟨0, by omega, rfl, by rw [Mem.scrubN_zero]; exact h, Upd.refl _ _⟩
    case round =>
      obtain ⟨j, hj, rfl, hM, hU⟩ := hrel
      by_cases hlt : j < K
      · have hc := hM.cellA
        have ht := Lib.hid (hM.there ((F + j) * 16) 16 (by show _ ≤ 16 * m.n; omega))
        have hl := hM.lay ((F + j) * 16) noughts (by show _ ≤ 16 * m.n; simp [noughts]; omega)
        rw [m.scrubN_succ F j (by have := h.len; omega)] at hl
        rw [show (m.scrubN F j).B = m.B from rfl] at *
        rw [show (m.scrubN F j).n = m.n from rfl] at *
        have HL := Lib.hid hl
        clear hl
        go_wp2_with (with_reducible refine wpList_store_sz rfl 79 (.tmp 25) (.tmp 24) rfl m.B ((F + j) * 16) #[.int .u64 0, .int .u64 0, .int .u64 0, .int .u64 0, .int .u64 0, .int .u64 0, .int .u64 0, .int .u64 0, .int .u64 0, .int .u64 0, .int .u64 0, .int .u64 0, .int .u64 0, .int .u64 0, .int .u64 0, .int .u64 0] rfl rfl 16 sz16 ht.out size_words one16 _ ls16 ?_)
        go_roundw
        case rel => exact ⟨j + 1, by omega, by go_num, HL.out, hU.trans (Upd.setCells (by left; rfl) _ _ (Upd.refl _ _))⟩
        case measure => simp [intOf]; omega
      · have e : j = K := by omega
        subst e
        go_wp2
        go_ret
        exact ⟨rfl, by rw [hr.out]; exact hM, hU⟩

/-- a frame's words -/
def Mem.fr (m : Mem) (f : Nat) : List Int := (m.ws.drop (f * 16)).take 16
def Mem.zero (m : Mem) (f : Int) : Bool := m.ex f 1 && decide (m.fr f.toNat = noughts)
theorem MemAt.fr_len {w : World} {A : Nat} {m : Mem} (h : MemAt w A m) (f : Nat) (hf : f < m.n) : (m.fr f).length = 16 := by
  have := h.len
  simp [Mem.fr]; omega
theorem MemAt.range {w : World} {A : Nat} {m : Mem} (h : MemAt w A m) (f : Nat) : w.rangeAt m.B (f * 16) (ints .u64 (m.fr f)) := by
  have := World.rangeAt_of_block h.body (f * 16) 16
  have e : ((ints .u64 m.ws).toArray.extract (f * 16) (f * 16 + 16)).toList = ints .u64 (m.fr f) := by
    simp [Mem.fr, ints, List.extract, List.map_take, List.map_drop]
  rwa [e] at this
theorem guard_words : Try.prog.eqGuardType Try.prog.depth 79 = false := by kernel_rfl
theorem guard_arr : Try.prog.eqGuardType Try.prog.depth 78 = false := by kernel_rfl
theorem size_u64 : (Try.prog.info? 37).map (·.size) = some 1 := by kernel_rfl
theorem zeros16 : (#[.int .u64 0, .int .u64 0, .int .u64 0, .int .u64 0, .int .u64 0, .int .u64 0, .int .u64 0, .int .u64 0, .int .u64 0, .int .u64 0, .int .u64 0, .int .u64 0, .int .u64 0, .int .u64 0, .int .u64 0, .int .u64 0] : Array Value) = (ints .u64 noughts).toArray := rfl
theorem noughts_len : noughts.length = 16 := rfl
set_option maxHeartbeats 400000 in
theorem zero_any (A : Nat) (m : Mem) (f : Int) (w : World) (h : MemAt w A m) :
    Calls Try.prog 32 #[.pointer (some ⟨A, 0, none⟩), .int .i64 f] w fun e w' => e = .returned (.bool (m.zero f)) ∧ w = w' := by
  cases hb : m.ex f 1
  · have hr := Lib.hid (show m.zero f = false from by unfold Mem.zero; rw [hb]; rfl)
    have hb' := Lib.hid hb
    clear hb
    go_enter Try.func32, Try.ntmps32
    go_wp2_with fail
    refine (exist_any A m f 1 _ h (by omega)).mono ?_
    rintro e w' ⟨rfl, rfl⟩
    rw [hb'.out]
    go_wp2
    go_ret
    exact ⟨by rw [hr.out]; rfl, rfl⟩
  · obtain ⟨b1, b2, b3⟩ := of_decide_eq_true hb
    have h2 := h.hi
    obtain ⟨F, rfl⟩ := Int.eq_ofNat_of_zero_le b2
    have hr := Lib.hid (show m.zero F = decide (m.fr F = noughts) from by unfold Mem.zero; rw [hb, Bool.true_and, Int.toNat_natCast])
    have hb' := Lib.hid hb
    have hc := h.cellA
    have hrg := Lib.hid (h.range F)
    have hln := Lib.hid (h.fr_len F (by omega))
    clear hb
    go_enter Try.func32, Try.ntmps32
    go_wp2_with fail
    refine (exist_any A m _ 1 _ h (by omega)).mono ?_
    rintro e w' ⟨rfl, rfl⟩
    rw [hb'.out]
    generalize m.fr F = L at *
    go_wp2_with (first
      | (with_reducible refine wpList_load_sz rfl 79 (.tmp 14) rfl m.B (F * 16) rfl (ints .u64 L) _ hrg.out Try.underlying79 rfl 16 (by rw [ints_length]; exact hln.out) size_words ?_)
      | (with_reducible refine wpList_eql_ints rfl 79 79 (.tmp 15) (.tmp 16) rfl .u64 L noughts _ _ rfl rfl rfl zeros16 16 37 Try.underlying79 Try.underlying37 size_u64 guard_words hln.out noughts_len _ rfl ?_))
    go_ret
    exact ⟨by rw [hr.out]; rfl, rfl⟩
end Go.Proofs.Ytmobhojblclmjaa
