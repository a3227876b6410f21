/-
  Package buddy: Held.
-/
import Derived.Test.YtmobhojblclmjaaBgE
import Derived.Test.YtmobhojblclmjaaBuH
import Derived.Test.YtmobhojblclmjaaLay
namespace Go.Proofs.Ytmobhojblclmjaa
open Go.ChangeShapes Go.WideShapes Go.ChangeAt Go.RowKit Go.Maps Go.Sort Go.Shelf

/-- the frames of the given blocks, as they rise -/
def heldF (b : Bud) : List Int := b.held.map fun x => (x.1 : Int)
theorem heldF_len (b : Bud) : (heldF b).length = b.held.length := by simp [heldF]
theorem sorted_held {b : Bud} (h : b.Ok) {D : DataW Unit} (hM : MapOf D b.gave) (hE : ∃ es, D = .map es ∧ es.Pairwise (fun p q => p.1 ≠ q.1) ∧ ∀ p ∈ es, WideAt.IsKeyLit p.1) {ss : List Int} (hp : ss.Perm (intKeys D)) :
    (ss.mergeSort fun x y => decide (x ≤ y)) = heldF b := by
  obtain ⟨es, rfl, hpw, hkey⟩ := hE
  have hr := heldOf_rises h.frames
  have hr2 : (heldF b).Pairwise fun x y => x < y := List.pairwise_map.2 (hr.imp fun {x y} hxy => by omega)
  have hk : ∀ p ∈ es, ∃ x, p.1 = .int .i64 x := fun p hp => by
    have : Maps.has (.map es) p.1 = true := by
      rw [has_eq, List.any_eq_true]
      exact ⟨p, hp, WideAt.sameKey_self (hkey p hp)⟩
    obtain ⟨x, _, e⟩ := hM.has _ this
    exact ⟨x.1, e⟩
  have h1 : (heldF b).Perm (intKeys (.map es)) := by
    refine perm_intKeys hpw hk (hr2.imp fun {x y} hxy e => by omega) fun k => ?_
    constructor
    · intro hk'
      obtain ⟨x, hx, rfl⟩ := List.mem_map.1 hk'
      exact hM.mem ((heldOf_mem _).1 hx)
    · intro hk'
      obtain ⟨x, hx, e⟩ := hM.has _ hk'
      refine List.mem_map.2 ⟨x, (heldOf_mem _).2 hx, ?_⟩
      unfold kf at e
      injection e with _ e
      exact e.symm
  have h2 := mergeSort_of_perm_i (hp.trans h1.symm)
  show ss.mergeSort leI = _
  rw [h2]
  exact List.mergeSort_of_pairwise (hr2.imp fun {x y} hxy => by simp only [leI, decide_eq_true_eq]; omega)

theorem keys_any (mb : Option Nat) (W : World) : Calls Try.prog 41 #[.map mb] W fun e w' => e = .returned (.func (.func 46) #[] #[.pointer (some ⟨W.heap.size, 0, none⟩)]) ∧ w' = W.alloc (.cells #[.map mb] 73) :=
  (callsIn_wide (n := 5)).1 (AnyZI.keys_in keysA Fence.wide 5 trivial rfl mb W)
theorem sorted_any (GB nn : Nat) (D : DataW Unit) (w : World) (hown : w.ownsMap Try.prog 3 (plainElem Try.prog 3) GB nn D) (hmax : Maps.size D ≤ 256) :
    Calls Try.prog 40 #[.func (.func 46) #[] #[.pointer (some ⟨w.heap.size, 0, none⟩)]] (w.alloc (.cells #[.map (some GB)] 73)) fun e w' => ∃ (v : Value) (ss : List Int), e = .returned v ∧ ss.Perm (intKeys D) ∧
      w'.ownsRow (w.alloc (.cells #[.map (some GB)] 73)).heap.size 3 1 v ss.length ((ss.mergeSort (fun x y => decide (x ≤ y))).map encZ) ∧ (v = .slice none 0 0 ↔ ss = []) ∧ Below (w.alloc (.cells #[.map (some GB)] 73)).heap.size (w.alloc (.cells #[.map (some GB)] 73)) w' := by
  have hbl := hown.lt
  have hseq : SeqGives Fence.wide 2 Try.prog 46 #[.pointer (some ⟨w.heap.size, 0, none⟩)] encZ (fun ss => ss.Perm (intKeys D)) (Maps.size D) (w.alloc (.cells #[.map (some GB)] 73)) :=
    AnyZI.keys_gives (ρ := keysA_ren) { keysA with } Fence.wide _ trivial rfl (by omega) w.heap.size GB nn D _ (by simp) (by simp) (by
      obtain ⟨es, clock, hb, Ft, hs, hD⟩ := hown
      exact ⟨es, clock, (Below.heap_alloc _ _ GB hbl).trans hb, Ft, hs, hD⟩)
  have cS := AnyZI.sorted_in sortedA Fence.wide 5 trivial trivial trivial trivial rfl (by omega) (sortsA _) (enters_of Try.func45 (by kernel_rfl) rfl) 46 #[.pointer (some ⟨w.heap.size, 0, none⟩)] trivial (enters_of Try.func46 (by kernel_rfl) rfl) _ _ (by unfold maxLen; omega) (by omega) _ hseq
  exact (callsIn_wide (n := 5)).1 cS
theorem zero_int (w : World) : (zeroValue 3).run Try.prog w = .ok (.int .i64 0) w := by kernel_rfl
theorem slice1 {w : World} {base : Nat} {e : TypeId} {v : Value} {k : Nat} {xs : List Value} (h : w.ownsRow base e 1 v k xs) : ∃ o cap, v = .slice o k cap ∧ ∀ (j : Nat) (u : Value), xs[j]? = some u → ∃ g, o = some ⟨g, 0, none⟩ ∧ w.cell? ⟨g, j, none⟩ = some u := by
  rcases h.2 with ⟨rfl, rfl⟩ | ⟨g, cap, cur, rfl, _⟩
  · refine ⟨none, 0, rfl, fun j u hu => ?_⟩
    have : xs = [] := List.length_eq_zero_iff.1 (by have := h.1; omega)
    rw [this] at hu; simp at hu
  · exact ⟨_, _, rfl, fun j u hu => ⟨g, rfl, by have := h.cells (g := g) rfl j u hu; rwa [add_mid0, Nat.zero_add] at this⟩⟩
theorem take_snoc' (l : List (Nat × Nat)) (k : Nat) (h : k < l.length) : l.take (k + 1) = l.take k ++ [l.getD k (0, 0)] := by
  rw [List.take_add_one, List.getElem?_eq_getElem h]
  simp [List.getD_eq_getElem?_getD, List.getElem?_eq_getElem h]
theorem wf_frame {n : Nat} (h : n ≤ 256) : (Lit.int .i64 (n : Int)).wf = true := by
  show (decide (IntKind.i64.min ≤ (n : Int)) && decide ((n : Int) ≤ IntKind.i64.max)) = true
  rw [decide_eq_true (show IntKind.i64.min ≤ (n : Int) by show -9223372036854775808 ≤ (n : Int); omega), decide_eq_true (show (n : Int) ≤ IntKind.i64.max by show (n : Int) ≤ 9223372036854775807; omega)]
  rfl
theorem upd_app {S : Nat → Prop} {a W w4 : World} {X : Obj} {base sz k : Nat} {e : TypeId} {v : Value} {xs : List Value} (hU : Upd S a W) (hrow : W.ownsRow base e sz v k xs) (hb : a.heap.size ≤ base) (hgr : (W.alloc X).grownBy w4 v.ownBlock) : Upd S a w4 :=
  ⟨hgr.os.trans hU.os, hgr.tape.trans hU.tape, hgr.output.trans hU.output, by have h1 := hgr.size; have h2 := hU.size; simp at h1; omega, fun k hk hs => by
    have h2 := hU.size
    rw [hgr.block k (by simp; omega) (fun e => by have := (hrow.lt k e.symm).1; omega), Below.heap_alloc _ _ _ (by omega)]
    exact hU.block k hk hs⟩

set_option maxRecDepth 100000 in
set_option maxHeartbeats 2000000 in
theorem bHeld_any (A MA GB : Nat) (b : Bud) (w : World) (h : BudAt w A MA GB b) :
    Calls Try.prog 24 #[.pointer (some ⟨A, 0, none⟩)] w fun e w' => ∃ v, e = .returned v ∧ w'.ownsRow w.heap.size 60 2 v b.held.length (bcells b.held) ∧ Upd (fun _ => False) w w' := by
  obtain ⟨i0, hi, hz0, hz1, hz2⟩ := info_parts info_block
  obtain ⟨D, hD, hM⟩ := h.mp
  have hsz : Maps.size D ≤ 256 := by rw [hM.sz]; exact h.ok.gave_len
  have hE := hD.entries keyLaw
  have hc2 := h.c2
  have hlen : b.held.length ≤ 256 := by rw [held_len]; exact h.ok.gave_len
  have hok := Lib.hid h.ok
  have HM := Lib.hid hM
  have hS := Lib.hid (fun ss hp => sorted_held (ss := ss) h.ok hM hE hp)
  have cS := Lib.hid (sorted_any GB 256 D w hD hsz)
  clear hM
  go_enter Try.func24, Try.ntmps24
  go_wp2_with fail
  refine (keys_any _ _).mono ?_
  rintro e w1 ⟨rfl, rfl⟩
  go_wp2_with fail
  refine cS.out.mono ?_
  rintro e w2 ⟨v, ss, rfl, hp, hrow, _, hB⟩
  have hts := hS.out ss hp
  have hl : ss.length = b.held.length := by
    have := congrArg List.length hts
    rwa [List.length_mergeSort, heldF_len] at this
  rw [hts, hl] at hrow
  obtain ⟨o, cap, rfl, hcell⟩ := slice1 hrow
  have hU2 : Upd (fun _ => False) w w2 := ((Upd.refl (fun _ => False) w).alloc _).trans (Upd.of_below hB)
  have hN2 := Nat.le_trans (Nat.le_succ _) (by simpa using hB.size : w.heap.size + 1 ≤ w2.heap.size)
  clear hrow hp hts hl hS cS hB hE
  go_wp2
  go_loopw [3, 13] (fun v t wr => ∃ j : Nat, j ≤ b.held.length ∧ t = .int .i64 j ∧ wr.ownsRow w2.heap.size 60 2 v j (bcells (b.held.take j)) ∧ Upd (fun _ => False) w2 wr) (fun _ t _ => b.held.length - (RowKit.intOf t).toNat)
  case atStart => exact ⟨0, by omega, rfl, World.ownsRow_nil _ _ _ _, Upd.refl _ _⟩
  case round =>
    obtain ⟨j, hj, rfl, hrow, hU⟩ := hrel
    obtain ⟨o', cap', rfl⟩ := slice2 hrow
    by_cases hlt : j < b.held.length
    · obtain ⟨g, rfl, hg⟩ := hcell j (.int .i64 ((b.held.getD j (0, 0)).1 : Int)) (by simp [heldF, List.getD_eq_getElem?_getD, List.getElem?_eq_getElem hlt])
      have hx : b.held.getD j (0, 0) ∈ b.gave := (heldOf_mem _).1 (by rw [List.getD_eq_getElem?_getD, List.getElem?_eq_getElem hlt]; exact List.getElem_mem _)
      have hsn := Lib.hid (take_snoc' b.held j hlt)
      generalize b.held.getD j (0, 0) = x at hg hx hsn
      obtain ⟨x8, xal, xr, xn⟩ := hok.out.blk x hx
      have hb2 := hok.out.hi
      have hwf := Lib.hid (wf_frame (n := x.1) (by have := Nat.two_pow_pos x.2; omega))
      have hget := Lib.hid (HM.out.get x hx (.lit (.int .i64 0)))
      have hgr := hU.cell hg (fun h => h)
      have hcr := (h.kept (hU2.trans hU) (fun h => h) (fun h => h)).c2
      have hDr := map_kept hD (hU2.trans hU) (fun h => h)
      have hz := zero_int
      have hs := hU.size
      clear xal xr xn
      go_wp2_with (first
        | (at_lookup; refine wpList_lookup_own_int _ rfl _ _ 73 rfl 3 3 .i64 keyLaw Try.underlying73 Try.underlying3 (hz _) GB 256 D rfl hDr _ (kf x.1) rfl (keyOf_int_mk Try.underlying3 hwf.out) ?_; intro c hat hwc; obtain rfl : (x.2 : Int) = c := by { rw [hget.out] at hat; injection hat with hat; injection hat })
        | (at_builtin; refine wpList_append_own _ rfl _ _ 51 rfl w2.heap.size 60 i0 (.agg #[.int .i64 0, .int .i64 0]) 2 16 Try.underlying51 hi hz0 hz1 hz2 rfl (by decide) _ _ _ rfl (hrow.alloc _) ⟨wr.heap.size, 0, none⟩ 1 1 [.int .i64 x.1, .int .i64 x.2] rfl rfl (cell_two _ _ _ _) (by simp [Value.oneCell']) (by simp [maxLen]; omega) (by omega) (by simp; omega) ?_; intro v' w4 hown' hgrow _; obtain ⟨g', cap'', rfl⟩ := ownsRow_succ hown')
        | go_in)
      rename_i hnl
      have hU4 := upd_app hU hrow (Nat.le_refl _) (w4 := w4) (X := .cells #[.int .i64 x.1, .int .i64 x.2] 60) hgrow
      exact ⟨⟨j + 1, by omega, by go_num, by rw [hsn.out, bcells_app]; exact hown', hU4⟩, by simp [RowKit.intOf]; omega⟩
    · have e : j = b.held.length := by omega
      subst e
      have Hrow := Lib.hid (show wr.ownsRow w.heap.size 60 2 (.slice o' b.held.length cap') b.held.length (bcells b.held) from by
        rw [List.take_of_length_le (Nat.le_refl _)] at hrow
        exact ownsRow_base_a hrow hN2)
      clear hrow
      go_wp2
      go_ret
      exact ⟨_, rfl, Hrow.out, hU2.trans hU⟩
end Go.Proofs.Ytmobhojblclmjaa
