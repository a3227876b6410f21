/-
  Proved: trunnionlaw02.MemoryScrubs answers true for every input: frames that are scrubbed are noughts, and no others change; if one of them is none, nothing changes.
  Conditions: none.
-/
import Derived.Test.YtjcemelpdffnkaaMemF
import Derived.Test.YtjcemelpdffnkaaFrame
import Derived.Deep.RegionHeld3
import Derived.Deep.DeepCutAuto
namespace Go.Proofs.Ytjcemelpdffnkaa.memoryScrubs
open Go.ChangeShapes Go.WideShapes Go.ChangeAt Go.RowKit
set_option linter.unusedVariables false
set_option linter.unusedSimpArgs false

/-- the memory behind k rounds of the first loop -/
def laid (B : Nat) : Nat → Mem
  | 0 => memNew B 8
  | k + 1 => (laid B k).fill k (second (k + 1))
theorem laid_B (B : Nat) : ∀ k, (laid B k).B = B
  | 0 => rfl
  | k + 1 => by rw [laid, Mem.fill_B]; exact laid_B B k
theorem laid_n (B : Nat) : ∀ k, (laid B k).n = 8
  | 0 => rfl
  | k + 1 => by rw [laid, Mem.fill_n]; exact laid_n B k
theorem laid_ok (B : Nat) : ∀ k, (laid B k).ok
  | 0 => Mem.new_ok B 8
  | k + 1 => (laid B k).ok_fill (laid_ok B k) _ _ rfl
theorem laid_ex (B k j : Nat) (h : j < 8) : (laid B k).ex j 1 = true := decide_eq_true (by rw [laid_n]; omega)
theorem laid_fr (B : Nat) : ∀ k, k ≤ 8 → ∀ i, i < k → (laid B k).fr i = second (i + 1)
  | 0, _, i, h => absurd h (by omega)
  | k + 1, hk, i, hi => by
    have e : laid B (k + 1) = (laid B k).lay (k * 16) (second (k + 1)) := by
      rw [laid, Mem.fill, laid_ex B k k (by omega), if_pos rfl]; rfl
    rw [e]
    have hn := laid_n B k
    by_cases h : i = k
    · subst h
      exact (laid B i).fr_lay_same (laid_ok B i) _ rfl i (by omega)
    · rw [(laid B k).fr_lay_apart (laid_ok B k) _ _ (by rw [second_len]; omega) i (by omega) (by rw [second_len]; omega)]
      exact laid_fr B k (by omega) i (by omega)
def mayB (f k : Int) : Bool := decide (1 ≤ k ∧ k ≤ 8 ∧ 0 ≤ f ∧ f ≤ 8 - k)
def inB (f k : Int) (i : Nat) : Bool := mayB f k && decide (f ≤ i) && decide ((i : Int) < f + k)
/-- the memory behind the scrub -/
def scr (B : Nat) (f k : Int) : Mem := (laid B 8).scrub f k
theorem scr_ok (B : Nat) (f k : Int) : (scr B f k).ok := (laid B 8).ok_scrub (laid_ok B 8) f k
theorem scr_n (B : Nat) (f k : Int) : (scr B f k).n = 8 := by unfold scr; rw [Mem.scrub_n]; exact laid_n B 8
theorem scr_B (B : Nat) (f k : Int) : (scr B f k).B = B := by unfold scr; rw [Mem.scrub_B]; exact laid_B B 8
theorem ex_may (B : Nat) (f k : Int) : (laid B 8).ex f k = mayB f k := by
  unfold Mem.ex mayB
  rw [laid_n, Bool.eq_iff_iff, decide_eq_true_eq, decide_eq_true_eq]
  omega
theorem second_ne (v : Int) (h : v ≠ 0) : second v ≠ noughts := by
  intro e
  have : (second v).getD 0 0 = noughts.getD 0 0 := by rw [e]
  exact h this
theorem scr_out (B : Nat) (f k : Int) (i : Nat) (hi : i < 8) (h : inB f k i = false) : (scr B f k).fr i = second (i + 1) := by
  cases hm : mayB f k
  · have : scr B f k = laid B 8 := by unfold scr Mem.scrub; rw [ex_may, hm]; exact if_neg Bool.false_ne_true
    rw [this]
    exact laid_fr B 8 (by omega) i hi
  · unfold scr
    rw [(laid B 8).scrub_fr (laid_ok B 8) f k i (by rw [laid_n]; exact hi) (by
      unfold inB at h
      rw [hm] at h
      simp at h
      omega)]
    exact laid_fr B 8 (by omega) i hi
theorem scr_ex (B : Nat) (f k : Int) (i : Nat) (hi : i < 8) : (scr B f k).ex i 1 = true := decide_eq_true (by rw [scr_n]; omega)
theorem scr_zero (B : Nat) (f k : Int) (i : Nat) (hi : i < 8) : (scr B f k).zero i = inB f k i := by
  cases h : inB f k i
  · unfold Mem.zero
    rw [scr_ex B f k i hi, Bool.true_and, Int.toNat_natCast, scr_out B f k i hi h, decide_eq_false_iff_not]
    exact second_ne _ (by omega)
  · unfold inB at h
    simp only [Bool.and_eq_true, decide_eq_true_eq] at h
    exact (laid B 8).scrub_zero (laid_ok B 8) f k i (by rw [ex_may]; exact h.1.1) h.1.2 h.2
theorem scr_none (B : Nat) (f k : Int) (i : Int) (hi : i < 0 ∨ 8 ≤ i) : (scr B f k).zero i = false := by
  unfold Mem.zero Mem.ex
  rw [scr_n, decide_eq_false (by omega)]; rfl
theorem scr_frI (B : Nat) (f k : Int) (i : Nat) (hi : i < 8) (h : inB f k i = false) : (scr B f k).frI i = second (i + 1) := by
  unfold Mem.frI
  rw [scr_ex B f k i hi, if_pos rfl, Int.toNat_natCast, scr_out B f k i hi h]
theorem scr_len (B : Nat) (f k : Int) (i : Nat) (hi : i < 8) : ((scr B f k).frI i).length = 16 := by
  unfold Mem.frI
  rw [scr_ex B f k i hi, if_pos rfl]
  exact (scr B f k).fr_len (scr_ok B f k) _ (by rw [scr_n]; omega)
theorem below_none {w w' : World} (h : Upd (fun _ => False) w w') : Below w.heap.size w w' := h.below (Nat.le_refl _) (fun _ _ e => e)
set_option maxRecDepth 100000 in
set_option maxHeartbeats 1000000 in
theorem walk (f k : Int) (w0 : (Lit.int .i64 f).wf = true) (w1 : (Lit.int .i64 k).wf = true) (w : World) :
    Calls Try.prog 6 #[.int .i64 f, .int .i64 k] w fun e w' => e = .returned (.bool true) ∧ Below w.heap.size w w' := by
  have hk := Lib.hid (bounds_i64 w1)
  clear w0 w1
  go_enter Try.func6, Try.ntmps6
  go_wp2_with fail
  refine (awake_any _).mono ?_
  rintro e w1 ⟨rfl, U1⟩
  go_wp2_with fail
  refine (new_yes 8 _ (by omega) (by omega)).mono ?_
  rintro e w2 ⟨rfl, M0, U2, -⟩
  have hU := U1.trans U2
  have hB1 := U1.size
  clear U1 U2
  generalize w1.heap.size = B at M0 hB1 ⊢
  generalize B + 1 = A at M0 ⊢
  go_wp2_with fail
  go_loopw [8] (fun t wr => ∃ j : Nat, j ≤ 8 ∧ t = .int .i64 j ∧ MemAt wr A (laid B j) ∧ Upd (fun _ => False) w wr) (fun t _ => 8 - (intOf t).toNat)
  case atStart => exact ⟨0, by omega, rfl, M0, hU⟩
  case round =>
    obtain ⟨j, hj, rfl, hM, hU⟩ := hrel
    by_cases hlt : j < 8
    · go_wp2_with fail
      refine (second_any _ _).mono ?_
      rintro e w3 ⟨rfl, U3⟩
      go_wp2_with fail
      refine (fill_any A (laid B j) _ _ _ (hM.kept U3 (fun h => h) (fun h => h)) rfl).mono ?_
      rintro e w4 ⟨rfl, M4, U4⟩
      rw [laid_B] at U4
      go_wp2
      go_roundw
      case rel => exact ⟨j + 1, by omega, by go_num, M4, (hU.trans U3).new (U4.one hB1)⟩
      case measure => simp [intOf]; omega
    · have e : j = 8 := by omega
      subst e
      go_wp2_with fail
      refine (scrub_any A (laid B 8) _ _ _ hM hk.out.2).mono ?_
      rintro e w4 ⟨rfl, M4, U4⟩
      rw [laid_B] at U4
      replace hU := hU.new (U4.one hB1)
      rw [ex_may]
      change MemAt w4 A (scr B f k) at M4
      clear U4 hM hlt hj M0
      go_upto_region 10 with fail
      go_cut [10] (fun s10 wx => s10 = .bool (mayB f k) ∧ w4 = wx)
      case first =>
        by_cases c1 : 1 ≤ k
        · by_cases c2 : k ≤ 8
          · by_cases c3 : 0 ≤ f
            · have hm := Lib.hid (show mayB f k = decide (f ≤ 8 - k) from by unfold mayB; simp [c1, c2, c3])
              go_wp2_with fail
              go_meet
              exact ⟨by rw [hm.out], rfl⟩
            · have hm := Lib.hid (show mayB f k = false from decide_eq_false (by omega))
              go_wp2_with fail
              go_meet
              exact ⟨by rw [hm.out], rfl⟩
          · have hm := Lib.hid (show mayB f k = false from decide_eq_false (by omega))
            go_wp2_with fail
            go_meet
            exact ⟨by rw [hm.out], rfl⟩
        · have hm := Lib.hid (show mayB f k = false from decide_eq_false (by omega))
          go_wp2_with fail
          go_meet
          exact ⟨by rw [hm.out], rfl⟩
      case rest =>
        obtain ⟨rfl, rfl⟩ := hcut
        go_wp2_with fail
        go_loopw [11] (fun t wr => ∃ j : Nat, j ≤ 8 ∧ t = .int .i64 j ∧ MemAt wr A (scr B f k) ∧ Upd (fun _ => False) w wr) (fun t _ => 8 - (intOf t).toNat)
        case atStart => exact ⟨0, by omega, rfl, M4, hU⟩
        case round =>
          obtain ⟨j, hj, rfl, hM, hU⟩ := hrel
          by_cases hlt : j < 8
          · have hz := Lib.hid (scr_zero B f k j hlt)
            have hln := Lib.hid (scr_len B f k j hlt)
            have hex := Lib.hid (scr_ex B f k j hlt)
            go_upto_region 14 with fail
            go_cut [9, 10, 12] (fun s9 s10 s12 wx => s9 = .int .i64 (errI (mayB f k)) ∧ s10 = .bool (mayB f k) ∧ s12 = .bool (inB f k j) ∧ wr = wx)
            case first =>
              cases hm : mayB f k
              · have hi := Lib.hid (show inB f k j = false from by unfold inB; rw [hm]; rfl)
                have Hm := Lib.hid hm
                clear hm
                go_wp2_with fail
                go_meet
                exact ⟨by rw [Hm.out], by rw [Hm.out], by rw [hi.out], rfl⟩
              · obtain ⟨m1, m2, m3, m4⟩ := of_decide_eq_true hm
                by_cases c1 : f ≤ j
                · have hi := Lib.hid (show inB f k j = decide ((j : Int) < f + k) from by unfold inB; rw [hm]; simp [c1])
                  have Hm := Lib.hid hm
                  clear hm
                  go_wp2_with fail
                  go_meet
                  exact ⟨by rw [Hm.out], by rw [Hm.out], by rw [hi.out], rfl⟩
                · have hi := Lib.hid (show inB f k j = false from by unfold inB; rw [hm]; simp [c1])
                  have Hm := Lib.hid hm
                  clear hm
                  go_wp2_with fail
                  go_meet
                  exact ⟨by rw [Hm.out], by rw [Hm.out], by rw [hi.out], rfl⟩
            case rest =>
              obtain ⟨rfl, rfl, rfl, rfl⟩ := hcut
              go_wp2_with fail
              refine (frame_any A (scr B f k) _ _ hM).mono ?_
              rintro e w5 ⟨rfl, M5, U5⟩
              replace hU := hU.trans U5
              rw [hex.out]
              cases hin : inB f k j
              · have hL := scr_frI B f k j hlt hin
                rw [hin] at hz
                rw [hL]
                rw [hL] at hln
                clear hL
                obtain ⟨g1, g2, g3⟩ := alloc16 w5 (second (↑j + 1)) 37 hln.out
                have G3 := Lib.hid g3
                clear g3
                go_wp2_with (with_reducible refine wpList_store_sz rfl 37 (.tmp 13) (.tmp 78) rfl w5.heap.size 0 (ints .u64 (second (↑j + 1))).toArray rfl rfl 16 (by rw [List.size_toArray, ints_length]; exact hln.out) G3.out size_arr (ints_one _ _) _ rfl ?_)
                have M6 := M5.kept g2 (fun h => h) (fun h => h)
                replace hU := hU.trans g2
                have R6 := rangeAt_block g1
                clear g2 M5 U5 hM g1 G3
                generalize hW : World.setCells _ w5.heap.size 0 (ints .u64 (second (↑j + 1))) = W at M6 hU R6 ⊢
                clear hW hin
                have u37 : Try.prog.underlying 37 = some (.array 16 31) := Try.underlying37
                have hl : (ints .u64 (second (↑j + 1))).length = 16 := by rw [ints_length]; rfl
                have hs : (Try.prog.info? 37).map (·.size) = some (ints .u64 (second (↑j + 1))).length := by rw [hl]; exact size_arr
                have hcv : IntKind.u64.wrap (IntKind.i64.wrap ((j : Int) + 1)) = (j : Int) + 1 := by rw [IntWalk.i64_in _ (by omega), IntKind.wrap_u64]; omega
                have heq := run_equal_ints (P := Try.prog) (t := 37) (e := 31) (k := .u64) (n := 16) Try.underlying37 Try.underlying31 size_u64 (second (↑j + 1)) (second (↑j + 1)) rfl rfl true (by simp)
                go_region_held3 (fun w' => w'.rangeAt w5.heap.size 0 (ints .u64 (second (↑j + 1))) ∧ MemAt w' A (scr B f k) ∧ Upd (fun _ => False) w w')
                  (first
                    | exact ⟨by simpa using R6, M6.drew, hU.drew⟩
                    | assumption
                    | exact ⟨R7, M7, U7⟩)
                  (first
                    | (go_at_call 20; go_split_ands; refine (zero_any _ _ _ _ (by assumption)).mono ?_; rintro e w' ⟨rfl, rfl⟩; rw [hz.out])
                    | (go_at_call 15; go_split_ands; refine (second_any _ _).mono ?_; rintro e w' ⟨rfl, U9⟩; rename_i R8 M8 U8; have R7 := U9.rangeAt R8 (fun h => h); have M7 := M8.kept U9 (fun h => h) (fun h => h); have U7 := U8.trans U9))
                go_split_ands
                clear heq hs hl hcv u37 R6 M6
                go_wp2
                go_roundw
                case rel => exact ⟨j + 1, by omega, by go_num, by assumption, by assumption⟩
                case measure => simp [intOf]; omega
              · rw [hin] at hz
                generalize (scr B f k).frI j = L at *
                obtain ⟨g1, g2, g3⟩ := alloc16 w5 L 37 hln.out
                have G1 := Lib.hid g1
                have G3 := Lib.hid g3
                clear g1 g3
                go_wp2_with (with_reducible refine wpList_store_sz rfl 37 (.tmp 13) (.tmp 78) rfl w5.heap.size 0 (ints .u64 L).toArray rfl rfl 16 (by rw [List.size_toArray, ints_length]; exact hln.out) G3.out size_arr (ints_one _ _) _ rfl ?_)
                have M6 := M5.kept g2 (fun h => h) (fun h => h)
                replace hU := hU.trans g2
                clear g2 M5 U5 hM
                generalize hW : World.setCells _ w5.heap.size 0 (ints .u64 L) = W at M6 hU ⊢
                clear hW
                have hZ := Lib.hid (show ∀ n, Calls Try.prog 20 #[.pointer (some ⟨A, 0, none⟩), .int .i64 j] (W.drewN n) fun e w'' => e = .returned (.bool true) ∧ ∃ m, w'' = W.drewN m from fun n => still0 (by
                  have := zero_any A (scr B f k) j (W.drewN n) (M6.kept ((Upd.refl (fun _ => False) _).drewN _) (fun h => h) (fun h => h))
                  rwa [hz.out] at this))
                go_quiet ((go_at_call 20; exact hZ.out _))
                go_wp2
                go_roundw
                case rel => exact ⟨j + 1, by omega, by go_num, M6.kept ((Upd.refl (fun _ => False) _).drewN _) (fun h => h) (fun h => h), hU.drewN _⟩
                case measure => simp [intOf]; omega
          · have e : j = 8 := by omega
            subst e
            have z1 := Lib.hid (scr_none B f k 8 (by omega))
            have z2 := Lib.hid (scr_none B f k (-1) (by omega))
            cases hm : mayB f k
            all_goals
              clear hm
              simp only [errI_t, errI_f]
              go_wp2_with fail
              refine (zero_any _ _ _ _ hM).mono ?_
              rintro e w6 ⟨rfl, rfl⟩
              rw [z1.out]
              go_wp2_with fail
              refine (zero_any _ _ _ _ hM).mono ?_
              rintro e w6 ⟨rfl, rfl⟩
              rw [z2.out]
              go_wp2
              go_ret
              exact ⟨rfl, below_none hU⟩
/-! ### the row's frame -/
theorem own : ownKnob Try.prog.godebug = none := by kernel_rfl
theorem laidOut : laidOutB Try.prog = true := by kernel_rfl
set_option linter.unusedVariables false in
set_option maxRecDepth 100000 in
theorem lifted (os : Os) (started : os.Started) (H : Type) (enc : TypeId × Value → H) :
    ReturnsInHanded {} Try.checked os 6 .any (Rows.memoryScrubsSpec.pre6 enc Try.prog Try.f6 Rows.memoryScrubsRow.domain false) (Rows.memoryScrubsSpec.post enc Try.prog Try.f6 false true false false) := by
  refine returnsInHanded_of_change (C := Try.checked) own started (by kernel_rfl) Try.func6
    (ChangeSpec.witness6 (enc := enc) (C := Try.checked) false ⟨#[], #[.int .i64 0, .int .i64 0], []⟩ 8 (by kernel_rfl) (by kernel_rfl) (by kernel_rfl) (by kernel_rfl)) ?_
  intro W base args ds gs before hval0 hW hcnd _
  have hval : ∀ (j : Nat) t v, Try.f6.params[j]? = some t → args[j]? = some v → Value.okWide Try.prog W .any base t v := hval0
  have hW' := hW
  obtain ⟨p, q, hA0, hV, rfl, hfz, hnd⟩ := hW
  have hA : DataW.TrodAll enc Try.prog W 0 (fun _ => true) true Try.f6.params.toList args.toList ds p := hA0
  rw [Try.params6] at hA hval
  obtain ⟨v0, vs0, d0, ds0, p0, q0, hargs, rfl, rfl, h0, r0⟩ := trodAll_cons hA
  obtain ⟨v1, vs1, d1, ds1, p1, q1, rfl, rfl, rfl, h1, r1⟩ := trodAll_cons r0
  obtain ⟨rfl, rfl, rfl⟩ := trodAll_nil r1
  obtain rfl : args = #[v0, v1] := by cases args; simp_all
  obtain ⟨rfl, rfl⟩ := trodVars_none hV
  have k0 := h0
  have lt0 : ∀ x ∈ p0, x.block < W.heap.size := by obtain ⟨m, hm⟩ := k0; exact DataW.trod_lt m _ _ _ hm
  obtain ⟨a0, rfl, rfl, rfl, w0⟩ := open_int Try.underlying3 (hval 0 3 v0 rfl rfl) h0
  have k1 := h1
  have lt1 : ∀ x ∈ p1, x.block < W.heap.size := by obtain ⟨m, hm⟩ := k1; exact DataW.trod_lt m _ _ _ hm
  obtain ⟨a1, rfl, rfl, rfl, w1⟩ := open_int Try.underlying3 (hval 1 3 v1 rfl rfl) h1
  clear hA0 hval0
  refine (walk a0 a1 w0 w1 W ).mono fun e W' ⟨he, bel⟩ => ?_
  subst he
  exact ⟨_, rfl, _, _, _, [], _, [], hW', trodAll_mk1 (shut_bool Try.underlying4 _), (trodAll_cons_mk (Below.trod laidOut (by kernel_rfl) (of_decide_eq_true (by kernel_rfl)) k0 bel lt0) (trodAll_cons_mk (Below.trod laidOut (by kernel_rfl) (of_decide_eq_true (by kernel_rfl)) k1 bel lt1) trodAll_mk0)), rfl, bel.frame _, fun h => by cases h⟩

theorem over : Rows.memoryScrubsRow.holds Try.pinned (OpenSpec.ofChange Rows.memoryScrubsSpec) :=
  OpenClaim.holds_of_wide 6 Try.f6 rfl rfl rfl rfl rfl rfl rfl ⟨rfl, rfl, rfl, rfl, rfl⟩ rfl rfl rfl rfl rfl (by kernel_rfl) Try.func6 (by kernel_rfl)
    (of_decide_eq_true (by kernel_rfl)) (by unfold Func.isWrapper; first | (rw [if_pos (by decide +kernel)]; kernel_rfl) | (rw [if_neg (by decide +kernel)]; exact ⟨rfl, rfl⟩))
    (fun os started H enc _ => lifted os started H enc)

theorem proved : Rows.MemoryScrubsSaid :=
  over
end Go.Proofs.Ytjcemelpdffnkaa.memoryScrubs
