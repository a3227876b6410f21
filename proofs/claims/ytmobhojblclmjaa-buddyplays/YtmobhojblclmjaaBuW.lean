/-
  The document's own allocator: Held.
-/
import Derived.Test.YtmobhojblclmjaaBuV
import Derived.Test.YtmobhojblclmjaaBuH
namespace Go.Proofs.Ytmobhojblclmjaa
open Go.ChangeShapes Go.WideShapes Go.ChangeAt Go.RowKit

theorem Src.upd {w w' : World} {x : Value} {m size : Nat} {news : List Value} (h : Src w x m size news) (u : Upd (fun _ => False) w w') : Src w' x m size news := by
  rcases h with h | ⟨b, off, c, rfl, h1, h2⟩
  · exact .inl h
  · exact .inr ⟨b, off, c, rfl, h1, fun j v hv => u.cell (h2 j v hv) (fun h => h)⟩
theorem grow_upd {W X w4 : World} {v : Value} (u : Upd (fun _ => False) W X) (g : X.grownBy w4 v.ownBlock) (hv : ∀ k, v.ownBlock = some k → W.heap.size ≤ k) : Upd (fun _ => False) W w4 := app_upd2 u g hv

set_option maxRecDepth 100000 in
set_option maxHeartbeats 4000000 in
theorem rheld_any (C MP FB : Nat) (g : Value) (b : Bud) (w : World) (h : RBud w C MP FB g b) :
    Calls Try.prog 25 #[.pointer (some ⟨C, 0, none⟩)] w fun e w' => ∃ v, e = .returned v ∧ w'.ownsRow w.heap.size 47 2 v b.held.length (bcells b.held) ∧ Below w.heap.size w w' := by
  obtain ⟨i0, hi0, hz0, hz1, hz2⟩ := info_parts info_rblock
  have hgl := h.ok.gave_len
  obtain ⟨N, hN⟩ : ∃ N, w.heap.size = N := ⟨_, rfl⟩
  obtain ⟨og, capg, rfl⟩ := slice2 h.gv
  obtain ⟨ln, hln⟩ : ∃ ln, b.gave.length = ln := ⟨_, rfl⟩
  have HLn := Lib.hid hln
  have hl6 : ln ≤ 256 := by rw [← hln]; exact hgl
  rw [hN]
  go_enter Try.func25, Try.ntmps25
  go_wp2
  go_loopw [3, 4] (fun v t wr => ∃ i : Nat, i ≤ ln ∧ t = .int .i64 i ∧ wr.ownsRow N 47 2 v (heldOf (b.gave.take i)).length (bcells (heldOf (b.gave.take i))) ∧ Below N w wr) (fun _ t _ => ln - (intOf t).toNat)
  case atStart => exact ⟨0, by omega, rfl, World.ownsRow_nil _ _ _ _, hN ▸ Below.refl _ _⟩
  case round =>
    obtain ⟨i, hi, rfl, hrow, hB⟩ := hrel
    have hW : RBud wr C MP FB (.slice og b.gave.length capg) b := h.below hB (by omega)
    have hc2 := hW.c2
    have hbg := brow_of hW.gv
    have hhl : (heldOf (b.gave.take i)).length = i := by
      have := held_len { b with gave := b.gave.take i }
      unfold Bud.held at this
      rw [this]
      simp; omega
    rw [hln] at hc2 hbg
    by_cases hlt : i < ln
    · obtain ⟨o, cap, rfl⟩ := slice2 hrow
      obtain ⟨og', capg', e1, hcg⟩ := hbg
      simp at e1
      obtain ⟨rfl, hh, rfl⟩ := e1
      clear hh
      obtain ⟨gb, rfl, c0, c1⟩ := hcg i (by omega)
      obtain ⟨x, hx⟩ : ∃ x, b.gave.getD i (0, 0) = x := ⟨_, rfl⟩
      rw [hx] at c0 c1
      have hsn := Lib.hid (show heldOf (b.gave.take (i + 1)) = ins (heldOf (b.gave.take i)) x from by rw [take_snoc b.gave i (by omega), heldOf_snoc, hx])
      obtain ⟨L, hL⟩ : ∃ L, heldOf (b.gave.take i) = L := ⟨_, rfl⟩
      rw [hL] at hrow hhl hsn
      obtain ⟨o', cap', e2, hcL⟩ := brow_of hrow
      simp at e2
      obtain ⟨rfl, rfl⟩ := e2
      rw [hL, hhl]
      rw [hhl] at hrow hcL
      have HL := Lib.hid hhl
      have hiI : (i : Int) < (ln : Int) := by omega
      have HcL := Lib.hid hcL
      have Hx := Lib.hid hx
      clear hL hhl hcg hcL hx hln
      go_upto_block 2 with fail
      go_cut [3, 5] (fun s3 s5 wx => s3 = .slice o i cap ∧ ∃ a q : Nat, a ≤ i ∧ s5 = .int .i64 a ∧ wx = wr.drewN q ∧ Hid (ins L x = L.take a ++ ([x] ++ L.drop a)))
      case first =>
        go_wp2_with fail
        go_loopw [5] (fun t wx => ∃ a q : Nat, a ≤ i ∧ t = .int .i64 a ∧ wx = wr.drewN q ∧ Hid (∀ j, j < a → (L.getD j (0, 0)).1 < x.1)) (fun t _ => i - (intOf t).toNat)
        case atStart => exact ⟨0, 0, by omega, rfl, rfl, Lib.hid fun j hj => by omega⟩
        case round =>
          obtain ⟨a, q, ha, rfl, rfl, hlow⟩ := hrel
          by_cases hai : a < i
          · obtain ⟨ga, rfl, d0, d1⟩ := HcL.out a hai
            obtain ⟨y, hy⟩ : ∃ y, L.getD a (0, 0) = y := ⟨_, rfl⟩
            rw [hy] at d0 d1
            have Hy := Lib.hid hy
            clear hy d1
            have hai' : (a : Int) < (i : Int) := by omega
            by_cases hyx : y.1 < x.1
            · have hst := Lib.hid (show ∀ j, j < a + 1 → (L.getD j (0, 0)).1 < x.1 from fun j hj => by
                rcases Nat.lt_or_ge j a with h1 | h1
                · exact hlow.out j h1
                · rw [show j = a from by omega, Hy.out]; exact hyx)
              have hyx' : (y.1 : Int) < (x.1 : Int) := by omega
              generalize y.1 = y1 at d0 hyx hyx'
              generalize x.1 = x1 at c0 hyx hyx' hst
              go_wp2
              go_quiet (fail)
              go_wp2
              go_roundw
              case rel => exact ⟨a + 1, _, by omega, by go_num, rfl, hst⟩
              case measure => simp [intOf]; omega
            · have hfin := Lib.hid (ins_at L x a (by rw [HL.out]; exact ha) hlow.out (fun _ => by rw [Hy.out]; exact hyx))
              have hyx' : ¬ (y.1 : Int) < (x.1 : Int) := by omega
              generalize y.1 = y1 at d0 hyx hyx'
              go_wp2
              go_quiet (fail)
              go_wp2
              go_meet
              exact ⟨rfl, a, _, ha, rfl, by rw [World.drewN_drewN], hfin⟩
          · have hfin := Lib.hid (ins_at L x a (by rw [HL.out]; exact ha) hlow.out (fun h => by rw [HL.out] at h; omega))
            have e : a = i := by omega
            subst e
            go_wp2
            go_quiet (fail)
            go_wp2
            go_meet
            exact ⟨rfl, a, _, ha, rfl, by rw [World.drewN_drewN], hfin⟩
      case rest =>
        obtain ⟨rfl, a, q, ha, rfl, rfl, hfin⟩ := hcut
        have hrowW : (wr.drewN q).ownsRow N 47 2 (.slice o i cap) i (bcells L) := hrow
        have hBW := below_drewN hB q
        have c0W : (wr.drewN q).cell? ⟨gb, i * 2, none⟩ = some (.int .i64 (x.1 : Int)) := c0
        have c1W : (wr.drewN q).cell? ⟨gb, i * 2 + 1, none⟩ = some (.int .i64 (x.2 : Int)) := c1
        have c2W : (wr.drewN q).cell? ⟨C, 2, none⟩ = some (.slice (some ⟨gb, 0, none⟩) ln capg) := hc2
        generalize wr.drewN q = W at hrowW hBW c0W c1W c2W ⊢
        clear hrow hB c0 c1 hc2 hW
        obtain ⟨y1, hy1, hs1⟩ := slice_to o i cap a (by have := row_cap hrowW; omega)
        obtain ⟨y2, hy2, hs2⟩ := slice_from o i cap a ha (row_cap hrowW)
        have hsr := Src.of_row hrowW
        have HS1 := Lib.hid (hs1 W L hsr (by rw [HL.out]; exact ha) HL.out)
        have HS2 := Lib.hid (hs2 W L hsr HL.out)
        have hBs := hBW.size
        have kept3 : ∀ w', Upd (fun _ => False) W w' → w'.cell? ⟨C, 2, none⟩ = some (.slice (some ⟨gb, 0, none⟩) ln capg) ∧ w'.cell? ⟨gb, i * 2, none⟩ = some (.int .i64 (x.1 : Int)) ∧ w'.cell? ⟨gb, i * 2 + 1, none⟩ = some (.int .i64 (x.2 : Int)) := fun w' u => ⟨u.cell c2W (fun h => h), u.cell c0W (fun h => h), u.cell c1W (fun h => h)⟩
        have HK := Lib.hid kept3
        clear kept3 hs1 hs2 hsr
        have emA : ((W.alloc (.cells #[] 47)).drew).ownsRow W.heap.size 47 2 (.slice (some ⟨W.heap.size, 0, none⟩) 0 0) 0 [] := World.ownsRow_made W #[] 0 (Nat.le_refl _) (by decide) rfl
        have emB : (((W.alloc (.cells #[] 47)).alloc (.cells #[.int .i64 (x.1 : Int), .int .i64 (x.2 : Int)] 47)).drew).ownsRow W.heap.size 47 2 (.slice (some ⟨W.heap.size, 0, none⟩) 0 0) 0 [] := (World.ownsRow_made W #[] 0 (Nat.le_refl _) (by decide) rfl).alloc _
        have emC : (((W.alloc (.cells #[.int .i64 (x.1 : Int), .int .i64 (x.2 : Int)] 47)).alloc (.cells #[] 47)).drew).ownsRow W.heap.size 47 2 (.slice (some ⟨W.heap.size + 1, 0, none⟩) 0 0) 0 [] := by
          have := World.ownsRow_made (base := W.heap.size) (e := 47) (size := 2) (W.alloc (.cells #[.int .i64 (x.1 : Int), .int .i64 (x.2 : Int)] 47)) #[] 0 (by simp) (by decide) rfl
          rw [World.size_alloc] at this
          exact this
        have UA : Upd (fun _ => False) W ((W.alloc (.cells #[] 47)).drew) := ((Upd.refl _ _).alloc _).drew
        have UB : Upd (fun _ => False) W (((W.alloc (.cells #[] 47)).alloc (.cells #[.int .i64 (x.1 : Int), .int .i64 (x.2 : Int)] 47)).drew) := (((Upd.refl _ _).alloc _).alloc _).drew
        have UC : Upd (fun _ => False) W (((W.alloc (.cells #[.int .i64 (x.1 : Int), .int .i64 (x.2 : Int)] 47)).alloc (.cells #[] 47)).drew) := (((Upd.refl _ _).alloc _).alloc _).drew
        have sxB : Src (((W.alloc (.cells #[] 47)).alloc (.cells #[.int .i64 (x.1 : Int), .int .i64 (x.2 : Int)] 47)).drew) (.slice (some ⟨W.heap.size + 1, 0, none⟩) 1 1) 1 2 (bcells [x]) := by
          have := src_new (W.alloc (.cells #[] 47)) (.int .i64 (x.1 : Int)) (.int .i64 (x.2 : Int)) 47
          rw [World.size_alloc] at this
          exact this
        have sxC : Src (((W.alloc (.cells #[.int .i64 (x.1 : Int), .int .i64 (x.2 : Int)] 47)).alloc (.cells #[] 47)).drew) (.slice (some ⟨W.heap.size, 0, none⟩) 1 1) 1 2 (bcells [x]) := (src_new W (.int .i64 (x.1 : Int)) (.int .i64 (x.2 : Int)) 47).upd ((Upd.refl _ _).alloc _).drew
        have hout : heldOf (b.gave.take (i + 1)) = L.take a ++ ([x] ++ L.drop a) := hsn.out.trans hfin.out
        have hol : (heldOf (b.gave.take (i + 1))).length = a + 1 + (i - a) := by
          rw [hout, List.length_append, List.length_append, List.length_take, List.length_drop, HL.out, List.length_singleton]
          omega
        have Hout := Lib.hid hout
        have Hol := Lib.hid hol
        clear hout hol
        go_wp2_with fail
        go_region_held3  (fun w' => w'.cell? ⟨C, 2, none⟩ = some (.slice (some ⟨gb, 0, none⟩) ln capg) ∧ w'.cell? ⟨gb, i * 2, none⟩ = some (.int .i64 (x.1 : Int)) ∧ w'.cell? ⟨gb, i * 2 + 1, none⟩ = some (.int .i64 (x.2 : Int)))
          (exact HK.out _ (by first | exact u6 | exact u5 | exact u4 | exact (u4.alloc _) | exact Upd.refl _ _ | exact (Upd.refl _ _).drew | exact (Upd.refl _ _).alloc _ | exact ((Upd.refl _ _).alloc _).drew | exact ((Upd.refl _ _).alloc _).alloc _ | exact (((Upd.refl _ _).alloc _).alloc _).drew))
          (first
            | (refine step_append_src _ (by rfl) (.tmp 37) (.tmp 40) 43 (by rfl) W.heap.size 47 i0 (.agg #[.int .i64 0, .int .i64 0]) 2 16 Try.underlying43 hi0 hz0 hz1 hz2 rfl (by decide) (.slice (some ⟨W.heap.size, 0, none⟩) 0 0) 0 [] (by rfl) emA y1 a (bcells (L.take a)) (by rfl) (HS1.out.upd UA) (bcells_one _) (by simp [maxLen]; omega) (by omega) (by simp) ?_; intro v4 w4 own4 grow4; rw [Nat.zero_add, List.nil_append] at own4; obtain ⟨og4, cap4, rfl⟩ := slice2 own4; have u4 := grow_upd UA grow4 (fun k hk => (emA.lt k hk).1))
            | (refine step_append_src _ (by rfl) (.tmp 37) (.tmp 40) 43 (by rfl) W.heap.size 47 i0 (.agg #[.int .i64 0, .int .i64 0]) 2 16 Try.underlying43 hi0 hz0 hz1 hz2 rfl (by decide) (.slice (some ⟨W.heap.size, 0, none⟩) 0 0) 0 [] (by rfl) emB y1 a (bcells (L.take a)) (by rfl) (HS1.out.upd UB) (bcells_one _) (by simp [maxLen]; omega) (by omega) (by simp; omega) ?_; intro v4 w4 own4 grow4; rw [Nat.zero_add, List.nil_append] at own4; obtain ⟨og4, cap4, rfl⟩ := slice2 own4; have u4 := grow_upd UB grow4 (fun k hk => (emB.lt k hk).1); have sx4 := sxB.kept (w' := w4) (fun k hk => by simp [Value.ownBlock] at hk; subst hk; exact grow4.block _ (by simp) (by simp [Value.ownBlock])))
            | (refine step_append_src _ (by rfl) (.tmp 37) (.tmp 40) 43 (by rfl) W.heap.size 47 i0 (.agg #[.int .i64 0, .int .i64 0]) 2 16 Try.underlying43 hi0 hz0 hz1 hz2 rfl (by decide) (.slice (some ⟨W.heap.size + 1, 0, none⟩) 0 0) 0 [] (by rfl) emC y1 a (bcells (L.take a)) (by rfl) (HS1.out.upd UC) (bcells_one _) (by simp [maxLen]; omega) (by omega) (by simp; omega) ?_; intro v4 w4 own4 grow4; rw [Nat.zero_add, List.nil_append] at own4; obtain ⟨og4, cap4, rfl⟩ := slice2 own4; have u4 := grow_upd UC grow4 (fun k hk => (emC.lt k hk).1); have sx4 := sxC.kept (w' := w4) (fun k hk => by simp [Value.ownBlock] at hk; subst hk; exact grow4.block _ (by simp; omega) (by simp [Value.ownBlock])))
            | (refine step_append_src _ (by rfl) (.tmp 41) (.tmp 49) 43 (by rfl) W.heap.size 47 i0 (.agg #[.int .i64 0, .int .i64 0]) 2 16 Try.underlying43 hi0 hz0 hz1 hz2 rfl (by decide) (.slice og4 a cap4) a (bcells (L.take a)) (by rfl) (own4.alloc _) (.slice (some ⟨w4.heap.size, 0, none⟩) 1 1) 1 (bcells [x]) (by rfl) (src_new _ _ _ _) (bcells_one _) (by simp [maxLen]; omega) (by omega) (by have := u4.size; simp; omega) ?_; intro v5 w5 own5 grow5; rw [← bcells_app] at own5; obtain ⟨og5, cap5, rfl⟩ := slice2 own5; have u5 := grow_upd (u4.alloc _) grow5 (fun k hk => (own4.lt k hk).1))
            | (refine step_append_src _ (by rfl) (.tmp 41) (.tmp 49) 43 (by rfl) W.heap.size 47 i0 (.agg #[.int .i64 0, .int .i64 0]) 2 16 Try.underlying43 hi0 hz0 hz1 hz2 rfl (by decide) (.slice og4 a cap4) a (bcells (L.take a)) (by rfl) own4 _ 1 (bcells [x]) (by rfl) sx4 (bcells_one _) (by simp [maxLen]; omega) (by omega) u4.size ?_; intro v5 w5 own5 grow5; rw [← bcells_app] at own5; obtain ⟨og5, cap5, rfl⟩ := slice2 own5; have u5 := grow_upd u4 grow5 (fun k hk => (own4.lt k hk).1))
            | (refine step_append_src _ (by rfl) (.tmp 50) (.tmp 53) 43 (by rfl) W.heap.size 47 i0 (.agg #[.int .i64 0, .int .i64 0]) 2 16 Try.underlying43 hi0 hz0 hz1 hz2 rfl (by decide) (.slice og5 (a + 1) cap5) (a + 1) (bcells (L.take a ++ [x])) (by rfl) own5 y2 (i - a) (bcells (L.drop a)) (by rfl) (HS2.out.upd u5) (bcells_one _) (by simp [maxLen]; omega) (by omega) u5.size ?_; intro v6 w6 own6 grow6; rw [← bcells_app, List.append_assoc] at own6; obtain ⟨og6, cap6, rfl⟩ := slice2 own6; have u6 := grow_upd u5 grow6 (fun k hk => (own5.lt k hk).1)))
        all_goals go_wp2
        all_goals (
          refine ⟨⟨i + 1, by omega, by go_num, ?_, ?_⟩, by simp [intOf]; omega⟩
          · rw [Hol.out, Hout.out]; exact row_base own6 (by omega)
          · exact hBW.trans (u6.below (by omega) (fun _ _ h => h)))
    · have e : i = ln := by omega
      obtain ⟨o, cap, rfl⟩ := slice2 hrow
      have hall : b.gave.take i = b.gave := List.take_of_length_le (by omega)
      rw [hall] at hrow
      have Hrow := Lib.hid (show wr.ownsRow N 47 2 _ b.held.length (bcells b.held) from hrow)
      rw [hall]
      clear hrow hall hhl hbg
      go_wp2
      go_ret
      exact ⟨_, rfl, Hrow.out, hB⟩
end Go.Proofs.Ytmobhojblclmjaa
