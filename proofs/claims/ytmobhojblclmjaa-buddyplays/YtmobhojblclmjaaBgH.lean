/-
  Package buddy: Free.
-/
import Derived.Test.YtmobhojblclmjaaBgG
import Derived.Test.YtmobhojblclmjaaBuV
namespace Go.Proofs.Ytmobhojblclmjaa
open Go.ChangeShapes Go.WideShapes Go.ChangeAt Go.RowKit Go.Maps

theorem wpStill_shl1 {P : Program} {ops : Array Oper} {rest : List Oper} {op : Oper} {a : Act} {w : World} {Q : Act → Prop} (hw : Region.wanted op (yielded ops a.tmps) = true) (t u : TypeId) (x y : Operand) (ho : op.op = .binOp .shl t x y u)
    (hx : a.eval x = .int .i64 1) (k : Nat) (hk : k ≤ 8) (hy : a.eval y = .int .i64 k) (h : wpStill P ops w Q rest (a.put op.dst (.int .i64 (pw k)))) : wpStill P ops w Q (op :: rest) a := by
  refine wpStill_step fun K hK => ?_
  rw [if_pos hw]
  unfold Oper.still execOp
  simp only [ho, hx, hy, eqGuard_shl, binOp_shl, shift_shl_any _ _ _ _ (Int.natCast_nonneg k), Sem.run_bind, Sem.run_pure, Result.andThen_ok, shl_pw k hk]
  exact ⟨rfl, hK _ h⟩
theorem BudAt.apart {w : World} {A MA GB : Nat} {b : Bud} {m : Mem} (h : BudAt w A MA GB b) (hm : MemAt w MA m) : A ≠ MA ∧ A ≠ m.B ∧ GB ≠ MA ∧ GB ≠ m.B := by
  obtain ⟨D, ⟨es, c, hb, _⟩, _⟩ := h.mp
  refine ⟨fun e => ?_, fun e => ?_, fun e => ?_, fun e => ?_⟩
  · have h1 := h.head; rw [e, hm.head] at h1; simp at h1
  · have h1 := h.head; rw [e, hm.body] at h1; simp at h1
  · rw [e, hm.head] at hb; cases hb
  · rw [e, hm.body] at hb; cases hb

set_option maxRecDepth 100000 in
set_option maxHeartbeats 4000000 in
theorem bFree_any (A MA GB : Nat) (m : Mem) (b : Bud) (f o : Int) (w : World) (h : BudAt w A MA GB b) (hm : MemAt w MA m) (hwf : (Lit.int .i64 f).wf = true) :
    Calls Try.prog 17 #[.pointer (some ⟨A, 0, none⟩), .int .i64 f, .int .i64 o] w fun e w' =>
      ((∀ x, x ∈ b.gave → isB x f o = false) ∧ e = .returned (.int .i64 2) ∧ w = w') ∨
      (∃ x, x ∈ b.gave ∧ (x.1 : Int) = f ∧ (x.2 : Int) = o ∧ e = .returned (.int .i64 0) ∧ BudAt w' A MA GB (b.take x) ∧ MemAt w' MA (m.scrub f ((2 ^ x.2 : Nat) : Int)) ∧ Upd (fun k => k = GB ∨ k = m.B) w w') := by
  have hc0 := h.c0
  have hc2 := h.c2
  have hz := zero_int
  have HW := Lib.hid hwf
  have hok := Lib.hid h.ok
  obtain ⟨D, hD, hM⟩ := h.mp
  by_cases hx : ∃ x, x ∈ b.gave ∧ (x.1 : Int) = f
  · obtain ⟨x, hx, rfl⟩ := hx
    have hhas := Lib.hid (show Maps.has D (.int .i64 (x.1 : Int)) = true from hM.mem hx)
    have hget := Lib.hid (hM.get x hx (.lit (.int .i64 0)))
    obtain ⟨x8, xal, xr, xn⟩ := h.ok.blk x hx
    by_cases hxo : (x.2 : Int) = o
    · subst hxo
      clear hwf
      go_enter Try.func17, Try.ntmps17
      go_upto_region 2 with ((at_lookup; refine wpList_lookup_own_ok_int _ rfl _ _ 73 rfl 3 3 .i64 keyLaw Try.underlying73 Try.underlying3 (hz _) GB 256 D rfl hD _ (.int .i64 (x.1 : Int)) rfl (keyOf_int_mk Try.underlying3 HW.out) ?_; intro c hat hwc; obtain rfl : (x.2 : Int) = c := by { rw [show (Lit.int .i64 (x.1 : Int)) = kf x.1 from rfl, hget.out] at hat; injection hat with hat; injection hat }))
      rw [hhas.out]
      go_upto_region 4 with fail
      refine wp_region_tail 7 (by kernel_rfl) (by kernel_rfl) ?_
      simp only [List.take_succ_cons, List.take_zero, List.drop_succ_cons, List.drop_zero]
      intro w2 hw2
      have hU2 := (Upd.refl (fun k => k = GB ∨ k = m.B) w).drew
      have hB2 := h.kept (Upd.refl (fun _ => False) w).drew (fun h => h) (fun h => h)
      have hM2 := hm.kept (Upd.refl (fun _ => False) w).drew (fun h => h) (fun h => h)
      rw [← hw2] at hU2 hB2 hM2
      clear hw2
      have hc0 := hB2.c0
      have hbd := pw_bd x.2 x8
      have hpw := Lib.hid (show pw x.2 = ((2 ^ x.2 : Nat) : Int) from rfl)
      repeat (first | (with_reducible refine wpStill_shl1 rfl _ _ _ _ rfl rfl x.2 x8 rfl ?_) | still_step)
      refine wpStill_nil ?_
      go_wp2_with fail
      refine (scrub_any MA m _ _ _ hM2 (by omega)).mono ?_
      rintro e w3 ⟨rfl, hM3, hU3⟩
      obtain ⟨n1, n2, n3, n4⟩ := h.apart hm
      have hB3 := hB2.kept hU3 n2 n4
      have hc2 := hB3.c2
      obtain ⟨D3, hD3, hMp3⟩ := hB3.mp
      have hdel := Lib.hid (hMp3.del (hD3.tidy keyLaw) hx hok.out.nodup fun y hy e => hok.out.key hy hx e)
      have htake := Lib.hid (hok.out.take hx)
      rw [hpw.out] at hM3
      generalize errI (m.ex x.1 (pw x.2)) = er
      clear hB2 hM2 hc0
      go_upto_region 6 with ((at_delete; refine wpList_delete_own _ rfl _ _ 73 3 rfl 3 keyLaw Try.underlying73 _ GB 256 D3 rfl hD3 _ _ rfl (keyOf_int_mk Try.underlying3 HW.out) ?_; intro w4 hown4 hturn4))
      have hg4 := upd_grown hturn4.grown
      have hB4 : BudAt w4 A MA GB (b.take x) := ⟨hg4.at hB3.head h.ne, ⟨_, hown4, hdel.out⟩, htake.out⟩
      have hM4 := hM3.kept hg4 (by show ¬ MA = GB; exact fun e => n3 e.symm) (by rw [Mem.scrub_B]; show ¬ m.B = GB; exact fun e => n4 e.symm)
      have hU4 : Upd (fun k => k = GB ∨ k = m.B) w w4 := (hU2.trans (hU3.mono fun _ _ e => .inr e)).trans (hg4.mono fun _ _ e => .inl e)
      clear hg4 hturn4 hown4 hM3 hU3 hB3
      go_wp2
      go_ret
      exact .inr ⟨x, hx, rfl, rfl, rfl, hB4, hM4, hU4⟩
    · have hbo : ((x.2 : Int) != o) = true := by simp; exact hxo
      have hno := Lib.hid (show ∀ y, y ∈ b.gave → isB y (x.1 : Int) o = false from fun y hy => decide_eq_false fun e => hxo (by
        have : y = x := h.ok.key hy hx (by omega)
        rw [← this]; exact e.2))
      clear hwf
      go_enter Try.func17, Try.ntmps17
      go_upto_region 2 with ((at_lookup; refine wpList_lookup_own_ok_int _ rfl _ _ 73 rfl 3 3 .i64 keyLaw Try.underlying73 Try.underlying3 (hz _) GB 256 D rfl hD _ (.int .i64 (x.1 : Int)) rfl (keyOf_int_mk Try.underlying3 HW.out) ?_; intro c hat hwc; obtain rfl : (x.2 : Int) = c := by { rw [show (Lit.int .i64 (x.1 : Int)) = kf x.1 from rfl, hget.out] at hat; injection hat with hat; injection hat }))
      rw [hhas.out]
      go_wp2
      go_ret
      exact .inl ⟨hno.out, rfl, rfl⟩
  · have hhas := Lib.hid (show Maps.has D (.int .i64 f) = false from hM.no fun x hx' e => hx ⟨x, hx', by unfold kf at e; injection e with _ e; exact e.symm⟩)
    have hno := Lib.hid (show ∀ y, y ∈ b.gave → isB y f o = false from fun y hy => decide_eq_false fun e => hx ⟨y, hy, e.1⟩)
    clear hwf hx
    go_enter Try.func17, Try.ntmps17
    go_upto_region 2 with ((at_lookup; refine wpList_lookup_own_ok_int _ rfl _ _ 73 rfl 3 3 .i64 keyLaw Try.underlying73 Try.underlying3 (hz _) GB 256 D rfl hD _ (.int .i64 f) rfl (keyOf_int_mk Try.underlying3 HW.out) ?_; intro c hat hwc))
    rw [hhas.out]
    clear hat hwc
    go_wp2
    go_ret
    exact .inl ⟨hno.out, rfl, rfl⟩
end Go.Proofs.Ytmobhojblclmjaa
