/-
  Contracts of package entry's small functions: get, put, flag, over the table of fields.
-/
import Derived.Test.YtbakhipabeaojaaDoorUpd
import Derived.Test.YtbakhipabeaojaaDoorBitsA
import Derived.Test.YtbakhipabeaojaaDoorLaid
namespace Go.Proofs.YtbakhipabeaojaaDoor
open Go.ChangeShapes Go.WideShapes Go.ChangeAt Go.RowKit

/-- the table: where each part begins, how many bits it has -/
def fFrom (p : Nat) : Int := [0, 1, 2, 8, 8, 4, 0, 4, 0].getD p 0
def fMany (p : Nat) : Int := [1, 1, 1, 8, 4, 4, 4, 12, 4].getD p 0
/-- the table lies in its variable -/
def Tab (w : World) : Prop := ∀ p, p < 9 → w.cell? ⟨0, p * 2, none⟩ = some (.int .i64 (fFrom p)) ∧ w.cell? ⟨0, p * 2 + 1, none⟩ = some (.int .i64 (fMany p))
theorem tab_of {w : World} (h : Fr.VarIs w 0 (Fr.datCells (Rows.laid_trunnion_entry_fields (H := Unit)))) : Tab w := by
  intro p hp
  refine ⟨h (p * 2) _ ?_, h (p * 2 + 1) _ ?_⟩
  all_goals
    match p, hp with
    | 0, _ => rfl
    | 1, _ => rfl
    | 2, _ => rfl
    | 3, _ => rfl
    | 4, _ => rfl
    | 5, _ => rfl
    | 6, _ => rfl
    | 7, _ => rfl
    | 8, _ => rfl
theorem Tab.kept {w w' : World} (h : Tab w) (u : Upd (fun _ => False) w w') : Tab w' := fun p hp => ⟨u.cell (h p hp).1 id, u.cell (h p hp).2 id⟩
theorem Tab.drew {w : World} (h : Tab w) (n : Nat) : Tab (w.drewN n) := h
theorem field_ok : ∀ p, p < 9 → fieldB (fFrom p) (fMany p) = true := by decide
theorem one_fits : ∀ p, p < 9 → withinB 1 0 (onesI (fMany p)) = true := by decide

def getP (x : Int) (p : Nat) : Int := getI x (fFrom p) (fMany p)
def putP (x y : Int) (p : Nat) : Int := putI x y (fFrom p) (fMany p)
def fitP (y : Int) (p : Nat) : Bool := withinB y 0 (onesI (fMany p))

set_option maxHeartbeats 400000 in
theorem eget_at (x f m : Int) (p : Nat) (w : World) (c1 : w.cell? ⟨0, p * 2, none⟩ = some (.int .i64 f)) (c2 : w.cell? ⟨0, p * 2 + 1, none⟩ = some (.int .i64 m)) (hp : p < 9) (hf : fieldB f m = true) (hx0 : 0 ≤ x) (hx : x < 18446744073709551616) :
    Calls Tryd.prog 36 #[.int .u64 x, .int .i64 p] w fun e w' => e = .returned (.int .u64 (getI x f m)) ∧ ∃ n, w' = w.drewN n := by
  have hc := Lib.hid (fun q => get_yes x f m (w.drewN q) hf hx0 hx)
  clear hx
  go_enter Tryd.func36, Tryd.ntmps36
  go_wp2_with fail
  go_quiet ((go_at_call 41; exact draws0 (hc.out _)))
  go_wp2
  go_ret
  exact ⟨rfl, _, rfl⟩
theorem eget_any (x : Int) (p : Nat) (w : World) (T : Tab w) (hp : p < 9) (hx0 : 0 ≤ x) (hx : x < 18446744073709551616) :
    Calls Tryd.prog 36 #[.int .u64 x, .int .i64 p] w fun e w' => e = .returned (.int .u64 (getP x p)) ∧ ∃ n, w' = w.drewN n :=
  eget_at x _ _ p w (T p hp).1 (T p hp).2 hp (field_ok p hp) hx0 hx
set_option maxHeartbeats 400000 in
theorem eput_no (x y f m : Int) (p : Nat) (w : World) (c1 : w.cell? ⟨0, p * 2, none⟩ = some (.int .i64 f)) (c2 : w.cell? ⟨0, p * 2 + 1, none⟩ = some (.int .i64 m)) (hp : p < 9) (hf : fieldB f m = true) (hy : withinB y 0 (onesI m) = false) :
    Calls Tryd.prog 38 #[.int .u64 x, .int .u64 y, .int .i64 p] w fun e w' => e = .returned (.tuple #[.int .u64 0, .bool false]) ∧ ∃ n, w' = w.drewN n := by
  have hc := Lib.hid (fun q => put_no2 x y f m (w.drewN q) hf hy)
  go_enter Tryd.func38, Tryd.ntmps38
  go_wp2_with fail
  go_quiet ((go_at_call 42; exact still0 (hc.out _)))
  go_wp2
  go_ret2
  exact ⟨rfl, _, rfl⟩
set_option maxHeartbeats 400000 in
theorem eput_yes (x y f m : Int) (p : Nat) (w : World) (c1 : w.cell? ⟨0, p * 2, none⟩ = some (.int .i64 f)) (c2 : w.cell? ⟨0, p * 2 + 1, none⟩ = some (.int .i64 m)) (hp : p < 9) (hf : fieldB f m = true) (hy : withinB y 0 (onesI m) = true) (hx0 : 0 ≤ x) (hx : x < 18446744073709551616) :
    Calls Tryd.prog 38 #[.int .u64 x, .int .u64 y, .int .i64 p] w fun e w' => e = .returned (.tuple #[.int .u64 (putI x y f m), .bool true]) ∧ ∃ n, w' = w.drewN n := by
  have hc := Lib.hid (fun q => put_yes x y f m (w.drewN q) hf hy hx0 hx)
  clear hx
  go_enter Tryd.func38, Tryd.ntmps38
  go_wp2_with fail
  go_quiet ((go_at_call 42; exact draws0 (hc.out _)))
  go_wp2
  go_ret2
  exact ⟨rfl, _, rfl⟩
theorem eput_any (x y : Int) (p : Nat) (w : World) (T : Tab w) (hp : p < 9) (hx0 : 0 ≤ x) (hx : x < 18446744073709551616) :
    Calls Tryd.prog 38 #[.int .u64 x, .int .u64 y, .int .i64 p] w fun e w' => e = .returned (.tuple #[.int .u64 (if fitP y p = true then putP x y p else 0), .bool (fitP y p)]) ∧ ∃ n, w' = w.drewN n := by
  cases h : fitP y p
  · rw [if_neg (by decide)]
    exact eput_no x y _ _ p w (T p hp).1 (T p hp).2 hp (field_ok p hp) h
  · rw [if_pos rfl]
    exact eput_yes x y _ _ p w (T p hp).1 (T p hp).2 hp (field_ok p hp) h hx0 hx
def flagP (x : Int) (b : Bool) (p : Nat) : Int := if b = true then putP x 1 p else x
set_option maxHeartbeats 400000 in
theorem eflag_any (x : Int) (b : Bool) (p : Nat) (w : World) (T : Tab w) (hp : p < 9) (hx0 : 0 ≤ x) (hx : x < 18446744073709551616) :
    Calls Tryd.prog 39 #[.int .u64 x, .bool b, .int .i64 p] w fun e w' => e = .returned (.int .u64 (flagP x b p)) ∧ ∃ n, w' = w.drewN n := by
  cases b
  · go_enter Tryd.func39, Tryd.ntmps39
    go_wp2
    go_ret
    exact ⟨rfl, 0, rfl⟩
  · have hc := Lib.hid (eput_yes x 1 _ _ p w (T p hp).1 (T p hp).2 hp (field_ok p hp) (one_fits p hp) hx0 hx)
    clear hx
    go_enter Tryd.func39, Tryd.ntmps39
    go_wp2_with fail
    refine hc.out.mono ?_
    rintro e w1 ⟨rfl, n1, rfl⟩
    go_wp2
    go_ret
    exact ⟨rfl, _, rfl⟩
theorem putP_bd (x y : Int) (p : Nat) (hp : p < 9) (hy : fitP y p = true) (hx0 : 0 ≤ x) (hx : x < 18446744073709551616) : 0 ≤ putP x y p ∧ putP x y p < 18446744073709551616 := putI_bd x y _ _ (field_ok p hp) hy hx0 hx
theorem flagP_bd (x : Int) (b : Bool) (p : Nat) (hp : p < 9) (hx0 : 0 ≤ x) (hx : x < 18446744073709551616) : 0 ≤ flagP x b p ∧ flagP x b p < 18446744073709551616 := by
  unfold flagP
  split
  · exact putI_bd x 1 _ _ (field_ok p hp) (one_fits p hp) hx0 hx
  · exact ⟨hx0, hx⟩
end Go.Proofs.YtbakhipabeaojaaDoor
