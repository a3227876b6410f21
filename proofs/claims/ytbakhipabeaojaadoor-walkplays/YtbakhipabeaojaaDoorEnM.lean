/-
  Plain mathematics of entries, places and addresses; what package entry's small functions answer, in numbers.
-/
import Derived.Test.YtbakhipabeaojaaDoorEnA
import Derived.Test.YtbakhipabeaojaaDoorArr
import Derived.Laws.ResultCell
namespace Go.Proofs.YtbakhipabeaojaaDoor
open Go.ChangeShapes Go.WideShapes Go.ChangeAt Go.RowKit

/-- may an entry be? -/
def rightB (v r t : Bool) (f : Int) : Bool := if v = true then decide (0 ≤ f ∧ f ≤ 255) && !(r && t) else !r && !t && decide (f = 0)
def bI (b : Bool) (k : Int) : Int := if b = true then k else 0
/-- an entry's word -/
def wordI (v r t : Bool) (f : Int) : Int := if rightB v r t f = true then (if v = true then 1 + 256 * f + bI r 2 + bI t 4 else 0) else 0
def errB (b : Bool) : Int := if b = true then 0 else 1
def wordE (v r t : Bool) (f : Int) : Int := errB (rightB v r t f)
/-- the parts of a word -/
def pV (x : Int) : Bool := decide (x % 2 = 1)
def pR (x : Int) : Bool := decide (x / 2 % 2 = 1)
def pT (x : Int) : Bool := decide (x / 4 % 2 = 1)
def pF (x : Int) : Int := x / 256 % 256
/-- is it an entry's word? -/
def ofB (x : Int) : Bool := rightB (pV x) (pR x) (pT x) (pF x) && decide (wordI (pV x) (pR x) (pT x) (pF x) = x)
def ofV (x : Int) : Bool := ofB x && pV x
def ofR (x : Int) : Bool := ofB x && pR x
def ofT (x : Int) : Bool := ofB x && pT x
def ofF (x : Int) : Int := if ofB x = true then pF x else 0
/-- a page's place at a level -/
def idxB (p l : Int) : Bool := decide (0 ≤ p ∧ p ≤ 4095 ∧ 0 ≤ l ∧ l ≤ 2)
def idxI (p l : Int) : Int := if idxB p l = true then (if l = 0 then p / 256 else if l = 1 then p / 16 % 16 else p % 16) else 0
/-- the page of three places -/
def pgB (a b c : Int) : Bool := decide (0 ≤ a ∧ a ≤ 15 ∧ 0 ≤ b ∧ b ≤ 15 ∧ 0 ≤ c ∧ c ≤ 15)
def pgI (a b c : Int) : Int := if pgB a b c = true then 256 * a + 16 * b + c else 0
/-- an address, split -/
def spB (a : Int) : Bool := decide (0 ≤ a ∧ a ≤ 65535)
def spP (a : Int) : Int := if spB a = true then a / 16 else 0
def spO (a : Int) : Int := if spB a = true then a % 16 else 0

theorem getP0 (x : Int) (h : 0 ≤ x) : getP x 0 = x % 2 := by
  obtain ⟨n, rfl⟩ := Int.eq_ofNat_of_zero_le h
  simp [getP, getI, fFrom, fMany, M.getN]
theorem getP1 (x : Int) (h : 0 ≤ x) : getP x 1 = x / 2 % 2 := by
  obtain ⟨n, rfl⟩ := Int.eq_ofNat_of_zero_le h
  simp [getP, getI, fFrom, fMany, M.getN]
theorem getP2 (x : Int) (h : 0 ≤ x) : getP x 2 = x / 4 % 2 := by
  obtain ⟨n, rfl⟩ := Int.eq_ofNat_of_zero_le h
  simp [getP, getI, fFrom, fMany, M.getN]
theorem getP3 (x : Int) (h : 0 ≤ x) : getP x 3 = x / 256 % 256 := by
  obtain ⟨n, rfl⟩ := Int.eq_ofNat_of_zero_le h
  simp [getP, getI, fFrom, fMany, M.getN]
theorem getP4 (x : Int) (h : 0 ≤ x) : getP x 4 = x / 256 % 16 := by
  obtain ⟨n, rfl⟩ := Int.eq_ofNat_of_zero_le h
  simp [getP, getI, fFrom, fMany, M.getN]
theorem getP5 (x : Int) (h : 0 ≤ x) : getP x 5 = x / 16 % 16 := by
  obtain ⟨n, rfl⟩ := Int.eq_ofNat_of_zero_le h
  simp [getP, getI, fFrom, fMany, M.getN]
theorem getP6 (x : Int) (h : 0 ≤ x) : getP x 6 = x % 16 := by
  obtain ⟨n, rfl⟩ := Int.eq_ofNat_of_zero_le h
  simp [getP, getI, fFrom, fMany, M.getN]
theorem getP7 (x : Int) (h : 0 ≤ x) : getP x 7 = x / 16 % 4096 := by
  obtain ⟨n, rfl⟩ := Int.eq_ofNat_of_zero_le h
  simp [getP, getI, fFrom, fMany, M.getN]
theorem getP8 (x : Int) (h : 0 ≤ x) : getP x 8 = x % 16 := by
  obtain ⟨n, rfl⟩ := Int.eq_ofNat_of_zero_le h
  simp [getP, getI, fFrom, fMany, M.getN]
theorem putP_val (x y : Int) (p f m : Nat) (hf : (fFrom p).toNat = f) (hm : (fMany p).toNat = m) (hx : 0 ≤ x) (hy : 0 ≤ y) : putP x y p = 2 ^ f * (2 ^ m * (x / 2 ^ (f + m)) + y) + x % 2 ^ f := by
  subst hf hm
  obtain ⟨a, rfl⟩ := Int.eq_ofNat_of_zero_le hx
  obtain ⟨b, rfl⟩ := Int.eq_ofNat_of_zero_le hy
  simp [putP, putI, M.putN]
theorem fit3 (y : Int) : fitP y 3 = decide (0 ≤ y ∧ y ≤ 255) := rfl
theorem fit456 (y : Int) (p : Nat) (h : p = 4 ∨ p = 5 ∨ p = 6) : fitP y p = decide (0 ≤ y ∧ y ≤ 15) := by
  rcases h with rfl | rfl | rfl <;> rfl
/-- a number that becomes a uint64 -/
theorem wrap_fits (f k : Int) (hk0 : 0 ≤ k) (hk : k ≤ 9223372036854775807) (h1 : -9223372036854775808 ≤ f) (h2 : f ≤ 9223372036854775807) : (0 ≤ IntKind.u64.wrap f ∧ IntKind.u64.wrap f ≤ k) ↔ (0 ≤ f ∧ f ≤ k) := by
  rw [IntKind.wrap_u64]; omega
theorem wrap_same (f : Int) (h1 : 0 ≤ f) (h2 : f ≤ 9223372036854775807) : IntKind.u64.wrap f = f := by
  rw [IntKind.wrap_u64]; omega

theorem mk_i64 {n : Int} (h1 : -9223372036854775808 ≤ n) (h2 : n ≤ 9223372036854775807) : (Lit.int .i64 n).wf = true := by
  simp [Lit.wf, IntKind.min, IntKind.max, IntKind.signed, IntKind.bits]
  omega

theorem two_blocks (w : World) (n : Nat) (o1 o2 : Obj) : (((w.alloc o1).drewN n).alloc o2).heap[w.heap.size]? = some o1 ∧ (((w.alloc o1).drewN n).alloc o2).heap[w.heap.size + 1]? = some o2 := by
  have e : ((w.alloc o1).drewN n).heap.size = w.heap.size + 1 := World.size_alloc w o1
  refine ⟨?_, ?_⟩
  · rw [Below.heap_alloc _ _ _ (by omega)]
    exact heap_alloc_last w o1
  · rw [← e]
    exact heap_alloc_last _ o2
/-! an entry in memory -/
abbrev entV (v r t : Bool) (f : Int) : Value := .agg #[.bool v, .bool r, .bool t, .int .i64 f]
abbrev entL (v r t : Bool) (f : Int) : List Value := [.bool v, .bool r, .bool t, .int .i64 f]
def EntAt (w : World) (b : Nat) (v r t : Bool) (f : Int) : Prop := w.heap[b]? = some (.cells (entL v r t f).toArray 35 (0, 0))
theorem ent_sz (v r t : Bool) (f : Int) : (#[.bool v, .bool r, .bool t, .int .i64 f] : Array Value).size = 4 := rfl
theorem ent_one (v r t : Bool) (f : Int) : (#[.bool v, .bool r, .bool t, .int .i64 f] : Array Value).all (·.oneCell') = true := by simp [Value.oneCell']
theorem ent_ls (v r t : Bool) (f : Int) : (#[.bool v, .bool r, .bool t, .int .i64 f] : Array Value).toList = [.bool v, .bool r, .bool t, .int .i64 f] := rfl
theorem ent_len (v r t : Bool) (f : Int) : ([.bool v, .bool r, .bool t, .int .i64 f] : List Value).length = 4 := rfl
theorem size_ent : (Tryd.prog.info? 35).map (·.size) = some 4 := by kernel_rfl
theorem EntAt.range {w : World} {b : Nat} {v r t : Bool} {f : Int} (h : EntAt w b v r t f) : w.rangeAt b 0 (entL v r t f) := World.rangeAt_of_block h 0 4
theorem EntAt.there {w : World} {b : Nat} {v r t : Bool} {f : Int} (h : EntAt w b v r t f) : w.there b 0 4 := fun j hj => by
  refine ⟨?_, frozen_block h _⟩
  match j, hj with
  | 0, _ => rw [h.range 0 _ rfl]; rfl
  | 1, _ => rw [h.range 1 _ rfl]; rfl
  | 2, _ => rw [h.range 2 _ rfl]; rfl
  | 3, _ => rw [h.range 3 _ rfl]; rfl
theorem EntAt.set {w : World} {b : Nat} {v r t : Bool} {f : Int} (h : EntAt w b v r t f) (v' r' t' : Bool) (f' : Int) : EntAt (w.setCells b 0 (entL v' r' t' f')) b v' r' t' f' := by
  unfold EntAt
  rw [heap_setCells_same b _ (entL v' r' t' f') 0 w _ h (by simp), splice_all _ _ (by simp)]
theorem EntAt.kept {S : Nat → Prop} {w w' : World} {b : Nat} {v r t : Bool} {f : Int} (h : EntAt w b v r t f) (u : Upd S w w') (hs : ¬ S b) : EntAt w' b v r t f := u.at h hs
/-- a result that lies in a cell -/
theorem ret_ent {fn : Func} {p u : Tmp} (h : fn.results = #[.cell p 35, .tmp u]) (tmps : Array Value) (w : World) (b : Nat) (v r t : Bool) (f : Int) (hp : tmps.getD p undef = .pointer (some ⟨b, 0, none⟩)) (he : EntAt w b v r t f) :
    (results fn tmps).run Tryd.prog w = .ok (.tuple #[entV v r t f, tmps.getD u undef]) w := by
  rw [results_cell_tmp h, hp]
  have := run_loadVar_mid w b 0 35 (entL v r t f) _ he.range Tryd.underlying35 rfl size_ent
  simp only [asAddr, Sem.run_pure, Result.andThen_ok]
  rw [this]
  rfl
/-- two entries compared -/
theorem run_eqEd (d : Nat) (v r t : Bool) (f : Int) (v' r' t' : Bool) (f' : Int) (w : World) :
    (Op.equalIn (d + 2) 35 (.agg #[.bool v, .bool r, .bool t, .int .i64 f]) (.agg #[.bool v', .bool r', .bool t', .int .i64 f'])).run Tryd.prog w = .ok (decide (v = v' ∧ r = r' ∧ t = t' ∧ f = f')) w := by
  have hF : (Tryd.prog.fieldsOf 35).toList.map (fun f => (f.name == "_", f.type, f.offset)) = [(false, 4, 0), (false, 4, 1), (false, 4, 2), (false, 3, 3)] := by kernel_rfl
  rw [run_equalIn_struct w (d + 1) _ _ _ (by kernel_rfl) (by kernel_rfl)]
  have hag : ∀ (e : TypeId) (d : TypeDesc), Tryd.prog.underlying e = some d → d.isRow = false → (isAgg e).run Tryd.prog w = .ok false w := by
    intro e d he hd
    unfold isAgg
    rw [Sem.run_bind, run_underlying he w]
    cases d <;> first | rfl | cases hd
  have hpart : ∀ (e : TypeId) (d : TypeDesc), Tryd.prog.underlying e = some d → d.isRow = false → ∀ (cs : Array Value) (i : Nat) (x : Value), cs[i]? = some x → (part e cs i).run Tryd.prog w = .ok x w := by
    intro e d he hd cs i x hx
    unfold part
    rw [Sem.run_bind, hag e d he hd]
    simp only [Result.andThen_ok, Bool.false_eq_true, if_false, hx]
    rfl
  have hlen := congrArg List.length hF
  rw [List.length_map] at hlen
  generalize (Tryd.prog.fieldsOf 35).toList = L at hF hlen ⊢
  match L, hlen with
  | [g0, g1, g2, g3], _ =>
    simp only [List.map_cons, List.map_nil, List.cons.injEq, Prod.mk.injEq, and_true] at hF
    obtain ⟨⟨n0, t0, o0⟩, ⟨n1, t1, o1⟩, ⟨n2, t2, o2⟩, ⟨n3, t3, o3⟩⟩ := hF
    have n0 : g0.name ≠ "_" := by simpa using n0
    have n1 : g1.name ≠ "_" := by simpa using n1
    have n2 : g2.name ≠ "_" := by simpa using n2
    have n3 : g3.name ≠ "_" := by simpa using n3
    have ub := Tryd.underlying4
    have ui := Tryd.underlying3
    have step : ∀ (X Y : Array Value) (g : Field) (fs : List Field) (x y : Value) (q : Bool), g.name ≠ "_" → (part g.type X g.offset).run Tryd.prog w = .ok x w → (part g.type Y g.offset).run Tryd.prog w = .ok y w →
        (Op.equalIn (d + 1) g.type x y).run Tryd.prog w = .ok q w → (Op.eqFields (d + 1) X Y (g :: fs)).run Tryd.prog w = if q = true then (Op.eqFields (d + 1) X Y fs).run Tryd.prog w else .ok false w := by
      intro X Y g fs x y q hn hx hy hq
      rw [Op.eqFields, if_pos hn, Sem.run_bind, hx, Result.andThen_ok, Sem.run_bind, hy, Result.andThen_ok, Sem.run_bind, hq, Result.andThen_ok]
      cases q
      · rfl
      · rfl
    rw [step _ _ g0 _ (.bool v) (.bool v') (v == v') n0 (by rw [t0, o0]; exact hpart _ _ ub rfl _ _ _ rfl) (by rw [t0, o0]; exact hpart _ _ ub rfl _ _ _ rfl) (by rw [t0]; exact run_equalIn_bool' w d _ _ _ ub),
      step _ _ g1 _ (.bool r) (.bool r') (r == r') n1 (by rw [t1, o1]; exact hpart _ _ ub rfl _ _ _ rfl) (by rw [t1, o1]; exact hpart _ _ ub rfl _ _ _ rfl) (by rw [t1]; exact run_equalIn_bool' w d _ _ _ ub),
      step _ _ g2 _ (.bool t) (.bool t') (t == t') n2 (by rw [t2, o2]; exact hpart _ _ ub rfl _ _ _ rfl) (by rw [t2, o2]; exact hpart _ _ ub rfl _ _ _ rfl) (by rw [t2]; exact run_equalIn_bool' w d _ _ _ ub),
      step _ _ g3 _ (.int .i64 f) (.int .i64 f') (f == f') n3 (by rw [t3, o3]; exact hpart _ _ ui rfl _ _ _ rfl) (by rw [t3, o3]; exact hpart _ _ ui rfl _ _ _ rfl) (by rw [t3]; exact run_equalIn_int w d _ .i64 .i64 _ _ ui)]
    by_cases e1 : v = v'
    · by_cases e2 : r = r'
      · by_cases e3 : t = t'
        · by_cases e4 : f = f'
          · simp [e1, e2, e3, e4, Op.eqFields]
          · simp [e1, e2, e3, e4]
        · simp [e1, e2, e3]
      · simp [e1, e2]
    · simp [e1]
theorem run_eqE (v r t : Bool) (f : Int) (v' r' t' : Bool) (f' : Int) (b : Bool) (hb : decide (v = v' ∧ r = r' ∧ t = t' ∧ f = f') = b) (w : World) :
    (Op.equalIn 10000 35 (.agg #[.bool v, .bool r, .bool t, .int .i64 f]) (.agg #[.bool v', .bool r', .bool t', .int .i64 f'])).run Tryd.prog w = .ok b w := by
  subst hb
  exact run_eqEd 9998 v r t f v' r' t' f' w
end Go.Proofs.YtbakhipabeaojaaDoor
