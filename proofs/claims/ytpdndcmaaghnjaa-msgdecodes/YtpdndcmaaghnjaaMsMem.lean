/-
  A message as it lies: fifteen cells, the call's among them; compared.
-/
import Derived.Test.YtpdndcmaaghnjaaMsMath
import Derived.Test.YtpdndcmaaghnjaaDSame
import Derived.WalkKit
import Derived.WalkMore
namespace Go.Proofs.Ytpdndcmaaghnjaa
open Go.RowKit
open D (Da Blk)

/-- a message as cells, and as a value. -/
def Mg.cells (m : Mg) : List Value := .int .i64 m.kind :: .int .u64 m.epoch :: .int .u64 m.id :: .int .i64 m.task :: .int .i64 m.val :: (m.data.cells ++ [.string (strOfNums m.path)])
def Mg.vl (m : Mg) : Value := .agg m.cells.toArray

theorem Try.size28 : (Try.prog.info? 28).map (·.size) = some 15 := by kernel_rfl
theorem Mg.cells_len (m : Mg) (h : m.data.ok) : m.cells.length = 15 := by simp [Mg.cells, D.Da.cells_len _ h]
theorem Mg.cells_one (m : Mg) : m.cells.toArray.all (·.oneCell') = true := by simp [Mg.cells, D.Da.cells, Value.oneCell']
theorem Mg.size (m : Mg) (h : m.data.ok) : (Try.prog.info? 28).map (·.size) = some m.cells.toArray.size := by
  rw [Try.size28, List.size_toArray, m.cells_len h]

/-- the message of no cell but noughts. -/
def zero15 : List Value := [.int .i64 0, .int .u64 0, .int .u64 0, .int .i64 0, .int .i64 0, .int .u32 0, .int .u32 0, .int .u64 0, .int .u64 0, .int .u64 0, .int .u64 0, .int .u64 0, .int .u64 0, .int .u64 0, .string ⟨#[]⟩]
theorem zero15_eq : Mg.zero.cells = zero15 := rfl

/-- are two messages the same? -/
def Mg.same (x y : Mg) : Bool := x.kind == y.kind && x.epoch == y.epoch && x.id == y.id && x.task == y.task && x.val == y.val && x.data.same y.data && x.path == y.path
theorem Mg.same_iff (x y : Mg) : x.same y = true ↔ x = y := by
  constructor
  · intro h
    simp only [Mg.same, Bool.and_eq_true, beq_iff_eq, D.Da.same_iff] at h
    obtain ⟨⟨⟨⟨⟨⟨h1, h2⟩, h3⟩, h4⟩, h5⟩, h6⟩, h7⟩ := h
    exact mg_ext h1 h2 h3 h4 h5 h6 h7
  · rintro rfl
    simp only [Mg.same, Bool.and_eq_true, beq_iff_eq, D.Da.same_iff, and_self]

theorem str_eq {l k : List Int} (hl : D.Byt l) (hk : D.Byt k) : ((strOfNums l).toList == (strOfNums k).toList) = (l == k) := by
  rw [Bool.eq_iff_iff, beq_iff_eq, beq_iff_eq]
  exact ⟨D.str_inj hl hk, fun h => by rw [h]⟩

theorem equalIn_da9 (x y : Da) (w : World) (hx : x.ok) (hy : y.ok) : (Op.equalIn 9999 26 x.val y.val).run Try.prog w = .ok (x.same y) w := by
  have u22 := Try.underlying23
  have a22 := Try.isAgg23
  have z22 := Try.sizeOf23
  have u23 := Try.underlying22
  have a23 := Try.isAgg22
  have z23 := Try.sizeOf22
  have u24 := Try.underlying24
  have a24 := Try.isAgg24
  have z24 := Try.sizeOf24
  have hS : Try.prog.underlying 26 = some (.struct (Try.prog.fieldsOf 26)) := by kernel_rfl
  have hp : Try.prog.stoodInHeld 26 = false := by kernel_rfl
  obtain ⟨a, b, c, g⟩ := x
  obtain ⟨a', b', c', g'⟩ := y
  have hl := hx.2.2.2.1
  have hl' := hy.2.2.2.1
  obtain ⟨x0, x1, x2, x3, x4, x5, rfl⟩ := D.six hl
  obtain ⟨y0, y1, y2, y3, y4, y5, rfl⟩ := D.six hl'
  clear hx hy hl hl'
  have hA : ∀ W : World, (Op.equalIn 9998 24 (.agg #[.int .u64 x0, .int .u64 x1, .int .u64 x2, .int .u64 x3, .int .u64 x4, .int .u64 x5]) (.agg #[.int .u64 y0, .int .u64 y1, .int .u64 y2, .int .u64 y3, .int .u64 y4, .int .u64 y5])).run Try.prog W = .ok (([x0, x1, x2, x3, x4, x5] : List Int) == [y0, y1, y2, y3, y4, y5]) W :=
    fun W => D.equalIn_row W 9996 24 22 6 .u64 u24 u23 z23 [x0, x1, x2, x3, x4, x5] [y0, y1, y2, y3, y4, y5] rfl rfl
  unfold D.Da.val D.Da.cells
  rw [show (9999 : Nat) = 9998 + 1 from rfl, run_equalIn_agg w 9998 26 _ _ hS hp]
  simp only [Program.fieldsOf, Try.underlying26]
  unfold D.Da.same
  dsimp only
  generalize (([x0, x1, x2, x3, x4, x5] : List Int) == [y0, y1, y2, y3, y4, y5]) = q at *
  simp only [List.map_cons, List.map_nil]
  go_simp
  by_cases h1 : a = a' <;> by_cases h2 : b = b' <;> by_cases h3 : c = c' <;> cases q <;> simp [h1, h2, h3]

theorem equalIn_mg (x y : Mg) (w : World) (hx : x.data.ok) (hy : y.data.ok) (px : D.Byt x.path) (py : D.Byt y.path) : (Op.equalIn 10000 28 x.vl y.vl).run Try.prog w = .ok (x.same y) w := by
  have hS : Try.prog.underlying 28 = some (.struct (Try.prog.fieldsOf 28)) := by kernel_rfl
  have hp : Try.prog.stoodInHeld 28 = false := by kernel_rfl
  have u3 := Try.underlying3
  have u22 := Try.underlying22
  have u9 := Try.underlying9
  have a26 := Try.isAgg26
  have z26 := Try.sizeOf26
  obtain ⟨k, e, i, t, v, d, p⟩ := x
  obtain ⟨k', e', i', t', v', d', p'⟩ := y
  simp only at hx hy px py
  have hD : ∀ W : World, (Op.equalIn 9999 26 d.val d'.val).run Try.prog W = .ok (d.same d') W := fun W => equalIn_da9 d d' W hx hy
  have hs := str_eq px py
  obtain ⟨a, b, c, g⟩ := d
  obtain ⟨a', b', c', g'⟩ := d'
  have hl := hx.2.2.2.1
  have hl' := hy.2.2.2.1
  simp only at hl hl'
  obtain ⟨x0, x1, x2, x3, x4, x5, rfl⟩ := D.six hl
  obtain ⟨y0, y1, y2, y3, y4, y5, rfl⟩ := D.six hl'
  unfold D.Da.val D.Da.cells at hD
  simp only [List.map_cons, List.map_nil] at hD
  unfold Mg.vl Mg.cells D.Da.cells
  rw [show (10000 : Nat) = 9999 + 1 from rfl, run_equalIn_agg w 9999 28 _ _ hS hp]
  simp only [Program.fieldsOf, Try.underlying28]
  unfold Mg.same
  dsimp only
  rw [← hs]
  clear hx hy px py hl hl' hs
  generalize (Da.mk a b c [x0, x1, x2, x3, x4, x5]).same (Da.mk a' b' c' [y0, y1, y2, y3, y4, y5]) = q at *
  generalize strOfNums p = s at *
  generalize strOfNums p' = s' at *
  simp only [List.map_cons, List.map_nil, List.cons_append, List.nil_append]
  go_simp
  by_cases h1 : k = k' <;> by_cases h2 : e = e' <;> by_cases h3 : i = i' <;> by_cases h4 : t = t' <;> by_cases h5 : v = v' <;> by_cases h7 : s.toList = s'.toList <;> cases q <;> simp [h1, h2, h3, h4, h5, h7]

theorem eql_mg (x y : Mg) (w : World) (hx : x.data.ok) (hy : y.data.ok) (px : D.Byt x.path) (py : D.Byt y.path) : (binOp .eql 28 x.vl y.vl).run Try.prog w = .ok (.bool (x.same y)) w := by
  have := equalIn_mg x y w hx hy px py
  unfold Mg.vl at *
  rw [run_eql_struct, this]
  rfl
theorem neq_mg (x y : Mg) (w : World) (hx : x.data.ok) (hy : y.data.ok) (px : D.Byt x.path) (py : D.Byt y.path) : (binOp .neq 28 x.vl y.vl).run Try.prog w = .ok (.bool (!x.same y)) w := by
  have := equalIn_mg x y w hx hy px py
  unfold Mg.vl at *
  rw [run_neq_struct, this]
  rfl
theorem guard_mg (op : BinOp) (a b : Operand) (x y : Mg) (w : World) (hop : op = .eql ∨ op = .neq) : (eqGuard op 28 a b x.vl y.vl).run Try.prog w = .ok () w := by
  unfold Mg.vl
  rcases hop with rfl | rfl <;> go_simp

end Go.Proofs.Ytpdndcmaaghnjaa
