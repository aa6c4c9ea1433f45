/-
  A message as it lies, compared; the smallest functions of package msg; whether what a message has keeps to its bounds.
-/
import Derived.Test.YtpdndcmaaghnjaaMsMath
import Derived.Test.YtpdndcmaaghnjaaDSame
import Derived.WalkKit
import Derived.WalkMore
import Derived.WalkSpells
import Derived.WalkLawsBesides
import Derived.Deep.RegionHeld3
import Derived.Deep.QuietTactic
import Derived.BigQuiet
namespace Go.Proofs.Ytpdndcmaaghnjaa
open Go.RowKit
open D (Da Blk)

/-- a message as cells, and as a value. -/
def Mg.cells (m : Mg) : List Value := .int .i64 m.kind :: .int .u64 m.epoch :: .int .u64 m.id :: .int .i64 m.task :: .int .i64 m.val :: (m.data.cells ++ [.string (strOfNums m.path)])
def Mg.vl (m : Mg) : Value := .agg m.cells.toArray

theorem Try.size28 : (Try.prog.info? 28).map (·.size) = some 15 := by kernel_rfl
theorem Mg.cells_len (m : Mg) (h : m.data.ok) : m.cells.length = 15 := by simp [Mg.cells, D.Da.cells_len _ h]
theorem Mg.cells_one (m : Mg) : m.cells.toArray.all (·.oneCell') = true := by simp [Mg.cells, D.Da.cells, Value.oneCell']
theorem Mg.size (m : Mg) (h : m.data.ok) : (Try.prog.info? 28).map (·.size) = some m.cells.toArray.size := by
  rw [Try.size28, List.size_toArray, m.cells_len h]

/-- the message of no cell but noughts. -/
def zero15 : List Value := [.int .i64 0, .int .u64 0, .int .u64 0, .int .i64 0, .int .i64 0, .int .u32 0, .int .u32 0, .int .u64 0, .int .u64 0, .int .u64 0, .int .u64 0, .int .u64 0, .int .u64 0, .int .u64 0, .string ⟨#[]⟩]
theorem zero15_eq : Mg.zero.cells = zero15 := rfl

/-- are two messages the same? -/
def Mg.same (x y : Mg) : Bool := x.kind == y.kind && x.epoch == y.epoch && x.id == y.id && x.task == y.task && x.val == y.val && x.data.same y.data && x.path == y.path
theorem Mg.same_iff (x y : Mg) : x.same y = true ↔ x = y := by
  constructor
  · intro h
    simp only [Mg.same, Bool.and_eq_true, beq_iff_eq, D.Da.same_iff] at h
    obtain ⟨⟨⟨⟨⟨⟨h1, h2⟩, h3⟩, h4⟩, h5⟩, h6⟩, h7⟩ := h
    exact mg_ext h1 h2 h3 h4 h5 h6 h7
  · rintro rfl
    simp only [Mg.same, Bool.and_eq_true, beq_iff_eq, D.Da.same_iff, and_self]

theorem str_eq {l k : List Int} (hl : D.Byt l) (hk : D.Byt k) : ((strOfNums l).toList == (strOfNums k).toList) = (l == k) := by
  rw [Bool.eq_iff_iff, beq_iff_eq, beq_iff_eq]
  exact ⟨D.str_inj hl hk, fun h => by rw [h]⟩

theorem equalIn_da9 (x y : Da) (w : World) (hx : x.ok) (hy : y.ok) : (Op.equalIn 9999 26 x.val y.val).run Try.prog w = .ok (x.same y) w := by
  have u22 := Try.underlying23
  have a22 := Try.isAgg23
  have z22 := Try.sizeOf23
  have u23 := Try.underlying22
  have a23 := Try.isAgg22
  have z23 := Try.sizeOf22
  have u24 := Try.underlying24
  have a24 := Try.isAgg24
  have z24 := Try.sizeOf24
  have hS : Try.prog.underlying 26 = some (.struct (Try.prog.fieldsOf 26)) := by kernel_rfl
  have hp : Try.prog.stoodInHeld 26 = false := by kernel_rfl
  obtain ⟨a, b, c, g⟩ := x
  obtain ⟨a', b', c', g'⟩ := y
  have hl := hx.2.2.2.1
  have hl' := hy.2.2.2.1
  obtain ⟨x0, x1, x2, x3, x4, x5, rfl⟩ := D.six hl
  obtain ⟨y0, y1, y2, y3, y4, y5, rfl⟩ := D.six hl'
  clear hx hy hl hl'
  have hA : ∀ W : World, (Op.equalIn 9998 24 (.agg #[.int .u64 x0, .int .u64 x1, .int .u64 x2, .int .u64 x3, .int .u64 x4, .int .u64 x5]) (.agg #[.int .u64 y0, .int .u64 y1, .int .u64 y2, .int .u64 y3, .int .u64 y4, .int .u64 y5])).run Try.prog W = .ok (([x0, x1, x2, x3, x4, x5] : List Int) == [y0, y1, y2, y3, y4, y5]) W :=
    fun W => D.equalIn_row W 9996 24 22 6 .u64 u24 u23 z23 [x0, x1, x2, x3, x4, x5] [y0, y1, y2, y3, y4, y5] rfl rfl
  unfold D.Da.val D.Da.cells
  rw [show (9999 : Nat) = 9998 + 1 from rfl, run_equalIn_agg w 9998 26 _ _ hS hp]
  simp only [Program.fieldsOf, Try.underlying26]
  unfold D.Da.same
  dsimp only
  generalize (([x0, x1, x2, x3, x4, x5] : List Int) == [y0, y1, y2, y3, y4, y5]) = q at *
  simp only [List.map_cons, List.map_nil]
  go_simp
  by_cases h1 : a = a' <;> by_cases h2 : b = b' <;> by_cases h3 : c = c' <;> cases q <;> simp [h1, h2, h3]

theorem equalIn_mg (x y : Mg) (w : World) (hx : x.data.ok) (hy : y.data.ok) (px : D.Byt x.path) (py : D.Byt y.path) : (Op.equalIn 10000 28 x.vl y.vl).run Try.prog w = .ok (x.same y) w := by
  have hS : Try.prog.underlying 28 = some (.struct (Try.prog.fieldsOf 28)) := by kernel_rfl
  have hp : Try.prog.stoodInHeld 28 = false := by kernel_rfl
  have u3 := Try.underlying3
  have u22 := Try.underlying22
  have u9 := Try.underlying9
  have a26 := Try.isAgg26
  have z26 := Try.sizeOf26
  obtain ⟨k, e, i, t, v, d, p⟩ := x
  obtain ⟨k', e', i', t', v', d', p'⟩ := y
  simp only at hx hy px py
  have hD : ∀ W : World, (Op.equalIn 9999 26 d.val d'.val).run Try.prog W = .ok (d.same d') W := fun W => equalIn_da9 d d' W hx hy
  have hs := str_eq px py
  obtain ⟨a, b, c, g⟩ := d
  obtain ⟨a', b', c', g'⟩ := d'
  have hl := hx.2.2.2.1
  have hl' := hy.2.2.2.1
  simp only at hl hl'
  obtain ⟨x0, x1, x2, x3, x4, x5, rfl⟩ := D.six hl
  obtain ⟨y0, y1, y2, y3, y4, y5, rfl⟩ := D.six hl'
  unfold D.Da.val D.Da.cells at hD
  simp only [List.map_cons, List.map_nil] at hD
  unfold Mg.vl Mg.cells D.Da.cells
  rw [show (10000 : Nat) = 9999 + 1 from rfl, run_equalIn_agg w 9999 28 _ _ hS hp]
  simp only [Program.fieldsOf, Try.underlying28]
  unfold Mg.same
  dsimp only
  rw [← hs]
  clear hx hy px py hl hl' hs
  generalize (Da.mk a b c [x0, x1, x2, x3, x4, x5]).same (Da.mk a' b' c' [y0, y1, y2, y3, y4, y5]) = q at *
  generalize strOfNums p = s at *
  generalize strOfNums p' = s' at *
  simp only [List.map_cons, List.map_nil, List.cons_append, List.nil_append]
  go_simp
  by_cases h1 : k = k' <;> by_cases h2 : e = e' <;> by_cases h3 : i = i' <;> by_cases h4 : t = t' <;> by_cases h5 : v = v' <;> by_cases h7 : s.toList = s'.toList <;> cases q <;> simp [h1, h2, h3, h4, h5, h7]

theorem eql_mg (x y : Mg) (w : World) (hx : x.data.ok) (hy : y.data.ok) (px : D.Byt x.path) (py : D.Byt y.path) : (binOp .eql 28 x.vl y.vl).run Try.prog w = .ok (.bool (x.same y)) w := by
  have := equalIn_mg x y w hx hy px py
  unfold Mg.vl at *
  rw [run_eql_struct, this]
  rfl
theorem neq_mg (x y : Mg) (w : World) (hx : x.data.ok) (hy : y.data.ok) (px : D.Byt x.path) (py : D.Byt y.path) : (binOp .neq 28 x.vl y.vl).run Try.prog w = .ok (.bool (!x.same y)) w := by
  have := equalIn_mg x y w hx hy px py
  unfold Mg.vl at *
  rw [run_neq_struct, this]
  rfl
theorem guard_mg (op : BinOp) (a b : Operand) (x y : Mg) (w : World) (hop : op = .eql ∨ op = .neq) : (eqGuard op 28 a b x.vl y.vl).run Try.prog w = .ok () w := by
  unfold Mg.vl
  rcases hop with rfl | rfl <;> go_simp

end Go.Proofs.Ytpdndcmaaghnjaa

namespace Go.Proofs.Ytpdndcmaaghnjaa
open Go.RowKit

theorem ret_bool {a b : Bool} (h : a = b) : Ending.returned (.bool a) = .returned (.bool b) := by rw [h]
/-- which kinds have an ID, a call, a value. -/
def idQ (k : Int) : Bool := !(k == 1)
def caQ (k : Int) : Bool := k == 2
def vaQ (k : Int) : Bool := k == 4 || (k == 5 || k == 7)
def kiQ (k : Int) : Bool := decide (1 ≤ k ∧ k ≤ 7)

theorem isKind_any (k : Int) (w : World) : Calls Try.prog 20 #[.int .i64 k] w fun e w' => e = .returned (.bool (kiQ k)) ∧ w' = w := by
  unfold kiQ
  by_cases h1 : 1 ≤ k
  · by_cases h2 : k ≤ 7
    · rw [decide_eq_true (And.intro h1 h2)]
      go_enter Try.func20, Try.ntmps20
      go_wp2
      go_ret
      exact ⟨rfl, rfl⟩
    · rw [decide_eq_false (fun h => h2 h.2)]
      go_enter Try.func20, Try.ntmps20
      go_wp2
      go_ret
      exact ⟨rfl, rfl⟩
  · rw [decide_eq_false (fun h => h1 h.1)]
    go_enter Try.func20, Try.ntmps20
    go_wp2
    go_ret
    exact ⟨rfl, rfl⟩
theorem hasID_any (k : Int) (w : World) : Calls Try.prog 33 #[.int .i64 k] w fun e w' => e = .returned (.bool (idQ k)) ∧ w' = w := by
  unfold idQ
  go_enter Try.func33, Try.ntmps33
  go_wp2
  go_ret
  exact ⟨rfl, rfl⟩
theorem hasCall_any (k : Int) (w : World) : Calls Try.prog 29 #[.int .i64 k] w fun e w' => e = .returned (.bool (caQ k)) ∧ w' = w := by
  unfold caQ
  go_enter Try.func29, Try.ntmps29
  go_wp2
  go_ret
  exact ⟨rfl, rfl⟩
theorem hasVal_any (k : Int) (w : World) : Calls Try.prog 34 #[.int .i64 k] w fun e w' => e = .returned (.bool (vaQ k)) ∧ w' = w := by
  unfold vaQ
  cases h4 : k == 4
  · cases h5 : k == 5
    · go_enter Try.func34, Try.ntmps34
      go_wp2
      go_ret
      exact ⟨rfl, rfl⟩
    · go_enter Try.func34, Try.ntmps34
      go_wp2
      go_ret
      exact ⟨rfl, rfl⟩
  · go_enter Try.func34, Try.ntmps34
    go_wp2
    go_ret
    exact ⟨rfl, rfl⟩

end Go.Proofs.Ytpdndcmaaghnjaa

namespace Go.Proofs.Ytpdndcmaaghnjaa
open Go.RowKit
open D (Da Blk)

theorem Mg.c0 (m : Mg) : m.cells[0]? = some (.int .i64 m.kind) := rfl
theorem Mg.c1 (m : Mg) : m.cells[1]? = some (.int .u64 m.epoch) := rfl
theorem Mg.c2 (m : Mg) : m.cells[2]? = some (.int .u64 m.id) := rfl
theorem Mg.c3 (m : Mg) : m.cells[3]? = some (.int .i64 m.task) := rfl
theorem Mg.c4 (m : Mg) : m.cells[4]? = some (.int .i64 m.val) := rfl
theorem Mg.cD (m : Mg) (h : m.data.ok) (j : Nat) (hj : j < 9) : m.cells[5 + j]? = m.data.cells[j]? := by
  unfold Mg.cells
  rw [show 5 + j = j + 1 + 1 + 1 + 1 + 1 from by omega]
  simp only [List.getElem?_cons_succ]
  rw [List.getElem?_append_left (by rw [D.Da.cells_len _ h]; exact hj)]
theorem Mg.c14 (m : Mg) (h : m.data.ok) : m.cells[14]? = some (.string (strOfNums m.path)) := by
  unfold Mg.cells
  rw [show 14 = 9 + 1 + 1 + 1 + 1 + 1 from by omega]
  simp only [List.getElem?_cons_succ]
  rw [List.getElem?_append_right (by rw [D.Da.cells_len _ h]; exact Nat.le_refl _), D.Da.cells_len _ h]
  rfl

/-- do its things keep to their bounds? -/
def withinB (m : Mg) : Bool :=
  if m.kind = 2 then decide (1 ≤ m.task) && (decide (m.task ≤ 4) && decide (m.path.length ≤ 256))
  else if m.kind = 7 then decide (0 ≤ m.val) && decide (m.val ≤ 1) else decide (0 ≤ m.val) && decide (m.val ≤ 65535)

set_option maxHeartbeats 800000 in
theorem within_any (m : Mg) (w : World) (hd : m.data.ok) : Calls Try.prog 22 #[m.vl] w fun e w' => e = .returned (.bool (withinB m)) ∧ Below w.heap.size w w' := by
  have E1 : Hid (∀ o, Below w.heap.size w (w.alloc o)) := fun o => (Below.refl _ _).alloc (Nat.le_refl _) _
  have Z := D.blk_new w m.cells.toArray 28
  have c0 := (Z.cell 0).trans m.c0
  have c3 := (Z.cell 3).trans m.c3
  have c4 := (Z.cell 4).trans m.c4
  have c14 := (Z.cell 14).trans (m.c14 hd)
  have HL : (strOfNums m.path).size = m.path.length := strOfNums_size _
  have HW : Hid (withinB m = if m.kind = 2 then decide (1 ≤ m.task) && (decide (m.task ≤ 4) && decide (m.path.length ≤ 256)) else if m.kind = 7 then decide (0 ≤ m.val) && decide (m.val ≤ 1) else decide (0 ≤ m.val) && decide (m.val ≤ 65535)) := rfl
  clear Z
  unfold Mg.vl
  generalize m.cells = R at *
  generalize withinB m = A at *
  generalize strOfNums m.path = s at *
  obtain ⟨k, ep, id, t, v, d, p⟩ := m
  simp only at *
  generalize p.length = n at *
  clear hd
  by_cases h2 : k = 2
  · subst h2
    have HA : Hid (A = (decide (1 ≤ t) && (decide (t ≤ 4) && decide (n ≤ 256)))) := HW.out
    clear HW
    by_cases t1 : 1 ≤ t
    · by_cases t4 : t ≤ 4
      · have hn : decide ((n : Int) ≤ 256) = decide (n ≤ 256) := by simp only [decide_eq_decide]; omega
        have HB : Hid (A = decide (n ≤ 256)) := HA.out.trans (by simp [t1, t4])
        clear HA
        go_enter Try.func22, Try.ntmps22
        go_wp2
        go_ret
        exact ⟨ret_bool HB.out.symm, E1.out _⟩
      · have HB : Hid (A = false) := HA.out.trans (by simp [t4])
        clear HA
        go_enter Try.func22, Try.ntmps22
        go_wp2
        go_ret
        exact ⟨ret_bool HB.out.symm, E1.out _⟩
    · have HB : Hid (A = false) := HA.out.trans (by simp [t1])
      clear HA
      go_enter Try.func22, Try.ntmps22
      go_wp2
      go_ret
      exact ⟨ret_bool HB.out.symm, E1.out _⟩
  · have k2 : (k == 2) = false := by simp [h2]
    by_cases h7 : k = 7
    · subst h7
      have HA : Hid (A = (decide (0 ≤ v) && decide (v ≤ 1))) := HW.out
      clear HW h2 k2
      by_cases v0 : 0 ≤ v
      · by_cases v1 : v ≤ 1
        · have HB : Hid (A = true) := HA.out.trans (by simp [v0, v1])
          clear HA
          go_enter Try.func22, Try.ntmps22
          go_wp2
          go_ret
          exact ⟨ret_bool HB.out.symm, E1.out _⟩
        · have HB : Hid (A = false) := HA.out.trans (by simp [v1])
          clear HA
          go_enter Try.func22, Try.ntmps22
          go_wp2
          go_ret
          exact ⟨ret_bool HB.out.symm, E1.out _⟩
      · have HB : Hid (A = false) := HA.out.trans (by simp [v0])
        clear HA
        go_enter Try.func22, Try.ntmps22
        go_wp2
        go_ret
        exact ⟨ret_bool HB.out.symm, E1.out _⟩
    · have k7 : (k == 7) = false := by simp [h7]
      have HA : Hid (A = (decide (0 ≤ v) && decide (v ≤ 65535))) := HW.out.trans ((if_neg h2).trans (if_neg h7))
      clear HW h2 h7
      by_cases v0 : 0 ≤ v
      · by_cases v1 : v ≤ 65535
        · have HB : Hid (A = true) := HA.out.trans (by simp [v0, v1])
          clear HA
          go_enter Try.func22, Try.ntmps22
          go_wp2
          go_ret
          exact ⟨ret_bool HB.out.symm, E1.out _⟩
        · have HB : Hid (A = false) := HA.out.trans (by simp [v1])
          clear HA
          go_enter Try.func22, Try.ntmps22
          go_wp2
          go_ret
          exact ⟨ret_bool HB.out.symm, E1.out _⟩
      · have HB : Hid (A = false) := HA.out.trans (by simp [v0])
        clear HA
        go_enter Try.func22, Try.ntmps22
        go_wp2
        go_ret
        exact ⟨ret_bool HB.out.symm, E1.out _⟩

end Go.Proofs.Ytpdndcmaaghnjaa

