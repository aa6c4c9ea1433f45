/-
  Rows of numbers, calls, and texts of bytes, compared.
-/
import Derived.Test.YtpdndcmaaghnjaaDMem
import Derived.Laws.StructEq
namespace Go.Proofs.Ytpdndcmaaghnjaa.D
open Go.RowKit

theorem all_range_same : ∀ (xs ys : List Int), xs.length = ys.length → ((List.range xs.length).all fun i => xs.getD i 0 == ys.getD i 0) = (xs == ys)
  | [], [], _ => rfl
  | x :: xs, y :: ys, h => by
    have ih := all_range_same xs ys (by simpa using h)
    rw [List.length_cons, List.range_succ_eq_map, List.all_cons, List.all_map]
    simp only [List.getD_cons_zero, Function.comp_def, List.getD_cons_succ, ih]
    simp [List.cons_beq_cons]
  | [], _ :: _, h => by simp at h
  | _ :: _, [], h => by simp at h

/-- two arrays of numbers, compared. -/
theorem equalIn_row (w : World) (d : Nat) (t e : TypeId) (n : Nat) (k : IntKind) (ht : Try.prog.underlying t = some (.array n e)) (he : Try.prog.underlying e = some (.int k)) (hsz : ∀ w, (sizeOf e).run Try.prog w = .ok 1 w)
    (xs ys : List Int) (hx : xs.length = n) (hy : ys.length = n) :
    (Op.equalIn (d + 2) t (.agg (xs.map (Value.int k)).toArray) (.agg (ys.map (Value.int k)).toArray)).run Try.prog w = .ok (xs == ys) w := by
  rw [← all_range_same xs ys (hx.trans hy.symm), hx, List.range_eq_range', Op.equalIn]
  simp only [Sem.run_bind, run_underlying ht, Result.andThen_ok, hsz, Std.Legacy.Range.forIn_eq_forIn_range', Std.Legacy.Range.size, Nat.sub_zero, Nat.add_sub_cancel, Nat.div_one]
  have hl : ∀ i ∈ List.range' 0 n 1, i < n := fun i hi => by simpa using (List.mem_range'_1.1 hi).2
  generalize List.range' 0 n 1 = l at hl ⊢
  induction l with
  | nil => simp
  | cons i l ih =>
    have hi : i < n := hl i (by simp)
    have px : (part e (xs.map (Value.int k)).toArray (i * 1)).run Try.prog w = .ok (.int k (xs.getD i 0)) w := by
      simp [part, isAgg, run_underlying he, List.getElem?_eq_getElem (show i < xs.length by omega)]
    have py : (part e (ys.map (Value.int k)).toArray (i * 1)).run Try.prog w = .ok (.int k (ys.getD i 0)) w := by
      simp [part, isAgg, run_underlying he, List.getElem?_eq_getElem (show i < ys.length by omega)]
    have pe : (Op.equalIn (d + 1) e (.int k (xs.getD i 0)) (.int k (ys.getD i 0))).run Try.prog w = .ok (xs.getD i 0 == ys.getD i 0) w := run_equalIn_int w d e k k _ _ he
    simp only [List.forIn_cons, Sem.run_bind, px, py, pe, Result.andThen_ok, List.all_cons]
    cases hb : (xs.getD i 0 == ys.getD i 0)
    · simp
    · simp only [Bool.not_true, Bool.false_eq_true, if_false, Sem.run_pure, Result.andThen_ok, Bool.true_and]
      exact ih fun j hj => hl j (by simp [hj])

/-- are two calls the same? -/
def Da.same (x y : Da) : Bool := x.n == y.n && x.a == y.a && x.p == y.p && x.g == y.g

theorem Da.same_iff (x y : Da) : x.same y = true ↔ x = y := by
  obtain ⟨a, b, c, d⟩ := x
  obtain ⟨a', b', c', d'⟩ := y
  simp [Da.same, and_assoc]

theorem Da.same_self (x : Da) : x.same x = true := (Da.same_iff x x).2 rfl

theorem equalIn_da (x y : Da) (w : World) (hx : x.ok) (hy : y.ok) : (Op.equalIn 10000 26 x.val y.val).run Try.prog w = .ok (x.same y) w := by
  have u22 := Try.underlying23
  have a22 := Try.isAgg23
  have z22 := Try.sizeOf23
  have u23 := Try.underlying22
  have a23 := Try.isAgg22
  have z23 := Try.sizeOf22
  have u24 := Try.underlying24
  have a24 := Try.isAgg24
  have z24 := Try.sizeOf24
  have hS : Try.prog.underlying 26 = some (.struct (Try.prog.fieldsOf 26)) := by kernel_rfl
  have hp : Try.prog.stoodInHeld 26 = false := by kernel_rfl
  obtain ⟨a, b, c, g⟩ := x
  obtain ⟨a', b', c', g'⟩ := y
  have hl := hx.2.2.2.1
  have hl' := hy.2.2.2.1
  obtain ⟨x0, x1, x2, x3, x4, x5, rfl⟩ := six hl
  obtain ⟨y0, y1, y2, y3, y4, y5, rfl⟩ := six hl'
  clear hx hy hl hl'
  have hA : ∀ W : World, (Op.equalIn 9999 24 (.agg #[.int .u64 x0, .int .u64 x1, .int .u64 x2, .int .u64 x3, .int .u64 x4, .int .u64 x5]) (.agg #[.int .u64 y0, .int .u64 y1, .int .u64 y2, .int .u64 y3, .int .u64 y4, .int .u64 y5])).run Try.prog W = .ok (([x0, x1, x2, x3, x4, x5] : List Int) == [y0, y1, y2, y3, y4, y5]) W :=
    fun W => equalIn_row W 9997 24 22 6 .u64 u24 u23 z23 [x0, x1, x2, x3, x4, x5] [y0, y1, y2, y3, y4, y5] rfl rfl
  unfold Da.val Da.cells
  rw [show (10000 : Nat) = 9999 + 1 from rfl, run_equalIn_agg w 9999 26 _ _ hS hp]
  simp only [Program.fieldsOf, Try.underlying26]
  unfold Da.same
  dsimp only
  generalize (([x0, x1, x2, x3, x4, x5] : List Int) == [y0, y1, y2, y3, y4, y5]) = q at *
  simp only [List.map_cons, List.map_nil]
  go_simp
  by_cases h1 : a = a' <;> by_cases h2 : b = b' <;> by_cases h3 : c = c' <;> cases q <;> simp [h1, h2, h3]

theorem eql_da (x y : Da) (w : World) (hx : x.ok) (hy : y.ok) : (binOp .eql 26 x.val y.val).run Try.prog w = .ok (.bool (x.same y)) w := by
  have := equalIn_da x y w hx hy
  unfold Da.val at *
  rw [run_eql_struct, this]
  rfl

theorem neq_da (x y : Da) (w : World) (hx : x.ok) (hy : y.ok) : (binOp .neq 26 x.val y.val).run Try.prog w = .ok (.bool (!x.same y)) w := by
  have := equalIn_da x y w hx hy
  unfold Da.val at *
  rw [run_neq_struct, this]
  rfl

/-- a text's bytes. -/
def bytesOf (s : ByteArray) : List Int := s.data.toList.map fun b => (b.toNat : Int)

theorem bytes_str (l : List Int) (h : Byt l) : bytesOf (strOfNums l) = l := by
  unfold bytesOf
  rw [strOfNums_data, List.map_map]
  conv => rhs; rw [← List.map_id l]
  apply List.map_congr_left
  intro z hz
  obtain ⟨h0, h1⟩ := h z hz
  obtain ⟨n, rfl⟩ := Int.eq_ofNat_of_zero_le h0
  have : n < 256 := by omega
  simp [UInt8.toNat_ofNat', Nat.mod_eq_of_lt this]

theorem str_inj {l m : List Int} (hl : Byt l) (hm : Byt m) (h : (strOfNums l).toList = (strOfNums m).toList) : l = m := by
  rw [ByteArray.toList_eq, ByteArray.toList_eq] at h
  rw [← bytes_str l hl, ← bytes_str m hm]
  unfold bytesOf
  rw [h]

/-- the texts of two calls are the same just if the calls are. -/
theorem str_same (x y : Da) (hx : x.ok) (hy : y.ok) : ((strOfNums x.enc).toList == (strOfNums y.enc).toList) = x.same y := by
  rw [Bool.eq_iff_iff, Da.same_iff]
  constructor
  · intro h
    exact enc_inj hx hy (str_inj (enc_byt x hx) (enc_byt y hy) (eq_of_beq h))
  · rintro rfl
    exact beq_self_eq_true _

end Go.Proofs.Ytpdndcmaaghnjaa.D
