/-
  A table as it lies: sixteen places of two cells in one block; places and tables compared.
-/
import Derived.Test.YtcenjdpochjclaaMem
import Derived.Test.YtcenjdpochjclaaMath
import Derived.Laws.StructEq
namespace Go.Proofs.Ytcenjdpochjclaa
open Go.RowKit

theorem fr_lift {X : List Nat} {C : Nat} {w w' : World} (h : Fr [] X 0 w w') (hx : ∀ x ∈ X, C ≤ x) (hC : C ≤ w.heap.size) : Fr [] X C w w' :=
  ⟨⟨h.bel.os, h.bel.tape, h.bel.output, h.bel.size, fun k hk => by
    have hk2 : k < w.heap.size := by omega
    have e : w.heap[k]? = some w.heap[k] := Array.getElem?_eq_getElem hk2
    rw [e]
    exact h.blk k _ e (fun _ _ _ _ => by simp) fun hm => by have := hx k hm; omega⟩, h.blk⟩

def cellsF : Fd → List Value
  | [] => []
  | o :: l => .bool o.isSome :: .int .i64 (o.getD 0) :: cellsF l
def place (o : Option Int) : Value := .agg #[.bool o.isSome, .int .i64 (o.getD 0)]
theorem cellsF_len (l : Fd) : (cellsF l).length = l.length * 2 := by
  induction l with
  | nil => rfl
  | cons o l ih => show (cellsF l).length + 1 + 1 = (l.length + 1) * 2; omega
theorem cellsF_one (l : Fd) : ∀ v ∈ cellsF l, v.oneCell' = true := by
  induction l with
  | nil => intro v h; cases h
  | cons o l ih =>
    intro v h
    rcases List.mem_cons.1 h with rfl | h
    · rfl
    · rcases List.mem_cons.1 h with rfl | h
      · rfl
      · exact ih v h
theorem cellsF_b {l : Fd} {k : Nat} (h : k < l.length) : (cellsF l)[k * 2]? = some (.bool (l[k]).isSome) := by
  induction l generalizing k with
  | nil => cases h
  | cons o l ih =>
    cases k with
    | zero => rfl
    | succ k =>
      rw [show (k + 1) * 2 = k * 2 + 1 + 1 by omega]
      exact ih (Nat.lt_of_succ_lt_succ h)
theorem cellsF_i {l : Fd} {k : Nat} (h : k < l.length) : (cellsF l)[k * 2 + 1]? = some (.int .i64 ((l[k]).getD 0)) := by
  induction l generalizing k with
  | nil => cases h
  | cons o l ih =>
    cases k with
    | zero => rfl
    | succ k =>
      rw [show (k + 1) * 2 + 1 = k * 2 + 1 + 1 + 1 by omega]
      exact ih (Nat.lt_of_succ_lt_succ h)
theorem cellsF_set (l : Fd) (k : Nat) (o : Option Int) : ((cellsF l).set (k * 2) (.bool o.isSome)).set (k * 2 + 1) (.int .i64 (o.getD 0)) = cellsF (l.set k o) := by
  induction l generalizing k with
  | nil => rfl
  | cons x l ih =>
    cases k with
    | zero => rfl
    | succ k =>
      rw [show (k + 1) * 2 = k * 2 + 1 + 1 by omega]
      show _ :: _ :: _ = _ :: _ :: _
      rw [← ih k]

/-- a table as it lies. -/
structure TbV (w : World) (b : Nat) (l : Fd) : Prop where
  blk : Blk w b 51 (cellsF l)
  len : l.length = 16
section
variable {w w' : World} {b : Nat} {l : Fd}
theorem TbV.over (h : TbV w b l) (hb : Below w.heap.size w w') : TbV w' b l := ⟨h.blk.over hb, h.len⟩
theorem TbV.fr {L X : List Nat} {B : Nat} (h : TbV w b l) (hs : Fr L X B w w') (ht : 51 ∉ L) (hx : b ∉ X) : TbV w' b l := ⟨h.blk.fr hs ht hx, h.len⟩
theorem TbV.is (h : TbV w b l) {k : Nat} (hk : k < l.length) : w.cell? ⟨b, k * 2, none⟩ = some (.bool (l[k]).isSome) := by rw [h.blk.cell, cellsF_b hk]
theorem TbV.val (h : TbV w b l) {k : Nat} (hk : k < l.length) : w.cell? ⟨b, k * 2 + 1, none⟩ = some (.int .i64 ((l[k]).getD 0)) := by rw [h.blk.cell, cellsF_i hk]
theorem TbV.f (h : TbV w b l) (i : Nat) : w.frozen? ⟨b, i, none⟩ = false := h.blk.f i
theorem TbV.set (h : TbV w b l) (k : Nat) (o : Option Int) : TbV ((w.setCell ⟨b, k * 2, none⟩ (.bool o.isSome)).setCell ⟨b, k * 2 + 1, none⟩ (.int .i64 (o.getD 0))) b (l.set k o) := by
  refine ⟨?_, by rw [List.length_set]; exact h.len⟩
  rw [← cellsF_set]
  exact (h.blk.set _ _).set _ _
end
theorem fr_set1 {w : World} {b i : Nat} {v : Value} : Fr [] [b] 0 w (w.setCell ⟨b, i, none⟩ v) :=
  ⟨⟨by simp [World.setCell], by simp [World.setCell], by simp [World.setCell], by simp, fun k hk => by omega⟩, fun k o hk _ hx => by
    rw [heap_setCell_other w ⟨b, i, none⟩ k v (fun e => hx (by rw [List.mem_singleton]; exact e))]
    exact hk⟩
theorem fr_set2 {w : World} {b i j : Nat} {v u : Value} : Fr [] [b] 0 w ((w.setCell ⟨b, i, none⟩ v).setCell ⟨b, j, none⟩ u) :=
  fr_set1.trans fr_set1

theorem szPlace : ∀ w, (sizeOf 48).run Try.prog w = .ok 2 w := Try.sizeOf48
theorem size_tab : (Try.prog.info? 49).map (·.size) = some 32 := by kernel_rfl
theorem size_of {l : Fd} (h : l.length = 16) : (Try.prog.info? 49).map (·.size) = some (cellsF l).toArray.size := by rw [size_tab]; simp [cellsF_len, h]
theorem aggPlace (w : World) : (isAgg 48).run Try.prog w = .ok true w := Try.isAgg48 w

theorem ext_place {l : Fd} {k : Nat} (h : k < l.length) : (cellsF l).toArray.extract (k * 2) (k * 2 + 2) = #[.bool (l[k]).isSome, .int .i64 ((l[k]).getD 0)] := by
  apply Array.ext'
  rw [Array.toList_extract, List.extract_eq_take_drop]
  show List.take (k * 2 + 2 - k * 2) (List.drop (k * 2) (cellsF l)) = _
  rw [show k * 2 + 2 - k * 2 = 2 by omega]
  induction l generalizing k with
  | nil => cases h
  | cons o l ih =>
    cases k with
    | zero => rfl
    | succ k =>
      rw [show (k + 1) * 2 = k * 2 + 1 + 1 by omega]
      exact ih (Nat.lt_of_succ_lt_succ h)
theorem part_place {l : Fd} {k : Nat} (h : k < l.length) (w : World) : (part 48 (cellsF l).toArray (k * 2)).run Try.prog w = .ok (place l[k]) w := by
  unfold part place
  simp only [Sem.run_bind, aggPlace, Result.andThen_ok, if_true, szPlace, Sem.run_pure, ext_place h]
theorem index_place {l : Fd} {k : Nat} (h : k < l.length) (h16 : l.length = 16) (W : World) : (Instr.index 49 (.agg (cellsF l).toArray) (.int .i64 k)).run Try.prog W = .ok (place l[k]) W := by
  have hc : (0 : Int) ≤ (k : Int) ∧ (k : Int) < ((16 : Nat) : Int) := by omega
  have hp := part_place h W
  simp [Instr.index, asIntOf, run_underlying Try.underlying49, hc, hp]
  intro h
  omega

theorem equalIn_place (d : Nat) (x y : Option Int) (w : World) : (Op.equalIn (d + 3) 48 (place x) (place y)).run Try.prog w = .ok (x == y) w := by
  have u3 := Try.underlying3
  have a3 := Try.isAgg3
  have z3 := Try.sizeOf3
  have u4 := Try.underlying4
  have a4 := Try.isAgg4
  have z4 := Try.sizeOf4
  have hS : Try.prog.underlying 48 = some (.struct (Try.prog.fieldsOf 48)) := by kernel_rfl
  have hp : Try.prog.stoodInHeld 48 = false := by kernel_rfl
  unfold place
  rw [show d + 3 = (d + 2) + 1 from rfl, run_equalIn_agg w (d + 2) 48 _ _ hS hp]
  simp only [Program.fieldsOf, Try.underlying48]
  go_simp
  cases x <;> cases y <;> simp
  rename_i a b
  by_cases h : a = b <;> simp [h]

theorem all_range (xs ys : Fd) (h : xs.length = ys.length) : (List.range xs.length).all (fun i => xs.getD i none == ys.getD i none) = (xs == ys) := by
  rw [Bool.eq_iff_iff, List.all_eq_true, beq_iff_eq]
  constructor
  · intro hh
    apply List.ext_getElem h
    intro i h1 h2
    have := hh i (List.mem_range.2 h1)
    simpa [List.getElem?_eq_getElem h1, List.getElem?_eq_getElem h2] using this
  · rintro rfl i _
    simp
/-- two arrays of places, compared. -/
theorem equalIn_tab (xs ys : Fd) (w : World) (hx : xs.length = 16) (hy : ys.length = 16) : (Op.equalIn 10000 49 (.agg (cellsF xs).toArray) (.agg (cellsF ys).toArray)).run Try.prog w = .ok (xs == ys) w := by
  rw [← all_range xs ys (hx.trans hy.symm), hx, List.range_eq_range', show (10000 : Nat) = 9999 + 1 from rfl, Op.equalIn]
  simp only [Sem.run_bind, run_underlying Try.underlying49, Result.andThen_ok, szPlace, Std.Legacy.Range.forIn_eq_forIn_range', Std.Legacy.Range.size, Nat.sub_zero, Nat.add_sub_cancel, Nat.div_one]
  have hl : ∀ i ∈ List.range' 0 16 1, i < 16 := fun i hi => by simpa using (List.mem_range'_1.1 hi).2
  generalize List.range' 0 16 1 = l at hl ⊢
  induction l with
  | nil => simp
  | cons i l ih =>
    have hi : i < 16 := hl i (by simp)
    have gx : xs.getD i none = xs[i]'(by omega) := by simp [List.getElem?_eq_getElem (show i < xs.length by omega)]
    have gy : ys.getD i none = ys[i]'(by omega) := by simp [List.getElem?_eq_getElem (show i < ys.length by omega)]
    have px : (part 48 (cellsF xs).toArray (i * 2)).run Try.prog w = .ok (place (xs.getD i none)) w := by rw [gx]; exact part_place (by omega) w
    have py : (part 48 (cellsF ys).toArray (i * 2)).run Try.prog w = .ok (place (ys.getD i none)) w := by rw [gy]; exact part_place (by omega) w
    have pe : (Op.equalIn 9999 48 (place (xs.getD i none)) (place (ys.getD i none))).run Try.prog w = .ok (xs.getD i none == ys.getD i none) w := equalIn_place 9996 _ _ w
    simp only [List.forIn_cons, Sem.run_bind, px, py, pe, Result.andThen_ok, List.all_cons]
    cases hb : (xs.getD i none == ys.getD i none)
    · simp
    · simp only [Bool.not_true, Bool.false_eq_true, if_false, Sem.run_pure, Result.andThen_ok, Bool.true_and]
      exact ih fun j hj => hl j (by simp [hj])
theorem eql_place (x y : Option Int) (w : World) : (binOp .eql 48 (place x) (place y)).run Try.prog w = .ok (.bool (x == y)) w := by
  have := equalIn_place 9997 x y w
  unfold place at *
  rw [run_eql_struct, this]
  rfl

end Go.Proofs.Ytcenjdpochjclaa
