/-
  Two instructions, compared; texts of bytes, compared.
-/
import Derived.Test.YtonhkohfogpflaaMem
import Derived.Laws.StructEq
namespace Go.Proofs.Ytonhkohfogpflaa
open Go.RowKit

/-- are two instructions the same? -/
def In.same (x y : In) : Bool := x.c == y.c && x.t == y.t && x.f == y.f && x.k == y.k

theorem In.same_iff (x y : In) : x.same y = true ↔ x = y := by
  obtain ⟨a, b, c, d⟩ := x
  obtain ⟨a', b', c', d'⟩ := y
  simp [In.same, and_assoc]

theorem In.same_self (x : In) : x.same x = true := (In.same_iff x x).2 rfl

theorem equalIn_in (x y : In) (w : World) : (Op.equalIn 10000 27 x.val y.val).run Try.prog w = .ok (x.same y) w := by
  have u22 := Try.underlying22
  have a22 := Try.isAgg22
  have z22 := Try.sizeOf22
  have u5 := Try.underlying5
  have a5 := Try.isAgg5
  have z5 := Try.sizeOf5
  have u25 := Try.underlying25
  have a25 := Try.isAgg25
  have z25 := Try.sizeOf25
  have hS : Try.prog.underlying 27 = some (.struct (Try.prog.fieldsOf 27)) := by kernel_rfl
  have hp : Try.prog.stoodInHeld 27 = false := by kernel_rfl
  unfold In.val
  rw [show (10000 : Nat) = 9999 + 1 from rfl, run_equalIn_agg w 9999 27 _ _ hS hp]
  simp only [Program.fieldsOf, Try.underlying27]
  go_simp
  obtain ⟨a, b, c, d⟩ := x
  obtain ⟨a', b', c', d'⟩ := y
  unfold In.same
  by_cases h1 : a = a' <;> by_cases h2 : b = b' <;> by_cases h3 : c = c' <;> by_cases h4 : d = d' <;> simp [h1, h2, h3, h4]

theorem eql_in (x y : In) (w : World) : (binOp .eql 27 x.val y.val).run Try.prog w = .ok (.bool (x.same y)) w := by
  unfold In.val
  rw [run_eql_struct]
  have := equalIn_in x y w
  unfold In.val at this
  rw [this]
  rfl

theorem neq_in (x y : In) (w : World) : (binOp .neq 27 x.val y.val).run Try.prog w = .ok (.bool (!x.same y)) w := by
  unfold In.val
  rw [run_neq_struct]
  have := equalIn_in x y w
  unfold In.val at this
  rw [this]
  rfl

/-- a text's bytes. -/
def bytesOf (s : ByteArray) : List Int := s.data.toList.map fun b => (b.toNat : Int)

theorem bytes_str (l : List Int) (h : Byt l) : bytesOf (strOfNums l) = l := by
  unfold bytesOf
  rw [strOfNums_data, List.map_map]
  conv => rhs; rw [← List.map_id l]
  apply List.map_congr_left
  intro z hz
  obtain ⟨h0, h1⟩ := h z hz
  obtain ⟨n, rfl⟩ := Int.eq_ofNat_of_zero_le h0
  have : n < 256 := by omega
  simp [UInt8.toNat_ofNat', Nat.mod_eq_of_lt this]

theorem str_inj {l m : List Int} (hl : Byt l) (hm : Byt m) (h : (strOfNums l).toList = (strOfNums m).toList) : l = m := by
  rw [ByteArray.toList_eq, ByteArray.toList_eq] at h
  rw [← bytes_str l hl, ← bytes_str m hm]
  unfold bytesOf
  rw [h]

/-- the texts of two instructions are the same just if the instructions are. -/
theorem str_same (x y : In) (hx : x.ok) (hy : y.ok) : ((strOfNums x.enc).toList == (strOfNums y.enc).toList) = x.same y := by
  rw [Bool.eq_iff_iff, In.same_iff]
  constructor
  · intro h
    exact enc_inj hx hy (str_inj (x.enc_byt hx) (y.enc_byt hy) (eq_of_beq h))
  · rintro rfl
    exact beq_self_eq_true _

end Go.Proofs.Ytonhkohfogpflaa
