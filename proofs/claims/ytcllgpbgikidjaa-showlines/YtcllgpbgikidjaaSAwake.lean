/-
  Two lines.
-/
import Derived.Test.YtcllgpbgikidjaaSText
namespace Go.Proofs.Ytcllgpbgikidjaa
open Go.RowKit

def openB : ByteArray := ⟨#[111, 112, 101, 110]⟩
def awX : Xl := ⟨4, 13, [openB], [⟨1, 2, 3, 0⟩]⟩

theorem aw_text (T : List Int) : textT T 1 0 [awX] = [100, 101, 102, 97, 117, 108, 116, 32, 107, 105, 108, 108, 59, 10, 101, 114, 114, 110, 111, 32, 49, 51, 32, 111, 112, 101, 110, 32, 119, 104, 101, 110, 32, 97, 114, 103, 49, 32, 38, 32, 51, 32, 33, 61, 32, 48, 59, 10] := by
  have d13 : dec T 13 = [49, 51] := dec_two T (by decide) (by decide)
  have d1 : dec T 1 = [49] := dec_one T (by decide)
  have d3 : dec T 3 = [51] := dec_one T (by decide)
  have d0 : dec T 0 = [48] := dec_one T (by decide)
  have e1 : defT T 1 0 = [100, 101, 102, 97, 117, 108, 116, 32, 107, 105, 108, 108, 59, 10] := rfl
  have e2 : condT T ⟨1, 2, 3, 0⟩ = [[97, 114, 103, 49], [38], [51], [33, 61], [48]] := by
    show ([97, 114, 103] ++ dec T 1) :: (([[38], dec T 3]) ++ [[33, 61], dec T 0]) = _
    rw [d1, d3, d0]
    rfl
  have e3 : actT T 4 13 = [[101, 114, 114, 110, 111], [49, 51]] := by
    show [[101, 114, 114, 110, 111], dec T 13] = _
    rw [d13]
  have e4 : flat T (condsS wWhenB [⟨1, 2, 3, 0⟩]) = [[119, 104, 101, 110]] ++ (condT T ⟨1, 2, 3, 0⟩ ++ []) := rfl
  have e5 : ruleT T awX = [101, 114, 114, 110, 111, 32, 49, 51, 32, 111, 112, 101, 110, 32, 119, 104, 101, 110, 32, 97, 114, 103, 49, 32, 38, 32, 51, 32, 33, 61, 32, 48, 59, 10] := by
    show Lib.join (actT T 4 13 ++ (namesT [openB] ++ flat T (condsS wWhenB [⟨1, 2, 3, 0⟩]))) [32] ++ [59, 10] = _
    rw [e4, e3, e2]
    decide
  show defT T 1 0 ++ (ruleT T awX ++ []) = _
  rw [e1, e5]
  rfl

theorem aw_right : rulesB 1 0 [awX] = true := by decide

set_option maxRecDepth 4000 in
set_option maxHeartbeats 2000000 in
theorem awake_any (T : List Int) (w : World) (ht : Tb T w) :
    Calls Try.prog 6 #[] w fun e w' => e = .returned (.bool true) ∧ Below w.heap.size w w' := by
  have BE : Hid (Below w.heap.size w (((w.alloc (Obj.cells #[.string ⟨#[111, 112, 101, 110]⟩] 9)).alloc (Obj.cells #[.int .i64 1, .int .i64 2, .int .u64 3, .int .u64 0] 36)).alloc (Obj.cells #[.int .i64 4, .int .i64 13, .slice (some ⟨w.heap.size, 0, none⟩) 1 1, .slice (some ⟨w.heap.size + 1, 0, none⟩) 1 1] 39))) := (((Below.refl _ _).alloc (Nat.le_refl _) _).alloc (by rw [size_alloc']; omega) _).alloc (by rw [size_alloc', size_alloc']; omega) _
  have k0 : Blk (((w.alloc (Obj.cells #[.string ⟨#[111, 112, 101, 110]⟩] 9)).alloc (Obj.cells #[.int .i64 1, .int .i64 2, .int .u64 3, .int .u64 0] 36)).alloc (Obj.cells #[.int .i64 4, .int .i64 13, .slice (some ⟨w.heap.size, 0, none⟩) 1 1, .slice (some ⟨w.heap.size + 1, 0, none⟩) 1 1] 39)) w.heap.size 9 [.string ⟨#[111, 112, 101, 110]⟩] := ((blk_new w _ _).alloc _).alloc _
  have k1 : Blk (((w.alloc (Obj.cells #[.string ⟨#[111, 112, 101, 110]⟩] 9)).alloc (Obj.cells #[.int .i64 1, .int .i64 2, .int .u64 3, .int .u64 0] 36)).alloc (Obj.cells #[.int .i64 4, .int .i64 13, .slice (some ⟨w.heap.size, 0, none⟩) 1 1, .slice (some ⟨w.heap.size + 1, 0, none⟩) 1 1] 39)) (w.heap.size + 1) 36 [.int .i64 1, .int .i64 2, .int .u64 3, .int .u64 0] := by
    have := (blk_new (w.alloc (Obj.cells #[.string ⟨#[111, 112, 101, 110]⟩] 9)) #[.int .i64 1, .int .i64 2, .int .u64 3, .int .u64 0] 36).alloc (Obj.cells #[.int .i64 4, .int .i64 13, .slice (some ⟨w.heap.size, 0, none⟩) 1 1, .slice (some ⟨w.heap.size + 1, 0, none⟩) 1 1] 39)
    rw [size_alloc'] at this
    exact this
  have k2 : Blk (((w.alloc (Obj.cells #[.string ⟨#[111, 112, 101, 110]⟩] 9)).alloc (Obj.cells #[.int .i64 1, .int .i64 2, .int .u64 3, .int .u64 0] 36)).alloc (Obj.cells #[.int .i64 4, .int .i64 13, .slice (some ⟨w.heap.size, 0, none⟩) 1 1, .slice (some ⟨w.heap.size + 1, 0, none⟩) 1 1] 39)) (w.heap.size + 1 + 1) 39 [.int .i64 4, .int .i64 13, .slice (some ⟨w.heap.size, 0, none⟩) 1 1, .slice (some ⟨w.heap.size + 1, 0, none⟩) 1 1] := by
    have := blk_new ((w.alloc (Obj.cells #[.string ⟨#[111, 112, 101, 110]⟩] 9)).alloc (Obj.cells #[.int .i64 1, .int .i64 2, .int .u64 3, .int .u64 0] 36)) #[.int .i64 4, .int .i64 13, .slice (some ⟨w.heap.size, 0, none⟩) 1 1, .slice (some ⟨w.heap.size + 1, 0, none⟩) 1 1] 39
    rw [size_alloc', size_alloc'] at this
    exact this
  have HX : Hid (Calls Try.prog 8 #[.agg #[.int .i64 1, .int .i64 0, .slice (some ⟨w.heap.size + 1 + 1, 0, none⟩) 1 1]] (((w.alloc (Obj.cells #[.string ⟨#[111, 112, 101, 110]⟩] 9)).alloc (Obj.cells #[.int .i64 1, .int .i64 2, .int .u64 3, .int .u64 0] 36)).alloc (Obj.cells #[.int .i64 4, .int .i64 13, .slice (some ⟨w.heap.size, 0, none⟩) 1 1, .slice (some ⟨w.heap.size + 1, 0, none⟩) 1 1] 39)) fun e w' => e = .returned (.tuple #[.string (bar (textT T 1 0 [awX])), .int .i64 0]) ∧ Below (((w.alloc (Obj.cells #[.string ⟨#[111, 112, 101, 110]⟩] 9)).alloc (Obj.cells #[.int .i64 1, .int .i64 2, .int .u64 3, .int .u64 0] 36)).alloc (Obj.cells #[.int .i64 4, .int .i64 13, .slice (some ⟨w.heap.size, 0, none⟩) 1 1, .slice (some ⟨w.heap.size + 1, 0, none⟩) 1 1] 39)).heap.size (((w.alloc (Obj.cells #[.string ⟨#[111, 112, 101, 110]⟩] 9)).alloc (Obj.cells #[.int .i64 1, .int .i64 2, .int .u64 3, .int .u64 0] 36)).alloc (Obj.cells #[.int .i64 4, .int .i64 13, .slice (some ⟨w.heap.size, 0, none⟩) 1 1, .slice (some ⟨w.heap.size + 1, 0, none⟩) 1 1] 39)) w') := by
    refine text_yes T _ 1 0 _ [⟨awX, .slice (some ⟨w.heap.size, 0, none⟩) 1 1, .slice (some ⟨w.heap.size + 1, 0, none⟩) 1 1⟩] ⟨some ⟨w.heap.size + 1 + 1, 0, none⟩, 1, rfl, Nat.le_refl _, by decide, fun _ => ⟨w.heap.size + 1 + 1, 0, rfl, fun i x hx => ?_⟩, fun x hx => ?_⟩ (by simp) ?_ aw_right ?_ (ht.below BE.out)
    · match i, hx with
      | 0, hx => cases hx; exact ⟨k2.cell 0, k2.cell 1, k2.cell 2, k2.cell 3⟩
    · obtain rfl : x = ⟨awX, .slice (some ⟨w.heap.size, 0, none⟩) 1 1, .slice (some ⟨w.heap.size + 1, 0, none⟩) 1 1⟩ := by simpa using hx
      refine ⟨⟨some ⟨w.heap.size, 0, none⟩, 1, rfl, Nat.le_refl _, by decide, fun _ => ⟨w.heap.size, 0, rfl, fun i s hs => ?_⟩⟩, ⟨some ⟨w.heap.size + 1, 0, none⟩, 1, rfl, Nat.le_refl _, by decide, fun _ => ⟨w.heap.size + 1, 0, rfl, fun i c hc => ?_⟩⟩⟩
      · match i, hs with
        | 0, hs => cases hs; exact k0.cell 0
      · match i, hc with
        | 0, hc => cases hc; exact ⟨k1.cell 0, k1.cell 1, k1.cell 2, k1.cell 3⟩
    · intro x hx
      obtain rfl : x = ⟨awX, .slice (some ⟨w.heap.size, 0, none⟩) 1 1, .slice (some ⟨w.heap.size + 1, 0, none⟩) 1 1⟩ := by simpa using hx
      exact ⟨(by decide : awX.names.length ≤ 9000000), (by decide : awX.conds.length ≤ 9000000)⟩
    · intro x hx
      obtain rfl : x = ⟨awX, .slice (some ⟨w.heap.size, 0, none⟩) 1 1, .slice (some ⟨w.heap.size + 1, 0, none⟩) 1 1⟩ := by simpa using hx
      refine ⟨fun s hs => ?_, fun c hc => ?_⟩
      · obtain rfl : s = openB := by simpa [awX] using hs
        decide
      · obtain rfl : c = ⟨1, 2, 3, 0⟩ := by simpa [awX] using hc
        exact ⟨⟨by decide, by decide⟩, ⟨by decide, by decide⟩⟩
  rw [aw_text] at HX
  have HY : Hid (Calls Try.prog 8 #[.agg #[.int .i64 1, .int .i64 0, .slice (some ⟨w.heap.size + 1 + 1, 0, none⟩) 1 1]] (((w.alloc (Obj.cells #[.string ⟨#[111, 112, 101, 110]⟩] 9)).alloc (Obj.cells #[.int .i64 1, .int .i64 2, .int .u64 3, .int .u64 0] 36)).alloc (Obj.cells #[.int .i64 4, .int .i64 13, .slice (some ⟨w.heap.size, 0, none⟩) 1 1, .slice (some ⟨w.heap.size + 1, 0, none⟩) 1 1] 39)) fun e w' => e = .returned (.tuple #[.string ⟨#[100, 101, 102, 97, 117, 108, 116, 32, 107, 105, 108, 108, 59, 10, 101, 114, 114, 110, 111, 32, 49, 51, 32, 111, 112, 101, 110, 32, 119, 104, 101, 110, 32, 97, 114, 103, 49, 32, 38, 32, 51, 32, 33, 61, 32, 48, 59, 10]⟩, .int .i64 0]) ∧ Below ((((w.alloc (Obj.cells #[.string ⟨#[111, 112, 101, 110]⟩] 9)).alloc (Obj.cells #[.int .i64 1, .int .i64 2, .int .u64 3, .int .u64 0] 36)).alloc (Obj.cells #[.int .i64 4, .int .i64 13, .slice (some ⟨w.heap.size, 0, none⟩) 1 1, .slice (some ⟨w.heap.size + 1, 0, none⟩) 1 1] 39))).heap.size (((w.alloc (Obj.cells #[.string ⟨#[111, 112, 101, 110]⟩] 9)).alloc (Obj.cells #[.int .i64 1, .int .i64 2, .int .u64 3, .int .u64 0] 36)).alloc (Obj.cells #[.int .i64 4, .int .i64 13, .slice (some ⟨w.heap.size, 0, none⟩) 1 1, .slice (some ⟨w.heap.size + 1, 0, none⟩) 1 1] 39)) w') := HX
  clear HX
  clear k0 k1 k2 ht
  go_enter Try.func6, Try.ntmps6
  go_wp2_with fail
  refine HY.out.mono ?_
  rintro e w1 ⟨rfl, b1⟩
  go_wp2_with fail
  go_ret
  exact ⟨rfl, BE.out.trans (b1.mono BE.out.size)⟩

end Go.Proofs.Ytcllgpbgikidjaa
