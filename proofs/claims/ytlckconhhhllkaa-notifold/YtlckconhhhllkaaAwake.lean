/-
  What every law of this layer does ahead: a call that goes on.
-/
import Derived.Test.YtlckconhhhllkaaIfc
import Derived.Deep.DeepCutAuto
namespace Go.Proofs.Ytlckconhhhllkaa
open Go.RowKit

set_option maxHeartbeats 4000000 in
theorem awake_any {F : World → World → Nat → Nt → Prop} (I : Ifc F) (w : World) : Calls Try.prog 8 #[] w fun e w' => e = .returned (.bool true) ∧ Below w.heap.size w w' := by
  go_enter Try.func8, Try.ntmps8
  go_wp2_with fail
  refine (I.new (Below.refl _ w) (by decide) ⟨by decide, by decide⟩).mono ?_
  rintro e w1 ⟨p, rfl, h1, _⟩
  have H1 : Hid (F w w1 p (newS 2 3 7)) := h1
  clear h1
  go_wp2_with fail
  refine (I.add (t := 1) H1.out).mono ?_
  rintro e w2 ⟨he, h2, _⟩
  have he2 : e = .returned (.tuple #[.int .u64 7, .int .i64 0]) := he
  subst he2
  have H2 : Hid (F w w2 p ⟨2, 3, 8, 0, [⟨7, 1, 1, 3, 0, 0⟩]⟩) := h2
  clear h2 he H1
  go_wp2_with fail
  refine (I.send H2.out).mono ?_
  rintro e w3 ⟨he, h3, _⟩
  have he2 : e = .returned (.tuple #[.agg #[.int .u64 7, .int .i64 1, .int .i64 2, .int .i64 3, .int .i64 0, .int .i64 0], .bool true]) := he
  subst he2
  have H3 : Hid (∀ X, Below w3.heap.size w3 X → F w X p ⟨2, 3, 8, 0, [⟨7, 1, 2, 3, 0, 0⟩]⟩) := fun X hX => I.over h3 hX
  clear h3 he H2
  go_upto_region 6 with fail
  have H4 : Hid (F w (w3.alloc (.cells #[.int .u64 7, .int .i64 1, .int .i64 2, .int .i64 3, .int .i64 0, .int .i64 0] 44)) p ⟨2, 3, 8, 0, [⟨7, 1, 2, 3, 0, 0⟩]⟩) := H3.out _ (below_new _ _)
  have B4 : Hid (Blk (w3.alloc (.cells #[.int .u64 7, .int .i64 1, .int .i64 2, .int .i64 3, .int .i64 0, .int .i64 0] 44)) w3.heap.size 44 [.int .u64 7, .int .i64 1, .int .i64 2, .int .i64 3, .int .i64 0, .int .i64 0]) := blk_new _ _ _
  clear H3
  generalize (w3.alloc (.cells #[.int .u64 7, .int .i64 1, .int .i64 2, .int .i64 3, .int .i64 0, .int .i64 0] 44)) = w4 at *
  generalize w3.heap.size = b3 at *
  go_wp2_with fail
  refine (I.reply (ep := 0) (id := 7) (k := 1) (v := 0) ⟨by decide, by decide⟩ ⟨by decide, by decide⟩ H4.out).mono ?_
  rintro e w5 ⟨he, h5, f5⟩
  have he2 : e = .returned (.int .i64 0) := he
  subst he2
  have H5 : Hid (F w w5 p ⟨2, 3, 8, 0, [⟨7, 1, 3, 3, 1, 0⟩]⟩) := h5
  have B5 : Hid (Blk w5 b3 44 [.int .u64 7, .int .i64 1, .int .i64 2, .int .i64 3, .int .i64 0, .int .i64 0]) := B4.out.fc f5 (by simp)
  clear h5 he f5 H4 B4
  go_wp2_with fail
  refine (I.ended (t := 1) H5.out).mono ?_
  rintro e w6 ⟨he, h6, f6⟩
  have he2 : e = .returned (.tuple #[.agg #[.int .u64 7, .int .i64 1, .int .i64 3, .int .i64 3, .int .i64 1, .int .i64 0], .bool true]) := he
  subst he2
  have HB : Hid (Below w.heap.size w w6) := I.bel h6
  have c2 : w6.cell? ⟨b3, 2, none⟩ = some (.int .i64 2) := (B5.out.fc f6 (by simp)).cell 2
  have hb6 : b3 < w6.heap.size := (B5.out.fc f6 (by simp)).lt
  have HB7 : Hid (Below w.heap.size w (w6.alloc (.cells #[.int .u64 7, .int .i64 1, .int .i64 3, .int .i64 3, .int .i64 1, .int .i64 0] 44))) := HB.out.alloc HB.out.size _
  have c2' : (w6.alloc (.cells #[.int .u64 7, .int .i64 1, .int .i64 3, .int .i64 3, .int .i64 1, .int .i64 0] 44)).cell? ⟨b3, 2, none⟩ = some (.int .i64 2) := ((B5.out.fc f6 (by simp)).alloc _).cell 2
  clear h6 he f6 H5 B5 c2 hb6
  go_wp2_with fail
  go_ret
  exact ⟨rfl, HB7.out⟩

end Go.Proofs.Ytlckconhhhllkaa
