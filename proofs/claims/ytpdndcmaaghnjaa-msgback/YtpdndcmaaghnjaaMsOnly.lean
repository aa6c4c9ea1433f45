/-
  A message with nothing but what its kind has: proved of every message.
-/
import Derived.Test.YtpdndcmaaghnjaaMsBase
import Derived.Deep.RegionHeld3
namespace Go.Proofs.Ytpdndcmaaghnjaa
open Go.RowKit
open D (Da Blk)

/-- a message with nothing but what its kind has. -/
def onlyM (m : Mg) : Mg where
  kind := m.kind
  epoch := m.epoch
  id := if m.kind = 1 then 0 else m.id
  task := if m.kind = 2 then m.task else 0
  val := if m.kind = 4 ∨ m.kind = 5 ∨ m.kind = 7 then m.val else 0
  data := if m.kind = 2 then m.data else Da.zero
  path := if m.kind = 2 then m.path else []

theorem va_iff (k : Int) : vaQ k = decide (k = 4 ∨ k = 5 ∨ k = 7) := by
  unfold vaQ
  rw [Bool.eq_iff_iff]
  simp

/-- a message with room for two more. -/
theorem room3 (w : World) (o o' o'' : Obj) : Below w.heap.size w (((w.alloc o).alloc o').alloc o'') :=
  (((Below.refl _ _).alloc (Nat.le_refl _) _).alloc (by rw [D.size_alloc']; omega) _).alloc (by rw [D.size_alloc', D.size_alloc']; omega) _

set_option maxHeartbeats 2000000 in
theorem only_none (k ep id t v a b c x0 x1 x2 x3 x4 x5 : Int) (s : ByteArray) (w : World) (q1 : idQ k = false) (q2 : caQ k = false) (q3 : vaQ k = false) (V : Value) (hV : V = .agg #[.int .i64 k, .int .u64 ep, .int .u64 0, .int .i64 0, .int .i64 0, .int .u32 0, .int .u32 0, .int .u64 0, .int .u64 0, .int .u64 0, .int .u64 0, .int .u64 0, .int .u64 0, .int .u64 0, .string ⟨#[]⟩]) :
    Calls Try.prog 21 #[.agg #[.int .i64 k, .int .u64 ep, .int .u64 id, .int .i64 t, .int .i64 v, .int .u32 a, .int .u32 b, .int .u64 c, .int .u64 x0, .int .u64 x1, .int .u64 x2, .int .u64 x3, .int .u64 x4, .int .u64 x5, .string s]] w fun e w' => e = .returned V ∧ Below w.heap.size w w' := by
  have HV : Hid (V = .agg #[.int .i64 k, .int .u64 ep, .int .u64 0, .int .i64 0, .int .i64 0, .int .u32 0, .int .u32 0, .int .u64 0, .int .u64 0, .int .u64 0, .int .u64 0, .int .u64 0, .int .u64 0, .int .u64 0, .string ⟨#[]⟩]) := hV
  have HB : Hid (∀ o o' o'', Below w.heap.size w (((w.alloc o).alloc o').alloc o'')) := room3 w
  clear hV
  go_enter Try.func21, Try.ntmps21
  go_wp2_with (first | (go_at_call 33; refine (hasID_any _ _).mono ?_; rintro e w' ⟨rfl, rfl⟩; rw [q1]) | (go_at_call 29; refine (hasCall_any _ _).mono ?_; rintro e w' ⟨rfl, rfl⟩; rw [q2]) | (go_at_call 34; refine (hasVal_any _ _).mono ?_; rintro e w' ⟨rfl, rfl⟩; rw [q3]))
  refine bodyPost_ret (v := V) (by simp [results, Try.results21, go_sem, HV.out]) rfl ⟨rfl, HB.out _ _ _⟩

set_option maxHeartbeats 2000000 in
theorem only_id (k ep id t v a b c x0 x1 x2 x3 x4 x5 : Int) (s : ByteArray) (w : World) (q1 : idQ k = true) (q2 : caQ k = false) (q3 : vaQ k = false) (V : Value) (hV : V = .agg #[.int .i64 k, .int .u64 ep, .int .u64 id, .int .i64 0, .int .i64 0, .int .u32 0, .int .u32 0, .int .u64 0, .int .u64 0, .int .u64 0, .int .u64 0, .int .u64 0, .int .u64 0, .int .u64 0, .string ⟨#[]⟩]) :
    Calls Try.prog 21 #[.agg #[.int .i64 k, .int .u64 ep, .int .u64 id, .int .i64 t, .int .i64 v, .int .u32 a, .int .u32 b, .int .u64 c, .int .u64 x0, .int .u64 x1, .int .u64 x2, .int .u64 x3, .int .u64 x4, .int .u64 x5, .string s]] w fun e w' => e = .returned V ∧ Below w.heap.size w w' := by
  have HV : Hid (V = .agg #[.int .i64 k, .int .u64 ep, .int .u64 id, .int .i64 0, .int .i64 0, .int .u32 0, .int .u32 0, .int .u64 0, .int .u64 0, .int .u64 0, .int .u64 0, .int .u64 0, .int .u64 0, .int .u64 0, .string ⟨#[]⟩]) := hV
  have HB : Hid (∀ o o' o'', Below w.heap.size w (((w.alloc o).alloc o').alloc o'')) := room3 w
  clear hV
  go_enter Try.func21, Try.ntmps21
  go_wp2_with (first | (go_at_call 33; refine (hasID_any _ _).mono ?_; rintro e w' ⟨rfl, rfl⟩; rw [q1]) | (go_at_call 29; refine (hasCall_any _ _).mono ?_; rintro e w' ⟨rfl, rfl⟩; rw [q2]) | (go_at_call 34; refine (hasVal_any _ _).mono ?_; rintro e w' ⟨rfl, rfl⟩; rw [q3]))
  refine bodyPost_ret (v := V) (by simp [results, Try.results21, go_sem, HV.out]) rfl ⟨rfl, HB.out _ _ _⟩

set_option maxHeartbeats 2000000 in
theorem only_val (k ep id t v a b c x0 x1 x2 x3 x4 x5 : Int) (s : ByteArray) (w : World) (q1 : idQ k = true) (q2 : caQ k = false) (q3 : vaQ k = true) (V : Value) (hV : V = .agg #[.int .i64 k, .int .u64 ep, .int .u64 id, .int .i64 0, .int .i64 v, .int .u32 0, .int .u32 0, .int .u64 0, .int .u64 0, .int .u64 0, .int .u64 0, .int .u64 0, .int .u64 0, .int .u64 0, .string ⟨#[]⟩]) :
    Calls Try.prog 21 #[.agg #[.int .i64 k, .int .u64 ep, .int .u64 id, .int .i64 t, .int .i64 v, .int .u32 a, .int .u32 b, .int .u64 c, .int .u64 x0, .int .u64 x1, .int .u64 x2, .int .u64 x3, .int .u64 x4, .int .u64 x5, .string s]] w fun e w' => e = .returned V ∧ Below w.heap.size w w' := by
  have HV : Hid (V = .agg #[.int .i64 k, .int .u64 ep, .int .u64 id, .int .i64 0, .int .i64 v, .int .u32 0, .int .u32 0, .int .u64 0, .int .u64 0, .int .u64 0, .int .u64 0, .int .u64 0, .int .u64 0, .int .u64 0, .string ⟨#[]⟩]) := hV
  have HB : Hid (∀ o o' o'', Below w.heap.size w (((w.alloc o).alloc o').alloc o'')) := room3 w
  clear hV
  go_enter Try.func21, Try.ntmps21
  go_wp2_with (first | (go_at_call 33; refine (hasID_any _ _).mono ?_; rintro e w' ⟨rfl, rfl⟩; rw [q1]) | (go_at_call 29; refine (hasCall_any _ _).mono ?_; rintro e w' ⟨rfl, rfl⟩; rw [q2]) | (go_at_call 34; refine (hasVal_any _ _).mono ?_; rintro e w' ⟨rfl, rfl⟩; rw [q3]))
  refine bodyPost_ret (v := V) (by simp [results, Try.results21, go_sem, HV.out]) rfl ⟨rfl, HB.out _ _ _⟩

end Go.Proofs.Ytpdndcmaaghnjaa
