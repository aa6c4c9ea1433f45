/-
  A message with nothing but what its kind has, of a kind with a call; and of every message.
-/
import Derived.Test.YtpdndcmaaghnjaaMsOnly
namespace Go.Proofs.Ytpdndcmaaghnjaa
open Go.RowKit
open D (Da Blk)

set_option maxHeartbeats 2000000 in
theorem only_call (k ep id t v a b c x0 x1 x2 x3 x4 x5 : Int) (s : ByteArray) (w : World) (q1 : idQ k = true) (q2 : caQ k = true) (q3 : vaQ k = false) (V : Value) (hV : V = .agg #[.int .i64 k, .int .u64 ep, .int .u64 id, .int .i64 t, .int .i64 0, .int .u32 a, .int .u32 b, .int .u64 c, .int .u64 x0, .int .u64 x1, .int .u64 x2, .int .u64 x3, .int .u64 x4, .int .u64 x5, .string s]) :
    Calls Try.prog 21 #[.agg #[.int .i64 k, .int .u64 ep, .int .u64 id, .int .i64 t, .int .i64 v, .int .u32 a, .int .u32 b, .int .u64 c, .int .u64 x0, .int .u64 x1, .int .u64 x2, .int .u64 x3, .int .u64 x4, .int .u64 x5, .string s]] w fun e w' => e = .returned V ∧ Below w.heap.size w w' := by
  have HV : Hid (V = .agg #[.int .i64 k, .int .u64 ep, .int .u64 id, .int .i64 t, .int .i64 0, .int .u32 a, .int .u32 b, .int .u64 c, .int .u64 x0, .int .u64 x1, .int .u64 x2, .int .u64 x3, .int .u64 x4, .int .u64 x5, .string s]) := hV
  have HB : Hid (∀ o o' o'', Below w.heap.size w (((w.alloc o).alloc o').alloc o'')) := room3 w
  clear hV
  go_enter Try.func21, Try.ntmps21
  go_wp2_with (first | (go_at_call 33; refine (hasID_any _ _).mono ?_; rintro e w' ⟨rfl, rfl⟩; rw [q1]) | (go_at_call 29; refine (hasCall_any _ _).mono ?_; rintro e w' ⟨rfl, rfl⟩; rw [q2]) | (go_at_call 34; refine (hasVal_any _ _).mono ?_; rintro e w' ⟨rfl, rfl⟩; rw [q3]))
  go_region
  all_goals
    go_wp2_with (first | (go_at_call 33; refine (hasID_any _ _).mono ?_; rintro e w' ⟨rfl, rfl⟩; rw [q1]) | (go_at_call 29; refine (hasCall_any _ _).mono ?_; rintro e w' ⟨rfl, rfl⟩; rw [q2]) | (go_at_call 34; refine (hasVal_any _ _).mono ?_; rintro e w' ⟨rfl, rfl⟩; rw [q3]))
    refine bodyPost_ret (v := V) (by simp [results, Try.results21, go_sem, HV.out]) rfl ⟨rfl, (HB.out _ _ _).drew⟩

theorem only_any (m : Mg) (w : World) (hd : m.data.ok) : Calls Try.prog 21 #[m.vl] w fun e w' => e = .returned (onlyM m).vl ∧ Below w.heap.size w w' := by
  obtain ⟨k, ep, id, t, v, d, p⟩ := m
  obtain ⟨a, b, c, g⟩ := d
  have hg := hd.2.2.2.1
  simp only at hg
  obtain ⟨x0, x1, x2, x3, x4, x5, rfl⟩ := D.six hg
  by_cases h2 : k = 2
  · subst h2
    exact only_call 2 ep id t v a b c x0 x1 x2 x3 x4 x5 (strOfNums p) w rfl rfl rfl _ rfl
  · have q2 : caQ k = false := beq_false_of_ne h2
    by_cases h1 : k = 1
    · subst h1
      exact only_none 1 ep id t v a b c x0 x1 x2 x3 x4 x5 (strOfNums p) w rfl rfl rfl _ rfl
    · have q1 : idQ k = true := by unfold idQ; rw [beq_false_of_ne h1]; rfl
      by_cases h4 : k = 4 ∨ k = 5 ∨ k = 7
      · refine only_val k ep id t v a b c x0 x1 x2 x3 x4 x5 (strOfNums p) w q1 q2 (by rw [va_iff]; exact decide_eq_true h4) _ ?_
        unfold onlyM
        simp only [if_neg h1, if_neg h2, if_pos h4]
        rfl
      · refine only_id k ep id t v a b c x0 x1 x2 x3 x4 x5 (strOfNums p) w q1 q2 (by rw [va_iff]; exact decide_eq_false h4) _ ?_
        unfold onlyM
        simp only [if_neg h1, if_neg h2, if_neg h4]
        rfl

end Go.Proofs.Ytpdndcmaaghnjaa
