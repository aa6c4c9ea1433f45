/-
  A condition's one form, by the document's table: proved of every condition.
-/
import Derived.Test.YtocebgkiaclekaaRefNormA
import Derived.Test.YtocebgkiaclekaaRefNormB
import Derived.Test.YtocebgkiaclekaaRefNormC
import Derived.Test.YtocebgkiaclekaaRefNormD
namespace Go.Proofs.Ytocebgkiaclekaa
open Go.RowKit

theorem refNorm_any (a o m v : Int) (w : World) (hm : U64 m) (hv : U64 v) :
    Calls Try.prog 17 #[.agg #[.int .i64 a, .int .i64 o, .int .u64 m, .int .u64 v]] w fun e w' => e = .returned (normN a o m v).val ∧ Below w.heap.size w w' := by
  unfold normN
  by_cases hr : rightB a o = true
  · rw [if_pos hr]
    have hout := out_or hv hm
    obtain ⟨y, hy⟩ : ∃ y, bits BinOp.or IntKind.u64 v m = y := ⟨_, rfl⟩
    rw [hy] at hout
    obtain ⟨_, _, h3, h4⟩ := right_bd hr
    have hv0 := hv.1
    have hm0 := hm.1
    rcases six h3 h4 with rfl | rfl | rfl | rfl | rfl | rfl
    · rw [if_pos (by decide)]
      by_cases h : (y == m) = true
      · have e : formN 1 m v = ⟨false, false, false, 1, m, v⟩ := by simp [formN, ← hout, h]
        rw [e]
        exact refNorm_1_plain a m v w hr (by rw [hy]; exact eq_of_beq h)
      · have h' : (y == m) = false := by simpa using h
        have e : formN 1 m v = never := by simp [formN, ← hout, h']
        rw [e]
        exact refNorm_1_never a m v y w hr hy (beq_eq_false_iff_ne.1 h')
    · rw [if_neg (by decide)]
      by_cases h : (y == m) = true
      · have e : turn (formN (opp 2) m v) = ⟨false, false, true, 1, m, v⟩ := by simp [formN, opp, ← hout, h, turn, No.same, always, never]
        rw [e]
        exact refNorm_2_plain a m v w hr (by rw [hy]; exact eq_of_beq h)
      · have h' : (y == m) = false := by simpa using h
        have e : turn (formN (opp 2) m v) = always := by simp [formN, opp, ← hout, h', turn, No.same, always, never]
        rw [e]
        exact refNorm_2_always a m v y w hr hy (beq_eq_false_iff_ne.1 h')
    · rw [if_neg (by decide)]
      by_cases h0 : v = 0
      · have hmv : ¬ m < v := by omega
        have e : turn (formN (opp 3) m v) = never := by subst h0; simp [formN, opp, hmv, turn, No.same, always, never]
        rw [e]
        exact refNorm_3_never a m v y w hr hy (by simp [h0])
      · by_cases h : m < v
        · have e : turn (formN (opp 3) m v) = always := by simp [formN, opp, h, turn, No.same, always, never]
          rw [e]
          exact refNorm_3_always a m v y w hr hy (by simp [h0]) h
        · have e : turn (formN (opp 3) m v) = ⟨false, false, true, 6, m, v⟩ := by simp [formN, opp, h, h0, turn, No.same, always, never]
          rw [e]
          exact refNorm_3_plain a m v y w hr hy (by simp [h0]) h
    · rw [if_neg (by decide)]
      by_cases h : m ≤ v
      · have e : turn (formN (opp 4) m v) = always := by simp [formN, opp, h, turn, No.same, always, never]
        rw [e]
        exact refNorm_4_always a m v y w hr hy h
      · have e : turn (formN (opp 4) m v) = ⟨false, false, true, 5, m, v⟩ := by simp [formN, opp, h, turn, No.same, always, never]
        rw [e]
        exact refNorm_4_plain a m v y w hr hy h
    · rw [if_pos (by decide)]
      by_cases h : m ≤ v
      · have e : formN 5 m v = never := by simp [formN, h]
        rw [e]
        exact refNorm_5_never a m v y w hr hy h
      · have e : formN 5 m v = ⟨false, false, false, 5, m, v⟩ := by simp [formN, h]
        rw [e]
        exact refNorm_5_plain a m v y w hr hy h
    · rw [if_pos (by decide)]
      by_cases h : m < v
      · have e : formN 6 m v = never := by simp [formN, h]
        rw [e]
        exact refNorm_6_never a m v y w hr hy (by omega) h
      · by_cases h0 : v = 0
        · have e : formN 6 m v = always := by subst h0; simp [formN, h]
          rw [e]
          exact refNorm_6_always a m v y w hr hy (by omega) (by simp [h0])
        · have e : formN 6 m v = ⟨false, false, false, 6, m, v⟩ := by simp [formN, h, h0]
          rw [e]
          exact refNorm_6_plain a m v y w hr hy (by omega) (by simp [h0]) h
  · rw [if_neg hr]
    exact refNorm_wrong a o m v w (by simpa using hr)

end Go.Proofs.Ytocebgkiaclekaa
