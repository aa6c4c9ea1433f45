/-
  numDigits
-/
import Derived.Test.YtcllgpbgikidjaaSFmtMath
namespace Go.Proofs.Ytcllgpbgikidjaa
open Go.RowKit

set_option maxRecDepth 100000 in
theorem numD_any (T : List Int) (n : Nat) (h1 : 100 ≤ n) (h2 : n < 18446744073709551616) (w : World) (ht : Tb T w) :
    Calls Try.prog 72 #[.int .u64 n] w fun e w' => e = .returned (.int .i64 (ndT T n)) ∧ w' = w := by
  obtain ⟨a, b, c, d⟩ := l10_of h1 h2
  have HN : Hid (ndT T n = Lib.l10 (Lib.bitLen n) + (if T.getD (Lib.l10 (Lib.bitLen n)) 0 ≤ (n : Int) then 1 else 0)) := by
    show ndT T n = _
    unfold ndT
    with_reducible rfl
  have HL := Try.bits_Len64 n
  have hc := ht (Lib.l10 (Lib.bitLen n)) (by omega)
  have HG := Try.internal_strconv_log10Pow2 (Lib.bitLen n) d
  have HL2 : Hid (∀ W, Calls Try.prog 76 #[.int .u64 n] W fun e w' => e = .returned (.int .i64 (Lib.bitLen n)) ∧ w' = W) := fun W => by
    have := HL W (by omega) (by omega)
    rw [Int.toNat_natCast] at this
    exact this
  have HG2 : Hid (∀ W, Calls Try.prog 75 #[.int .i64 (Lib.bitLen n)] W fun e w' => e = .returned (.int .i64 (Lib.l10 (Lib.bitLen n))) ∧ w' = W) := HG
  clear HL HG ht d c h1 h2
  generalize Lib.l10 (Lib.bitLen n) = q at *
  generalize Lib.bitLen n = L at *
  generalize hz : T.getD q 0 = z at *
  have hq : (q : Int) < 20 := by omega
  rcases Bool.eq_false_or_eq_true (decide (z ≤ (n : Int))) with hd | hd
  all_goals
    go_enter Try.func72, Try.ntmps72
    go_wp2_with (first | (go_at_call 76; refine (HL2.out _).mono ?_; rintro e w1 ⟨rfl, rfl⟩) | (go_at_call 75; refine (HG2.out _).mono ?_; rintro e w1 ⟨rfl, rfl⟩) | (go_at_call 77; refine (Try.internal_strconv_bool2_int _ _).mono ?_; rintro e w1 ⟨rfl, rfl⟩))
    go_ret
    refine ⟨?_, rfl⟩
  · rw [HN.out, if_pos (by simpa using hd)]
    rfl
  · rw [HN.out, if_neg (by simpa using hd)]
    rfl


end Go.Proofs.Ytcllgpbgikidjaa
