/-
  The document's Join.
-/
import Derived.Test.YtilemgpopjlchaaDoorRNm
namespace Go.Proofs.YtilemgpopjlchaaDoor
open Go.RowKit

theorem joinF_take {L : List (List UInt8)} {i : Nat} (hi : i < L.length) : bar (joinF (L.take i)) ++ ⟨#[47]⟩ ++ bar L[i] = bar (joinF (L.take (i + 1))) := by
  apply lst_inj
  rw [lst_app, lst_app, lst_bar, lst_bar, lst_bar, List.take_succ_eq_append_getElem hi, joinF_app, List.append_assoc]
  congr 1
  show [47] ++ L[i] = (47 :: L[i]) ++ []
  rw [List.append_nil]
  rfl

set_option maxHeartbeats 4000000 in
theorem rjoin_any (v : Value) (L : List (List UInt8)) (w : World) (h : TxR w v L) (hl : L.length ≤ 100000) (hj : (joinF L).length ≤ 1000000) :
    Calls Tryd.prog 48 #[v] w fun e w' => e = .returned (.string (bar (joinP L))) ∧ w' = w := by
  obtain ⟨p, c, rfl⟩ := h.form
  obtain ⟨n, hn⟩ : ∃ n, L.length = n := ⟨_, rfl⟩
  rw [hn] at h hl ⊢
  have HT : Hid (TxR w (.slice p n c) L ∧ L.length = n ∧ n ≤ 100000) := ⟨h, hn, hl⟩
  have HJL : Hid ((joinF L).length ≤ 1000000) := hj
  clear h hn hl hj
  by_cases h0 : n = 0
  · have e0 : ((n : Int) == 0) = true := by simp [h0]
    have HR : Hid (joinP L = [47]) := by
      have h1 := HT.out.2.1
      rw [h0] at h1
      rw [List.eq_nil_of_length_eq_zero h1]
      rfl
    clear h0
    go_enter Tryd.func48, Tryd.ntmps48
    go_wp2_with fail
    go_ret
    exact ⟨by rw [HR.out]; rfl, rfl⟩
  · have e0 : ((n : Int) == 0) = false := beq_eq_false_iff_ne.2 (by omega)
    have HR : Hid (joinP L = joinF L) := by
      show _ = _
      unfold joinP
      rw [if_neg fun e => h0 (by rw [← HT.out.2.1, e]; rfl)]
    clear h0
    go_enter Tryd.func48, Tryd.ntmps48
    go_wp2_with fail
    go_loopw [3, 4] (fun v3 v4 wr => ∃ i : Nat, v4 = .int .i64 i ∧ i ≤ n ∧ v3 = .string (bar (joinF (L.take i))) ∧ wr = w) (fun _ v4 _ => n - (intOf v4).toNat)
    case atStart => exact ⟨0, rfl, Nat.zero_le _, rfl, rfl⟩
    case round =>
      obtain ⟨i, rfl, hi, rfl, hw⟩ := hrel
      subst hw
      by_cases hlt : i < n
      · have hi1 : (i : Int) < (n : Int) := by omega
        have hiL : i < L.length := by rw [HT.out.2.1]; exact hlt
        obtain ⟨a, rfl, hc⟩ := HT.out.1.at hiL
        have HJ : Hid (bar (joinF (L.take i)) ++ ⟨#[47]⟩ ++ bar L[i] = bar (joinF (L.take (i + 1)))) := joinF_take hiL
        have hn5 : n ≤ 100000 := HT.out.2.2
        have hsz : (bar (joinF (L.take i))).size + 1 + (bar L[i]).size ≤ 1000000 := by
          have h1 := congrArg ByteArray.size HJ.out
          have h2 : (joinF (L.take (i + 1))).length ≤ (joinF L).length := by
            have e1 : joinF L = joinF (L.take (i + 1)) ++ joinF (L.drop (i + 1)) := by rw [← joinF_app, List.take_append_drop]
            rw [e1, List.length_append]
            omega
          have h3 := HJL.out
          rw [ByteArray.size_append, ByteArray.size_append, bar_size (joinF (L.take (i + 1)))] at h1
          have h4 : (⟨#[47]⟩ : ByteArray).size = 1 := rfl
          omega
        have hs1 : ¬ 9223372036854775807 < (bar (joinF (L.take i))).size + 1 := by omega
        have hs2 : ¬ 9223372036854775807 < (bar (joinF (L.take i))).size + 1 + (bar L[i]).size := by omega
        clear hsz
        go_wp2_with fail
        go_roundw
        case rel => exact ⟨i + 1, by go_num, hlt, by rw [← HJ.out], by trivial⟩
        case measure => simp [intOf]; omega
      · have hi1 : ¬ (i : Int) < (n : Int) := by omega
        obtain rfl : i = n := by omega
        go_wp2_with fail
        go_ret
        refine ⟨?_, rfl⟩
        rw [HR.out]
        have : L.take i = L := List.take_of_length_le (by rw [HT.out.2.1]; exact Nat.le_refl _)
        rw [this]
        rfl

end Go.Proofs.YtilemgpopjlchaaDoor
