/-
  The document's Left.
-/
import Derived.Test.YtilemgpopjlchaaDoorRJn
namespace Go.Proofs.YtilemgpopjlchaaDoor
open Go.RowKit

theorem left_take {L : List (List UInt8)} {i : Nat} (hi : i < L.length) : (L.take (i + 1)).foldl stepL [] = stepL ((L.take i).foldl stepL []) L[i] := by
  rw [List.take_succ_eq_append_getElem hi, List.foldl_append]
  rfl
theorem left_len (L out : List (List UInt8)) : (L.foldl stepL out).length ≤ out.length + L.length := by
  induction L generalizing out with
  | nil => exact Nat.le_refl _
  | cons x L ih =>
    have h1 := ih (stepL out x)
    have h2 : (stepL out x).length ≤ out.length + 1 := by
      unfold stepL
      split
      · rw [List.length_dropLast]; omega
      · rw [List.length_append]; exact Nat.le_refl _
    show (L.foldl stepL (stepL out x)).length ≤ _
    rw [List.length_cons]
    omega
theorem toList_bar (l : List UInt8) : (bar l).toList = l := by
  rw [ByteArray.toList_eq]
  exact lst_bar l

set_option maxHeartbeats 8000000 in
theorem rleft_any (s : ByteArray) (w : World) (hs : s.size ≤ 90000) :
    Calls Tryd.prog 55 #[.string s] w fun e w' => RowR w (leftP (lst s)) e w' := by
  obtain ⟨NS, hNS⟩ : ∃ l, namesP (lst s) = l := ⟨_, rfl⟩
  have HN : Hid (leftP (lst s) = NS.foldl stepL []) := by rw [← hNS]; exact rfl
  have HC : Hid (Calls Tryd.prog 31 #[.string s] w fun e w' => RowR w NS e w') := by rw [← hNS]; exact rnames_any s w hs
  have HL : Hid (NS.length ≤ 90001) := by
    show _ ≤ _
    rw [← hNS]
    unfold namesP
    split
    · have h1 := namesA_len [] ((lst s).drop 1)
      rw [List.length_drop, lst_length] at h1
      omega
    · exact Nat.zero_le _
  clear hNS hs
  go_enter Tryd.func55, Tryd.ntmps55
  go_wp2_with fail
  refine HC.out.mono ?_
  rintro e w1 ⟨v1, rfl, hown1, hb1⟩
  obtain ⟨p1, c1, rfl⟩ := row_form hown1
  obtain ⟨n, hn⟩ : ∃ n, NS.length = n := ⟨_, rfl⟩
  rw [hn] at hown1
  have H1 : Hid (w1.ownsRow w.heap.size 9 1 (.slice p1 n c1) n (cellsT NS) ∧ Below w.heap.size w w1 ∧ NS.length = n ∧ n ≤ 90001) := ⟨hown1, hb1, hn, by rw [← hn]; exact HL.out⟩
  rw [hn]
  clear hown1 hb1 HC HL hn
  go_wp2_with fail
  go_loopw [3, 5] (fun v3 v5 wr => ∃ (i : Nat) (O : List (List UInt8)), v5 = .int .i64 i ∧ i ≤ n ∧ O = (NS.take i).foldl stepL [] ∧ wr.ownsRow w1.heap.size 9 1 v3 O.length (cellsT O) ∧ Below w1.heap.size w1 wr) (fun _ v5 _ => n - (intOf v5).toNat)
  case atStart => exact ⟨0, [], rfl, Nat.zero_le _, rfl, ⟨rfl, .inl ⟨rfl, rfl⟩⟩, Below.refl _ _⟩
  case round =>
    obtain ⟨i, O, rfl, hi, hO, hrow, hbw⟩ := hrel
    obtain ⟨p, c, rfl⟩ := row_form hrow
    have HO : Hid (O = (NS.take i).foldl stepL []) := hO
    have H2 : Hid (wr.ownsRow w1.heap.size 9 1 (.slice p O.length c) O.length (cellsT O) ∧ Below w1.heap.size w1 wr) := ⟨hrow, hbw⟩
    have HOL : Hid (O.length ≤ 90001) := by
      have h1 := left_len (NS.take i) []
      have h2 := H1.out.2.2
      rw [← hO, List.length_take] at h1
      simp at h1
      show O.length ≤ _
      omega
    clear hO hrow hbw
    by_cases hlt : i < n
    · have hi1 : (i : Int) < (n : Int) := by omega
      have hiL : i < NS.length := by rw [H1.out.2.2.1]; exact hlt
      have hr1 := owns_below H1.out.1 H2.out.2 (Nat.le_refl _)
      rw [← H1.out.2.2.1] at hr1
      obtain ⟨g, hp, _, hc⟩ := row_atT hr1 hiL
      subst hp
      have HST : Hid ((NS.take (i + 1)).foldl stepL [] = stepL O NS[i]) := by
        show _ = _
        rw [left_take hiL, ← HO.out]
      have hn5 : n ≤ 90001 := H1.out.2.2.2
      clear hr1
      generalize NS[i] = x at *
      clear hiL
      by_cases hx : x = [46, 46]
      · have hcm : ((bar x).toList == [46, 46]) = true := by rw [toList_bar, hx]; rfl
        have HS2 : Hid ((NS.take (i + 1)).foldl stepL [] = O.dropLast) := by
          show _ = _
          rw [HST.out]
          unfold stepL
          rw [if_pos hx]
        clear hx HST
        by_cases h0 : O.length = 0
        · have hd : decide ((0 : Int) < (O.length : Int)) = false := decide_eq_false (by omega)
          have hd' : ¬ (0 : Int) < (O.length : Int) := by omega
          have HS3 : Hid (O = (NS.take (i + 1)).foldl stepL []) := by
            show _ = _
            rw [HS2.out, List.eq_nil_of_length_eq_zero h0]
            rfl
          clear h0
          go_wp2_with fail
          go_roundw
          case rel => exact ⟨i + 1, O, by go_num, hlt, HS3.out, H2.out.1, H2.out.2⟩
          case measure => simp [intOf]; omega
        · obtain ⟨m, hm⟩ : ∃ m, O.length = m + 1 := ⟨O.length - 1, by omega⟩
          obtain ⟨xv, hsc, hcut⟩ := cut_hi ety_s H2.out.1 m (by omega)
          have HSC : Hid (Sc wr xv (cellsT O.dropLast) ∧ O.dropLast.length = m) := by
            have e1 : (cellsT O).take m = cellsT O.dropLast := by
              unfold cellsT
              rw [← List.map_take, List.dropLast_eq_take, hm]
              rfl
            rw [e1] at hsc
            exact ⟨hsc, by rw [List.length_dropLast]; omega⟩
          have HM8 : Hid (m ≤ 90001) := by have := HOL.out; show m ≤ _; omega
          obtain ⟨k, hk⟩ : ∃ k, O.length = k := ⟨_, rfl⟩
          have hk0 : k = m + 1 := by omega
          rw [hk] at hcut ⊢
          have hd : decide ((0 : Int) < (k : Int)) = true := decide_eq_true (by omega)
          have hd' : (0 : Int) < (k : Int) := by omega
          have hmm : (k : Int) - 1 = (m : Int) := by omega
          have hmw : IntKind.i64.wrap (m : Int) = (m : Int) := by rw [IntKind.wrap_i64]; have := HM8.out; omega
          have hm5 : m ≤ 90001 := HM8.out
          clear hm hk hk0
          clear h0 hsc
          go_wp2_with (first
            | (at_builtin; refine list_app (ys := cellsT O.dropLast) ety_s rfl _ _ rfl rfl rfl (row_fresh wr 9) (Sc.over HSC.out.1 (below_new _ _)) (one_t _) (by have h1 := HSC.out.2; have h2 := HM8.out; rw [cellsT_len]; omega) (by rw [size_alloc']; omega) ?_; intro v7 w7 ha7; have HA7 : Hid (App 9 wr.heap.size (wr.alloc (.cells #[] 9)) w7 (.slice (some ⟨wr.heap.size, 0, none⟩) 0 0) v7 ([] ++ cellsT O.dropLast)) := ha7; clear ha7)
            | go_in)
          have H8 : Hid (w7.ownsRow w1.heap.size 9 1 v7 O.dropLast.length (cellsT O.dropLast) ∧ Below w1.heap.size w1 w7) := by
            have h1 := HA7.out.own
            rw [List.nil_append, cellsT_len] at h1
            have h2 := HA7.out.below (w0 := wr) (row_fresh wr 9) (below_new _ _)
            exact ⟨owns_lower h1 H2.out.2.size, H2.out.2.trans (h2.mono H2.out.2.size)⟩
          go_roundw
          case rel => exact ⟨i + 1, _, by go_num, hlt, HS2.out.symm, H8.out.1, H8.out.2⟩
          case measure => simp [intOf]; omega
      · have hcm : ((bar x).toList == [46, 46]) = false := by rw [toList_bar]; exact beq_eq_false_iff_ne.2 hx
        have HS2 : Hid ((NS.take (i + 1)).foldl stepL [] = O ++ [x]) := by
          show _ = _
          rw [HST.out]
          unfold stepL
          rw [if_neg hx]
        clear hx HST
        go_wp2_with (first
          | (at_builtin; refine list_app (ys := cellsT [x]) ety_s rfl _ _ rfl rfl rfl (owns_below H2.out.1 (below_new _ _) (Nat.le_refl _)) (sc_one _ _ _) (one_t _) (by have := HOL.out; simp [cellsT]; omega) (Nat.le_trans H2.out.2.size (below_new _ _).size) ?_; intro v7 w7 ha7; have HA7 : Hid (App 9 w1.heap.size (wr.alloc (.cells #[.string (bar x)] 9)) w7 (.slice p O.length c) v7 (cellsT O ++ cellsT [x])) := ha7; clear ha7)
          | go_in)
        have H8 : Hid (w7.ownsRow w1.heap.size 9 1 v7 (O ++ [x]).length (cellsT (O ++ [x])) ∧ Below w1.heap.size w1 w7) := by
          have h1 := HA7.out.own
          rw [← cellsT_app, cellsT_len] at h1
          exact ⟨h1, HA7.out.below (owns_below H2.out.1 (below_new _ _) (Nat.le_refl _)) (H2.out.2.alloc H2.out.2.size _)⟩
        go_roundw
        case rel => exact ⟨i + 1, _, by go_num, hlt, HS2.out.symm, H8.out.1, H8.out.2⟩
        case measure => simp [intOf]; omega
    · have hi1 : ¬ (i : Int) < (n : Int) := by omega
      have HD : Hid (leftP (lst s) = O) := by
        show _ = _
        rw [HN.out, HO.out, List.take_of_length_le (by have := H1.out.2.2.1; omega)]
      go_wp2_with fail
      go_ret
      refine ⟨_, rfl, ?_, H1.out.2.1.trans (H2.out.2.mono H1.out.2.1.size)⟩
      rw [HD.out]
      exact owns_lower H2.out.1 H1.out.2.1.size

end Go.Proofs.YtilemgpopjlchaaDoor
