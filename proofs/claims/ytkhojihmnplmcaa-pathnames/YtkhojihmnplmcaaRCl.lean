/-
  The document's Clean, Up, Within.
-/
import Derived.Test.YtkhojihmnplmcaaRLf
import Derived.BigQuiet
namespace Go.Proofs.Ytkhojihmnplmcaa
open Go.RowKit

theorem len_joinF (L : List (List UInt8)) : L.length ≤ (joinF L).length := by
  induction L with
  | nil => exact Nat.le_refl _
  | cons n L ih =>
    rw [joinF_cons, List.length_cons]
    omega
theorem tup {a b : ByteArray} {x y : Int} (h1 : a = b) (h2 : x = y) : Ending.returned (.tuple #[.string a, .int .i64 x]) = .returned (.tuple #[.string b, .int .i64 y]) := by rw [h1, h2]

set_option maxHeartbeats 4000000 in
theorem rclean_any (s : ByteArray) (w : World) (hs : s.size ≤ 90000) :
    Calls Try.prog 11 #[.string s] w fun e w' => e = .returned (.tuple #[.string (bar (cleanP (lst s))), .int .i64 (errP (lst s))]) ∧ Below w.heap.size w w' := by
  have HR : Hid (Calls Try.prog 15 #[.string s] w fun e w' => e = .returned (.bool (rightP (lst s))) ∧ w' = w) := rright_any s w (by omega)
  have HL : Hid (Calls Try.prog 23 #[.string s] w fun e w' => RowR w (leftP (lst s)) e w') := rleft_any s w hs
  have HC : Hid (Cl (leftP (lst s))) := cl_left _
  cases hr : rightP (lst s) with
  | false =>
    have HE : Hid (cleanP (lst s) = [] ∧ errP (lst s) = 1) := ⟨by unfold cleanP; rw [hr]; rfl, by unfold errP; rw [hr]; rfl⟩
    rw [hr] at HR
    clear hr
    go_enter Try.func11, Try.ntmps11
    go_wp2_with fail
    refine HR.out.mono ?_
    rintro e w1 ⟨rfl, hw1⟩; subst w1
    go_wp2_with fail
    go_ret2
    exact ⟨tup (by rw [HE.out.1]; rfl) HE.out.2.symm, Below.refl _ _⟩
  | true =>
    have HE : Hid (cleanP (lst s) = joinP (leftP (lst s)) ∧ errP (lst s) = 0) := ⟨if_pos hr, if_pos hr⟩
    rw [hr] at HR
    clear hr
    go_enter Try.func11, Try.ntmps11
    go_wp2_with fail
    refine HR.out.mono ?_
    rintro e w1 ⟨rfl, hw1⟩; subst w1
    go_wp2_with fail
    refine HL.out.mono ?_
    rintro e w2 ⟨v2, rfl, hown, hb⟩
    have HJ : Hid (Calls Try.prog 19 #[v2] w2 fun e w' => e = .returned (.string (bar (joinP (leftP (lst s))))) ∧ w' = w2) := rjoin_any v2 _ w2 (tx_row hown) (by have h1 := HC.out.len; have h2 := len_joinF (leftP (lst s)); omega) (by have h1 := HC.out.len; omega)
    have HB : Hid (Below w.heap.size w w2) := hb
    clear hown hb
    go_wp2_with fail
    refine HJ.out.mono ?_
    rintro e w3 ⟨rfl, hw3⟩; subst w3
    go_wp2_with fail
    go_ret2
    exact ⟨tup (by rw [HE.out.1]) HE.out.2.symm, HB.out⟩

set_option maxHeartbeats 4000000 in
theorem rup_any (s : ByteArray) (w : World) (hs : s.size ≤ 90000) :
    Calls Try.prog 13 #[.string s] w fun e w' => e = .returned (.tuple #[.string (bar (upP (lst s))), .int .i64 (errP (lst s))]) ∧ Below w.heap.size w w' := by
  have HR : Hid (Calls Try.prog 15 #[.string s] w fun e w' => e = .returned (.bool (rightP (lst s))) ∧ w' = w) := rright_any s w (by omega)
  have HL : Hid (Calls Try.prog 23 #[.string s] w fun e w' => RowR w (leftP (lst s)) e w') := rleft_any s w hs
  have HC : Hid (Cl (leftP (lst s))) := cl_left _
  cases hr : rightP (lst s) with
  | false =>
    have HE : Hid (upP (lst s) = [] ∧ errP (lst s) = 1) := ⟨by unfold upP; rw [hr]; rfl, by unfold errP; rw [hr]; rfl⟩
    rw [hr] at HR
    clear hr
    go_enter Try.func13, Try.ntmps13
    go_wp2_with fail
    refine HR.out.mono ?_
    rintro e w1 ⟨rfl, hw1⟩; subst w1
    go_wp2_with fail
    go_ret2
    exact ⟨tup (by rw [HE.out.1]; rfl) HE.out.2.symm, Below.refl _ _⟩
  | true =>
    have HE : Hid (upP (lst s) = joinP (leftP (lst s)).dropLast ∧ errP (lst s) = 0) := ⟨if_pos hr, if_pos hr⟩
    rw [hr] at HR
    clear hr
    generalize leftP (lst s) = L at *
    go_enter Try.func13, Try.ntmps13
    go_wp2_with fail
    refine HR.out.mono ?_
    rintro e w1 ⟨rfl, hw1⟩; subst w1
    go_wp2_with fail
    refine HL.out.mono ?_
    rintro e w2 ⟨v2, rfl, hown, hb⟩
    have HB : Hid (Below w.heap.size w w2) := hb
    obtain ⟨p, c, rfl⟩ := row_form hown
    obtain ⟨k, hk⟩ : ∃ k, L.length = k := ⟨_, rfl⟩
    by_cases h0 : k = 0
    · have HE2 : Hid (upP (lst s) = [47]) := by
        show _ = _
        rw [HE.out.1, List.eq_nil_of_length_eq_zero (hk.trans h0)]
        rfl
      rw [hk]
      have e0 : ((k : Int) == 0) = true := by simp [h0]
      clear hown hb hk h0
      go_wp2_with fail
      go_ret2
      exact ⟨tup (by rw [HE2.out]; rfl) HE.out.2.symm, HB.out⟩
    · have e0 : ((k : Int) == 0) = false := beq_eq_false_iff_ne.2 (by omega)
      obtain ⟨m, hm⟩ : ∃ m, k = m + 1 := ⟨k - 1, by omega⟩
      obtain ⟨xv, hsc, hcut⟩ := cut_hi ety_s hown m (by omega)
      have e1 : (cellsT L).take m = cellsT L.dropLast := by
        unfold cellsT
        rw [← List.map_take, List.dropLast_eq_take, hk, hm]
        rfl
      rw [e1] at hsc
      have hlen : L.length ≤ 256 := by have h1 := HC.out.len; have h2 := len_joinF L; omega
      have HJ : Hid (Calls Try.prog 19 #[xv] w2 fun e w' => e = .returned (.string (bar (joinP L.dropLast))) ∧ w' = w2) := rjoin_any xv _ w2 hsc (by rw [List.length_dropLast]; omega) (by have h1 := HC.out.drop.len; omega)
      rw [hk] at hcut ⊢
      have hd' : (0 : Int) < (k : Int) := by omega
      have hmm : (k : Int) - 1 = (m : Int) := by omega
      have hm5 : m ≤ 90001 := by omega
      have hmw : IntKind.i64.wrap (m : Int) = (m : Int) := by rw [IntKind.wrap_i64]; omega
      clear hown hb hk hm hsc e1 hlen h0
      go_wp2_with fail
      refine HJ.out.mono ?_
      rintro e w3 ⟨rfl, hw3⟩; subst w3
      go_wp2_with fail
      go_ret2
      exact ⟨tup (by rw [HE.out.1]) HE.out.2.symm, HB.out⟩

theorem prefix_of {a b : List (List UInt8)} (hl : b.length ≤ a.length) (h : ∀ (k : Nat) (h1 : k < b.length) (h2 : k < a.length), a[k] = b[k]) : b.isPrefixOf a = true := by
  rw [List.isPrefixOf_iff_prefix, List.prefix_iff_eq_take]
  refine List.ext_getElem (by rw [List.length_take]; omega) fun k h1 h2 => ?_
  rw [List.getElem_take]
  exact (h k h1 (by omega)).symm
theorem prefix_not {a b : List (List UInt8)} (h : a.length < b.length ∨ ∃ (k : Nat) (h1 : k < b.length) (h2 : k < a.length), a[k] ≠ b[k]) : b.isPrefixOf a = false := by
  rw [Bool.eq_false_iff]
  intro e
  rw [List.isPrefixOf_iff_prefix] at e
  rcases h with h | ⟨k, h1, h2, h3⟩
  · have := e.length_le
    omega
  · exact h3 (e.getElem h1).symm

set_option maxHeartbeats 8000000 in
theorem rwithin_any (s d : ByteArray) (w : World) (hs : s.size ≤ 90000) (hd : d.size ≤ 90000) :
    Calls Try.prog 21 #[.string s, .string d] w fun e w' => e = .returned (.bool (withinP (lst s) (lst d))) ∧ Below w.heap.size w w' := by
  have HR : Hid (Calls Try.prog 15 #[.string s] w fun e w' => e = .returned (.bool (rightP (lst s))) ∧ w' = w) := rright_any s w (by omega)
  have HR2 : Hid (Calls Try.prog 15 #[.string d] w fun e w' => e = .returned (.bool (rightP (lst d))) ∧ w' = w) := rright_any d w (by omega)
  have HL : Hid (Calls Try.prog 23 #[.string s] w fun e w' => RowR w (leftP (lst s)) e w') := rleft_any s w hs
  have HL2 : Hid (∀ W, Calls Try.prog 23 #[.string d] W fun e w' => RowR W (leftP (lst d)) e w') := fun W => rleft_any d W hd
  have HC : Hid (Cl (leftP (lst s)) ∧ Cl (leftP (lst d))) := ⟨cl_left _, cl_left _⟩
  cases hr : rightP (lst s) with
  | false =>
    have HE : Hid (withinP (lst s) (lst d) = false) := by show _ = _; unfold withinP; rw [hr]; rfl
    rw [hr] at HR
    clear hr hs hd
    go_enter Try.func21, Try.ntmps21
    go_wp2_with fail
    refine HR.out.mono ?_
    rintro e w1 ⟨rfl, hw1⟩; subst w1
    go_wp2_with fail
    go_ret
    exact ⟨by rw [HE.out]; rfl, Below.refl _ _⟩
  | true =>
    rw [hr] at HR
    cases hr2 : rightP (lst d) with
    | false =>
      have HE : Hid (withinP (lst s) (lst d) = false) := by show _ = _; unfold withinP; rw [hr, hr2]; rfl
      rw [hr2] at HR2
      clear hr hr2 hs hd
      go_enter Try.func21, Try.ntmps21
      go_wp2_with fail
      refine HR.out.mono ?_
      rintro e w1 ⟨rfl, hw1⟩; subst w1
      go_wp2_with fail
      refine HR2.out.mono ?_
      rintro e w1 ⟨rfl, hw1⟩; subst w1
      go_wp2_with fail
      go_ret
      exact ⟨by rw [HE.out]; rfl, Below.refl _ _⟩
    | true =>
      have HE : Hid (withinP (lst s) (lst d) = (leftP (lst d)).isPrefixOf (leftP (lst s))) := by show _ = _; unfold withinP; rw [hr, hr2]; rfl
      rw [hr2] at HR2
      clear hr hr2 hs hd
      generalize leftP (lst s) = A at *
      generalize leftP (lst d) = D at *
      go_enter Try.func21, Try.ntmps21
      go_wp2_with fail
      refine HR.out.mono ?_
      rintro e w1 ⟨rfl, hw1⟩; subst w1
      go_wp2_with fail
      refine HR2.out.mono ?_
      rintro e w1 ⟨rfl, hw1⟩; subst w1
      go_wp2_with fail
      refine HL.out.mono ?_
      rintro e w2 ⟨v2, rfl, hown2, hb2⟩
      obtain ⟨p2, c2, rfl⟩ := row_form hown2
      have HC2 : Hid (Calls Try.prog 23 #[.string d] w2 fun e w' => RowR w2 D e w') := HL2.out w2
      have H2 : Hid (w2.ownsRow w.heap.size 9 1 (.slice p2 A.length c2) A.length (cellsT A) ∧ Below w.heap.size w w2) := ⟨hown2, hb2⟩
      clear hown2 hb2
      go_wp2_with fail
      refine HC2.out.mono ?_
      rintro e w3 ⟨v3, rfl, hown3, hb3⟩
      obtain ⟨p3, c3, rfl⟩ := row_form hown3
      have H3 : Hid (w3.ownsRow w.heap.size 9 1 (.slice p2 A.length c2) A.length (cellsT A) ∧ Below w.heap.size w w3 ∧ w3.ownsRow w2.heap.size 9 1 (.slice p3 D.length c3) D.length (cellsT D)) := ⟨owns_below H2.out.1 hb3 (Nat.le_refl _), H2.out.2.trans (hb3.mono H2.out.2.size), hown3⟩
      clear hown3 hb3
      obtain ⟨n, hn⟩ : ∃ n, A.length = n := ⟨_, rfl⟩
      obtain ⟨m, hm⟩ : ∃ m, D.length = m := ⟨_, rfl⟩
      have HNM : Hid (A.length = n ∧ D.length = m ∧ n ≤ 256 ∧ m ≤ 256) := by
        have h1 := HC.out.1.len
        have h2 := len_joinF A
        have h3 := HC.out.2.len
        have h4 := len_joinF D
        exact ⟨hn, hm, by omega, by omega⟩
      rw [hn, hm]
      clear hn hm
      by_cases hlt : n < m
      · have r1 : decide ((n : Int) < (m : Int)) = true := decide_eq_true (by omega)
        have r1' : (n : Int) < (m : Int) := by omega
        have HF : Hid (D.isPrefixOf A = false) := prefix_not (.inl (by rw [HNM.out.1, HNM.out.2.1]; exact hlt))
        go_wp2_with fail
        go_ret
        exact ⟨by rw [HE.out, HF.out]; rfl, H3.out.2.1⟩
      · have r1 : decide ((n : Int) < (m : Int)) = false := decide_eq_false (by omega)
        have r1' : ¬ (n : Int) < (m : Int) := by omega
        go_wp2_with fail
        go_loopw [7] (fun v7 wr => ∃ i : Nat, v7 = .int .i64 i ∧ i ≤ m ∧ (∀ (k : Nat) (h1 : k < D.length) (h2 : k < A.length), k < i → A[k] = D[k]) ∧ wr.ownsRow w.heap.size 9 1 (.slice p2 A.length c2) A.length (cellsT A) ∧ Below w.heap.size w wr ∧ wr.ownsRow w2.heap.size 9 1 (.slice p3 D.length c3) D.length (cellsT D)) (fun v7 _ => m - (intOf v7).toNat)
        case atStart => exact ⟨0, rfl, Nat.zero_le _, fun k _ _ h => absurd h (Nat.not_lt_zero _), H3.out.1, H3.out.2.1, H3.out.2.2⟩
        case round =>
          obtain ⟨i, rfl, hi, heq, ho1, hbw, ho2⟩ := hrel
          have HQ : Hid (∀ (k : Nat) (h1 : k < D.length) (h2 : k < A.length), k < i → A[k] = D[k]) := heq
          have HO : Hid (wr.ownsRow w.heap.size 9 1 (.slice p2 A.length c2) A.length (cellsT A) ∧ Below w.heap.size w wr ∧ wr.ownsRow w2.heap.size 9 1 (.slice p3 D.length c3) D.length (cellsT D)) := ⟨ho1, hbw, ho2⟩
          clear heq ho1 hbw ho2
          by_cases hlt2 : i < m
          · have hi1 : (i : Int) < (m : Int) := by omega
            have hi2 : (i : Int) < (n : Int) := by omega
            have hiD : i < D.length := by rw [HNM.out.2.1]; exact hlt2
            have hiA : i < A.length := by rw [HNM.out.1]; omega
            obtain ⟨g2, e2, _, hc2⟩ := row_atT HO.out.1 hiA
            obtain ⟨g3, e3, _, hc3⟩ := row_atT HO.out.2.2 hiD
            subst e2 e3
            have hm5 : m ≤ 256 := HNM.out.2.2.2
            have hn5 : n ≤ 256 := HNM.out.2.2.1
            have HDR : Hid (∀ q, wr.drewN q |>.ownsRow w.heap.size 9 1 (.slice (some ⟨g2, 0, none⟩) A.length c2) A.length (cellsT A)) := fun q => owns_below HO.out.1 (below_drewN wr q) (Nat.le_refl _)
            have HDR2 : Hid (∀ q, Below w.heap.size w (wr.drewN q) ∧ (wr.drewN q).ownsRow w2.heap.size 9 1 (.slice (some ⟨g3, 0, none⟩) D.length c3) D.length (cellsT D)) := fun q => ⟨HO.out.2.1.trans ((below_drewN wr q).mono HO.out.2.1.size), owns_below HO.out.2.2 (below_drewN wr q) (Nat.le_refl _)⟩
            by_cases hx : A[i] = D[i]
            · have hcm : ((bar A[i]).toList == (bar D[i]).toList) = true := by rw [hx]; exact beq_self_eq_true _
              have HQ2 : Hid (∀ (k : Nat) (h1 : k < D.length) (h2 : k < A.length), k < i + 1 → A[k] = D[k]) := fun k h1 h2 hk => by
                by_cases e : k = i
                · subst e
                  exact hx
                · exact HQ.out k h1 h2 (by omega)
              clear hx
              generalize A[i] = x at *
              generalize D[i] = y at *
              go_wp2_with fail
              go_quiet (fail)
              go_wp2_with fail
              go_roundw
              case rel => exact ⟨i + 1, by go_num, hlt2, HQ2.out, HDR.out _, (HDR2.out _).1, (HDR2.out _).2⟩
              case measure => simp [intOf]; omega
            · have hcm : ((bar A[i]).toList == (bar D[i]).toList) = false := by
                rw [toList_bar, toList_bar]
                exact beq_eq_false_iff_ne.2 hx
              have HF : Hid (D.isPrefixOf A = false) := prefix_not (.inr ⟨i, hiD, hiA, hx⟩)
              clear hx
              generalize A[i] = x at *
              generalize D[i] = y at *
              go_wp2_with fail
              go_quiet (fail)
              go_wp2_with fail
              go_ret
              exact ⟨by rw [HE.out, HF.out]; rfl, (HDR2.out _).1⟩
          · have hi1 : ¬ (i : Int) < (m : Int) := by omega
            have HF : Hid (D.isPrefixOf A = true) := prefix_of (by rw [HNM.out.1, HNM.out.2.1]; omega) fun k h1 h2 => HQ.out k h1 h2 (by have := HNM.out.2.1; omega)
            go_wp2_with fail
            go_ret
            exact ⟨by rw [HE.out, HF.out]; rfl, HO.out.2.1⟩

end Go.Proofs.Ytkhojihmnplmcaa
