/-
  The program's Resolve.
-/
import Derived.Test.YtilemgpopjlchaaDoorTFl
import Derived.Test.YtilemgpopjlchaaDoorTCo
namespace Go.Proofs.YtilemgpopjlchaaDoor
open Go.RowKit Go.Shelf

set_option maxHeartbeats 8000000 in
theorem tresolve_any (v : Value) (L : List Nd) (s : ByteArray) (w : World) (h : NdR w v L) (hs : s.size ≤ 5000) : Calls Tryd.prog 15 #[v, .string s] w (Tells w (tellR (resV L (lst s)))) := by
  have HBY : Hid (Calls Tryd.prog 20 #[v] w (ByE L w)) := tby_any v L w h
  have HS : Hid (s.size ≤ 5000) := hs
  clear h hs
  by_cases hc : (chkN L).1 = 0
  · have HC : Hid ((chkN L).1 = 0) := hc
    cases hr : rightP (lst s) with
    | false =>
      have HR : Hid (∀ X, Calls Tryd.prog 26 #[.string s] X fun e w' => e = .returned (.bool false) ∧ w' = X) := fun X => by
        have h1 := tright_any s X
        rw [hr] at h1
        exact h1
      have HV : Hid (resV L (lst s) = ([], 0, 1)) := by
        show _ = _
        unfold resV
        rw [if_pos HC.out, hr]
        rfl
      rw [HV.out]
      clear hr HV
      go_enter Tryd.func15, Tryd.ntmps15
      go_wp2_with fail
      refine HBY.out.mono ?_
      rintro e w1 ⟨hb1, h1, _⟩
      obtain ⟨B, rfl, _, _⟩ := h1 hc
      clear h1 hc
      have H1 : Hid (Below w.heap.size w w1) := hb1
      clear hb1
      go_wp2_with fail
      refine (HR.out _).mono ?_
      rintro e w2 ⟨rfl, hw2⟩; subst w2
      go_wp2_with fail
      go_ret3
      exact ⟨rfl, H1.out⟩
    | true =>
      have HR : Hid (∀ X, Calls Tryd.prog 26 #[.string s] X fun e w' => e = .returned (.bool true) ∧ w' = X) := fun X => by
        have h1 := tright_any s X
        rw [hr] at h1
        exact h1
      have HT : Hid (Tr L ∧ Wk L 8 [] (namesP (lst s)) ∧ (namesP (lst s)).length ≤ 5000) := ⟨tr_of hc, wk_start hr, by have := (names_lenP hr).1; omega⟩
      obtain ⟨⟨ea, ek, ee⟩, hE⟩ : ∃ E, endV L (walkV L 8 [] (namesP (lst s))) = E := ⟨_, rfl⟩
      have HV : Hid (resV L (lst s) = (ea, ek, ee)) := by
        show _ = _
        unfold resV
        rw [if_pos HC.out, if_pos hr, hE]
      rw [HV.out]
      have HF : Hid (∀ (X : World) (B : Nat) (lv : Value), MpN X B (rootN :: L) → TxN X lv (namesP (lst s)) → Calls Tryd.prog 27 #[.map (some B), lv] X (Tells X (.tuple #[.string (bar ea), .int .i64 ek, .int .i64 ee]))) := fun X B lv h1 h2 => by
        have h3 := tfollow_any B L (namesP (lst s)) lv X _ HT.out.1 h1 h2 HT.out.2.1 (prog_go root_kind)
        rw [hE] at h3
        exact h3
      clear hr HV hE
      go_enter Tryd.func15, Tryd.ntmps15
      go_wp2_with fail
      refine HBY.out.mono ?_
      rintro e w1 ⟨hb1, h1, _⟩
      obtain ⟨B, rfl, _, hm⟩ := h1 hc
      clear h1 hc
      have H1 : Hid (Below w.heap.size w w1 ∧ MpN w1 B (rootN :: L)) := ⟨hb1, hm⟩
      clear hb1 hm
      go_wp2_with fail
      refine (HR.out _).mono ?_
      rintro e w2 ⟨rfl, hw2⟩; subst w2
      go_wp2_with fail
      refine (names_any s _ HS.out).mono ?_
      rintro e w3 ⟨gf, lb, rfl, hb3, hsq⟩
      have H3 : Hid (Below w.heap.size w w3 ∧ MpN w3 B (rootN :: L)) := ⟨H1.out.1.trans (hb3.mono H1.out.1.size), H1.out.2.over hb3⟩
      clear hb3
      go_wp2_with fail
      refine (tcollect_any gf lb (lst s) _ hsq HT.out.2.2).mono ?_
      rintro e w4 ⟨lv, rfl, h4, hb4⟩
      have H4 : Hid (Below w.heap.size w w4 ∧ MpN w4 B (rootN :: L) ∧ TxN w4 lv (namesP (lst s))) := ⟨H3.out.1.trans (hb4.mono H3.out.1.size), H3.out.2.over hb4, h4⟩
      clear hb4 h4 hsq
      go_wp2_with fail
      refine (HF.out _ _ _ H4.out.2.1 H4.out.2.2).mono ?_
      rintro e w5 ⟨rfl, hb5⟩
      have H5 : Hid (Below w.heap.size w w5) := H4.out.1.trans (hb5.mono H4.out.1.size)
      clear hb5
      go_wp2_with fail
      go_ret3
      exact ⟨rfl, H5.out⟩
  · obtain ⟨⟨ce, cn⟩, hC⟩ : ∃ C, chkN L = C := ⟨_, rfl⟩
    rw [hC] at hc
    have g1 : (ce == 0) = false := beq_eq_false_iff_ne.2 hc
    have g2 : (ce != 0) = true := by simp [bne, g1]
    have HC : Hid (chkN L = (ce, cn) ∧ ce ≠ 0) := ⟨hC, hc⟩
    have HV : Hid (resV L (lst s) = ([], 0, ce)) := by
      show _ = _
      unfold resV
      rw [HC.out.1, if_neg HC.out.2]
    rw [HV.out]
    clear hC hc HV
    go_enter Tryd.func15, Tryd.ntmps15
    go_wp2_with fail
    refine HBY.out.mono ?_
    rintro e w1 ⟨hb1, _, h2⟩
    have he := h2 (by rw [HC.out.1]; exact HC.out.2)
    rw [HC.out.1] at he
    subst he
    clear h2
    have H1 : Hid (Below w.heap.size w w1) := hb1
    clear hb1
    go_wp2_with fail
    go_ret3
    exact ⟨rfl, H1.out⟩

end Go.Proofs.YtilemgpopjlchaaDoor
