/-
  The document's Resolve; what the document's functions tell, as the interface has it.
-/
import Derived.Test.YtilemgpopjlchaaDoorDWk
namespace Go.Proofs.YtilemgpopjlchaaDoor
open Go.RowKit

theorem dwalk_any (L : List Nd) (hT : Tr L) (hX : Lt L) (h : Nat) : h ≤ 8 → WalkC L h := by
  induction h with
  | zero => exact fun h8 => dwalk_step L hT hX 0 h8 fun g e => by cases e
  | succ h ih => exact fun h8 => dwalk_step L hT hX (h + 1) h8 fun g e => by cases e; exact ih (by omega)

set_option maxHeartbeats 8000000 in
theorem dresolve_any (v : Value) (L : List Nd) (s : ByteArray) (w : World) (h : NdR w v L) (hX : Lt L) (hs : s.size ≤ 5000) : Calls Tryd.prog 16 #[v, .string s] w (Tells w (tellR (resV L (lst s)))) := by
  have H0 : Hid (NdR w v L) := h
  have HC0 : Hid (∀ W, NdR W v L → Calls Tryd.prog 12 #[v] W (Tells W (tellC (chkN L)))) := fun W h => dcheck_any v L W h hX
  have HRT : Hid (∀ W, Calls Tryd.prog 29 #[.string s] W fun e w' => e = .returned (.bool (rightP (lst s))) ∧ w' = W) := fun W => rright_any s W (by omega)
  clear h
  obtain ⟨⟨ce, cn⟩, hC⟩ : ∃ C, chkN L = C := ⟨_, rfl⟩
  rw [hC] at HC0
  have HCK : Hid (∀ W, NdR W v L → Calls Tryd.prog 12 #[v] W (Tells W (.tuple #[.int .i64 ce, .int .i64 cn]))) := HC0.out
  clear HC0
  by_cases hce : ce = 0
  case neg =>
    have HR : Hid (resV L (lst s) = ([], 0, ce)) := by
      show _ = _
      unfold resV
      rw [hC, if_neg hce]
    have g1 : (ce == 0) = false := beq_eq_false_iff_ne.2 hce
    have g2 : (ce != 0) = true := by simp [bne, g1]
    clear hC hce
    go_enter Tryd.func16, Tryd.ntmps16
    go_wp2_with fail
    refine (HCK.out _ H0.out).mono ?_
    rintro e w1 ⟨rfl, hb1⟩
    go_wp2_with fail
    go_ret3
    exact ⟨by rw [tellR_eq HR.out]; rfl, hb1⟩
  subst hce
  have hT : Tr L := tr_of (by rw [hC])
  cases hr : rightP (lst s) with
  | false =>
    rw [hr] at HRT
    have HR : Hid (resV L (lst s) = ([], 0, 1)) := by
      show _ = _
      unfold resV
      rw [hC, if_pos rfl, hr]
      rfl
    clear hC hr
    go_enter Tryd.func16, Tryd.ntmps16
    go_wp2_with fail
    refine (HCK.out _ H0.out).mono ?_
    rintro e w1 ⟨rfl, hb1⟩
    have H1 : Hid (Below w.heap.size w w1) := hb1
    clear hb1
    go_wp2_with fail
    refine (HRT.out _).mono ?_
    rintro e w2 ⟨rfl, hw2⟩; subst w2
    go_wp2_with fail
    go_ret3
    exact ⟨by rw [tellR_eq HR.out]; rfl, H1.out⟩
  | true =>
    rw [hr] at HRT
    obtain ⟨⟨ra, rk, re⟩, hR⟩ : ∃ R, resV L (lst s) = R := ⟨_, rfl⟩
    have HR : Hid (resV L (lst s) = (ra, rk, re)) := hR
    have HE : Hid (endV L (walkV L 8 [] (namesP (lst s))) = (ra, rk, re)) := by
      show _ = _
      rw [← hR]
      unfold resV
      rw [hC, if_pos rfl, hr, if_pos rfl]
    have HNM : Hid (∀ W, Calls Tryd.prog 31 #[.string s] W fun e w' => RowR W (namesP (lst s)) e w') := fun W => rnames_any s W (by omega)
    have HW : Hid (∀ (nv : Value) (W : World), NdR W v L → TxN W nv (namesP (lst s)) → Calls Tryd.prog 30 #[v, .slice none 0 0, nv, .int .i64 8] W (Tells W (.tuple #[.string (bar ra), .int .i64 rk, .int .i64 re]))) := fun nv W h1 h2 => by
      have := dwalk_any L hT hX 8 (Nat.le_refl _) v (.slice none 0 0) nv [] (namesP (lst s)) W h1 (TxN.nil W) h2 (wk_start hr)
      rw [HE.out] at this
      exact this
    clear hC hr hR
    go_enter Tryd.func16, Tryd.ntmps16
    go_wp2_with fail
    refine (HCK.out _ H0.out).mono ?_
    rintro e w1 ⟨rfl, hb1⟩
    have H1 : Hid (Below w.heap.size w w1 ∧ NdR w1 v L) := ⟨hb1, H0.out.over hb1⟩
    clear hb1
    go_wp2_with fail
    refine (HRT.out _).mono ?_
    rintro e w2 ⟨rfl, hw2⟩; subst w2
    go_wp2_with fail
    refine (HNM.out _).mono ?_
    rintro e w3 ⟨nv, rfl, hown, hb3⟩
    have H3 : Hid (Below w.heap.size w w3 ∧ NdR w3 v L ∧ TxN w3 nv (namesP (lst s))) := ⟨H1.out.1.trans (hb3.mono H1.out.1.size), H1.out.2.over hb3, tx_own hown⟩
    clear hown hb3
    go_wp2_with fail
    refine (HW.out _ _ H3.out.2.1 H3.out.2.2).mono ?_
    rintro e w4 ⟨rfl, hb4⟩
    have H4 : Hid (Below w.heap.size w w4) := H3.out.1.trans (hb4.mono H3.out.1.size)
    clear hb4
    go_wp2_with fail
    go_ret3
    exact ⟨by rw [tellR_eq HR.out]; rfl, H4.out⟩

theorem ifd : Ifd where
  check := fun v L W h hX => dcheck_any v L W h hX
  find := fun v L s W h hX _ => dfind_any v L s W h (by have := hX.n; omega)
  resolve := fun v L s W h hX hs => dresolve_any v L s W h hX hs

end Go.Proofs.YtilemgpopjlchaaDoor
