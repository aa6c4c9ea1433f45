/-
  VfsLink, walked over any interface.
-/
import Derived.Test.YtilemgpopjlchaaDoorVIfc
import Derived.Test.YtilemgpopjlchaaDoorVMath2
namespace Go.Proofs.YtilemgpopjlchaaDoor
open Go.RowKit

theorem nd_new (W : World) (s : ByteArray) : NdR (W.alloc (.cells #[.string ⟨#[47, 110, 101, 119]⟩, .int .i64 3, .string s] 29)) (.slice (some ⟨W.heap.size, 0, none⟩) 1 1) [⟨newP, 3, lst s⟩] := by
  have := nd_one W ⟨newP, 3, lst s⟩
  rw [bar_lst] at this
  exact this
theorem row_fresh3 (W : World) : (W.alloc (.cells #[] 29)).ownsRow W.heap.size 29 3 (.slice (some ⟨W.heap.size, 0, none⟩) 0 0) 0 (cellsN []) :=
  ⟨rfl, .inr ⟨W.heap.size, 0, #[], rfl, Nat.le_refl _, heap_alloc_new _ _, Nat.le_refl _, by decide, rfl, rfl⟩⟩

set_option maxHeartbeats 8000000 in
theorem link_walk (J : Ifv) (w : World) (v : Value) (L : List Nd) (s : ByteArray) (h : NdR w v L) : Calls Tryd.prog 7 #[v, .string s] w (Tells w (.bool true)) := by
  have H0 : Hid (NdR w v L ∧ Below w.heap.size w w) := ⟨h, Below.refl _ _⟩
  have HLT : Hid (∀ W, NdR W v L → Calls Tryd.prog 10 #[v] W fun e w' => e = .returned (.bool (ltB L)) ∧ w' = W) := fun W h => light_any v L W h
  clear h
  by_cases hl : ltB L = true
  case neg =>
    have HLF : Hid (∀ W, NdR W v L → Calls Tryd.prog 10 #[v] W fun e w' => e = .returned (.bool false) ∧ w' = W) := by
      have := HLT.out
      rw [Bool.not_eq_true] at hl
      rw [hl] at this
      exact this
    clear hl HLT
    go_enter Tryd.func7, Tryd.ntmps7
    go_wp2_with fail
    refine (awake_any J _).mono ?_
    rintro e w1 ⟨rfl, hb1⟩
    have H1 : Hid (NdR w1 v L ∧ Below w.heap.size w w1) := ⟨H0.out.1.over hb1, H0.out.2.trans (hb1.mono H0.out.2.size)⟩
    clear hb1
    go_wp2_with fail
    refine (HLF.out _ H1.out.1).mono ?_
    rintro e w2 ⟨rfl, hw2⟩; subst w2
    go_wp2_with fail
    go_ret
    exact ⟨rfl, H1.out.2⟩
  have HLX : Hid (Lt L) := lt_iff.1 hl
  rw [hl] at HLT
  clear hl
  obtain ⟨p, c, rfl⟩ := H0.out.1.form
  obtain ⟨n, hn⟩ : ∃ n, L.length = n := ⟨_, rfl⟩
  have hn70 : n ≤ 70 := hn ▸ HLX.out.n
  have HN : Hid (L.length = n) := hn
  rw [hn] at H0 HLT ⊢
  clear hn
  by_cases hl63 : 63 < n
  case pos =>
    have r1 : (63 : Int) < (n : Int) := by omega
    have r1' : decide ((63 : Int) < (n : Int)) = true := decide_eq_true r1
    go_enter Tryd.func7, Tryd.ntmps7
    go_wp2_with fail
    refine (awake_any J _).mono ?_
    rintro e w1 ⟨rfl, hb1⟩
    have H1 : Hid (NdR w1 (.slice p n c) L ∧ Below w.heap.size w w1) := ⟨H0.out.1.over hb1, H0.out.2.trans (hb1.mono H0.out.2.size)⟩
    clear hb1
    go_wp2_with fail
    refine (HLT.out _ H1.out.1).mono ?_
    rintro e w2 ⟨rfl, hw2⟩; subst w2
    go_wp2_with fail
    go_ret
    exact ⟨rfl, H1.out.2⟩
  have q1 : ¬ (63 : Int) < (n : Int) := by omega
  have q1' : decide ((63 : Int) < (n : Int)) = false := decide_eq_false q1
  by_cases hs : 256 < s.size
  case pos =>
    have r1 : (256 : Int) < (s.size : Int) := by omega
    have r1' : decide ((256 : Int) < (s.size : Int)) = true := decide_eq_true r1
    go_enter Tryd.func7, Tryd.ntmps7
    go_wp2_with fail
    refine (awake_any J _).mono ?_
    rintro e w1 ⟨rfl, hb1⟩
    have H1 : Hid (NdR w1 (.slice p n c) L ∧ Below w.heap.size w w1) := ⟨H0.out.1.over hb1, H0.out.2.trans (hb1.mono H0.out.2.size)⟩
    clear hb1
    go_wp2_with fail
    refine (HLT.out _ H1.out.1).mono ?_
    rintro e w2 ⟨rfl, hw2⟩; subst w2
    go_wp2_with fail
    go_ret
    exact ⟨rfl, H1.out.2⟩
  have r1 : ¬ (256 : Int) < (s.size : Int) := by omega
  have r1' : decide ((256 : Int) < (s.size : Int)) = false := decide_eq_false r1
  have HLM : Hid (Lt (L ++ [⟨newP, 3, lst s⟩])) := by
    refine ⟨by rw [List.length_append, HN.out]; show n + 1 ≤ 70; omega, fun x hx => ?_, fun x hx => ?_⟩
    · rcases List.mem_append.1 hx with hx | hx
      · exact HLX.out.p x hx
      · rw [List.mem_singleton.1 hx]; show 4 ≤ 400; omega
    · rcases List.mem_append.1 hx with hx | hx
      · exact HLX.out.t x hx
      · rw [List.mem_singleton.1 hx]; show (lst s).length ≤ 400; rw [lst_length]; omega
  have HR0 : Hid (∀ W, NdR W (.slice p n c) L → Calls Tryd.prog 15 #[.slice p n c, .string s] W (Tells W (tellR (resV L (lst s))))) := fun W h => J.resolve (.slice p n c) L s W h HLX.out (by omega)
  have HC0 : Hid (∀ W u, NdR W u (L ++ [⟨newP, 3, lst s⟩]) → Calls Tryd.prog 11 #[u] W (Tells W (tellC (chkN (L ++ [⟨newP, 3, lst s⟩]))))) := fun W u h => J.check u _ W h
  have HR2 : Hid (∀ W u, NdR W u (L ++ [⟨newP, 3, lst s⟩]) → Calls Tryd.prog 15 #[u, .string ⟨#[47, 110, 101, 119]⟩] W (Tells W (tellR (resV (L ++ [⟨newP, 3, lst s⟩]) newP)))) := fun W u h => J.resolve u _ ⟨#[47, 110, 101, 119]⟩ W h HLM.out (show 4 ≤ 5000 by omega)
  have HLK : Hid ((resV L (lst s)).2.2 = 0 → (chkN (L ++ [⟨newP, 3, lst s⟩])).1 = 0 → resV (L ++ [⟨newP, 3, lst s⟩]) newP = ([], 0, 19) ∨ resV (L ++ [⟨newP, 3, lst s⟩]) newP = resV L (lst s)) := fun h1 h2 => link_res h1 h2
  generalize resV L (lst s) = R at *
  generalize resV (L ++ [⟨newP, 3, lst s⟩]) newP = R2 at *
  generalize chkN (L ++ [⟨newP, 3, lst s⟩]) = C at *
  obtain ⟨ra, rk, re⟩ := R
  obtain ⟨ce, cn⟩ := C
  obtain ⟨ra2, rk2, re2⟩ := R2
  have HR1 : Hid (∀ W, NdR W (.slice p n c) L → Calls Tryd.prog 15 #[.slice p n c, .string s] W (Tells W (.tuple #[.string (bar ra), .int .i64 rk, .int .i64 re]))) := HR0.out
  have HC1 : Hid (∀ W u, NdR W u (L ++ [⟨newP, 3, lst s⟩]) → Calls Tryd.prog 11 #[u] W (Tells W (.tuple #[.int .i64 ce, .int .i64 cn]))) := HC0.out
  have HR3 : Hid (∀ W u, NdR W u (L ++ [⟨newP, 3, lst s⟩]) → Calls Tryd.prog 15 #[u, .string ⟨#[47, 110, 101, 119]⟩] W (Tells W (.tuple #[.string (bar ra2), .int .i64 rk2, .int .i64 re2]))) := HR2.out
  clear HR0 HC0 HR2
  have HN7 : Hid (n ≤ 70) := hn70
  go_enter Tryd.func7, Tryd.ntmps7
  go_wp2_with fail
  refine (awake_any J _).mono ?_
  rintro e w1 ⟨rfl, hb1⟩
  have H1 : Hid (NdR w1 (.slice p n c) L ∧ Below w.heap.size w w1) := ⟨H0.out.1.over hb1, H0.out.2.trans (hb1.mono H0.out.2.size)⟩
  clear hb1
  go_wp2_with fail
  refine (HLT.out _ H1.out.1).mono ?_
  rintro e w2 ⟨rfl, hw2⟩; subst w2
  go_wp2_with fail
  refine (HR1.out _ H1.out.1).mono ?_
  rintro e w3 ⟨rfl, hb3⟩
  have H3 : Hid (NdR w3 (.slice p n c) L ∧ Below w.heap.size w w3) := ⟨H1.out.1.over hb3, H1.out.2.trans (hb3.mono H1.out.2.size)⟩
  clear hb3
  have H3n : Hid (NdR (w3.alloc (.cells #[] 29)) (.slice p n c) L) := H3.out.1.over (below_new w3 _)
  go_wp2_with (first
    | (at_builtin; refine list_appN (B := w3.heap.size) (L := []) (M := L) (n := 0) rfl _ _ rfl rfl rfl (row_fresh3 w3) rfl H3n.out (by have := HN.out; have := HN7.out; omega) (below_new w3 _).size ?_; intro v7 w7 ha7; have HA7 : Hid (ApN w3.heap.size (w3.alloc (.cells #[] 29)) w7 _ v7 ([] ++ L)) := ha7; clear ha7; have H7 : Hid (w7.ownsRow w3.heap.size 29 3 v7 L.length (cellsN L) ∧ Below w3.heap.size w3 w7) := ⟨HA7.out.own, HA7.out.below (row_fresh3 w3) (below_new w3 _)⟩)
    | (at_builtin; refine list_appN (B := w3.heap.size) (L := L) (M := [⟨newP, 3, lst s⟩]) (n := L.length) rfl _ _ rfl rfl rfl (owns_below H7.out.1 (below_new w7 _) (Nat.le_refl _)) rfl (nd_new w7 s) (by have := HN.out; have := HN7.out; simp only [List.length_singleton]; omega) (Nat.le_trans H7.out.2.size (below_new w7 _).size) ?_; intro v8 w8 ha8; have HA8 : Hid (ApN w3.heap.size (w7.alloc (.cells #[.string ⟨#[47, 110, 101, 119]⟩, .int .i64 3, .string s] 29)) w8 v7 v8 (L ++ [⟨newP, 3, lst s⟩])) := ha8; clear ha8)
    | fail)
  have H8 : Hid (NdR w8 v8 (L ++ [⟨newP, 3, lst s⟩]) ∧ Below w.heap.size w w8) := ⟨ndR_own HA8.out.own (by rw [List.length_append, HN.out]; have := HN7.out; show n + 1 ≤ _; omega), H3.out.2.trans ((HA8.out.below (owns_below H7.out.1 (below_new w7 _) (Nat.le_refl _)) (H7.out.2.trans ((below_new w7 _).mono H7.out.2.size))).mono H3.out.2.size)⟩
  refine (HC1.out _ _ H8.out.1).mono ?_
  rintro e w9 ⟨rfl, hb9⟩
  have H9 : Hid (NdR w9 v8 (L ++ [⟨newP, 3, lst s⟩]) ∧ Below w.heap.size w w9) := ⟨H8.out.1.over hb9, H8.out.2.trans (hb9.mono H8.out.2.size)⟩
  clear hb9
  by_cases he : re = 0
  case neg =>
    have g1 : (re == 0) = false := beq_eq_false_iff_ne.2 he
    have g2 : (re != 0) = true := by simp [bne, g1]
    go_wp2_with fail
    go_ret
    exact ⟨rfl, H9.out.2⟩
  by_cases hce : ce = 0
  case neg =>
    subst he
    have g1 : (ce == 0) = false := beq_eq_false_iff_ne.2 hce
    have g2 : (ce != 0) = true := by simp [bne, g1]
    go_wp2_with fail
    go_ret
    exact ⟨rfl, H9.out.2⟩
  have hlk := HLK.out he hce
  subst he hce
  go_wp2_with fail
  refine (HR3.out _ _ H9.out.1).mono ?_
  rintro e w10 ⟨rfl, hb10⟩
  have H10 : Hid (Below w.heap.size w w10) := H9.out.2.trans (hb10.mono H9.out.2.size)
  clear hb10
  rcases hlk with hlk | hlk
  · cases hlk
    have hz : bar [] = ⟨#[]⟩ := rfl
    rw [hz]
    go_wp2_with fail
    go_ret
    exact ⟨rfl, H10.out⟩
  · cases hlk
    generalize bar ra = a at *
    go_wp2_with fail
    go_ret
    exact ⟨rfl, H10.out⟩

end Go.Proofs.YtilemgpopjlchaaDoor
