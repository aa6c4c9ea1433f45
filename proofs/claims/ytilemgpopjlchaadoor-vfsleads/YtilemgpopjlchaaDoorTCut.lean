/-
  The library's Cut at a slash, and Clone, as the program calls them.
-/
import Derived.Test.YtilemgpopjlchaaDoorTRt
import Derived.BigQuiet
namespace Go.Proofs.YtilemgpopjlchaaDoor
open Go.RowKit

/-- what stands ahead of the first slash, and what behind it. -/
def cutA : List UInt8 → List UInt8 × List UInt8
  | [] => ([], [])
  | c :: l => if c = 47 then ([], l) else (c :: (cutA l).1, (cutA l).2)
theorem cutA_sl (l : List UInt8) : cutA (47 :: l) = ([], l) := by
  show (if (47 : UInt8) = 47 then _ else _) = _
  rw [if_pos rfl]
theorem cutA_no {c : UInt8} (h : c ≠ 47) (l : List UInt8) : cutA (c :: l) = (c :: (cutA l).1, (cutA l).2) := by
  show (if c = 47 then _ else _) = _
  rw [if_neg h]
theorem indexByte_cons (c d : UInt8) (l : List UInt8) : Lib.indexByte (d :: l) c = if d == c then 0 else if Lib.indexByte l c == -1 then -1 else Lib.indexByte l c + 1 := rfl
theorem cutA_none {l : List UInt8} (h : Lib.indexByte l 47 = -1) : cutA l = (l, []) := by
  induction l with
  | nil => rfl
  | cons c l ih =>
    rw [indexByte_cons] at h
    by_cases hc : c = 47
    · subst hc
      simp at h
    · have hc' : (c == 47) = false := beq_eq_false_iff_ne.2 hc
      rw [hc', if_neg (by decide)] at h
      have hl : Lib.indexByte l 47 = -1 := by
        by_cases e : Lib.indexByte l 47 = -1
        · exact e
        · have e' : (Lib.indexByte l 47 == -1) = false := beq_eq_false_iff_ne.2 e
          rw [e', if_neg (by decide)] at h
          have := Lib.indexByte_ge l 47
          omega
      rw [cutA_no hc, ih hl]
theorem cutA_some {l : List UInt8} {o : Nat} (h : Lib.indexByte l 47 = (o : Int)) : cutA l = (l.take o, l.drop (o + 1)) ∧ o < l.length := by
  induction l generalizing o with
  | nil =>
    have : (-1 : Int) = (o : Int) := h
    omega
  | cons c l ih =>
    rw [indexByte_cons] at h
    by_cases hc : c = 47
    · subst hc
      have h0 : o = 0 := by
        simp at h
        omega
      subst h0
      exact ⟨cutA_sl l, Nat.succ_pos _⟩
    · have hc' : (c == 47) = false := beq_eq_false_iff_ne.2 hc
      rw [hc', if_neg (by decide)] at h
      by_cases e : Lib.indexByte l 47 = -1
      · have e' : (Lib.indexByte l 47 == -1) = true := beq_iff_eq.2 e
        rw [e', if_pos rfl] at h
        omega
      · have e' : (Lib.indexByte l 47 == -1) = false := beq_eq_false_iff_ne.2 e
        rw [e', if_neg (by decide)] at h
        obtain ⟨p, hp⟩ : ∃ p : Nat, o = p + 1 := ⟨o - 1, by have := Lib.indexByte_ge l 47; omega⟩
        subst hp
        obtain ⟨h1, h2⟩ := ih (o := p) (by omega)
        rw [cutA_no hc, h1]
        exact ⟨rfl, Nat.succ_lt_succ h2⟩
theorem cutA_less {l : List UInt8} (h : l ≠ []) : (cutA l).2.length < l.length := by
  induction l with
  | nil => exact absurd rfl h
  | cons c l ih =>
    by_cases hc : c = 47
    · subst hc
      rw [cutA_sl]
      exact Nat.lt_succ_self _
    · rw [cutA_no hc]
      cases l with
      | nil => exact Nat.succ_pos _
      | cons d l => exact Nat.lt_succ_of_lt (ih (by simp))
theorem cutA_first (l : List UInt8) : (cutA l).1.length ≤ l.length := by
  induction l with
  | nil => exact Nat.le_refl _
  | cons c l ih =>
    by_cases hc : c = 47
    · subst hc
      rw [cutA_sl]
      exact Nat.zero_le _
    · rw [cutA_no hc]
      exact Nat.succ_le_succ ih
/-- the first piece, and the names of what is left. -/
theorem namesA_cut (cur l : List UInt8) : namesA cur l = (if goodN (cur ++ (cutA l).1) = true then [cur ++ (cutA l).1] else []) ++ namesA [] (cutA l).2 := by
  induction l generalizing cur with
  | nil =>
    rw [namesA_nil]
    show _ = (if goodN (cur ++ []) = true then [cur ++ []] else []) ++ namesA [] []
    rw [List.append_nil, namesA_nil, if_neg (c := goodN [] = true) (by decide), List.append_nil]
  | cons c l ih =>
    by_cases hc : c = 47
    · subst hc
      rw [cutA_sl, namesA_sl, List.append_nil]
    · rw [cutA_no hc, namesA_no _ _ hc, ih, List.append_assoc]
      rfl

set_option maxHeartbeats 4000000 in
theorem lcut_any (s : ByteArray) (w : World) (hs : s.size ≤ 100000) :
    Calls Tryd.prog 52 #[.string s, .string ⟨#[47]⟩] w fun e w' => (∃ f, e = .returned (.tuple #[.string (bar (cutA (lst s)).1), .string (bar (cutA (lst s)).2), .bool f])) ∧ ∃ n, w' = w.drewN n := by
  have h : Calls Tryd.prog 66 #[.string s, .string ⟨#[47]⟩] w fun e w' => e = .returned (.int .i64 (Lib.indexByte (lst s) 47)) ∧ w' = w := Tryd.stringslite_Index_one s 47 w
  by_cases hi : Lib.indexByte (lst s) 47 = -1
  · rw [hi] at h
    have HI : Hid (Calls Tryd.prog 66 #[.string s, .string ⟨#[47]⟩] w fun e w' => e = .returned (.int .i64 (-1)) ∧ w' = w) := h
    have HE : Hid (bar (cutA (lst s)).1 = s ∧ bar (cutA (lst s)).2 = ⟨#[]⟩) := by
      rw [cutA_none hi]
      exact ⟨bar_lst s, rfl⟩
    clear h hi
    go_enter Tryd.func52, Tryd.ntmps52
    go_wp2_with fail
    refine HI.out.mono ?_
    rintro e w1 ⟨rfl, hw1⟩; subst w1
    go_wp2_with fail
    go_ret3
    exact ⟨⟨false, by rw [HE.out.1, HE.out.2]; rfl⟩, 0, rfl⟩
  · obtain ⟨o, ho⟩ : ∃ o : Nat, Lib.indexByte (lst s) 47 = o := ⟨(Lib.indexByte (lst s) 47).toNat, by have := Lib.indexByte_ge (lst s) 47; omega⟩
    rw [ho] at h
    have HI : Hid (Calls Tryd.prog 66 #[.string s, .string ⟨#[47]⟩] w fun e w' => e = .returned (.int .i64 (o : Int)) ∧ w' = w) := h
    obtain ⟨hc, hlt⟩ := cutA_some ho
    rw [lst_length] at hlt
    have HE : Hid (bar (cutA (lst s)).1 = s.extract 0 o ∧ bar (cutA (lst s)).2 = s.extract (o + 1) s.size) := by
      rw [hc, extract_bar, extract_bar]
      refine ⟨by simp, ?_⟩
      show bar ((lst s).drop (o + 1)) = _
      rw [List.take_of_length_le (by rw [List.length_drop, lst_length]; exact Nat.le_refl _)]
    have c0 : decide ((0 : Int) ≤ (o : Int)) = true := decide_eq_true (by omega)
    have c1 : (0 : Int) ≤ (o : Int) := by omega
    have c2 : (o : Int) ≤ (s.size : Int) := by omega
    have c3 : (0 : Int) ≤ (o : Int) + 1 := by omega
    have c4 : (o : Int) + 1 ≤ (s.size : Int) := by omega
    have c5 : o ≤ 100000 := by omega
    clear h hi hc hlt ho
    go_enter Tryd.func52, Tryd.ntmps52
    go_wp2_with fail
    refine HI.out.mono ?_
    rintro e w1 ⟨rfl, hw1⟩; subst w1
    go_wp2_with fail
    go_quiet (fail)
    go_wp2_with fail
    go_ret3
    exact ⟨⟨true, by rw [HE.out.1, HE.out.2]; rfl⟩, _, rfl⟩

set_option maxHeartbeats 2000000 in
theorem tcut_any (s : ByteArray) (w : World) (hs : s.size ≤ 100000) :
    Calls Tryd.prog 35 #[.string s, .string ⟨#[47]⟩] w fun e w' => (∃ f, e = .returned (.tuple #[.string (bar (cutA (lst s)).1), .string (bar (cutA (lst s)).2), .bool f])) ∧ ∃ n, w' = w.drewN n := by
  have HC : Hid (Calls Tryd.prog 52 #[.string s, .string ⟨#[47]⟩] w fun e w' => (∃ f, e = .returned (.tuple #[.string (bar (cutA (lst s)).1), .string (bar (cutA (lst s)).2), .bool f])) ∧ ∃ n, w' = w.drewN n) := lcut_any s w hs
  generalize bar (cutA (lst s)).1 = a at *
  generalize bar (cutA (lst s)).2 = b at *
  go_enter Tryd.func35, Tryd.ntmps35
  go_wp2_with fail
  refine HC.out.mono ?_
  rintro e w1 ⟨⟨f, rfl⟩, n, hw1⟩; subst w1
  go_wp2_with fail
  go_ret3
  exact ⟨⟨_, rfl⟩, _, rfl⟩

set_option maxHeartbeats 2000000 in
theorem tclone_any (s : ByteArray) (w : World) (hs : s.size ≤ 100000) :
    Calls Tryd.prog 25 #[.string s] w fun e w' => e = .returned (.string s) ∧ Below w.heap.size w w' := by
  have HC : Hid (Calls Tryd.prog 40 #[.string s] w fun e w' => e = .returned (.string s) ∧ Below w.heap.size w w') := Tryd.stringslite_Clone s w (by omega)
  go_enter Tryd.func25, Tryd.ntmps25
  go_wp2_with fail
  refine HC.out.mono ?_
  rintro e w1 ⟨rfl, hb⟩
  have HB : Hid (Below w.heap.size w w1) := hb
  clear hb
  go_wp2_with fail
  go_ret
  exact ⟨rfl, HB.out⟩

end Go.Proofs.YtilemgpopjlchaaDoor
