/-
  The program's Right.
-/
import Derived.Test.YtilemgpopjlchaaDoorShelf
import Derived.Test.YtilemgpopjlchaaDoorPIfc
import Derived.Lib.IndexLaws
namespace Go.Proofs.YtilemgpopjlchaaDoor
open Go.RowKit

theorem hasSl (l : List UInt8) : ([47] : List UInt8).isPrefixOf l = true ↔ l[0]? = some 47 := by
  cases l with
  | nil => exact ⟨fun h => (by cases h), fun h => (by cases h)⟩
  | cons c r =>
    show ((47 : UInt8) == c && true) = true ↔ some c = some 47
    rw [Bool.and_true, beq_iff_eq]
    exact ⟨fun h => by rw [← h], fun h => (Option.some.inj h).symm⟩

set_option maxHeartbeats 4000000 in
theorem tright_any (s : ByteArray) (w : World) :
    Calls Tryd.prog 26 #[.string s] w fun e w' => e = .returned (.bool (rightP (lst s))) ∧ w' = w := by
  cases hp : (([47] : List UInt8).isPrefixOf (lst s)) with
  | false =>
    have HC : Hid (Calls Tryd.prog 41 #[.string s, .string ⟨#[47]⟩] w fun e w' => e = .returned (.bool false) ∧ w' = w) := by
      have h : Calls Tryd.prog 41 #[.string s, .string ⟨#[47]⟩] w fun e w' => e = .returned (.bool (([47] : List UInt8).isPrefixOf (lst s))) ∧ w' = w := Tryd.strings_HasPrefix s ⟨#[47]⟩ w
      rw [hp] at h
      exact h
    have HR : Hid (rightP (lst s) = false) := by
      cases h0 : (lst s)[0]? with
      | none =>
        refine rightP_bad (.inl ?_)
        have := List.getElem?_eq_none_iff.1 h0
        omega
      | some c =>
        refine rightP_bad (.inr (.inr (.inl ⟨c, h0, fun e => ?_⟩)))
        rw [e] at h0
        rw [(hasSl _).2 h0] at hp
        cases hp
    clear hp
    go_enter Tryd.func26, Tryd.ntmps26
    go_wp2_with fail
    refine HC.out.mono ?_
    rintro e w1 ⟨rfl, hw1⟩; subst w1
    go_wp2_with fail
    go_ret
    exact ⟨by rw [HR.out]; rfl, rfl⟩
  | true =>
    have HC : Hid (Calls Tryd.prog 41 #[.string s, .string ⟨#[47]⟩] w fun e w' => e = .returned (.bool true) ∧ w' = w) := by
      have h : Calls Tryd.prog 41 #[.string s, .string ⟨#[47]⟩] w fun e w' => e = .returned (.bool (([47] : List UInt8).isPrefixOf (lst s))) ∧ w' = w := Tryd.strings_HasPrefix s ⟨#[47]⟩ w
      rw [hp] at h
      exact h
    have h47 : (lst s)[0]? = some 47 := (hasSl _).1 hp
    clear hp
    by_cases h1 : s.size ≤ 256
    · have e1 : decide ((s.size : Int) ≤ (256 : Int)) = true := decide_eq_true (by omega)
      have e1' : (s.size : Int) ≤ (256 : Int) := by omega
      have h : Calls Tryd.prog 42 #[.string s, .int .u8 0] w fun e w' => e = .returned (.int .i64 (Lib.indexByte (lst s) 0)) ∧ w' = w := Tryd.strings_IndexByte s 0 w
      by_cases hi : Lib.indexByte (lst s) 0 = -1
      · rw [hi] at h
        have HI : Hid (Calls Tryd.prog 42 #[.string s, .int .u8 0] w fun e w' => e = .returned (.int .i64 (-1)) ∧ w' = w) := h
        have HR : Hid (rightP (lst s) = true) := rightP_good (by rw [lst_length]; exact h1) h47 fun k c hc e => Lib.indexByte_none hi k (by rw [hc, e])
        clear h hi h47 h1
        go_enter Tryd.func26, Tryd.ntmps26
        go_wp2_with fail
        refine HC.out.mono ?_
        rintro e w1 ⟨rfl, hw1⟩; subst w1
        go_wp2_with fail
        refine HI.out.mono ?_
        rintro e w1 ⟨rfl, hw1⟩; subst w1
        go_wp2_with fail
        go_ret
        exact ⟨by rw [HR.out]; rfl, rfl⟩
      · obtain ⟨o, ho⟩ : ∃ o : Nat, Lib.indexByte (lst s) 0 = o := ⟨(Lib.indexByte (lst s) 0).toNat, by have := Lib.indexByte_ge (lst s) 0; omega⟩
        rw [ho] at h
        have HI : Hid (Calls Tryd.prog 42 #[.string s, .int .u8 0] w fun e w' => e = .returned (.int .i64 (o : Int)) ∧ w' = w) := h
        have HR : Hid (rightP (lst s) = false) := rightP_bad (.inr (.inr (.inr ⟨o, (Lib.indexByte_some ho).1⟩)))
        have q : decide ((o : Int) < 0) = false := decide_eq_false (by omega)
        have q' : ¬ (o : Int) < 0 := by omega
        clear h hi h47 h1 ho
        go_enter Tryd.func26, Tryd.ntmps26
        go_wp2_with fail
        refine HC.out.mono ?_
        rintro e w1 ⟨rfl, hw1⟩; subst w1
        go_wp2_with fail
        refine HI.out.mono ?_
        rintro e w1 ⟨rfl, hw1⟩; subst w1
        go_wp2_with fail
        go_ret
        exact ⟨by rw [HR.out]; rfl, rfl⟩
    · have e1 : decide ((s.size : Int) ≤ (256 : Int)) = false := decide_eq_false (by omega)
      have e1' : ¬ (s.size : Int) ≤ (256 : Int) := by omega
      have HR : Hid (rightP (lst s) = false) := rightP_bad (.inr (.inl (by rw [lst_length]; omega)))
      clear h1 h47
      go_enter Tryd.func26, Tryd.ntmps26
      go_wp2_with fail
      refine HC.out.mono ?_
      rintro e w1 ⟨rfl, hw1⟩; subst w1
      go_wp2_with fail
      go_ret
      exact ⟨by rw [HR.out]; rfl, rfl⟩

end Go.Proofs.YtilemgpopjlchaaDoor
