/-
  The document's answer: the token at a place.
-/
import Derived.Test.YtdjjlccpmfhkiaaDoorRef
namespace Go.Proofs.YtdjjlccpmfhkiaaDoor
open Go.RowKit

theorem two_new2 (w : World) (o o' : Obj) : Below w.heap.size w ((w.alloc o).alloc o') := by
  have h : Below w.heap.size w (w.alloc o) := (Below.refl _ _).alloc (Nat.le_refl _) _
  exact h.alloc h.size _

set_option maxRecDepth 4000 in
set_option maxHeartbeats 2000000 in
theorem refSg_iii_61 (s : ByteArray) (p : Nat) (w : World) (hp : p < s.size) (hs : s.size ≤ 100000000) (hl : loN (s[p]'hp).toNat = false) (hd : dgN (s[p]'hp).toNat = false) (h2 : p + 1 < s.size) (hq : (s[p + 1]'h2).toNat = 61) (hc : (s[p]'hp).toNat = 61) :
    Calls Tryd.prog 35 #[.string s, .int .i64 p] w fun e w' => (e = .returned (.tuple #[.agg #[.int .i64 3, .int .i64 p, .string (s.extract p (p + 2)), .int .u64 0], .int .i64 0])) ∧ Below w.heap.size w w' := by
  have HB : Hid (∀ o o', Below w.heap.size w ((w.alloc o).alloc o')) := two_new2 w
  have HO : Hid (∀ e : Ending, e = .returned (.tuple #[.agg #[.int .i64 3, .int .i64 p, .string (s.extract p (p + 2)), .int .u64 0], .int .i64 0]) → e = .returned (.tuple #[.agg #[.int .i64 3, .int .i64 p, .string (s.extract p (p + 2)), .int .u64 0], .int .i64 0])) := fun e h => h
  have q1 : (p : Int) + 1 < s.size := by omega
  have q2 : (((s[p + 1]'h2).toNat : Int) == 61) = true := by rw [hq]; rfl
  clear hq
  have ef : (((s[p]'hp).toNat : Int) == 61) = true := by rw [hc]; rfl
  have eg : (((s[p]'hp).toNat : Int) == 33) = false := by rw [hc]; rfl
  have ec : (((s[p]'hp).toNat : Int) == 60) = false := by rw [hc]; rfl
  have ed : (((s[p]'hp).toNat : Int) == 62) = false := by rw [hc]; rfl
  have ea : (((s[p]'hp).toNat : Int) == 59) = false := by rw [hc]; rfl
  have eb : (((s[p]'hp).toNat : Int) == 44) = false := by rw [hc]; rfl
  have ee : (((s[p]'hp).toNat : Int) == 38) = false := by rw [hc]; rfl
  clear hc
  go_enter Tryd.func35, Tryd.ntmps35
  go_wp2_with (first | (go_at_call 52; refine (small_any _ _).mono ?_; rintro e w1 ⟨rfl, rfl⟩; rw [hl]) | (go_at_call 54; refine (digit_any _ _).mono ?_; rintro e w1 ⟨rfl, rfl⟩; rw [hd]))
  refine bodyPost_ret (v := .tuple #[.agg #[.int .i64 3, .int .i64 p, .string (s.extract p (p + 2)), .int .u64 0], .int .i64 0]) (by simp [results, Tryd.results35, go_sem]) rfl ⟨HO.out _ rfl, ?_⟩
  exact HB.out _ _

set_option maxRecDepth 4000 in
set_option maxHeartbeats 2000000 in
theorem refSg_iii_33 (s : ByteArray) (p : Nat) (w : World) (hp : p < s.size) (hs : s.size ≤ 100000000) (hl : loN (s[p]'hp).toNat = false) (hd : dgN (s[p]'hp).toNat = false) (h2 : p + 1 < s.size) (hq : (s[p + 1]'h2).toNat = 61) (hc : (s[p]'hp).toNat = 33) :
    Calls Tryd.prog 35 #[.string s, .int .i64 p] w fun e w' => (e = .returned (.tuple #[.agg #[.int .i64 3, .int .i64 p, .string (s.extract p (p + 2)), .int .u64 0], .int .i64 0])) ∧ Below w.heap.size w w' := by
  have HB : Hid (∀ o o', Below w.heap.size w ((w.alloc o).alloc o')) := two_new2 w
  have HO : Hid (∀ e : Ending, e = .returned (.tuple #[.agg #[.int .i64 3, .int .i64 p, .string (s.extract p (p + 2)), .int .u64 0], .int .i64 0]) → e = .returned (.tuple #[.agg #[.int .i64 3, .int .i64 p, .string (s.extract p (p + 2)), .int .u64 0], .int .i64 0])) := fun e h => h
  have q1 : (p : Int) + 1 < s.size := by omega
  have q2 : (((s[p + 1]'h2).toNat : Int) == 61) = true := by rw [hq]; rfl
  clear hq
  have ef : (((s[p]'hp).toNat : Int) == 61) = false := by rw [hc]; rfl
  have eg : (((s[p]'hp).toNat : Int) == 33) = true := by rw [hc]; rfl
  have ec : (((s[p]'hp).toNat : Int) == 60) = false := by rw [hc]; rfl
  have ed : (((s[p]'hp).toNat : Int) == 62) = false := by rw [hc]; rfl
  have ea : (((s[p]'hp).toNat : Int) == 59) = false := by rw [hc]; rfl
  have eb : (((s[p]'hp).toNat : Int) == 44) = false := by rw [hc]; rfl
  have ee : (((s[p]'hp).toNat : Int) == 38) = false := by rw [hc]; rfl
  clear hc
  go_enter Tryd.func35, Tryd.ntmps35
  go_wp2_with (first | (go_at_call 52; refine (small_any _ _).mono ?_; rintro e w1 ⟨rfl, rfl⟩; rw [hl]) | (go_at_call 54; refine (digit_any _ _).mono ?_; rintro e w1 ⟨rfl, rfl⟩; rw [hd]))
  refine bodyPost_ret (v := .tuple #[.agg #[.int .i64 3, .int .i64 p, .string (s.extract p (p + 2)), .int .u64 0], .int .i64 0]) (by simp [results, Tryd.results35, go_sem]) rfl ⟨HO.out _ rfl, ?_⟩
  exact HB.out _ _

set_option maxRecDepth 4000 in
set_option maxHeartbeats 2000000 in
theorem refSg_iii_60 (s : ByteArray) (p : Nat) (w : World) (hp : p < s.size) (hs : s.size ≤ 100000000) (hl : loN (s[p]'hp).toNat = false) (hd : dgN (s[p]'hp).toNat = false) (h2 : p + 1 < s.size) (hq : (s[p + 1]'h2).toNat = 61) (hc : (s[p]'hp).toNat = 60) :
    Calls Tryd.prog 35 #[.string s, .int .i64 p] w fun e w' => (e = .returned (.tuple #[.agg #[.int .i64 3, .int .i64 p, .string (s.extract p (p + 2)), .int .u64 0], .int .i64 0])) ∧ Below w.heap.size w w' := by
  have HB : Hid (∀ o o', Below w.heap.size w ((w.alloc o).alloc o')) := two_new2 w
  have HO : Hid (∀ e : Ending, e = .returned (.tuple #[.agg #[.int .i64 3, .int .i64 p, .string (s.extract p (p + 2)), .int .u64 0], .int .i64 0]) → e = .returned (.tuple #[.agg #[.int .i64 3, .int .i64 p, .string (s.extract p (p + 2)), .int .u64 0], .int .i64 0])) := fun e h => h
  have q1 : (p : Int) + 1 < s.size := by omega
  have q2 : (((s[p + 1]'h2).toNat : Int) == 61) = true := by rw [hq]; rfl
  clear hq
  have ef : (((s[p]'hp).toNat : Int) == 61) = false := by rw [hc]; rfl
  have eg : (((s[p]'hp).toNat : Int) == 33) = false := by rw [hc]; rfl
  have ec : (((s[p]'hp).toNat : Int) == 60) = true := by rw [hc]; rfl
  have ed : (((s[p]'hp).toNat : Int) == 62) = false := by rw [hc]; rfl
  have ea : (((s[p]'hp).toNat : Int) == 59) = false := by rw [hc]; rfl
  have eb : (((s[p]'hp).toNat : Int) == 44) = false := by rw [hc]; rfl
  have ee : (((s[p]'hp).toNat : Int) == 38) = false := by rw [hc]; rfl
  clear hc
  go_enter Tryd.func35, Tryd.ntmps35
  go_wp2_with (first | (go_at_call 52; refine (small_any _ _).mono ?_; rintro e w1 ⟨rfl, rfl⟩; rw [hl]) | (go_at_call 54; refine (digit_any _ _).mono ?_; rintro e w1 ⟨rfl, rfl⟩; rw [hd]))
  refine bodyPost_ret (v := .tuple #[.agg #[.int .i64 3, .int .i64 p, .string (s.extract p (p + 2)), .int .u64 0], .int .i64 0]) (by simp [results, Tryd.results35, go_sem]) rfl ⟨HO.out _ rfl, ?_⟩
  exact HB.out _ _

set_option maxRecDepth 4000 in
set_option maxHeartbeats 2000000 in
theorem refSg_iii_62 (s : ByteArray) (p : Nat) (w : World) (hp : p < s.size) (hs : s.size ≤ 100000000) (hl : loN (s[p]'hp).toNat = false) (hd : dgN (s[p]'hp).toNat = false) (h2 : p + 1 < s.size) (hq : (s[p + 1]'h2).toNat = 61) (hc : (s[p]'hp).toNat = 62) :
    Calls Tryd.prog 35 #[.string s, .int .i64 p] w fun e w' => (e = .returned (.tuple #[.agg #[.int .i64 3, .int .i64 p, .string (s.extract p (p + 2)), .int .u64 0], .int .i64 0])) ∧ Below w.heap.size w w' := by
  have HB : Hid (∀ o o', Below w.heap.size w ((w.alloc o).alloc o')) := two_new2 w
  have HO : Hid (∀ e : Ending, e = .returned (.tuple #[.agg #[.int .i64 3, .int .i64 p, .string (s.extract p (p + 2)), .int .u64 0], .int .i64 0]) → e = .returned (.tuple #[.agg #[.int .i64 3, .int .i64 p, .string (s.extract p (p + 2)), .int .u64 0], .int .i64 0])) := fun e h => h
  have q1 : (p : Int) + 1 < s.size := by omega
  have q2 : (((s[p + 1]'h2).toNat : Int) == 61) = true := by rw [hq]; rfl
  clear hq
  have ef : (((s[p]'hp).toNat : Int) == 61) = false := by rw [hc]; rfl
  have eg : (((s[p]'hp).toNat : Int) == 33) = false := by rw [hc]; rfl
  have ec : (((s[p]'hp).toNat : Int) == 60) = false := by rw [hc]; rfl
  have ed : (((s[p]'hp).toNat : Int) == 62) = true := by rw [hc]; rfl
  have ea : (((s[p]'hp).toNat : Int) == 59) = false := by rw [hc]; rfl
  have eb : (((s[p]'hp).toNat : Int) == 44) = false := by rw [hc]; rfl
  have ee : (((s[p]'hp).toNat : Int) == 38) = false := by rw [hc]; rfl
  clear hc
  go_enter Tryd.func35, Tryd.ntmps35
  go_wp2_with (first | (go_at_call 52; refine (small_any _ _).mono ?_; rintro e w1 ⟨rfl, rfl⟩; rw [hl]) | (go_at_call 54; refine (digit_any _ _).mono ?_; rintro e w1 ⟨rfl, rfl⟩; rw [hd]))
  refine bodyPost_ret (v := .tuple #[.agg #[.int .i64 3, .int .i64 p, .string (s.extract p (p + 2)), .int .u64 0], .int .i64 0]) (by simp [results, Tryd.results35, go_sem]) rfl ⟨HO.out _ rfl, ?_⟩
  exact HB.out _ _

set_option maxRecDepth 4000 in
set_option maxHeartbeats 2000000 in
theorem refSg_iii_59 (s : ByteArray) (p : Nat) (w : World) (hp : p < s.size) (hs : s.size ≤ 100000000) (hl : loN (s[p]'hp).toNat = false) (hd : dgN (s[p]'hp).toNat = false) (h2 : p + 1 < s.size) (hq : (s[p + 1]'h2).toNat = 61) (hc : (s[p]'hp).toNat = 59) :
    Calls Tryd.prog 35 #[.string s, .int .i64 p] w fun e w' => (e = .returned (.tuple #[.agg #[.int .i64 3, .int .i64 p, .string (s.extract p (p + 1)), .int .u64 0], .int .i64 0])) ∧ Below w.heap.size w w' := by
  have HB : Hid (∀ o o', Below w.heap.size w ((w.alloc o).alloc o')) := two_new2 w
  have HO : Hid (∀ e : Ending, e = .returned (.tuple #[.agg #[.int .i64 3, .int .i64 p, .string (s.extract p (p + 1)), .int .u64 0], .int .i64 0]) → e = .returned (.tuple #[.agg #[.int .i64 3, .int .i64 p, .string (s.extract p (p + 1)), .int .u64 0], .int .i64 0])) := fun e h => h
  have q1 : (p : Int) + 1 < s.size := by omega
  have q2 : (((s[p + 1]'h2).toNat : Int) == 61) = true := by rw [hq]; rfl
  clear hq
  have ef : (((s[p]'hp).toNat : Int) == 61) = false := by rw [hc]; rfl
  have eg : (((s[p]'hp).toNat : Int) == 33) = false := by rw [hc]; rfl
  have ec : (((s[p]'hp).toNat : Int) == 60) = false := by rw [hc]; rfl
  have ed : (((s[p]'hp).toNat : Int) == 62) = false := by rw [hc]; rfl
  have ea : (((s[p]'hp).toNat : Int) == 59) = true := by rw [hc]; rfl
  have eb : (((s[p]'hp).toNat : Int) == 44) = false := by rw [hc]; rfl
  have ee : (((s[p]'hp).toNat : Int) == 38) = false := by rw [hc]; rfl
  clear hc
  go_enter Tryd.func35, Tryd.ntmps35
  go_wp2_with (first | (go_at_call 52; refine (small_any _ _).mono ?_; rintro e w1 ⟨rfl, rfl⟩; rw [hl]) | (go_at_call 54; refine (digit_any _ _).mono ?_; rintro e w1 ⟨rfl, rfl⟩; rw [hd]))
  refine bodyPost_ret (v := .tuple #[.agg #[.int .i64 3, .int .i64 p, .string (s.extract p (p + 1)), .int .u64 0], .int .i64 0]) (by simp [results, Tryd.results35, go_sem]) rfl ⟨HO.out _ rfl, ?_⟩
  exact HB.out _ _

set_option maxRecDepth 4000 in
set_option maxHeartbeats 2000000 in
theorem refSg_iii_44 (s : ByteArray) (p : Nat) (w : World) (hp : p < s.size) (hs : s.size ≤ 100000000) (hl : loN (s[p]'hp).toNat = false) (hd : dgN (s[p]'hp).toNat = false) (h2 : p + 1 < s.size) (hq : (s[p + 1]'h2).toNat = 61) (hc : (s[p]'hp).toNat = 44) :
    Calls Tryd.prog 35 #[.string s, .int .i64 p] w fun e w' => (e = .returned (.tuple #[.agg #[.int .i64 3, .int .i64 p, .string (s.extract p (p + 1)), .int .u64 0], .int .i64 0])) ∧ Below w.heap.size w w' := by
  have HB : Hid (∀ o o', Below w.heap.size w ((w.alloc o).alloc o')) := two_new2 w
  have HO : Hid (∀ e : Ending, e = .returned (.tuple #[.agg #[.int .i64 3, .int .i64 p, .string (s.extract p (p + 1)), .int .u64 0], .int .i64 0]) → e = .returned (.tuple #[.agg #[.int .i64 3, .int .i64 p, .string (s.extract p (p + 1)), .int .u64 0], .int .i64 0])) := fun e h => h
  have q1 : (p : Int) + 1 < s.size := by omega
  have q2 : (((s[p + 1]'h2).toNat : Int) == 61) = true := by rw [hq]; rfl
  clear hq
  have ef : (((s[p]'hp).toNat : Int) == 61) = false := by rw [hc]; rfl
  have eg : (((s[p]'hp).toNat : Int) == 33) = false := by rw [hc]; rfl
  have ec : (((s[p]'hp).toNat : Int) == 60) = false := by rw [hc]; rfl
  have ed : (((s[p]'hp).toNat : Int) == 62) = false := by rw [hc]; rfl
  have ea : (((s[p]'hp).toNat : Int) == 59) = false := by rw [hc]; rfl
  have eb : (((s[p]'hp).toNat : Int) == 44) = true := by rw [hc]; rfl
  have ee : (((s[p]'hp).toNat : Int) == 38) = false := by rw [hc]; rfl
  clear hc
  go_enter Tryd.func35, Tryd.ntmps35
  go_wp2_with (first | (go_at_call 52; refine (small_any _ _).mono ?_; rintro e w1 ⟨rfl, rfl⟩; rw [hl]) | (go_at_call 54; refine (digit_any _ _).mono ?_; rintro e w1 ⟨rfl, rfl⟩; rw [hd]))
  refine bodyPost_ret (v := .tuple #[.agg #[.int .i64 3, .int .i64 p, .string (s.extract p (p + 1)), .int .u64 0], .int .i64 0]) (by simp [results, Tryd.results35, go_sem]) rfl ⟨HO.out _ rfl, ?_⟩
  exact HB.out _ _

set_option maxRecDepth 4000 in
set_option maxHeartbeats 2000000 in
theorem refSg_iii_38 (s : ByteArray) (p : Nat) (w : World) (hp : p < s.size) (hs : s.size ≤ 100000000) (hl : loN (s[p]'hp).toNat = false) (hd : dgN (s[p]'hp).toNat = false) (h2 : p + 1 < s.size) (hq : (s[p + 1]'h2).toNat = 61) (hc : (s[p]'hp).toNat = 38) :
    Calls Tryd.prog 35 #[.string s, .int .i64 p] w fun e w' => (e = .returned (.tuple #[.agg #[.int .i64 3, .int .i64 p, .string (s.extract p (p + 1)), .int .u64 0], .int .i64 0])) ∧ Below w.heap.size w w' := by
  have HB : Hid (∀ o o', Below w.heap.size w ((w.alloc o).alloc o')) := two_new2 w
  have HO : Hid (∀ e : Ending, e = .returned (.tuple #[.agg #[.int .i64 3, .int .i64 p, .string (s.extract p (p + 1)), .int .u64 0], .int .i64 0]) → e = .returned (.tuple #[.agg #[.int .i64 3, .int .i64 p, .string (s.extract p (p + 1)), .int .u64 0], .int .i64 0])) := fun e h => h
  have q1 : (p : Int) + 1 < s.size := by omega
  have q2 : (((s[p + 1]'h2).toNat : Int) == 61) = true := by rw [hq]; rfl
  clear hq
  have ef : (((s[p]'hp).toNat : Int) == 61) = false := by rw [hc]; rfl
  have eg : (((s[p]'hp).toNat : Int) == 33) = false := by rw [hc]; rfl
  have ec : (((s[p]'hp).toNat : Int) == 60) = false := by rw [hc]; rfl
  have ed : (((s[p]'hp).toNat : Int) == 62) = false := by rw [hc]; rfl
  have ea : (((s[p]'hp).toNat : Int) == 59) = false := by rw [hc]; rfl
  have eb : (((s[p]'hp).toNat : Int) == 44) = false := by rw [hc]; rfl
  have ee : (((s[p]'hp).toNat : Int) == 38) = true := by rw [hc]; rfl
  clear hc
  go_enter Tryd.func35, Tryd.ntmps35
  go_wp2_with (first | (go_at_call 52; refine (small_any _ _).mono ?_; rintro e w1 ⟨rfl, rfl⟩; rw [hl]) | (go_at_call 54; refine (digit_any _ _).mono ?_; rintro e w1 ⟨rfl, rfl⟩; rw [hd]))
  refine bodyPost_ret (v := .tuple #[.agg #[.int .i64 3, .int .i64 p, .string (s.extract p (p + 1)), .int .u64 0], .int .i64 0]) (by simp [results, Tryd.results35, go_sem]) rfl ⟨HO.out _ rfl, ?_⟩
  exact HB.out _ _

set_option maxRecDepth 4000 in
set_option maxHeartbeats 2000000 in
theorem refSg_iii_no (s : ByteArray) (p : Nat) (w : World) (hp : p < s.size) (hs : s.size ≤ 100000000) (hl : loN (s[p]'hp).toNat = false) (hd : dgN (s[p]'hp).toNat = false) (h2 : p + 1 < s.size) (hq : (s[p + 1]'h2).toNat = 61) (hc : ¬ (s[p]'hp).toNat = 61 ∧ ¬ (s[p]'hp).toNat = 33 ∧ ¬ (s[p]'hp).toNat = 60 ∧ ¬ (s[p]'hp).toNat = 62 ∧ ¬ (s[p]'hp).toNat = 59 ∧ ¬ (s[p]'hp).toNat = 44 ∧ ¬ (s[p]'hp).toNat = 38) :
    Calls Tryd.prog 35 #[.string s, .int .i64 p] w fun e w' => (e = .returned (.tuple #[.agg #[.int .i64 0, .int .i64 0, .string ⟨#[]⟩, .int .u64 0], .int .i64 5])) ∧ Below w.heap.size w w' := by
  have HB : Hid (∀ o o', Below w.heap.size w ((w.alloc o).alloc o')) := two_new2 w
  have HO : Hid (∀ e : Ending, e = .returned (.tuple #[.agg #[.int .i64 0, .int .i64 0, .string ⟨#[]⟩, .int .u64 0], .int .i64 5]) → e = .returned (.tuple #[.agg #[.int .i64 0, .int .i64 0, .string ⟨#[]⟩, .int .u64 0], .int .i64 5])) := fun e h => h
  have q1 : (p : Int) + 1 < s.size := by omega
  have q2 : (((s[p + 1]'h2).toNat : Int) == 61) = true := by rw [hq]; rfl
  clear hq
  have ef : (((s[p]'hp).toNat : Int) == 61) = false := by rw [beq_eq_false_iff_ne]; omega
  have eg : (((s[p]'hp).toNat : Int) == 33) = false := by rw [beq_eq_false_iff_ne]; omega
  have ec : (((s[p]'hp).toNat : Int) == 60) = false := by rw [beq_eq_false_iff_ne]; omega
  have ed : (((s[p]'hp).toNat : Int) == 62) = false := by rw [beq_eq_false_iff_ne]; omega
  have ea : (((s[p]'hp).toNat : Int) == 59) = false := by rw [beq_eq_false_iff_ne]; omega
  have eb : (((s[p]'hp).toNat : Int) == 44) = false := by rw [beq_eq_false_iff_ne]; omega
  have ee : (((s[p]'hp).toNat : Int) == 38) = false := by rw [beq_eq_false_iff_ne]; omega
  clear hc
  go_enter Tryd.func35, Tryd.ntmps35
  go_wp2_with (first | (go_at_call 52; refine (small_any _ _).mono ?_; rintro e w1 ⟨rfl, rfl⟩; rw [hl]) | (go_at_call 54; refine (digit_any _ _).mono ?_; rintro e w1 ⟨rfl, rfl⟩; rw [hd]))
  refine bodyPost_ret (v := .tuple #[.agg #[.int .i64 0, .int .i64 0, .string ⟨#[]⟩, .int .u64 0], .int .i64 5]) (by simp [results, Tryd.results35, go_sem]) rfl ⟨HO.out _ rfl, ?_⟩
  exact HB.out _ _

end Go.Proofs.YtdjjlccpmfhkiaaDoor
