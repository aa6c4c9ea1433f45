/-
  What a reader's number, its text and its end are; each proved of every reader and every argument.
-/
import Derived.Test.YtpdndcmaaghnjaaKRdr
namespace Go.Proofs.Ytpdndcmaaghnjaa.K
open Go.RowKit

/-- a number of a reader. -/
def numR (st : List Int × Int) (size : Int) : Int × (List Int × Int) :=
  if 1 ≤ size ∧ size ≤ 8 then (numOf (takeR st size.toNat).1, (takeR st size.toNat).2) else (0, failW st 1)

/-- a text of a reader. -/
def textR (st : List Int × Int) : List Int × (List Int × Int) := takeR (takeR st 2).2 (numOf (takeR st 2).1).toNat

/-- how a reader ends. -/
def endR (st : List Int × Int) : Int := if st.2 ≠ 0 then st.2 else if 0 < st.1.length then 3 else 0

theorem takeR_len (st : List Int × Int) (size : Nat) : (takeR st size).1.length ≤ size := by
  unfold takeR
  split
  · simp
  · split
    · simp
    · rw [List.length_take]; omega

theorem Rd.boxed {w : World} {b : Nat} {st : List Int × Int} (h : Rd w b st) (o : Obj) : Rd (w.alloc o) b st := h.below ((Below.refl _ _).alloc (Nat.le_refl _) _)

theorem Rd.bd {w : World} {b : Nat} {st : List Int × Int} (h : Rd w b st) : ∀ z ∈ st.1, 0 ≤ z ∧ z ≤ 255 := by
  obtain ⟨a, n, cap, _, hb, _⟩ := h.ex
  exact hb.2.1

theorem mk_any (w : World) (b : Nat) :
    Calls Try.prog 47 #[.pointer (some ⟨b, 0, none⟩)] w fun e w' => e = .returned (.func (Fn.func 51) #[] #[.pointer (some ⟨w.heap.size, 0, none⟩)]) ∧ w' = w.alloc (.cells #[.pointer (some ⟨b, 0, none⟩)] 65) := by
  go_enter Try.func47, Try.ntmps47
  go_wp2
  go_ret
  exact ⟨rfl, rfl⟩

theorem cell_kept {w w' : World} {b bc : Nat} {v : Value} (hg : w.grownBy w' (some b)) (hne : bc ≠ b) (hp : w.cell? ⟨bc, 0, none⟩ = some v) : w'.cell? ⟨bc, 0, none⟩ = some v :=
  (World.cell?_of_block (w := w) (a := ⟨bc, 0, none⟩) (hg.block bc (World.block_lt_of_cell? w _ hp) (by simpa using hne))).trans hp

theorem box_cell (w : World) (v : Value) (t : TypeId) : (w.alloc (.cells #[v] t)).cell? ⟨w.heap.size, 0, none⟩ = some v := by simp

set_option maxHeartbeats 800000 in
theorem rnum_any (w : World) (b : Nat) (st : List Int × Int) (size : Int) (h : Rd w b st) :
    Calls Try.prog 36 #[.pointer (some ⟨b, 0, none⟩), .int .i64 size] w fun e w' => e = .returned (.int .u64 (numR st size).1) ∧ Rd w' b (numR st size).2 ∧ w.grownBy w' (some b) := by
  have hlt := h.lt
  by_cases hs : 1 ≤ size ∧ size ≤ 8
  · obtain ⟨m, rfl⟩ : ∃ m : Nat, size = (m : Int) := ⟨size.toNat, by omega⟩
    have hd : decide (1 ≤ (m : Int) ∧ (m : Int) ≤ 8) = true := decide_eq_true hs
    have HN : Hid (numR st m = (numOf (takeR st m).1, (takeR st m).2)) := by unfold Hid numR; rw [if_pos hs]; rfl
    have m8 : m ≤ 8 := by omega
    clear hs
    have hne : w.heap.size ≠ b := by omega
    have g1 : w.grownBy (w.alloc (.cells #[.pointer (some ⟨b, 0, none⟩)] 65)) (some b) := grown_of ((Below.refl _ _).alloc (Nat.le_refl _) _)
    go_enter Try.func36, Try.ntmps36
    go_wp2_with (first | (go_at_call 42; refine (isSize_any _ _).mono ?_; rintro e w' ⟨rfl, rfl⟩; rw [hd]) | (go_at_call 47; refine (mk_any _ _).mono ?_; rintro e w' ⟨rfl, rfl⟩))
    refine (taker_any _ b _ st m (h.boxed _) hne (box_cell _ _ _)).mono ?_
    rintro e w2 ⟨⟨a, n, cap, rfl, hb⟩, hr, hg⟩
    have hn8 : n ≤ 8 := by have := takeR_len st m; rw [hb.1] at this; omega
    go_wp2_with (go_at_call 48; refine (number_any a n cap _ _ hn8 hb).mono ?_; rintro e w' ⟨rfl, rfl⟩)
    go_ret
    rw [HN.out]
    exact ⟨rfl, hr, grown_trans g1 hg⟩
  · have hd : decide (1 ≤ size ∧ size ≤ 8) = false := decide_eq_false hs
    have HN : Hid (numR st size = (0, failW st 1)) := by unfold Hid numR; rw [if_neg hs]
    clear hs
    go_enter Try.func36, Try.ntmps36
    go_wp2_with (first | (go_at_call 42; refine (isSize_any _ _).mono ?_; rintro e w' ⟨rfl, rfl⟩; rw [hd]) | (go_at_call 46; refine (rfail_any _ b st 1 h).mono ?_; rintro e w2 ⟨rfl, h2, hg2⟩))
    go_ret
    rw [HN.out]
    exact ⟨rfl, h2, hg2⟩

set_option maxHeartbeats 800000 in
theorem rtext_any (w : World) (b : Nat) (st : List Int × Int) (h : Rd w b st) :
    Calls Try.prog 38 #[.pointer (some ⟨b, 0, none⟩)] w fun e w' => e = .returned (.string (strOfNums (textR st).1)) ∧ Rd w' b (textR st).2 ∧ w.grownBy w' (some b) := by
  have hlt := h.lt
  have hne : w.heap.size ≠ b := by omega
  have g1 : w.grownBy (w.alloc (.cells #[.pointer (some ⟨b, 0, none⟩)] 65)) (some b) := grown_of ((Below.refl _ _).alloc (Nat.le_refl _) _)
  go_enter Try.func38, Try.ntmps38
  go_wp2_with (go_at_call 47; refine (mk_any _ _).mono ?_; rintro e w' ⟨rfl, rfl⟩)
  refine (taker_any _ b _ st 2 (h.boxed _) hne (box_cell _ _ _)).mono ?_
  rintro e w2 ⟨⟨a, n, cap, rfl, hb⟩, hr, hg⟩
  have hp := cell_kept hg hne (box_cell w _ 65)
  have hn2 : n ≤ 2 := by have := takeR_len st 2; rw [hb.1] at this; omega
  have hnb := numOf_bd _ hb.2.1
  have hpw : pow256 (takeR st 2).1.length ≤ pow256 2 := pow256_mono (takeR_len st 2)
  rw [show pow256 2 = 65536 from by decide] at hpw
  obtain ⟨m, hm⟩ : ∃ m : Nat, numOf (takeR st 2).1 = (m : Int) := ⟨(numOf (takeR st 2).1).toNat, by omega⟩
  have hm1 : m ≤ 65535 := by omega
  have HT : Hid (textR st = takeR (takeR st 2).2 m) := by unfold Hid textR; rw [hm]; rfl
  clear hnb hpw
  go_wp2_with (go_at_call 48; refine (number_any a n cap _ _ (by omega) hb).mono ?_; rintro e w' ⟨rfl, rfl⟩; rw [hm])
  refine (taker_any _ b _ _ m hr hne hp).mono ?_
  rintro e w3 ⟨⟨a3, n3, cap3, rfl, hb3⟩, hr3, hg3⟩
  have hcv := run_text hb3 cap3
  go_wp2
  go_ret
  rw [HT.out]
  exact ⟨rfl, hr3, grown_trans (grown_trans g1 hg) hg3⟩

set_option maxHeartbeats 400000 in
theorem rend_any (w : World) (b : Nat) (st : List Int × Int) (h : Rd w b st) :
    Calls Try.prog 39 #[.pointer (some ⟨b, 0, none⟩)] w fun e w' => e = .returned (.int .i64 (endR st)) ∧ w' = w := by
  obtain ⟨a, n, cap, h2, hb, _⟩ := h.ex
  have hll := hb.1
  have c0 := h2.c0
  have c1 := h2.c1
  obtain ⟨l, e⟩ := st
  simp only at c1 hll
  by_cases he : e = 0
  · subst he
    by_cases hn : 0 < n
    · have HE : endR (l, 0) = 3 := by unfold endR; rw [if_neg (by simp), if_pos (by show 0 < l.length; omega)]
      clear h hb h2
      go_enter Try.func39, Try.ntmps39
      go_wp2
      go_ret
      exact ⟨by rw [HE]; rfl, rfl⟩
    · have HE : endR (l, 0) = 0 := by unfold endR; rw [if_neg (by simp), if_neg (by show ¬ 0 < l.length; omega)]
      clear h hb h2
      go_enter Try.func39, Try.ntmps39
      go_wp2
      go_ret
      exact ⟨by rw [HE]; rfl, rfl⟩
  · have HE : endR (l, e) = e := by unfold endR; rw [if_pos (by simpa using he)]
    clear h hb h2
    go_enter Try.func39, Try.ntmps39
    go_wp2
    go_ret
    exact ⟨by rw [HE]; rfl, rfl⟩

end Go.Proofs.Ytpdndcmaaghnjaa.K
