/-
  There is room for just sixteen files: the law's walk.
-/
import Derived.Test.YtcenjdpochjclaaLaws1
namespace Go.Proofs.Ytcenjdpochjclaa
open Go.RowKit

set_option maxHeartbeats 8000000 in
set_option maxRecDepth 8000 in
theorem full_go (w : World) (n : Nat) (hn : n ≤ 30) : Calls Try.prog 6 #[.int .i64 n] w fun e w' => e = .returned (.bool true) ∧ Below w.heap.size w w' := by
  have HA : Hid (Calls Try.prog 7 #[] w fun e w' => e = .returned (.bool true) ∧ Below w.heap.size w w') := awake_any w
  have n1 : decide ((n : Int) < 0) = false := decide_eq_false (by omega)
  have n2 : decide (30 < (n : Int)) = false := decide_eq_false (by omega)
  go_enter Try.func6, Try.ntmps6
  go_wp2_with fail
  refine HA.out.mono ?_
  rintro e w1 ⟨rfl, hb1⟩
  go_wp2_with fail
  refine (new_f hb1).mono ?_
  rintro e w2 ⟨b, rfl, h2⟩
  have H2 : Hid (TbF w w2 b newF) := h2
  clear h2 hb1 HA
  go_wp2_with fail
  go_loopw [5] (fun v5 wr => ∃ (i : Nat) (l : Fd), v5 = .int .i64 i ∧ i ≤ n ∧ lenF l = free l ∧ free l = min (3 + i) 16 ∧ TbF w wr b l) (fun v5 _ => n - (intOf v5).toNat)
  case atStart => exact ⟨0, newF, rfl, Nat.zero_le _, rfl, rfl, H2.out⟩
  case round =>
    obtain ⟨i, l, rfl, hi, hp, hf, ht⟩ := hrel
    have HT : Hid (TbF w wr b l) := ht
    have HP : Hid (lenF l = free l ∧ free l = min (3 + i) 16 ∧ l.length = 16) := ⟨hp, hf, ht.tb.len⟩
    clear hp hf ht H2
    by_cases hlt : i < n
    · have hi1 : (i : Int) < (n : Int) := by omega
      by_cases h13 : i < 13
      · have h131 : (i : Int) < 13 := by omega
        have h132 : decide ((i : Int) < 13) = true := decide_eq_true h131
        have h133 : decide (13 ≤ (i : Int)) = false := decide_eq_false (by omega)
        have hfl : free l < l.length := by have := HP.out; omega
        have hsp : spotF l = 3 + (i : Int) := by
          unfold spotF
          rw [if_pos hfl]
          have := HP.out
          omega
        have hfu : fullF l = 0 := if_pos hfl
        have HI : Hid (∀ v, Calls Try.prog 14 #[.pointer (some ⟨b, 0, none⟩), .int .i64 v] wr fun e w' => e = .returned (.tuple #[.int .i64 (3 + (i : Int)), .int .i64 0]) ∧ TbF w w' b (instF l v)) := fun v => by
          have := install_f v HT.out
          rw [hsp, hfu] at this
          exact this
        have HN : Hid (∀ v, lenF (instF l v) = free (instF l v) ∧ free (instF l v) = min (3 + (i + 1)) 16) := fun v => by
          have h1 := lenF_inst hfl v
          have h2 := free_inst HP.out.1 hfl v
          have := HP.out
          omega
        clear hfl hsp hfu
        go_wp2_with fail
        refine (HI.out _).mono ?_
        rintro e w3 ⟨rfl, h3⟩
        have H3 : Hid (TbF w w3 b (instF l (100 + (i : Int)))) := h3
        have hs1 : ((3 + (i : Int)) == (3 + (i : Int))) = true := by simp
        clear h3 HI HT
        go_wp2_with fail
        go_roundw
        case rel => exact ⟨i + 1, _, by go_num, hlt, (HN.out _).1, (HN.out _).2, H3.out⟩
        case measure => simp [intOf]; omega
      · have h131 : ¬ (i : Int) < 13 := by omega
        have h132 : decide ((i : Int) < 13) = false := decide_eq_false h131
        have h133 : decide (13 ≤ (i : Int)) = true := decide_eq_true (by omega)
        have hfl : ¬ free l < l.length := by have := HP.out; omega
        have hsp : spotF l = -1 := if_neg hfl
        have hfu : fullF l = 16 := if_neg hfl
        have HI : Hid (∀ v, Calls Try.prog 14 #[.pointer (some ⟨b, 0, none⟩), .int .i64 v] wr fun e w' => e = .returned (.tuple #[.int .i64 (-1), .int .i64 16]) ∧ TbF w w' b l) := fun v => by
          have := install_f v HT.out
          rw [hsp, hfu, instF_full hfl] at this
          exact this
        have HN : Hid (lenF l = free l ∧ free l = min (3 + (i + 1)) 16) := by
          have := HP.out
          refine ⟨this.1, ?_⟩
          omega
        clear hfl hsp hfu
        go_wp2_with fail
        refine (HI.out _).mono ?_
        rintro e w3 ⟨rfl, h3⟩
        have H3 : Hid (TbF w w3 b l) := h3
        clear h3 HI HT
        go_wp2_with fail
        go_roundw
        case rel => exact ⟨i + 1, l, by go_num, hlt, HN.out.1, HN.out.2, H3.out⟩
        case measure => simp [intOf]; omega
    · have hi1 : ¬ (i : Int) < (n : Int) := by omega
      obtain rfl : i = n := by omega
      by_cases h13 : i ≤ 13
      · have HL : Hid (Calls Try.prog 11 #[.pointer (some ⟨b, 0, none⟩)] wr fun e w' => e = .returned (.int .i64 (3 + (i : Int))) ∧ Below w.heap.size w w') := by
          refine (len_f HT.out).mono ?_
          rintro e w' ⟨h1, h2⟩
          refine ⟨?_, h2.bel⟩
          rw [h1]
          have e1 : (lenF l : Int) = 3 + (i : Int) := by have := HP.out; omega
          rw [e1]
        have m1 : 3 + (i : Int) ≤ 16 := by omega
        have m2 : ¬ 16 < 3 + (i : Int) := by omega
        have hs1 : ((3 + (i : Int)) == (3 + (i : Int))) = true := by simp
        clear HT
        go_wp2_with (first
          | (go_at_call 11; refine HL.out.mono ?_; rintro e w4 ⟨rfl, hb4⟩; have H4 : Hid (Below w.heap.size w w4) := hb4; clear hb4))
        go_ret
        exact ⟨rfl, H4.out⟩
      · have HL : Hid (Calls Try.prog 11 #[.pointer (some ⟨b, 0, none⟩)] wr fun e w' => e = .returned (.int .i64 16) ∧ Below w.heap.size w w') := by
          refine (len_f HT.out).mono ?_
          rintro e w' ⟨h1, h2⟩
          refine ⟨?_, h2.bel⟩
          rw [h1]
          have e1 : (lenF l : Int) = 16 := by have := HP.out; omega
          rw [e1]
        have m1 : ¬ 3 + (i : Int) ≤ 16 := by omega
        have m2 : 16 < 3 + (i : Int) := by omega
        clear HT
        go_wp2_with (first
          | (go_at_call 11; refine HL.out.mono ?_; rintro e w4 ⟨rfl, hb4⟩; have H4 : Hid (Below w.heap.size w w4) := hb4; clear hb4))
        go_ret
        exact ⟨rfl, H4.out⟩

set_option maxHeartbeats 4000000 in
theorem full_walk (w : World) (n : Int) : Calls Try.prog 6 #[.int .i64 n] w fun e w' => e = .returned (.bool true) ∧ Below w.heap.size w w' := by
  by_cases h0 : n < 0
  · have h1 : decide (n < 0) = true := decide_eq_true h0
    have HA : Hid (Calls Try.prog 7 #[] w fun e w' => e = .returned (.bool true) ∧ Below w.heap.size w w') := awake_any w
    go_enter Try.func6, Try.ntmps6
    go_wp2_with fail
    refine HA.out.mono ?_
    rintro e w1 ⟨rfl, hb1⟩
    go_wp2_with fail
    refine (new_f hb1).mono ?_
    rintro e w2 ⟨b, rfl, h2⟩
    have H2 : Hid (TbF w w2 b newF) := h2
    clear h2 hb1 HA
    go_wp2_with fail
    go_ret
    exact ⟨rfl, H2.out.bel⟩
  · by_cases h30 : 30 < n
    · have h1 : decide (n < 0) = false := decide_eq_false h0
      have h2 : decide (30 < n) = true := decide_eq_true h30
      have HA : Hid (Calls Try.prog 7 #[] w fun e w' => e = .returned (.bool true) ∧ Below w.heap.size w w') := awake_any w
      go_enter Try.func6, Try.ntmps6
      go_wp2_with fail
      refine HA.out.mono ?_
      rintro e w1 ⟨rfl, hb1⟩
      go_wp2_with fail
      refine (new_f hb1).mono ?_
      rintro e w2 ⟨b, rfl, h2⟩
      have H2 : Hid (TbF w w2 b newF) := h2
      clear h2 hb1 HA
      go_wp2_with fail
      go_ret
      exact ⟨rfl, H2.out.bel⟩
    · obtain ⟨k, rfl⟩ := Int.eq_ofNat_of_zero_le (by omega : 0 ≤ n)
      exact full_go w k (by omega)

end Go.Proofs.Ytcenjdpochjclaa
