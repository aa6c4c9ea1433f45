/-
  The law ParseMany, walked: true for all numbers.
-/
import Derived.Test.YtdjjlccpmfhkiaaDoorAwake
import Derived.Test.YtdjjlccpmfhkiaaDoorPMany
import Derived.Laws.Concat
namespace Go.Proofs.YtdjjlccpmfhkiaaDoor
open Go.RowKit

theorem bar_app (l m : List UInt8) : bar l ++ bar m = bar (l ++ m) := ByteArray.mk_append_mk l m

theorem cdB_len (c : Nat) : (cdB c).length ≤ 12 + 11 * c := by
  cases c with
  | zero => simp [cdB]
  | succ c =>
    show (bWhen ++ rep c bAnd).length ≤ _
    rw [List.length_append, rep_len]
    simp [bWhen, bAnd]
    omega
theorem oneB_len (n c : Nat) : (oneB n c).length ≤ 17 + 2 * n + 11 * c := by
  unfold oneB
  rw [List.length_append, List.length_append, rep_len]
  have := cdB_len c
  simp
  omega
theorem oneB_snoc (n c : Nat) : oneB n (c + 1) = oneB n c ++ (if c = 0 then bWhen else bAnd) := by
  unfold oneB
  rw [cdB_snoc, List.append_assoc]
  simp
theorem oneB_zero (n : Nat) : oneB n 0 = [108, 111, 103, 32, 97] ++ rep n [44, 97] := by simp [oneB, cdB]
def txM (n c k : Nat) : List UInt8 := dlog ++ rep k (oneB n c ++ [59])
theorem txM_snoc (n c k : Nat) : txM n c (k + 1) = txM n c k ++ oneB n c ++ [59] := by
  unfold txM
  rw [rep_snoc']
  simp
theorem txM_len (n c k : Nat) : (txM n c k).length = 12 + k * ((oneB n c).length + 1) := by
  unfold txM
  rw [List.length_append, rep_len]
  simp [dlog]

set_option maxRecDepth 100000 in
set_option maxHeartbeats 8000000 in
theorem parseMany_out (a b c : Int) (w : World) (hv : Vars w) (h : a < 0 ∨ 70 < a ∨ b < 1 ∨ 20 < b ∨ c < 0 ∨ 12 < c) :
    Calls Tryd.prog 8 #[.int .i64 a, .int .i64 b, .int .i64 c] w fun e w' => e = .returned (.bool true) ∧ Below w.heap.size w w' := by
  have HV : Hid (Vars w) := hv
  have HW : Hid (∀ W, Vars W → Calls Tryd.prog 9 #[] W fun e w' => e = .returned (.bool true) ∧ Below W.heap.size W w') := awake_any
  clear hv
  by_cases h0 : a < 0
  · have e0 : decide (a < 0) = true := by simpa using h0
    clear h h0
    go_enter Tryd.func8, Tryd.ntmps8
    go_wp2_with (go_at_call 9; refine (HW.out _ HV.out).mono ?_; rintro e w1 ⟨rfl, b1⟩)
    go_ret
    exact ⟨rfl, b1⟩
  have e0 : decide (a < 0) = false := by simpa using h0
  by_cases h1 : 70 < a
  · have e1 : decide (70 < a) = true := by simpa using h1
    clear h h0 h1
    go_enter Tryd.func8, Tryd.ntmps8
    go_wp2_with (go_at_call 9; refine (HW.out _ HV.out).mono ?_; rintro e w1 ⟨rfl, b1⟩)
    go_ret
    exact ⟨rfl, b1⟩
  have e1 : decide (70 < a) = false := by simpa using h1
  by_cases h2 : b < 1
  · have e2 : decide (b < 1) = true := by simpa using h2
    clear h h0 h1 h2
    go_enter Tryd.func8, Tryd.ntmps8
    go_wp2_with (go_at_call 9; refine (HW.out _ HV.out).mono ?_; rintro e w1 ⟨rfl, b1⟩)
    go_ret
    exact ⟨rfl, b1⟩
  have e2 : decide (b < 1) = false := by simpa using h2
  by_cases h3 : 20 < b
  · have e3 : decide (20 < b) = true := by simpa using h3
    clear h h0 h1 h2 h3
    go_enter Tryd.func8, Tryd.ntmps8
    go_wp2_with (go_at_call 9; refine (HW.out _ HV.out).mono ?_; rintro e w1 ⟨rfl, b1⟩)
    go_ret
    exact ⟨rfl, b1⟩
  have e3 : decide (20 < b) = false := by simpa using h3
  by_cases h4 : c < 0
  · have e4 : decide (c < 0) = true := by simpa using h4
    clear h h0 h1 h2 h3 h4
    go_enter Tryd.func8, Tryd.ntmps8
    go_wp2_with (go_at_call 9; refine (HW.out _ HV.out).mono ?_; rintro e w1 ⟨rfl, b1⟩)
    go_ret
    exact ⟨rfl, b1⟩
  have e4 : decide (c < 0) = false := by simpa using h4
  by_cases h5 : 12 < c
  · have e5 : decide (12 < c) = true := by simpa using h5
    clear h h0 h1 h2 h3 h4 h5
    go_enter Tryd.func8, Tryd.ntmps8
    go_wp2_with (go_at_call 9; refine (HW.out _ HV.out).mono ?_; rintro e w1 ⟨rfl, b1⟩)
    go_ret
    exact ⟨rfl, b1⟩
  have e5 : decide (12 < c) = false := by simpa using h5
  exfalso
  omega

set_option maxRecDepth 100000 in
set_option maxHeartbeats 8000000 in
theorem parseMany_in (R n c : Nat) (hR : R ≤ 70) (hn : n + 1 ≤ 20) (hc : c ≤ 12) (w : World) (hv : Vars w) :
    Calls Tryd.prog 8 #[.int .i64 R, .int .i64 ((n + 1 : Nat) : Int), .int .i64 c] w fun e w' => e = .returned (.bool true) ∧ Below w.heap.size w w' := by
  have HV : Hid (Vars w) := hv
  have HW : Hid (∀ W, Vars W → Calls Tryd.prog 9 #[] W fun e w' => e = .returned (.bool true) ∧ Below W.heap.size W w') := awake_any
  obtain ⟨N, hN⟩ : ∃ N : Int, N = ((n + 1 : Nat) : Int) := ⟨_, rfl⟩
  rw [← hN]
  have HN : Hid (N = (n : Int) + 1) := by show _ = _; rw [hN]; simp
  have e0 : decide ((R : Int) < 0) = false := by simp
  have e1 : decide ((70 : Int) < (R : Int)) = false := by simp; omega
  have e2 : decide (N < 1) = false := by simp; omega
  have e3 : decide (20 < N) = false := by simp; omega
  have e4 : decide ((c : Int) < 0) = false := by simp
  have e5 : decide ((12 : Int) < (c : Int)) = false := by simp; omega
  have HL1 : Hid (∀ k, k ≤ n → ([(108 : UInt8), 111, 103, 32, 97] ++ rep k [44, 97]).length ≤ 400) := fun k hk => by rw [List.length_append, rep_len]; simp; omega
  have HL2 : Hid (∀ j, j ≤ c → (oneB n j).length ≤ 400) := fun j hj => by have := oneB_len n j; omega
  clear hv hN
  go_enter Tryd.func8, Tryd.ntmps8
  go_wp2_with fail
  refine (HW.out _ HV.out).mono ?_
  rintro e w1 ⟨rfl, b1⟩
  have V1 : Hid (Vars w1) := HV.out.below b1
  go_wp2_with fail
  clear e0 e1 e2 e3 e4 e5
  go_loop [8, 9] (fun va vi => ∃ k : Nat, va = .string (bar ([108, 111, 103, 32, 97] ++ rep k [44, 97])) ∧ vi = .int .i64 ((k : Int) + 1) ∧ k ≤ n) (fun _ vi => n + 1 - (intOf vi).toNat)
  case atStart => exact ⟨0, rfl, rfl, Nat.zero_le _⟩
  case round =>
    obtain ⟨k, rfl, rfl, hk⟩ := hrel
    by_cases hlt : k < n
    · have hi1 : (k : Int) + 1 < N := by rw [HN.out]; omega
      have hz : (bar ([108, 111, 103, 32, 97] ++ rep k [44, 97])).size ≤ 400 := by rw [bar_size]; exact HL1.out k hk
      have HJ : Hid (bar ([108, 111, 103, 32, 97] ++ rep (k + 1) [44, 97]) = bar ([108, 111, 103, 32, 97] ++ rep k [44, 97]) ++ ⟨#[44, 97]⟩) := by
        show _ = _
        rw [show (⟨#[44, 97]⟩ : ByteArray) = bar [44, 97] from rfl, bar_app, rep_snoc', List.append_assoc]
      generalize bar ([108, 111, 103, 32, 97] ++ rep k [44, 97]) = A at *
      go_wp2
      go_round
      case rel => exact ⟨k + 1, by rw [HJ.out], by go_num, hlt⟩
      case measure => simp [intOf]; omega
    · obtain rfl : k = n := by omega
      have hge : ¬ (k : Int) + 1 < N := by rw [HN.out]; omega
      rw [← oneB_zero]
      go_wp2_with fail
      clear hge hk hlt
      go_loop [8, 10] (fun va vi => ∃ j : Nat, va = .string (bar (oneB k j)) ∧ vi = .int .i64 j ∧ j ≤ c) (fun _ vi => c - (intOf vi).toNat)
      case atStart => exact ⟨0, rfl, rfl, Nat.zero_le _⟩
      case round =>
        obtain ⟨j, rfl, rfl, hj⟩ := hrel
        by_cases hlt : j < c
        · have hi1 : (j : Int) < (c : Int) := by omega
          have hz : (bar (oneB k j)).size ≤ 400 := by rw [bar_size]; exact HL2.out j hj
          by_cases hj0 : j = 0
          · have HJ : Hid (bar (oneB k (j + 1)) = bar (oneB k j) ++ ⟨#[32, 119, 104, 101, 110, 32, 97, 114, 103, 48, 60, 49]⟩) := by
              show _ = _
              rw [oneB_snoc, if_pos hj0, show (⟨#[32, 119, 104, 101, 110, 32, 97, 114, 103, 48, 60, 49]⟩ : ByteArray) = bar bWhen from rfl, bar_app]
            have hz0 : ((j : Int) == 0) = true := by rw [beq_iff_eq]; omega
            clear hj0
            generalize bar (oneB k j) = A at *
            go_wp2
            go_round
            case rel => exact ⟨j + 1, by rw [HJ.out], by go_num, hlt⟩
            case measure => simp [intOf]; omega
          · have HJ : Hid (bar (oneB k (j + 1)) = bar (oneB k j) ++ ⟨#[32, 97, 110, 100, 32, 97, 114, 103, 48, 60, 49]⟩) := by
              show _ = _
              rw [oneB_snoc, if_neg hj0, show (⟨#[32, 97, 110, 100, 32, 97, 114, 103, 48, 60, 49]⟩ : ByteArray) = bar bAnd from rfl, bar_app]
            have hz0 : ((j : Int) == 0) = false := by rw [beq_eq_false_iff_ne]; omega
            have hz1 : ¬ (j : Int) = 0 := by omega
            clear hj0
            generalize bar (oneB k j) = A at *
            go_wp2
            go_round
            case rel => exact ⟨j + 1, by rw [HJ.out], by go_num, hlt⟩
            case measure => simp [intOf]; omega
        · obtain rfl : j = c := by omega
          have hge : ¬ (j : Int) < (j : Int) := by omega
          go_wp2_with fail
          clear hge hj hlt
          have hz : (bar (oneB k j)).size ≤ 400 := by rw [bar_size]; exact HL2.out j (Nat.le_refl _)
          go_loop [11, 12] (fun va vi => ∃ m : Nat, va = .string (bar (txM k j m)) ∧ vi = .int .i64 m ∧ m ≤ R ∧ (txM k j m).length ≤ 8401) (fun _ vi => R - (intOf vi).toNat)
          case atStart => exact ⟨0, rfl, rfl, Nat.zero_le _, by rw [txM_len]; simp⟩
          case round =>
            obtain ⟨m, rfl, rfl, hm, hml⟩ := hrel
            by_cases hgo : m < R ∧ (txM k j m).length < 8000
            · have hi1 : decide ((m : Int) < (R : Int)) = true := by simp; omega
              have hi2 : decide (((bar (txM k j m)).size : Int) < 8000) = true := by rw [bar_size]; simp; omega
              have hi3 : (m : Int) < (R : Int) := by omega
              have hz1 : (bar (txM k j m)).size ≤ 8401 := by rw [bar_size]; exact hml
              have hz2 : (bar (txM k j m) ++ bar (oneB k j)).size ≤ 8801 := by rw [ByteArray.size_append]; omega
              have HJ : Hid (bar (txM k j (m + 1)) = bar (txM k j m) ++ bar (oneB k j) ++ ⟨#[59]⟩) := by
                show _ = _
                rw [txM_snoc, show (⟨#[59]⟩ : ByteArray) = bar [59] from rfl, bar_app, bar_app]
              have HM : Hid (m + 1 ≤ R ∧ (txM k j (m + 1)).length ≤ 8401) := by
                refine ⟨by omega, ?_⟩
                rw [txM_snoc, List.length_append, List.length_append]
                rw [bar_size] at hz
                simp
                omega
              clear hgo hm hml
              generalize bar (txM k j m) = A at *
              generalize bar (oneB k j) = B at *
              go_wp2
              go_round
              case rel => exact ⟨m + 1, by rw [HJ.out], by go_num, HM.out.1, HM.out.2⟩
              case measure => have := HM.out.1; simp [intOf]; omega
            · by_cases hmR : m < R
              · have hi1 : decide ((m : Int) < (R : Int)) = true := by simp; omega
                have hi2 : decide (((bar (txM k j m)).size : Int) < 8000) = false := by rw [bar_size]; simp; omega
                have hbt : (bar (txM k j m)).size = (txM k j m).length := bar_size _
                have hbo : (bar (oneB k j)).size = (oneB k j).length := bar_size _
                have htl := txM_len k j m
                have HP : Hid (∀ W, Vars W → Calls Tryd.prog 10 #[.string (bar (txM k j m))] W fun e w' => Below W.heap.size W w' ∧ Par2 (prs (txM k j m)) e w') := fun W h => by have := parse2 (bar (txM k j m)) W h; rw [lst_bar] at this; exact this
                by_cases hL : 8192 < (txM k j m).length
                · have hd : decide ((8192 : Int) < ((bar (txM k j m)).size : Int)) = true := by rw [hbt]; simp; omega
                  clear hbt hbo htl HP
                  generalize bar (txM k j m) = BT at *
                  generalize bar (oneB k j) = BO at *
                  clear hL hgo hm hml
                  go_wp2_with fail
                  go_ret
                  exact ⟨rfl, b1⟩
                · have hd : decide ((8192 : Int) < ((bar (txM k j m)).size : Int)) = false := by rw [hbt]; simp; omega
                  have hpm := prs_many k j m (show (txM k j m).length ≤ 8192 by omega)
                  have hm0 : m = 0 → R = 0 := by
                    intro h0
                    rcases Nat.eq_zero_or_pos R with h | h
                    · exact h
                    · exfalso
                      apply hgo
                      rw [h0, txM_len]
                      simp
                      exact h
                  change (m = 0 ∨ m ≤ 64 ∧ k + 1 ≤ 16 ∧ j ≤ 8 → ∃ d rs, rs.length = m ∧ prs (txM k j m) = .ok (d, rs)) ∧ (¬ m = 0 ∧ (64 < m ∨ 16 < k + 1 ∨ 8 < j) → ∃ p, prs (txM k j m) = .error (4, p)) at hpm
                  have HBT : Hid ((bar (txM k j m)).size = 12 + m * ((oneB k j).length + 1)) := by show _ = _; rw [hbt, htl]
                  have HOL : Hid ((bar (oneB k j)).size = (oneB k j).length) := hbo
                  have hbs : (bar (txM k j m)).size ≤ 8192 := by omega
                  generalize bar (txM k j m) = BT at *
                  generalize prs (txM k j m) = PR at *
                  generalize (oneB k j).length = L at *
                  generalize bar (oneB k j) = BO at *
                  clear hbt htl hbo hL hgo hml
                  by_cases hR0 : 0 < R
                  · have r0 : decide ((0 : Int) < (R : Int)) = true := by simp; omega
                    have r0' : (0 : Int) < (R : Int) := by omega
                    have hmz : ¬ m = 0 := by intro h; have := hm0 h; omega
                    by_cases hn16 : 16 < k + 1
                    · have r1 : decide (16 < N) = true := by rw [HN.out]; simp; omega
                      obtain ⟨p, rfl⟩ := hpm.2 ⟨hmz, .inr (.inl hn16)⟩
                      clear hpm hm0 hmz hn16 hR0 hm HBT HOL
                      go_wp2_with fail
                      refine (HP.out _ V1.out).mono ?_
                      rintro e w2 ⟨b2, rfl⟩
                      go_wp2_with fail
                      go_ret
                      exact ⟨rfl, (b1.trans (b2.mono b1.size)).alloc (Nat.le_trans b1.size b2.size) _⟩
                    · have r1 : decide (16 < N) = false := by rw [HN.out]; simp; omega
                      by_cases hc8 : 8 < j
                      · have r2 : decide ((8 : Int) < (j : Int)) = true := by simp; omega
                        obtain ⟨p, rfl⟩ := hpm.2 ⟨hmz, .inr (.inr hc8)⟩
                        clear hpm hm0 hmz hn16 hR0 hc8 hm HBT HOL
                        go_wp2_with fail
                        refine (HP.out _ V1.out).mono ?_
                        rintro e w2 ⟨b2, rfl⟩
                        go_wp2_with fail
                        go_ret
                        exact ⟨rfl, (b1.trans (b2.mono b1.size)).alloc (Nat.le_trans b1.size b2.size) _⟩
                      · have r2 : decide ((8 : Int) < (j : Int)) = false := by simp; omega
                        by_cases h64 : 64 < m
                        · obtain ⟨p, rfl⟩ := hpm.2 ⟨hmz, .inl h64⟩
                          have r3 : decide ((64 : Int) < (m : Int)) = true := by simp; omega
                          clear hpm hm0 hmz hn16 hR0 hc8 h64
                          go_wp2_with fail
                          refine (HP.out _ V1.out).mono ?_
                          rintro e w2 ⟨b2, rfl⟩
                          have B2 : Hid (Below w.heap.size w (w2.alloc (Obj.cells #[.int .i64 0, .int .i64 0, .slice none 0 0] 27))) := (b1.trans (b2.mono b1.size)).alloc (Nat.le_trans b1.size b2.size) _
                          clear b2
                          go_wp2_with fail
                          go_loop [16, 17] (fun vm va => ∃ q : Nat, vm = .int .i64 q ∧ va = .int .i64 ((12 + q * (L + 1) : Nat) : Int) ∧ q ≤ m) (fun vm _ => m - (intOf vm).toNat)
                          case atStart => exact ⟨0, rfl, by simp, Nat.zero_le _⟩
                          case round =>
                            obtain ⟨q, rfl, rfl, hq⟩ := hrel
                            by_cases hqm : q < m
                            · have hA : 12 + q * (L + 1) < BT.size ∧ 12 + (q + 1) * (L + 1) ≤ BT.size := by
                                rw [HBT.out]
                                have h1 := Nat.mul_le_mul_right (L + 1) (Nat.succ_le_of_lt hqm)
                                have h2 : (q + 1) * (L + 1) = q * (L + 1) + (L + 1) := Nat.succ_mul q (L + 1)
                                rw [Nat.succ_eq_add_one] at h1
                                constructor <;> omega
                              have HS : Hid (12 + (q + 1) * (L + 1) = 12 + q * (L + 1) + L + 1) := by show _ = _; rw [Nat.succ_mul]; omega
                              have HQ : Hid (q + 1 ≤ m) := hqm
                              generalize 12 + q * (L + 1) = A at *
                              have hA1 : (A : Int) < (BT.size : Int) := by omega
                              have hA2 : (A : Int) ≤ 8192 := by omega
                              have hq2 : (q : Int) ≤ 100000 := by omega
                              clear hA hq hqm
                              go_wp2
                              go_round
                              case rel => exact ⟨q + 1, by go_num, by rw [HS.out, ← HOL.out]; (try go_num), HQ.out⟩
                              case measure => have := HQ.out; simp [intOf]; omega
                            · obtain rfl : q = m := by omega
                              have hA : 12 + q * (L + 1) = BT.size := HBT.out.symm
                              rw [hA]
                              have hge : ¬ (BT.size : Int) < (BT.size : Int) := by omega
                              clear hA hq hqm
                              go_wp2_with fail
                              go_ret
                              exact ⟨rfl, B2.out⟩
                        · obtain ⟨d, rs, hrl, rfl⟩ := hpm.1 (.inr ⟨by omega, by omega, by omega⟩)
                          have r3 : decide ((64 : Int) < (m : Int)) = false := decide_eq_false (by omega)
                          clear hpm hm0 hmz hn16 hR0 hc8 h64
                          go_wp2_with fail
                          refine (HP.out _ V1.out).mono ?_
                          rintro e w2 ⟨b2, v2, rv, hr, rfl, hV⟩
                          have hlv : rv.length = m := by have := congrArg List.length hr; simp at this; omega
                          obtain ⟨pa, ca, rfl⟩ : ∃ a c, v2 = .slice a m c := by obtain ⟨a, c, e, _⟩ := hV; exact ⟨a, c, by rw [← hlv]; exact e⟩
                          have B2 : Hid (Below w.heap.size w (w2.alloc (Obj.cells #[.int .i64 d.k, .int .i64 d.a, .slice pa m ca] 27))) := (b1.trans (b2.mono b1.size)).alloc (Nat.le_trans b1.size b2.size) _
                          clear b2 hV hr hrl hlv
                          go_wp2_with fail
                          go_loop [16, 17] (fun vm va => ∃ q : Nat, vm = .int .i64 q ∧ va = .int .i64 ((12 + q * (L + 1) : Nat) : Int) ∧ q ≤ m) (fun vm _ => m - (intOf vm).toNat)
                          case atStart => exact ⟨0, rfl, by simp, Nat.zero_le _⟩
                          case round =>
                            obtain ⟨q, rfl, rfl, hq⟩ := hrel
                            by_cases hqm : q < m
                            · have hA : 12 + q * (L + 1) < BT.size ∧ 12 + (q + 1) * (L + 1) ≤ BT.size := by
                                rw [HBT.out]
                                have h1 := Nat.mul_le_mul_right (L + 1) (Nat.succ_le_of_lt hqm)
                                have h2 : (q + 1) * (L + 1) = q * (L + 1) + (L + 1) := Nat.succ_mul q (L + 1)
                                rw [Nat.succ_eq_add_one] at h1
                                constructor <;> omega
                              have HS : Hid (12 + (q + 1) * (L + 1) = 12 + q * (L + 1) + L + 1) := by show _ = _; rw [Nat.succ_mul]; omega
                              have HQ : Hid (q + 1 ≤ m) := hqm
                              generalize 12 + q * (L + 1) = A at *
                              have hA1 : (A : Int) < (BT.size : Int) := by omega
                              have hA2 : (A : Int) ≤ 8192 := by omega
                              have hq2 : (q : Int) ≤ 100000 := by omega
                              clear hA hq hqm
                              go_wp2
                              go_round
                              case rel => exact ⟨q + 1, by go_num, by rw [HS.out, ← HOL.out]; (try go_num), HQ.out⟩
                              case measure => have := HQ.out; simp [intOf]; omega
                            · obtain rfl : q = m := by omega
                              have hA : 12 + q * (L + 1) = BT.size := HBT.out.symm
                              rw [hA]
                              have hge : ¬ (BT.size : Int) < (BT.size : Int) := by omega
                              clear hA hq hqm
                              go_wp2_with fail
                              go_ret
                              exact ⟨rfl, B2.out⟩
                  · exfalso
                    omega
              · have hi1 : decide ((m : Int) < (R : Int)) = false := by simp; omega
                have hbt : (bar (txM k j m)).size = (txM k j m).length := bar_size _
                have hbo : (bar (oneB k j)).size = (oneB k j).length := bar_size _
                have htl := txM_len k j m
                have HP : Hid (∀ W, Vars W → Calls Tryd.prog 10 #[.string (bar (txM k j m))] W fun e w' => Below W.heap.size W w' ∧ Par2 (prs (txM k j m)) e w') := fun W h => by have := parse2 (bar (txM k j m)) W h; rw [lst_bar] at this; exact this
                by_cases hL : 8192 < (txM k j m).length
                · have hd : decide ((8192 : Int) < ((bar (txM k j m)).size : Int)) = true := by rw [hbt]; simp; omega
                  clear hbt hbo htl HP
                  generalize bar (txM k j m) = BT at *
                  generalize bar (oneB k j) = BO at *
                  clear hL hgo hm hml
                  go_wp2_with fail
                  go_ret
                  exact ⟨rfl, b1⟩
                · have hd : decide ((8192 : Int) < ((bar (txM k j m)).size : Int)) = false := by rw [hbt]; simp; omega
                  have hpm := prs_many k j m (show (txM k j m).length ≤ 8192 by omega)
                  have hm0 : m = 0 → R = 0 := by
                    intro h0
                    rcases Nat.eq_zero_or_pos R with h | h
                    · exact h
                    · exfalso
                      apply hgo
                      rw [h0, txM_len]
                      simp
                      exact h
                  change (m = 0 ∨ m ≤ 64 ∧ k + 1 ≤ 16 ∧ j ≤ 8 → ∃ d rs, rs.length = m ∧ prs (txM k j m) = .ok (d, rs)) ∧ (¬ m = 0 ∧ (64 < m ∨ 16 < k + 1 ∨ 8 < j) → ∃ p, prs (txM k j m) = .error (4, p)) at hpm
                  have HBT : Hid ((bar (txM k j m)).size = 12 + m * ((oneB k j).length + 1)) := by show _ = _; rw [hbt, htl]
                  have HOL : Hid ((bar (oneB k j)).size = (oneB k j).length) := hbo
                  have hbs : (bar (txM k j m)).size ≤ 8192 := by omega
                  generalize bar (txM k j m) = BT at *
                  generalize prs (txM k j m) = PR at *
                  generalize (oneB k j).length = L at *
                  generalize bar (oneB k j) = BO at *
                  clear hbt htl hbo hL hgo hml
                  by_cases hR0 : 0 < R
                  · have r0 : decide ((0 : Int) < (R : Int)) = true := by simp; omega
                    have r0' : (0 : Int) < (R : Int) := by omega
                    have hmz : ¬ m = 0 := by intro h; have := hm0 h; omega
                    by_cases hn16 : 16 < k + 1
                    · have r1 : decide (16 < N) = true := by rw [HN.out]; simp; omega
                      obtain ⟨p, rfl⟩ := hpm.2 ⟨hmz, .inr (.inl hn16)⟩
                      clear hpm hm0 hmz hn16 hR0 hm HBT HOL
                      go_wp2_with fail
                      refine (HP.out _ V1.out).mono ?_
                      rintro e w2 ⟨b2, rfl⟩
                      go_wp2_with fail
                      go_ret
                      exact ⟨rfl, (b1.trans (b2.mono b1.size)).alloc (Nat.le_trans b1.size b2.size) _⟩
                    · have r1 : decide (16 < N) = false := by rw [HN.out]; simp; omega
                      by_cases hc8 : 8 < j
                      · have r2 : decide ((8 : Int) < (j : Int)) = true := by simp; omega
                        obtain ⟨p, rfl⟩ := hpm.2 ⟨hmz, .inr (.inr hc8)⟩
                        clear hpm hm0 hmz hn16 hR0 hc8 hm HBT HOL
                        go_wp2_with fail
                        refine (HP.out _ V1.out).mono ?_
                        rintro e w2 ⟨b2, rfl⟩
                        go_wp2_with fail
                        go_ret
                        exact ⟨rfl, (b1.trans (b2.mono b1.size)).alloc (Nat.le_trans b1.size b2.size) _⟩
                      · have r2 : decide ((8 : Int) < (j : Int)) = false := by simp; omega
                        by_cases h64 : 64 < m
                        · obtain ⟨p, rfl⟩ := hpm.2 ⟨hmz, .inl h64⟩
                          have r3 : decide ((64 : Int) < (m : Int)) = true := by simp; omega
                          clear hpm hm0 hmz hn16 hR0 hc8 h64
                          go_wp2_with fail
                          refine (HP.out _ V1.out).mono ?_
                          rintro e w2 ⟨b2, rfl⟩
                          have B2 : Hid (Below w.heap.size w (w2.alloc (Obj.cells #[.int .i64 0, .int .i64 0, .slice none 0 0] 27))) := (b1.trans (b2.mono b1.size)).alloc (Nat.le_trans b1.size b2.size) _
                          clear b2
                          go_wp2_with fail
                          go_loop [16, 17] (fun vm va => ∃ q : Nat, vm = .int .i64 q ∧ va = .int .i64 ((12 + q * (L + 1) : Nat) : Int) ∧ q ≤ m) (fun vm _ => m - (intOf vm).toNat)
                          case atStart => exact ⟨0, rfl, by simp, Nat.zero_le _⟩
                          case round =>
                            obtain ⟨q, rfl, rfl, hq⟩ := hrel
                            by_cases hqm : q < m
                            · have hA : 12 + q * (L + 1) < BT.size ∧ 12 + (q + 1) * (L + 1) ≤ BT.size := by
                                rw [HBT.out]
                                have h1 := Nat.mul_le_mul_right (L + 1) (Nat.succ_le_of_lt hqm)
                                have h2 : (q + 1) * (L + 1) = q * (L + 1) + (L + 1) := Nat.succ_mul q (L + 1)
                                rw [Nat.succ_eq_add_one] at h1
                                constructor <;> omega
                              have HS : Hid (12 + (q + 1) * (L + 1) = 12 + q * (L + 1) + L + 1) := by show _ = _; rw [Nat.succ_mul]; omega
                              have HQ : Hid (q + 1 ≤ m) := hqm
                              generalize 12 + q * (L + 1) = A at *
                              have hA1 : (A : Int) < (BT.size : Int) := by omega
                              have hA2 : (A : Int) ≤ 8192 := by omega
                              have hq2 : (q : Int) ≤ 100000 := by omega
                              clear hA hq hqm
                              go_wp2
                              go_round
                              case rel => exact ⟨q + 1, by go_num, by rw [HS.out, ← HOL.out]; (try go_num), HQ.out⟩
                              case measure => have := HQ.out; simp [intOf]; omega
                            · obtain rfl : q = m := by omega
                              have hA : 12 + q * (L + 1) = BT.size := HBT.out.symm
                              rw [hA]
                              have hge : ¬ (BT.size : Int) < (BT.size : Int) := by omega
                              clear hA hq hqm
                              go_wp2_with fail
                              go_ret
                              exact ⟨rfl, B2.out⟩
                        · obtain ⟨d, rs, hrl, rfl⟩ := hpm.1 (.inr ⟨by omega, by omega, by omega⟩)
                          have r3 : decide ((64 : Int) < (m : Int)) = false := decide_eq_false (by omega)
                          clear hpm hm0 hmz hn16 hR0 hc8 h64
                          go_wp2_with fail
                          refine (HP.out _ V1.out).mono ?_
                          rintro e w2 ⟨b2, v2, rv, hr, rfl, hV⟩
                          have hlv : rv.length = m := by have := congrArg List.length hr; simp at this; omega
                          obtain ⟨pa, ca, rfl⟩ : ∃ a c, v2 = .slice a m c := by obtain ⟨a, c, e, _⟩ := hV; exact ⟨a, c, by rw [← hlv]; exact e⟩
                          have B2 : Hid (Below w.heap.size w (w2.alloc (Obj.cells #[.int .i64 d.k, .int .i64 d.a, .slice pa m ca] 27))) := (b1.trans (b2.mono b1.size)).alloc (Nat.le_trans b1.size b2.size) _
                          clear b2 hV hr hrl hlv
                          go_wp2_with fail
                          go_loop [16, 17] (fun vm va => ∃ q : Nat, vm = .int .i64 q ∧ va = .int .i64 ((12 + q * (L + 1) : Nat) : Int) ∧ q ≤ m) (fun vm _ => m - (intOf vm).toNat)
                          case atStart => exact ⟨0, rfl, by simp, Nat.zero_le _⟩
                          case round =>
                            obtain ⟨q, rfl, rfl, hq⟩ := hrel
                            by_cases hqm : q < m
                            · have hA : 12 + q * (L + 1) < BT.size ∧ 12 + (q + 1) * (L + 1) ≤ BT.size := by
                                rw [HBT.out]
                                have h1 := Nat.mul_le_mul_right (L + 1) (Nat.succ_le_of_lt hqm)
                                have h2 : (q + 1) * (L + 1) = q * (L + 1) + (L + 1) := Nat.succ_mul q (L + 1)
                                rw [Nat.succ_eq_add_one] at h1
                                constructor <;> omega
                              have HS : Hid (12 + (q + 1) * (L + 1) = 12 + q * (L + 1) + L + 1) := by show _ = _; rw [Nat.succ_mul]; omega
                              have HQ : Hid (q + 1 ≤ m) := hqm
                              generalize 12 + q * (L + 1) = A at *
                              have hA1 : (A : Int) < (BT.size : Int) := by omega
                              have hA2 : (A : Int) ≤ 8192 := by omega
                              have hq2 : (q : Int) ≤ 100000 := by omega
                              clear hA hq hqm
                              go_wp2
                              go_round
                              case rel => exact ⟨q + 1, by go_num, by rw [HS.out, ← HOL.out]; (try go_num), HQ.out⟩
                              case measure => have := HQ.out; simp [intOf]; omega
                            · obtain rfl : q = m := by omega
                              have hA : 12 + q * (L + 1) = BT.size := HBT.out.symm
                              rw [hA]
                              have hge : ¬ (BT.size : Int) < (BT.size : Int) := by omega
                              clear hA hq hqm
                              go_wp2_with fail
                              go_ret
                              exact ⟨rfl, B2.out⟩
                  · have r0 : decide ((0 : Int) < (R : Int)) = false := by simp; omega
                    have r0' : ¬ (0 : Int) < (R : Int) := by omega
                    have hmz : m = 0 := by omega
                    obtain ⟨d, rs, hrl, rfl⟩ := hpm.1 (.inl hmz)
                    have r3 : decide ((64 : Int) < (m : Int)) = false := decide_eq_false (by omega)
                    clear hpm hm0 hmz hR0
                    go_wp2_with fail
                    refine (HP.out _ V1.out).mono ?_
                    rintro e w2 ⟨b2, v2, rv, hr, rfl, hV⟩
                    have hlv : rv.length = m := by have := congrArg List.length hr; simp at this; omega
                    obtain ⟨pa, ca, rfl⟩ : ∃ a c, v2 = .slice a m c := by obtain ⟨a, c, e, _⟩ := hV; exact ⟨a, c, by rw [← hlv]; exact e⟩
                    have B2 : Hid (Below w.heap.size w (w2.alloc (Obj.cells #[.int .i64 d.k, .int .i64 d.a, .slice pa m ca] 27))) := (b1.trans (b2.mono b1.size)).alloc (Nat.le_trans b1.size b2.size) _
                    clear b2 hV hr hrl hlv
                    go_wp2_with fail
                    go_loop [16, 17] (fun vm va => ∃ q : Nat, vm = .int .i64 q ∧ va = .int .i64 ((12 + q * (L + 1) : Nat) : Int) ∧ q ≤ m) (fun vm _ => m - (intOf vm).toNat)
                    case atStart => exact ⟨0, rfl, by simp, Nat.zero_le _⟩
                    case round =>
                      obtain ⟨q, rfl, rfl, hq⟩ := hrel
                      by_cases hqm : q < m
                      · have hA : 12 + q * (L + 1) < BT.size ∧ 12 + (q + 1) * (L + 1) ≤ BT.size := by
                          rw [HBT.out]
                          have h1 := Nat.mul_le_mul_right (L + 1) (Nat.succ_le_of_lt hqm)
                          have h2 : (q + 1) * (L + 1) = q * (L + 1) + (L + 1) := Nat.succ_mul q (L + 1)
                          rw [Nat.succ_eq_add_one] at h1
                          constructor <;> omega
                        have HS : Hid (12 + (q + 1) * (L + 1) = 12 + q * (L + 1) + L + 1) := by show _ = _; rw [Nat.succ_mul]; omega
                        have HQ : Hid (q + 1 ≤ m) := hqm
                        generalize 12 + q * (L + 1) = A at *
                        have hA1 : (A : Int) < (BT.size : Int) := by omega
                        have hA2 : (A : Int) ≤ 8192 := by omega
                        have hq2 : (q : Int) ≤ 100000 := by omega
                        clear hA hq hqm
                        go_wp2
                        go_round
                        case rel => exact ⟨q + 1, by go_num, by rw [HS.out, ← HOL.out]; (try go_num), HQ.out⟩
                        case measure => have := HQ.out; simp [intOf]; omega
                      · obtain rfl : q = m := by omega
                        have hA : 12 + q * (L + 1) = BT.size := HBT.out.symm
                        rw [hA]
                        have hge : ¬ (BT.size : Int) < (BT.size : Int) := by omega
                        clear hA hq hqm
                        go_wp2_with fail
                        go_ret
                        exact ⟨rfl, B2.out⟩

theorem parseMany_walk (a b c : Int) (w : World) (hv : Vars w) :
    Calls Tryd.prog 8 #[.int .i64 a, .int .i64 b, .int .i64 c] w fun e w' => e = .returned (.bool true) ∧ Below w.heap.size w w' := by
  by_cases h : a < 0 ∨ 70 < a ∨ b < 1 ∨ 20 < b ∨ c < 0 ∨ 12 < c
  · exact parseMany_out a b c w hv h
  · obtain ⟨R, rfl⟩ := Int.eq_ofNat_of_zero_le (show 0 ≤ a by omega)
    obtain ⟨n, hn⟩ := Int.eq_ofNat_of_zero_le (show 0 ≤ b - 1 by omega)
    obtain ⟨C, rfl⟩ := Int.eq_ofNat_of_zero_le (show 0 ≤ c by omega)
    obtain rfl : b = ((n + 1 : Nat) : Int) := by push_cast; omega
    exact parseMany_in R n C (by omega) (by omega) (by omega) w hv

end Go.Proofs.YtdjjlccpmfhkiaaDoor
