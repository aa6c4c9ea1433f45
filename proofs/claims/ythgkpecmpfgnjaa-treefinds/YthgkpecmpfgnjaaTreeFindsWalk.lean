/-
  The law TreeFinds, walked: true for every list and number.
-/
import Derived.Test.YthgkpecmpfgnjaaAwake
import Derived.Test.YthgkpecmpfgnjaaDeep
namespace Go.Proofs.Ythgkpecmpfgnjaa
open Go.RowKit

set_option maxHeartbeats 2000000 in
theorem treeFinds_walk (a : Option Addr) (len cap : Nat) (l : List Int) (n : Int) (w : World) (h : Ns .u32 w a len l) :
    Calls Try.prog 6 #[.slice a len cap, .int .u32 n] w fun e w' => e = .returned (.bool true) ∧ Below w.heap.size w w' := by
  have hll := h.1
  have HB : Hid (∀ W : World, Below w.heap.size w W → Calls Try.prog 10 #[.slice a len cap] W fun e w' => Bld W w' e (bMids l) (bErr l)) := fun W hb => build_any a len cap l W (h.below hb)
  have HP : Hid (∀ W : World, Below w.heap.size w W → Calls Try.prog 13 #[.slice a len cap, .int .u32 n] W fun e w' => Told W w' e (pMids l n)) := fun W hb => path_any a len cap l n W (h.below hb)
  by_cases h0 : len = 0
  · have e1 : pMids l n = [] := by unfold pMids; rw [if_pos (by omega)]
    rw [e1] at HP
    generalize bMids l = ms at *
    generalize bErr l = er at *
    subst h0
    clear h e1 hll
    go_enter Try.func6, Try.ntmps6
    go_wp2_with (first
      | (go_at_call 9; refine (awake_any _).mono ?_; rintro e w1 ⟨rfl, hb1⟩)
      | (go_at_call 10; refine (HB.out _ hb1).mono ?_; rintro e w2 ⟨hb2, v2, rfl, ho2⟩; obtain ⟨a2, c2, rfl, n2⟩ := owns_ns ho2; have hB2 := hb1.trans (hb2.mono hb1.size))
      | (go_at_call 13; refine (HP.out _ hB2).mono ?_; rintro e w3 ⟨hb3, v3, rfl, ho3⟩; obtain ⟨a3, c3, rfl, n3⟩ := owns_ns ho3; have hB3 := hB2.trans (hb3.mono hB2.size)))
    go_ret
    exact ⟨ret_bool (by simp), hB3⟩
  · have hl0 : ((len : Int) == 0) = false := by simp; omega
    by_cases hE : bErr l = 0
    · have hbz := bErr_zero hE
      have e1 : pMids l n = pathF l n 0 len := by unfold pMids; rw [if_neg (by omega), if_pos hE, hll]
      obtain ⟨q, p, e2, e3⟩ := path_ends (l := l) (n := n) hbz.2 (by omega)
      have e4 := pathF_len l n (deepZ len) 0 len (by have := deepZ_pow len (by omega); omega)
      rw [hll] at e2 e3
      have HD : Hid (∀ W : World, Calls Try.prog 15 #[.int .i64 (len : Int)] W fun e w' => e = .returned (.int .i64 (deepZ len : Nat)) ∧ w' = W) := fun W => deep_any len W (by omega) (by omega)
      have hdz : deepZ len ≤ 62 := deepZ_le _
      rw [e1, e2] at HP
      rw [hE] at HB
      rw [e2, List.length_append, List.length_singleton] at e4
      generalize deepZ len = dz at *
      generalize bMids l = ms at *
      have HW : Hid (wantF l n len = p) := e3
      have HQ : Hid (q.length ≤ dz) := by unfold Hid; omega
      have h4 : (len : Int) ≤ 4096 := by omega
      have HDZ : Hid (dz ≤ 62) := hdz
      clear e1 e2 e3 e4 hE hbz h0 hdz
      go_enter Try.func6, Try.ntmps6
      go_wp2_with (first
        | (go_at_call 9; refine (awake_any _).mono ?_; rintro e w1 ⟨rfl, hb1⟩)
        | (go_at_call 10; refine (HB.out _ hb1).mono ?_; rintro e w2 ⟨hb2, v2, rfl, ho2⟩; obtain ⟨a2, c2, rfl, n2⟩ := owns_ns ho2; have hB2 := hb1.trans (hb2.mono hb1.size))
        | (go_at_call 13; refine (HP.out _ hB2).mono ?_; rintro e w3 ⟨hb3, v3, rfl, ho3⟩; obtain ⟨a3, c3, rfl, n3⟩ := owns_ns ho3; have hB3 := hB2.trans (hb3.mono hB2.size)))
      go_loopw [9, 10] (fun v i wr => ∃ k : Nat, k ≤ len ∧ i = .int .i64 k ∧ v = .int .i64 (wantF l n k : Nat) ∧ wr = w3) (fun _ i _ => len - (intOf i).toNat)
      case atStart => exact ⟨0, Nat.zero_le _, rfl, rfl, rfl⟩
      case round =>
        obtain ⟨k, hk, rfl, rfl, rfl⟩ := hrel
        by_cases hlt : k < len
        · obtain ⟨b, off, rfl, hc⟩ := (h.below hB3).2 (by omega)
          have q1 := hc k hlt
          have HN : Hid (wantF l n (k + 1) = if l.getD k 0 ≤ n then k else wantF l n k) := rfl
          clear hc h
          generalize l.getD k 0 = z at *
          generalize wantF l n k = wk at *
          have hi1 : (k : Int) < (len : Int) := by omega
          by_cases hz : z ≤ n
          · have HN2 : Hid (wantF l n (k + 1) = k) := by unfold Hid; rw [HN.out, if_pos hz]
            clear HN
            go_wp2_with fail
            go_roundw
            case rel => exact ⟨k + 1, by omega, by go_num, by rw [HN2.out], trivial⟩
            case measure => simp [intOf]; omega
          · have HN2 : Hid (wantF l n (k + 1) = wk) := by unfold Hid; rw [HN.out, if_neg hz]
            have hz' : n < z := by omega
            clear HN
            go_wp2_with fail
            go_roundw
            case rel => exact ⟨k + 1, by omega, by go_num, by rw [HN2.out], trivial⟩
            case measure => simp [intOf]; omega
        · have hk2 : k = len := by omega
          have hge : ¬ (k : Int) < (len : Int) := by omega
          have hw2 : wantF l n k = p := by rw [hk2]; exact HW.out
          rw [hw2]
          clear hk2 hw2 hlt
          have hlen : (q ++ [p]).length = q.length + 1 := by simp
          rw [hlen] at n3
          obtain ⟨b, off, rfl, hc⟩ := n3.2 (by omega)
          have q1 := hc q.length (by omega)
          rw [ints_get, show (q ++ [p]).getD q.length 0 = p from by simp] at q1
          have hq1 : ((q.length + 1 : Nat) : Int) - 1 = (q.length : Int) := by omega
          have hq2 : ((q.length + 1 : Nat) : Int) ≤ (dz : Int) + 1 := by have := HQ.out; omega
          have hq3 : (1 : Int) ≤ ((q.length + 1 : Nat) : Int) := by omega
          have hr1 : (q.length : Int) ≤ 62 := by have := HQ.out; have := HDZ.out; omega
          have hr2 : (q.length : Int) < ((q.length + 1 : Nat) : Int) := by omega
          have hdz' : (dz : Int) ≤ 62 := by have := HDZ.out; omega
          clear hc ho3 hlen n3
          generalize q.length + 1 = m at *
          generalize q.length = r at *
          go_wp2_with (go_at_call 15; refine (HD.out _).mono ?_; rintro e w5 ⟨rfl, hw5⟩; subst w5)
          go_ret
          exact ⟨ret_bool (by simp), hB3⟩
    · have e1 : pMids l n = [] := by unfold pMids; rw [if_neg (by omega), if_neg hE]
      have he0 : (bErr l == 0) = false := by simp; exact hE
      rw [e1] at HP
      generalize bMids l = ms at *
      generalize bErr l = er at *
      clear h e1 hll
      go_enter Try.func6, Try.ntmps6
      go_wp2_with (first
        | (go_at_call 9; refine (awake_any _).mono ?_; rintro e w1 ⟨rfl, hb1⟩)
        | (go_at_call 10; refine (HB.out _ hb1).mono ?_; rintro e w2 ⟨hb2, v2, rfl, ho2⟩; obtain ⟨a2, c2, rfl, n2⟩ := owns_ns ho2; have hB2 := hb1.trans (hb2.mono hb1.size))
        | (go_at_call 13; refine (HP.out _ hB2).mono ?_; rintro e w3 ⟨hb3, v3, rfl, ho3⟩; obtain ⟨a3, c3, rfl, n3⟩ := owns_ns ho3; have hB3 := hB2.trans (hb3.mono hB2.size)))
      go_ret
      exact ⟨ret_bool (by simp), hB3⟩

end Go.Proofs.Ythgkpecmpfgnjaa
