/-
  Whether a part is halved, and where; whether a list rises; whether two rows are the same.
-/
import Derived.Test.YtcckipimfgmmdaaGreatDoorTMem
namespace Go.Proofs.YtcckipimfgmmdaaGreatDoor.T
open Go.RowKit

theorem halved_any (a b : Nat) (w : World) (h : a ≤ b) (hb : b ≤ 1000000) :
    Calls Tryz.prog 90 #[.int .i64 a, .int .i64 b] w fun e w' => e = .returned (.bool (decide (2 ≤ b - a))) ∧ w' = w := by
  go_enter Tryz.func90, Tryz.ntmps90
  go_wp2
  go_ret
  exact ⟨ret_bool (by rw [decide_eq_decide]; omega), rfl⟩

theorem middle_any (a b : Nat) (w : World) (h : a ≤ b) (hb : b ≤ 1000000) :
    Calls Tryz.prog 91 #[.int .i64 a, .int .i64 b] w fun e w' => e = .returned (.int .i64 (mid a b : Nat)) ∧ w' = w := by
  go_enter Tryz.func91, Tryz.ntmps91
  go_wp2
  go_ret
  exact ⟨ret_int (by unfold mid; omega), rfl⟩

/-- rising so far. -/
def Rs (l : List Int) (k : Nat) : Prop := ∀ j, j + 1 < k → l.getD j 0 < l.getD (j + 1) 0
theorem Rs.yes {l : List Int} (h : Rs l l.length) : rises l = true := decide_eq_true fun i hi => h i (by omega)
theorem Rs.no {l : List Int} {m : Nat} (h : m + 1 < l.length) (hle : l.getD (m + 1) 0 ≤ l.getD m 0) : rises l = false := decide_eq_false fun hh => by have := hh m (by omega); omega
theorem Rs.on {l : List Int} {m : Nat} (h : Rs l (m + 1)) (hlt : ¬ l.getD (m + 1) 0 ≤ l.getD m 0) : Rs l (m + 2) := by
  intro j hj
  by_cases e : j = m
  · subst e; omega
  · exact h j (by omega)
theorem Rs.one (l : List Int) : Rs l 1 := fun j hj => by omega

set_option maxHeartbeats 1000000 in
theorem wrong_any (a : Option Addr) (len cap : Nat) (l : List Int) (w : World) (h : Ns .u32 w a len l) :
    Calls Tryz.prog 88 #[.slice a len cap] w fun e w' => e = .returned (.int .i64 (bErr l)) ∧ Below w.heap.size w w' := by
  have hll := h.1
  by_cases h4 : 4096 < len
  · have e1 : bErr l = 4 := by unfold bErr; rw [if_pos (by omega)]
    rw [e1]
    have h4' : (4096 : Int) < (len : Int) := by omega
    clear e1 hll h
    go_enter Tryz.func88, Tryz.ntmps88
    go_wp2
    go_ret
    exact ⟨rfl, Below.refl _ _⟩
  · have HE : Hid (bErr l = if rises l = true then 0 else 1) := by unfold Hid bErr; rw [if_neg (by omega)]
    generalize bErr l = er at *
    have h4' : (len : Int) ≤ 4096 := by omega
    go_enter Tryz.func88, Tryz.ntmps88
    go_wp2
    go_loopw [3] (fun i wr => ∃ m : Nat, (m = 0 ∨ m + 1 ≤ len) ∧ i = .int .i64 (m + 1 : Nat) ∧ Rs l (m + 1) ∧ Below w.heap.size w wr) (fun i _ => len - (intOf i).toNat)
    case atStart => exact ⟨0, .inl rfl, rfl, Rs.one l, Below.refl _ _⟩
    case round =>
      obtain ⟨m, hm, rfl, hrs, hbr⟩ := hrel
      have HM : Hid (m = 0 ∨ m + 1 ≤ len) := hm
      have HR : Hid (Rs l (m + 1)) := hrs
      clear hm hrs
      by_cases hlt : m + 1 < len
      · obtain ⟨b, off, rfl, hc⟩ := (h.below hbr).2 (by omega)
        have q1 := hc (m + 1) hlt
        have q0 := hc m (by omega)
        have HL : Hid (Ns .u32 w (some ⟨b, off, none⟩) len l) := h
        clear hc h
        generalize hk : m + 1 = k at *
        have e1 : IntKind.i64.wrap ((k : Int) - 1) = (m : Int) := by rw [IntKind.wrap_i64]; omega
        have HK : Hid (m + 1 = k) := hk
        clear hk
        have hi1 : (k : Int) < (len : Int) := by omega
        have hm1 : (m : Int) < (len : Int) := by have := HK.out; omega
        have HZ : Hid (∀ x y : Int, l.getD k 0 = x → l.getD m 0 = y → if x ≤ y then er = 1 else Rs l (k + 1)) := by
          intro x y hx hy
          have hk := HK.out
          subst hk
          subst hx hy
          split
          · rw [HE.out, Rs.no (m := m) (by omega) (by assumption)]; rfl
          · exact HR.out.on (by assumption)
        have hz := HZ.out _ _ rfl rfl
        clear HZ HR HE hll
        generalize l.getD k 0 = x at *
        generalize l.getD m 0 = y at *
        by_cases hxy : x ≤ y
        · rw [if_pos hxy] at hz
          subst hz
          go_wp2_with fail
          go_quiet (fail)
          go_wp2
          go_ret
          exact ⟨rfl, below_drewN hbr _⟩
        · rw [if_neg hxy] at hz
          have HX : Hid (Rs l (k + 1)) := hz
          clear hz
          have hxy' : y < x := by omega
          go_wp2_with fail
          go_quiet (fail)
          go_wp2
          go_roundw
          case rel => exact ⟨k, .inr (by omega), by go_num, HX.out, below_drewN hbr _⟩
          case measure => simp [intOf]; omega
      · have hge : ¬ ((m + 1 : Nat) : Int) < (len : Int) := by omega
        have e2 : er = 0 := by
          rw [HE.out, Rs.yes (l := l) (by
            rcases HM.out with h0 | h0
            · intro j hj; omega
            · rw [show l.length = m + 1 from by omega]; exact HR.out)]
          rfl
        subst e2
        generalize m + 1 = k at *
        go_wp2
        go_ret
        exact ⟨rfl, hbr⟩

end Go.Proofs.YtcckipimfgmmdaaGreatDoor.T
