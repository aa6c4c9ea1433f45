/-
  The statements' own test: a text of five tokens; the laws LexReads and LexWords, walked.
-/
import Derived.Test.YtbdhlbigcepglaaDoorRefAll
namespace Go.Proofs.YtbdhlbigcepglaaDoor
open Go.RowKit

def awk : ByteArray := ⟨#[97, 114, 103, 48, 32, 38, 32, 48, 120, 49, 48, 32, 61, 61, 32, 53]⟩
def awkT : List Tok := [⟨1, 0, [97, 114, 103, 48], 0⟩, ⟨3, 5, [38], 0⟩, ⟨2, 7, [48, 120, 49, 48], 16⟩, ⟨3, 12, [61, 61], 0⟩, ⟨2, 15, [53], 5⟩, ⟨4, 16, [], 0⟩]

theorem awk_all : all (lst awk) = .ok awkT := by kernel_rfl
theorem awk_is : isWd (lst ⟨#[97, 95, 49]⟩) = true := by kernel_rfl

set_option maxHeartbeats 2000000 in
theorem awake_any (w : World) (hv : Vars w) : Calls Tryd.prog 9 #[] w fun e w' => e = .returned (.bool true) ∧ Below w.heap.size w w' := by
  have HA : Hid (Calls Tryd.prog 10 #[.string ⟨#[97, 114, 103, 48, 32, 38, 32, 48, 120, 49, 48, 32, 61, 61, 32, 53]⟩] w fun e w' => Below w.heap.size w w' ∧ ∃ a cap, e = .returned (.tuple #[.slice a 6 cap, .int .i64 0, .int .i64 (-1)]) ∧ Toks w' a 6 awkT) := by
    refine (all_any awk w hv).mono ?_
    rintro e w' ⟨hb, ht⟩
    rw [awk_all] at ht
    obtain ⟨v, rfl, ho⟩ := ht
    obtain ⟨a, cap, rfl, hT⟩ := owns_toks ho
    exact ⟨hb, a, cap, rfl, hT⟩
  have HI : Hid (∀ W : World, Calls Tryd.prog 13 #[.string ⟨#[97, 95, 49]⟩] W fun e w' => e = .returned (.bool true) ∧ Below W.heap.size W w') := by
    intro W
    have := is_any ⟨#[97, 95, 49]⟩ W
    rw [awk_is] at this
    exact this
  clear hv
  go_enter Tryd.func9, Tryd.ntmps9
  go_wp2_with (first | (go_at_call 10; refine HA.out.mono ?_; rintro e w1 ⟨b1, a, cap, rfl, hT⟩; obtain ⟨g, rfl, hc⟩ := hT.2 (by decide); have c2 : w1.cell? ⟨g, 11, none⟩ = some (.int .u64 16) := (hc 2 ⟨2, 7, [48, 120, 49, 48], 16⟩ rfl).2.2.2; have c5 : w1.cell? ⟨g, 21, none⟩ = some (.int .i64 16) := (hc 5 ⟨4, 16, [], 0⟩ rfl).2.1; clear hc hT) | (go_at_call 13; refine (HI.out _).mono ?_; rintro e w2 ⟨rfl, b2⟩))
  go_ret
  exact ⟨rfl, b1.trans (b2.mono b1.size)⟩

theorem glue_ok {a : List Tok} {r : (Except (Nat × Nat) (List Tok))} {ts : List Tok} (h : glue a r = .ok ts) : ∃ t, r = .ok t ∧ ts = a ++ t := by
  cases r with
  | error e => cases h
  | ok t => cases h; exact ⟨t, rfl, rfl⟩

theorem go_len : ∀ (l : (List UInt8)) (k p : Nat) (ts : List Tok), go k p l = .ok ts → ts.length ≤ l.length + 1 := by
  intro l
  induction l with
  | nil => intro k p ts h; cases h; simp
  | cons c r ih =>
    intro k p ts h
    unfold go at h
    split at h
    · have := ih _ _ _ h; simp; omega
    · split at h
      · have := ih _ _ _ h; simp; omega
      · split at h
        · have := ih _ _ _ h; simp; omega
        · split at h
          · cases h
          · obtain ⟨t, h1, rfl⟩ := glue_ok h
            have := ih _ _ _ h1
            simp
            omega

theorem all_len {l : (List UInt8)} {ts : List Tok} (h : all l = .ok ts) : ts.length ≤ 8193 := by
  unfold all at h
  split at h
  · cases h
  · have := go_len _ _ _ _ h
    omega

set_option maxHeartbeats 2000000 in
theorem lexReads_walk (s : ByteArray) (w : World) (hv : Vars w) :
    Calls Tryd.prog 3 #[.string s] w fun e w' => e = .returned (.bool true) ∧ Below w.heap.size w w' := by
  have HV : Hid (Vars w) := hv
  have HA : Hid (∀ W, Vars W → Calls Tryd.prog 10 #[.string s] W fun e w' => Below W.heap.size W w' ∧ Told W.heap.size (all (lst s)) e w') := fun W h => all_any s W h
  have HR : Hid (∀ W, Calls Tryd.prog 11 #[.string s] W fun e w' => Below W.heap.size W w' ∧ Told W.heap.size (all (lst s)) e w') := fun W => refAll_any s W
  have HL := @all_len (lst s)
  clear hv
  by_cases hlong : 9000 < s.size
  · have h1 : decide ((9000 : Int) < s.size) = true := by simp; omega
    go_enter Tryd.func3, Tryd.ntmps3
    go_wp2_with (go_at_call 9; refine (awake_any _ HV.out).mono ?_; rintro e w1 ⟨rfl, b1⟩)
    go_ret
    exact ⟨rfl, b1⟩
  · have h1 : decide ((9000 : Int) < s.size) = false := by simp; omega
    generalize all (lst s) = R at *
    obtain ⟨c, p⟩ | ts := R
    · have HS : Hid (∀ W : World, Calls Tryd.prog 12 #[.slice none 0 0, .slice none 0 0] W fun e w' => e = .returned (.bool true) ∧ Below W.heap.size W w') := fun W => same_any none none 0 0 0 [] W ⟨rfl, fun h => absurd h (by omega)⟩ ⟨rfl, fun h => absurd h (by omega)⟩ (by omega)
      clear HL
      go_enter Tryd.func3, Tryd.ntmps3
      go_wp2_with (first | (go_at_call 9; refine (awake_any _ HV.out).mono ?_; rintro e w1 ⟨rfl, b1⟩; have V1 : Hid (Vars w1) := HV.out.below b1) | (go_at_call 10; refine (HA.out _ V1.out).mono ?_; rintro e w2 ⟨b2, rfl⟩) | (go_at_call 11; refine (HR.out _).mono ?_; rintro e w3 ⟨b3, rfl⟩) | (go_at_call 12; refine (HS.out _).mono ?_; rintro e w4 ⟨rfl, b4⟩))
      go_ret
      have b12 := b1.trans (b2.mono b1.size)
      have b13 := b12.trans (b3.mono b12.size)
      exact ⟨by simp, b13.trans (b4.mono b13.size)⟩
    · have hlen : ts.length ≤ 8193 := HL rfl
      have HLN : Hid (ts.length ≤ 100000000) := by show _ ≤ _; omega
      clear HL hlen
      go_enter Tryd.func3, Tryd.ntmps3
      go_wp2_with (first | (go_at_call 9; refine (awake_any _ HV.out).mono ?_; rintro e w1 ⟨rfl, b1⟩; have V1 : Hid (Vars w1) := HV.out.below b1) | (go_at_call 10; refine (HA.out _ V1.out).mono ?_; rintro e w2 ⟨b2, v, rfl, ho⟩; obtain ⟨a, ca, rfl, hT⟩ := owns_toks ho; have T1 : Hid (Toks w2 a ts.length ts) := hT; clear ho hT) | (go_at_call 11; refine (HR.out _).mono ?_; rintro e w3 ⟨b3, v, rfl, ho⟩; obtain ⟨b, cb, rfl, hT⟩ := owns_toks ho; have T2 : Hid (Toks w3 b ts.length ts) := hT; have T3 : Hid (Toks w3 a ts.length ts) := T1.out.below b3; clear ho hT) | (go_at_call 12; refine (same_any a b ts.length ca cb ts _ T3.out T2.out HLN.out).mono ?_; rintro e w4 ⟨rfl, b4⟩))
      go_ret
      have b12 := b1.trans (b2.mono b1.size)
      have b13 := b12.trans (b3.mono b12.size)
      exact ⟨rfl, b13.trans (b4.mono b13.size)⟩

set_option maxHeartbeats 2000000 in
theorem lexWords_walk (s : ByteArray) (w : World) (hv : Vars w) :
    Calls Tryd.prog 4 #[.string s] w fun e w' => e = .returned (.bool true) ∧ Below w.heap.size w w' := by
  have HV : Hid (Vars w) := hv
  clear hv
  by_cases hlong : 9000 < s.size
  · have h1 : decide ((9000 : Int) < s.size) = true := by simp; omega
    go_enter Tryd.func4, Tryd.ntmps4
    go_wp2_with (go_at_call 9; refine (awake_any _ HV.out).mono ?_; rintro e w1 ⟨rfl, b1⟩)
    go_ret
    exact ⟨rfl, b1⟩
  · have h1 : decide ((9000 : Int) < s.size) = false := by simp; omega
    have HA : Hid (∀ W, Calls Tryd.prog 13 #[.string s] W fun e w' => e = .returned (.bool (isWd (lst s))) ∧ Below W.heap.size W w') := fun W => is_any s W
    have HR : Hid (∀ W, Calls Tryd.prog 14 #[.string s] W fun e w' => e = .returned (.bool (isWd (lst s))) ∧ Below W.heap.size W w') := fun W => refIs_any s W (by omega)
    generalize isWd (lst s) = R at *
    go_enter Tryd.func4, Tryd.ntmps4
    go_wp2_with (first | (go_at_call 9; refine (awake_any _ HV.out).mono ?_; rintro e w1 ⟨rfl, b1⟩) | (go_at_call 13; refine (HA.out _).mono ?_; rintro e w2 ⟨rfl, b2⟩) | (go_at_call 14; refine (HR.out _).mono ?_; rintro e w3 ⟨rfl, b3⟩))
    go_ret
    have b12 := b1.trans (b2.mono b1.size)
    exact ⟨by cases R <;> rfl, b12.trans (b3.mono b12.size)⟩

end Go.Proofs.YtbdhlbigcepglaaDoor
