/-
  Which calls are known: the law's walk.
-/
import Derived.Test.YtimclfdecdappaaRNrs
import Derived.Test.YtimclfdecdappaaAwake
namespace Go.Proofs.Ytimclfdecdappaa
open Go.RowKit

set_option maxRecDepth 8000 in
set_option maxHeartbeats 2000000 in
theorem names_walk (s : ByteArray) (z : Int) (w : World) : Calls Try.prog 3 #[.string s, .int .u32 z] w fun e w' => e = .returned (.bool true) ∧ Below w.heap.size w w' := by
  have HA : Hid (∀ W, Calls Try.prog 9 #[] W fun e w' => e = .returned (.bool true) ∧ Below W.heap.size W w') := awake_any
  by_cases hl : 1000 < s.size
  · have hd : 1000 < (s.size : Int) := by omega
    go_enter Try.func3, Try.ntmps3
    go_wp2_with (go_at_call 9; refine (HA.out _).mono ?_; rintro e w1 ⟨rfl, b1⟩)
    go_ret
    exact ⟨rfl, b1⟩
  · have hd : ¬ 1000 < (s.size : Int) := by omega
    have H1 : Hid (∀ W, Calls Try.prog 10 #[.string s] W fun e w' => e = .returned (.tuple #[.int .u32 (nrI s), .bool (knB s)]) ∧ Below W.heap.size W w') := nr_any s
    have H2 : Hid (∀ W, Calls Try.prog 11 #[.string s] W fun e w' => e = .returned (.tuple #[.int .u32 (nrI s), .bool (knB s)]) ∧ Below W.heap.size W w') := refNr_any s
    have H3 : Hid (∀ W, Calls Try.prog 12 #[.int .u32 z] W fun e w' => e = .returned (.tuple #[.string (nmS z), .bool (isNr z)]) ∧ Below W.heap.size W w') := name_any z
    have H4 : Hid (∀ W, Calls Try.prog 13 #[.int .u32 z] W fun e w' => e = .returned (.tuple #[.string (nmS z), .bool (isNr z)]) ∧ Below W.heap.size W w') := refName_any z
    have H5 : Hid (∀ W, Calls Try.prog 10 #[.string (nmS z)] W fun e w' => e = .returned (.tuple #[.int .u32 (nrI (nmS z)), .bool (knB (nmS z))]) ∧ Below W.heap.size W w') := nr_any _
    have H6 : Hid (isNr z = true → knB (nmS z) = true ∧ nrI (nmS z) = z) := nr_of_name
    clear hl
    generalize nrI (nmS z) = z2 at *
    generalize knB (nmS z) = k2 at *
    generalize nmS z = nm at *
    generalize isNr z = q at *
    generalize nrI s = z1 at *
    generalize knB s = k1 at *
    cases q with
    | true =>
      obtain ⟨rfl, rfl⟩ := H6.out rfl
      go_enter Try.func3, Try.ntmps3
      go_wp2_with (go_at_call 9; refine (HA.out _).mono ?_; rintro e w1 ⟨rfl, b1⟩)
      refine (H1.out _).mono ?_
      rintro e w2 ⟨rfl, b2⟩
      go_wp2_with (go_at_call 11; refine (H2.out _).mono ?_; rintro e w3 ⟨rfl, b3⟩)
      refine (H3.out _).mono ?_
      rintro e w4 ⟨rfl, b4⟩
      go_wp2_with (go_at_call 13; refine (H4.out _).mono ?_; rintro e w5 ⟨rfl, b5⟩)
      refine (H5.out _).mono ?_
      rintro e w6 ⟨rfl, b6⟩
      have BB : Hid (Below w.heap.size w w6) := by
        have c2 := b1.trans (b2.mono b1.size)
        have c3 := c2.trans (b3.mono c2.size)
        have c4 := c3.trans (b4.mono c3.size)
        have c5 := c4.trans (b5.mono c4.size)
        exact c5.trans (b6.mono c5.size)
      clear b1 b2 b3 b4 b5 b6
      go_wp2_with fail
      go_ret
      exact ⟨rfl, BB.out⟩
    | false =>
      go_enter Try.func3, Try.ntmps3
      go_wp2_with (go_at_call 9; refine (HA.out _).mono ?_; rintro e w1 ⟨rfl, b1⟩)
      refine (H1.out _).mono ?_
      rintro e w2 ⟨rfl, b2⟩
      go_wp2_with (go_at_call 11; refine (H2.out _).mono ?_; rintro e w3 ⟨rfl, b3⟩)
      refine (H3.out _).mono ?_
      rintro e w4 ⟨rfl, b4⟩
      go_wp2_with (go_at_call 13; refine (H4.out _).mono ?_; rintro e w5 ⟨rfl, b5⟩)
      refine (H5.out _).mono ?_
      rintro e w6 ⟨rfl, b6⟩
      have BB : Hid (Below w.heap.size w w6) := by
        have c2 := b1.trans (b2.mono b1.size)
        have c3 := c2.trans (b3.mono c2.size)
        have c4 := c3.trans (b4.mono c3.size)
        have c5 := c4.trans (b5.mono c4.size)
        exact c5.trans (b6.mono c5.size)
      clear b1 b2 b3 b4 b5 b6
      go_wp2_with fail
      go_ret
      exact ⟨rfl, BB.out⟩

end Go.Proofs.Ytimclfdecdappaa
