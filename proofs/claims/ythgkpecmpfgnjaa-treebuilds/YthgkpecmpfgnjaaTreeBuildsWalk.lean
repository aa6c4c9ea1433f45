/-
  The law TreeBuilds, walked: true for every list.
-/
import Derived.Test.YthgkpecmpfgnjaaAwake
import Derived.Test.YthgkpecmpfgnjaaRBuild
namespace Go.Proofs.Ythgkpecmpfgnjaa
open Go.RowKit

theorem bMids_le (l : List Int) : (bMids l).length ≤ 4096 := by
  unfold bMids
  split
  · exact Nat.zero_le _
  · split
    · rw [mids_len]; omega
    · exact Nat.zero_le _

set_option maxHeartbeats 1000000 in
theorem treeBuilds_walk (a : Option Addr) (len cap : Nat) (l : List Int) (w : World) (h : Ns .u32 w a len l) :
    Calls Try.prog 3 #[.slice a len cap] w fun e w' => e = .returned (.bool true) ∧ Below w.heap.size w w' := by
  by_cases h5 : 5000 < len
  · have h5' : (5000 : Int) < (len : Int) := by omega
    clear h
    go_enter Try.func3, Try.ntmps3
    go_wp2_with (go_at_call 9; refine (awake_any _).mono ?_; rintro e w1 ⟨rfl, hb1⟩)
    go_ret
    exact ⟨rfl, hb1⟩
  · have h5' : (len : Int) ≤ 5000 := by omega
    have HB : Hid (∀ W : World, Below w.heap.size w W → Calls Try.prog 10 #[.slice a len cap] W fun e w' => Bld W w' e (bMids l) (bErr l)) := fun W hb => build_any a len cap l W (h.below hb)
    have HR : Hid (∀ W : World, Below w.heap.size w W → Calls Try.prog 11 #[.slice a len cap] W fun e w' => Bld W w' e (bMids l) (bErr l)) := fun W hb => refBuild_any a len cap l W (h.below hb)
    have HL : Hid ((bMids l).length ≤ 4096) := bMids_le l
    generalize bMids l = ms at *
    generalize bErr l = er at *
    clear h h5
    go_enter Try.func3, Try.ntmps3
    go_wp2_with (first
      | (go_at_call 9; refine (awake_any _).mono ?_; rintro e w1 ⟨rfl, hb1⟩)
      | (go_at_call 10; refine (HB.out _ hb1).mono ?_; rintro e w2 ⟨hb2, v2, rfl, ho2⟩; obtain ⟨a2, c2, rfl, n2⟩ := owns_ns ho2; have hB2 := hb1.trans (hb2.mono hb1.size))
      | (go_at_call 11; refine (HR.out _ hB2).mono ?_; rintro e w3 ⟨hb3, v3, rfl, ho3⟩; obtain ⟨a3, c3, rfl, n3⟩ := owns_ns ho3; have hB3 := hB2.trans (hb3.mono hB2.size); have n2' := n2.below hb3)
      | (go_at_call 12; refine (same_any a2 a3 ms.length c2 c3 (ints ms) _ (by have := HL.out; omega) n2' n3).mono ?_; rintro e w4 ⟨rfl, hb4⟩))
    go_ret
    exact ⟨ret_bool (by simp), hB3.trans (hb4.mono hB3.size)⟩

end Go.Proofs.Ythgkpecmpfgnjaa
