/-
  The law TreePaths, walked: true for every list, number and size.
-/
import Derived.Test.YthgkpecmpfgnjaaAwake
import Derived.Test.YthgkpecmpfgnjaaRPath
import Derived.Test.YthgkpecmpfgnjaaDeep
import Derived.OpenShut
namespace Go.Proofs.Ythgkpecmpfgnjaa
open Go.RowKit

theorem pMids_le (l : List Int) (n : Int) : (pMids l n).length ≤ 4097 := by
  unfold pMids
  split
  · exact Nat.zero_le _
  · split
    · have h1 := (bErr_zero (by assumption)).1
      have := pathF_le' l n l.length 0 l.length (by omega)
      omega
    · exact Nat.zero_le _

set_option maxHeartbeats 1000000 in
theorem treePaths_walk (a : Option Addr) (len cap : Nat) (l : List Int) (n s : Int) (w : World) (h : Ns .u32 w a len l) (hs : (Lit.int .i64 s).wf = true) :
    Calls Try.prog 4 #[.slice a len cap, .int .u32 n, .int .i64 s] w fun e w' => e = .returned (.bool true) ∧ Below w.heap.size w w' := by
  by_cases h5 : 5000 < len
  · have h5' : (5000 : Int) < (len : Int) := by omega
    clear h
    go_enter Try.func4, Try.ntmps4
    go_wp2_with (go_at_call 9; refine (awake_any _).mono ?_; rintro e w1 ⟨rfl, hb1⟩)
    go_ret
    exact ⟨rfl, hb1⟩
  · have h5' : (len : Int) ≤ 5000 := by omega
    have HB : Hid (∀ W : World, Below w.heap.size w W → Calls Try.prog 13 #[.slice a len cap, .int .u32 n] W fun e w' => Told W w' e (pMids l n)) := fun W hb => path_any a len cap l n W (h.below hb)
    have HR : Hid (∀ W : World, Below w.heap.size w W → Calls Try.prog 14 #[.slice a len cap, .int .u32 n] W fun e w' => Told W w' e (pMids l n)) := fun W hb => refPath_any a len cap l n W (h.below hb)
    have HL : Hid ((pMids l n).length ≤ 4097) := pMids_le l n
    have hs2 : -9223372036854775808 ≤ s ∧ s ≤ 9223372036854775807 := Go.bounds_i64 hs
    have HD : Hid (∀ W : World, Calls Try.prog 15 #[.int .i64 s] W fun e w' => e = .returned (.int .i64 (deepZ s : Nat)) ∧ w' = W) := fun W => deep_any s W hs2.1 hs2.2
    have HE : Hid (∀ W : World, Calls Try.prog 16 #[.int .i64 s] W fun e w' => e = .returned (.int .i64 (deepZ s : Nat)) ∧ w' = W) := fun W => refDeep_any s W hs2.2
    generalize pMids l n = ms at *
    generalize deepZ s = dz at *
    clear h h5 hs hs2
    go_enter Try.func4, Try.ntmps4
    go_wp2_with (first
      | (go_at_call 9; refine (awake_any _).mono ?_; rintro e w1 ⟨rfl, hb1⟩)
      | (go_at_call 13; refine (HB.out _ hb1).mono ?_; rintro e w2 ⟨hb2, v2, rfl, ho2⟩; obtain ⟨a2, c2, rfl, n2⟩ := owns_ns ho2; have hB2 := hb1.trans (hb2.mono hb1.size))
      | (go_at_call 14; refine (HR.out _ hB2).mono ?_; rintro e w3 ⟨hb3, v3, rfl, ho3⟩; obtain ⟨a3, c3, rfl, n3⟩ := owns_ns ho3; have hB3 := hB2.trans (hb3.mono hB2.size); have n2' := n2.below hb3)
      | (go_at_call 12; refine (same_any a2 a3 ms.length c2 c3 (ints ms) _ (by have := HL.out; omega) n2' n3).mono ?_; rintro e w4 ⟨rfl, hb4⟩)
      | (go_at_call 15; refine (HD.out _).mono ?_; rintro e w5 ⟨rfl, rfl⟩)
      | (go_at_call 16; refine (HE.out _).mono ?_; rintro e w6 ⟨rfl, rfl⟩))
    go_ret
    exact ⟨ret_bool (by simp), hB3.trans (hb4.mono hB3.size)⟩

end Go.Proofs.Ythgkpecmpfgnjaa
