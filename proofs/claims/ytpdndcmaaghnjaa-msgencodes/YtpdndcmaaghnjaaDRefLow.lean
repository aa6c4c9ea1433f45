/-
  The document's own bytes of a number, and the number of bytes, proved of every number.
-/
import Derived.Test.YtpdndcmaaghnjaaDMem
namespace Go.Proofs.Ytpdndcmaaghnjaa.D
open Go.RowKit

theorem Bs.one (w : World) (x : Int) (h : 0 ≤ x ∧ x ≤ 255) : Bs (w.alloc (.cells #[.int .u8 x] 5)) (some ⟨w.heap.size, 0, none⟩) 1 [x] := by
  refine ⟨rfl, ?_, fun _ => ⟨_, _, rfl, fun i hi => ?_⟩⟩
  · intro z hz
    simp only [List.mem_cons, List.not_mem_nil, or_false] at hz
    subst hz
    exact h
  · match i, hi with
    | 0, _ => simp

set_option maxHeartbeats 800000 in
theorem low_any (n : Int) (size : Nat) (w : World) (hn : U64 n) (hs : size ≤ 8) :
    Calls Try.prog 32 #[.int .u64 n, .int .i64 size] w fun e w' => Below w.heap.size w w' ∧ ∃ v, e = .returned v ∧ w'.ownsRow w.heap.size 5 1 v size (cellsB (low n size)) := by
  have HN : Hid (∀ k, U64 (cutN n k)) := fun k => cutN_u n hn k
  clear hn
  go_enter Try.func32, Try.ntmps32
  go_wp2
  go_loopw [0, 5, 6] (fun x v i wr => ∃ k : Nat, k ≤ size ∧ x = .int .u64 (cutN n k) ∧ i = .int .i64 k ∧ wr.ownsRow w.heap.size 5 1 v k (cellsB (low n k)) ∧ Below w.heap.size w wr) (fun _ _ i _ => size - (intOf i).toNat)
  case atStart => exact ⟨0, Nat.zero_le _, rfl, rfl, owns_nil _ _, Below.refl _ _⟩
  case round =>
    obtain ⟨k, hk, rfl, rfl, ho, hbr⟩ := hrel
    by_cases hlt : k < size
    · have HC : Hid (cutN n (k + 1) = cutN n k / 256) := rfl
      have HL : Hid (low n (k + 1) = low n k ++ [cutN n k % 256]) := low_snoc n k
      obtain ⟨u0, u1⟩ := HN.out k
      have hr : Int.tmod (cutN n k) 256 = cutN n k % 256 := Int.tmod_eq_emod_of_nonneg u0
      have hq : Int.tdiv (cutN n k) 256 = cutN n k / 256 := Int.tdiv_eq_ediv_of_nonneg u0
      have V1 : Hid (0 ≤ cutN n k % 256 ∧ cutN n k % 256 ≤ 255) := by unfold Hid; omega
      have HX : Hid (IntKind.u64.wrap (cutN n k / 256) = cutN n k / 256) := by unfold Hid; rw [IntKind.wrap_u64]; omega
      generalize cutN n k = x at *
      generalize low n k = L at *
      have hbs := hbr.size
      have hi1 : (k : Int) < (size : Int) := by omega
      clear u1 u0
      go_wp2_with (at_builtin; refine append_bytes rfl (.tmp 12) (.tmp 16) rfl w.heap.size _ k L rfl (ho.alloc _) (some ⟨wr.heap.size, 0, none⟩) 1 1 [x % 256] rfl (by simp) (Bs.one wr _ V1.out) (by omega) (by rw [size_alloc']; omega) ?_; intro v1 w1 ho1 hg1)
      go_roundw
      case rel =>
        refine ⟨k + 1, by omega, by rw [HC.out, HX.out], by go_num, by rw [HL.out]; exact ho1, ?_⟩
        have hb4 := hbr.alloc hbs (Obj.cells #[.int .u8 (x % 256)] 5)
        exact hb4.grown hg1 hb4.size (owns_block ho)
      case measure => simp [intOf] <;> omega
    · have hi1 : ¬ (k : Int) < (size : Int) := by omega
      obtain rfl : k = size := by omega
      clear hlt hk
      go_wp2
      go_ret
      exact ⟨hbr, _, rfl, ho⟩

set_option maxHeartbeats 800000 in
theorem number_any (a : Option Addr) (len cap : Nat) (l : List Int) (w : World) (hb : Bs w a len l) (hl : len ≤ 8) :
    Calls Try.prog 40 #[.slice a len cap] w fun e w' => e = .returned (.int .u64 (num l)) ∧ w' = w := by
  have HU : Hid (∀ k, U64 (num (l.drop k))) := fun k => num_u _ (byt_drop hb.2.1 k) (by rw [List.length_drop, hb.1]; omega)
  have HB : Hid (Bs w a len l) := hb
  clear hb
  have h0 : IntKind.i64.wrap ((len : Int) - 1) = (len : Int) - 1 := by rw [IntKind.wrap_i64]; omega
  go_enter Try.func40, Try.ntmps40
  go_wp2
  go_loopw [3, 4] (fun x i wr => ∃ k : Nat, k ≤ len ∧ x = .int .u64 (num (l.drop k)) ∧ i = .int .i64 ((k : Int) - 1) ∧ wr = w) (fun _ i _ => (intOf i + 1).toNat)
  case atStart => exact ⟨len, Nat.le_refl _, by rw [List.drop_of_length_le (by rw [HB.out.1]; exact Nat.le_refl _)]; rfl, by first | rfl | rw [h0], rfl⟩
  case round =>
    obtain ⟨k, hk, rfl, rfl, rfl⟩ := hrel
    clear h0
    cases k with
    | zero =>
      have hi1 : ¬ (0 : Int) ≤ ((0 : Nat) : Int) - 1 := by omega
      have HD : Hid (l.drop 0 = l) := rfl
      rw [HD.out]
      go_wp2
      go_ret
      exact ⟨rfl, rfl⟩
    | succ k =>
      obtain ⟨b, off, rfl, hc⟩ := HB.out.2.2 (by omega)
      have q0 := hc k (by omega)
      have HN : Hid (num (l.drop k) = l.getD k 0 + 256 * num (l.drop (k + 1))) := num_drop l k (by have := HB.out.1; omega)
      obtain ⟨u0, u1⟩ := HU.out k
      obtain ⟨v0, v1⟩ := HU.out (k + 1)
      have g0 := byt_get HB.out.2.1 k
      have HV : Hid (IntKind.u64.wrap (IntKind.u64.wrap (num (l.drop (k + 1)) * 256) + IntKind.u64.wrap (l.getD k 0)) = num (l.drop k)) := by
        unfold Hid
        have := HN.out
        simp only [IntKind.wrap_u64]
        omega
      have e1 : ((k + 1 : Nat) : Int) - 1 = (k : Int) := by omega
      rw [e1]
      clear hc u0 u1 v0 v1 g0 HN HU e1
      generalize num (l.drop (k + 1)) = x at *
      generalize l.getD k 0 = z at *
      have hkl : (k : Int) < (len : Int) := by omega
      go_wp2
      go_roundw
      case rel => exact ⟨k, by omega, by rw [HV.out], rfl, trivial⟩
      case measure => simp [intOf] <;> omega

end Go.Proofs.Ytpdndcmaaghnjaa.D
