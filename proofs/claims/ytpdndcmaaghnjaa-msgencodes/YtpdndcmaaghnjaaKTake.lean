/-
  What the document's own readers of a number and of a text return, each proved of every slice of bytes.
-/
import Derived.Test.YtpdndcmaaghnjaaKLeaf
import Derived.Laws.BytesArg
namespace Go.Proofs.Ytpdndcmaaghnjaa.K
open Go.RowKit

theorem run_convert_bytes_zero (w : World) (p : Option Addr) (c : Nat) : (convert 30 9 (.slice p 0 c)).run Try.prog w = .ok (.string (strOfNums [])) w := by
  rw [run_convert_bytes_string w 30 9 5 _ 0 c Try.underlying30 Try.underlying5 Try.underlying9]
  cases p <;> simp [Conv.bytesToString, loadCells]
  all_goals rfl

/-- a slice of bytes, turned into a text. -/
theorem run_text {w : World} {a : Option Addr} {len : Nat} {l : List Int} (h : Bs w a len l) (cap : Nat) : (convert 30 9 (.slice a len cap)).run Try.prog w = .ok (.string (strOfNums l)) w := by
  rcases Nat.eq_zero_or_pos len with rfl | h0
  · obtain rfl : l = [] := List.eq_nil_of_length_eq_zero h.1
    exact run_convert_bytes_zero w a cap
  · obtain ⟨b, off, rfl, hc⟩ := h.2.2 h0
    exact run_convert_bytes_arg w 30 5 Try.underlying30 Try.underlying5 b off len cap l h.1 hc 9 Try.underlying9

theorem Bs.sub {w : World} {b off len : Nat} {l : List Int} (h : Bs w (some ⟨b, off, none⟩) len l) (i m : Nat) (hm : i + m ≤ len) : Bs w (some ⟨b, off + i, none⟩) m ((l.drop i).take m) := by
  refine ⟨by rw [List.length_take, List.length_drop, h.1]; omega, fun z hz => h.2.1 z (List.mem_of_mem_drop (List.mem_of_mem_take hz)), fun h0 => ⟨b, off + i, rfl, fun j hj => ?_⟩⟩
  obtain ⟨_, _, e, hc⟩ := h.2.2 (by omega)
  cases e
  rw [Nat.add_assoc, hc (i + j) (by omega)]
  simp [hj]

/-- of no bytes a slice of whatever address. -/
theorem bs_none {w : World} {a : Option Addr} : Bs w a 0 [] := ⟨rfl, by simp, fun h => absurd h (by omega)⟩

theorem take_wrong (a : Option Addr) (len cap : Nat) (size : Int) (w : World) (h : ¬ (1 ≤ size ∧ size ≤ 8)) :
    Calls Try.prog 24 #[.slice a len cap, .int .i64 size] w fun e w' => e = .returned (.tuple #[.int .u64 0, .int .i64 1]) ∧ w' = w := by
  by_cases h1 : size < 1
  · go_enter Try.func24, Try.ntmps24
    go_wp2
    go_ret2
    exact ⟨rfl, rfl⟩
  · have h2 : 8 < size := by omega
    clear h
    go_enter Try.func24, Try.ntmps24
    go_wp2
    go_ret2
    exact ⟨rfl, rfl⟩

theorem take_short (a : Option Addr) (len cap size : Nat) (w : World) (s1 : 1 ≤ size) (s8 : size ≤ 8) (h : len < size) :
    Calls Try.prog 24 #[.slice a len cap, .int .i64 size] w fun e w' => e = .returned (.tuple #[.int .u64 0, .int .i64 2]) ∧ w' = w := by
  go_enter Try.func24, Try.ntmps24
  go_wp2
  go_ret2
  exact ⟨rfl, rfl⟩

set_option maxHeartbeats 400000 in
theorem take_any (a : Option Addr) (len cap size : Nat) (l : List Int) (w : World) (s1 : 1 ≤ size) (s8 : size ≤ 8) (h : size ≤ len) (hb : Bs w a len l) :
    Calls Try.prog 24 #[.slice a len cap, .int .i64 size] w fun e w' => e = .returned (.tuple #[.int .u64 (numOf (l.take size)), .int .i64 0]) ∧ w' = w := by
  have hll := hb.1
  obtain ⟨b, off, rfl, hc⟩ := hb.2.2 (by omega)
  have HC : Hid (∀ i, i < len → w.cell? ⟨b, off + i, none⟩ = some (.int .u8 (l.getD i 0))) := hc
  clear hc
  go_enter Try.func24, Try.ntmps24
  go_wp2
  go_loop [6, 7] (fun x i => ∃ k : Nat, k ≤ size ∧ i = .int .i64 k ∧ x = .int .u64 (numOf (l.take k))) (fun _ i => size - (intOf i).toNat)
  case atStart => exact ⟨0, Nat.zero_le _, rfl, rfl⟩
  case round =>
    obtain ⟨k, hk, rfl, rfl⟩ := hrel
    by_cases hlt : k < size
    · have hck := HC.out k (by omega)
      have hkl : k < len := by omega
      obtain ⟨y1, y2⟩ := hb.byte k
      obtain ⟨o1, o2⟩ := take_bd hb.2.1 k (by omega)
      have HS : Hid (numOf (l.take (k + 1)) = numOf (l.take k) * 256 + l.getD k 0) := by rw [take_snoc l k (by omega), numOf_snoc]; exact rfl
      generalize l.getD k 0 = c at *
      generalize numOf (l.take k) = x at *
      go_wp2
      go_round
      case rel => exact ⟨k + 1, by omega, by go_num, by rw [HS.out]⟩
      case measure => simp [intOf]; omega
    · obtain rfl : k = size := by omega
      go_wp2
      go_ret2
      exact ⟨rfl, rfl⟩

/-- the text that bytes begin with, how many bytes it has in all, and what is wrong. -/
def textF (l : List Int) : List Int × Nat × Int :=
  if l.length < 2 then ([], 0, 2)
  else if (l.length : Int) - 2 < numOf (l.take 2) then ([], 0, 2)
  else ((l.drop 2).take (numOf (l.take 2)).toNat, 2 + (numOf (l.take 2)).toNat, 0)

set_option maxHeartbeats 800000 in
theorem takeText_any (a : Option Addr) (len cap : Nat) (l : List Int) (w : World) (hcap : len ≤ cap) (hlen : len ≤ 20000) (hb : Bs w a len l) :
    Calls Try.prog 26 #[.slice a len cap] w fun e w' => e = .returned (.tuple #[.string (strOfNums (textF l).1), .int .i64 ((textF l).2.1 : Nat), .int .i64 (textF l).2.2]) ∧ w' = w := by
  have hll := hb.1
  by_cases h2 : len < 2
  · have ht : textF l = ([], 0, 2) := by unfold textF; rw [if_pos (by omega)]
    rw [ht]
    go_enter Try.func26, Try.ntmps26
    go_wp2_with (go_at_call 24; refine (take_short a len cap 2 _ (by decide) (by decide) h2).mono ?_; rintro e w' ⟨rfl, rfl⟩)
    go_ret3
    exact ⟨rfl, rfl⟩
  · have hnb := numOf_bd (l.take 2) (fun z hz => hb.2.1 z (List.mem_of_mem_take hz))
    rw [List.length_take, show min 2 l.length = 2 from by omega, show pow256 2 = 65536 from by decide] at hnb
    by_cases hs : (len : Int) - 2 < numOf (l.take 2)
    · have ht : textF l = ([], 0, 2) := by unfold textF; rw [if_neg (by omega), if_pos (by rw [hll]; exact hs)]
      rw [ht]
      go_enter Try.func26, Try.ntmps26
      go_wp2_with (go_at_call 24; refine (take_any a len cap 2 l _ (by decide) (by decide) (by omega) hb).mono ?_; rintro e w' ⟨rfl, rfl⟩; generalize numOf (l.take 2) = x at *)
      go_ret3
      exact ⟨rfl, rfl⟩
    · obtain ⟨m, hm⟩ : ∃ m : Nat, numOf (l.take 2) = (m : Int) := ⟨(numOf (l.take 2)).toNat, by omega⟩
      have ht : textF l = ((l.drop 2).take m, 2 + m, 0) := by unfold textF; rw [if_neg (by omega), if_neg (by rw [hll]; exact hs), hm]; rfl
      rw [ht]
      obtain ⟨b, off, rfl, _⟩ := hb.2.2 (by omega)
      rw [hm] at hs hnb
      by_cases hc2 : cap = 2
      · obtain rfl : m = 0 := by omega
        have hcv := run_convert_bytes_zero w (some ⟨b, off, none⟩)
        subst hc2
        go_enter Try.func26, Try.ntmps26
        go_wp2_with (go_at_call 24; refine (take_any _ len 2 2 l _ (by decide) (by decide) (by omega) hb).mono ?_; rintro e w' ⟨rfl, rfl⟩; rw [hm])
        go_ret3
        exact ⟨by simp, rfl⟩
      · have hcv := run_text (hb.sub 2 m (by omega))
        go_enter Try.func26, Try.ntmps26
        go_wp2_with (go_at_call 24; refine (take_any _ len cap 2 l _ (by decide) (by decide) (by omega) hb).mono ?_; rintro e w' ⟨rfl, rfl⟩; rw [hm])
        go_ret3
        exact ⟨by simp, rfl⟩

end Go.Proofs.Ytpdndcmaaghnjaa.K
