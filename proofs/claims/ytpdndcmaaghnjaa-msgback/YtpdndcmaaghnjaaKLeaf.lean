/-
  What the smallest functions of package pack return, each proved of every argument.
-/
import Derived.Test.YtpdndcmaaghnjaaRows
import Derived.Test.YtpdndcmaaghnjaaKMath
import Derived.WalkKit
import Derived.WalkSpells
import Derived.WalkLawsBesides
import Derived.Laws.Bits64b
namespace Go.Proofs.Ytpdndcmaaghnjaa.K
open Go.RowKit

theorem ret_int {k : IntKind} {a b : Int} (h : a = b) : Ending.returned (.int k a) = .returned (.int k b) := by rw [h]

set_option maxHeartbeats 400000 in
theorem isSize_any (n : Int) (w : World) :
    Calls Try.prog 42 #[.int .i64 n] w fun e w' => e = .returned (.bool (decide (1 ≤ n ∧ n ≤ 8))) ∧ w' = w := by
  by_cases h1 : 1 ≤ n
  · by_cases h2 : n ≤ 8
    · rw [decide_eq_true (And.intro h1 h2)]
      go_enter Try.func42, Try.ntmps42
      go_wp2
      go_ret
      exact ⟨rfl, rfl⟩
    · rw [decide_eq_false (fun h => h2 h.2)]
      go_enter Try.func42, Try.ntmps42
      go_wp2
      go_ret
      exact ⟨rfl, rfl⟩
  · rw [decide_eq_false (fun h => h1 h.1)]
    go_enter Try.func42, Try.ntmps42
    go_wp2
    go_ret
    exact ⟨rfl, rfl⟩

/-- the bytes that a slice leads to. -/
def Bs (w : World) (a : Option Addr) (len : Nat) (l : List Int) : Prop :=
  l.length = len ∧ (∀ n ∈ l, 0 ≤ n ∧ n ≤ 255) ∧
  (0 < len → ∃ b off, a = some ⟨b, off, none⟩ ∧ ∀ i, i < len → w.cell? ⟨b, off + i, none⟩ = some (.int .u8 (l.getD i 0)))

theorem Bs.byte {w : World} {a : Option Addr} {len : Nat} {l : List Int} (h : Bs w a len l) (k : Nat) : 0 ≤ l.getD k 0 ∧ l.getD k 0 ≤ 255 := by
  rw [List.getD_eq_getElem?_getD]
  by_cases hk : k < l.length
  · have := h.2.1 _ (List.getElem_mem hk)
    rw [List.getElem?_eq_getElem hk]; exact this
  · rw [List.getElem?_eq_none (by omega)]; simp

theorem take_snoc (l : List Int) (k : Nat) (hk : k < l.length) : l.take (k + 1) = l.take k ++ [l.getD k 0] := by
  rw [List.take_add_one, List.getElem?_eq_getElem hk]
  simp [hk]

theorem take_bd {l : List Int} (h : ∀ n ∈ l, 0 ≤ n ∧ n ≤ 255) (k : Nat) (hk : k ≤ 7) : 0 ≤ numOf (l.take k) ∧ numOf (l.take k) ≤ 72057594037927935 := by
  have h1 := numOf_bd (l.take k) (fun z hz => h z (List.mem_of_mem_take hz))
  have h2 : pow256 (l.take k).length ≤ pow256 7 := pow256_mono (by rw [List.length_take]; omega)
  rw [pow256_7] at h2
  omega

theorem or64 (x c : Int) (h0 : 0 ≤ x) (h1 : x ≤ 72057594037927935) (c0 : 0 ≤ c) (c1 : c ≤ 255) : bits BinOp.or IntKind.u64 (x * 256) c = x * 256 + c := by
  obtain ⟨n, rfl⟩ := Int.eq_ofNat_of_zero_le h0
  obtain ⟨m, rfl⟩ := Int.eq_ofNat_of_zero_le c0
  have e : ((n : Int) * 256) = ((n * 256 : Nat) : Int) := by omega
  rw [e, bits_or_u64_nat (n * 256) m (by omega) (by omega), show (256 : Nat) = 2 ^ 8 from rfl, ← Nat.shiftLeft_eq, ← Nat.shiftLeft_add_eq_or_of_lt (by omega)]
  omega

set_option maxHeartbeats 400000 in
theorem number_any (a : Option Addr) (len cap : Nat) (l : List Int) (w : World) (hlen : len ≤ 8) (hb : Bs w a len l) :
    Calls Try.prog 48 #[.slice a len cap] w fun e w' => e = .returned (.int .u64 (numOf l)) ∧ w' = w := by
  have hll := hb.1
  go_enter Try.func48, Try.ntmps48
  go_wp2
  go_loop [3, 8] (fun x i => ∃ k : Nat, k ≤ len ∧ i = .int .i64 k ∧ x = .int .u64 (numOf (l.take k))) (fun _ i => len - (intOf i).toNat)
  case atStart => exact ⟨0, Nat.zero_le _, rfl, rfl⟩
  case round =>
    obtain ⟨k, hk, rfl, rfl⟩ := hrel
    by_cases hlt : k < len
    · obtain ⟨b, off, rfl, hc⟩ := hb.2.2 (by omega)
      have hck := hc k hlt
      clear hc
      obtain ⟨y1, y2⟩ := hb.byte k
      obtain ⟨o1, o2⟩ := take_bd hb.2.1 k (by omega)
      have HS : Hid (numOf (l.take (k + 1)) = numOf (l.take k) * 256 + l.getD k 0) := by rw [take_snoc l k (by omega), numOf_snoc]; exact rfl
      generalize l.getD k 0 = c at *
      generalize numOf (l.take k) = x at *
      have hor := or64 x c o1 o2 y1 y2
      go_wp2
      go_round
      case rel => exact ⟨k + 1, by omega, by go_num, by rw [HS.out]⟩
      case measure => simp [intOf]; omega
    · go_wp2
      go_ret
      exact ⟨ret_int (by rw [List.take_of_length_le (by omega)]), rfl⟩

end Go.Proofs.Ytpdndcmaaghnjaa.K
