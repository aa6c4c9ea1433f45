/-
  What the two loops over bytes return, each proved of every sum and every slice of bytes.
-/
import Derived.Test.YtfjipaalelkpjaaLeaf
namespace Go.Proofs.Ytfjipaalelkpjaa
open Go.RowKit

/-- the bytes that a slice leads to. -/
def Bs (w : World) (a : Option Addr) (len : Nat) (l : List Int) : Prop :=
  l.length = len ∧ (∀ n ∈ l, 0 ≤ n ∧ n ≤ 255) ∧
  (0 < len → ∃ b off, a = some ⟨b, off, none⟩ ∧ ∀ i, i < len → w.cell? ⟨b, off + i, none⟩ = some (.int .u8 (l.getD i 0)))

theorem Bs.byte {w : World} {a : Option Addr} {len : Nat} {l : List Int} (h : Bs w a len l) (k : Nat) : 0 ≤ l.getD k 0 ∧ l.getD k 0 ≤ 255 := by
  rw [List.getD_eq_getElem?_getD]
  by_cases hk : k < l.length
  · have := h.2.1 _ (List.getElem_mem hk)
    rw [List.getElem?_eq_getElem hk]; exact this
  · rw [List.getElem?_eq_none (by omega)]; simp

set_option maxHeartbeats 400000 in
theorem go_any (s : Int) (a : Option Addr) (len cap : Nat) (l : List Int) (w : World) (h0 : 0 ≤ s) (h1 : s ≤ 4294967295) (hlen : len ≤ 60000) (hb : Bs w a len l) :
    Calls Try.prog 28 #[.int .u32 s, .slice a len cap] w fun e w' => e = .returned (.int .u32 (goS s l)) ∧ w' = w := by
  have hll := hb.1
  go_enter Try.func28, Try.ntmps28
  go_wp2_with (go_at_call 35; refine (parts_any s _ h0 h1).mono ?_; rintro e w' ⟨rfl, rfl⟩)
  go_loop [5, 6, 15] (fun x y i => ∃ k : Nat, k ≤ len ∧ i = .int .i64 k ∧ x = .int .u32 (runS (lowOf s, highOf s) (l.take k)).1 ∧ y = .int .u32 (runS (lowOf s, highOf s) (l.take k)).2) (fun _ _ i => len - (intOf i).toNat)
  case atStart => exact ⟨0, Nat.zero_le _, rfl, rfl, rfl⟩
  case round =>
    obtain ⟨k, hk, rfl, rfl, rfl⟩ := hrel
    have hok := okS_run _ (l.take k) (okS_start s)
    generalize hp : runS (lowOf s, highOf s) (l.take k) = p at *
    have HP : Hid (runS (lowOf s, highOf s) (l.take k) = p) := hp
    clear hp
    obtain ⟨x, y⟩ := p
    simp only [okS] at hok
    obtain ⟨o1, o2, o3, o4⟩ := hok
    by_cases hlt : k < len
    · obtain ⟨b, off, rfl, hc⟩ := hb.2.2 (by omega)
      have hck := hc k hlt
      clear hc
      obtain ⟨y1, y2⟩ := hb.byte k
      have HS : Hid (runS (lowOf s, highOf s) (l.take (k + 1)) = stepS (x, y) (l.getD k 0)) := by rw [take_snoc l k (by omega), runS_snoc, HP.out]; exact rfl
      generalize l.getD k 0 = c at *
      go_wp2
      go_round
      case rel => exact ⟨k + 1, by omega, by go_num, by rw [HS.out]; rfl, by rw [HS.out]; rfl⟩
      case measure => simp [intOf]; omega
    · go_wp2_with (go_at_call 36; refine (whole_any x y _ o1 o2 o3 o4).mono ?_; rintro e w' ⟨rfl, rfl⟩)
      go_ret
      exact ⟨ret_int (by rw [List.take_of_length_le (by omega)] at HP; rw [goS, HP.out]; rfl), rfl⟩

set_option maxHeartbeats 400000 in
theorem of_any (a : Option Addr) (len cap : Nat) (l : List Int) (w : World) (hlen : len ≤ 60000) (hb : Bs w a len l) :
    Calls Try.prog 29 #[.slice a len cap] w fun e w' => e = .returned (.int .u32 (goS 1 l)) ∧ w' = w := by
  go_enter Try.func29, Try.ntmps29
  go_wp2_with (go_at_call 28; refine (go_any 1 a len cap l _ (by decide) (by decide) hlen hb).mono ?_; rintro e w' ⟨rfl, rfl⟩)
  go_ret
  exact ⟨rfl, rfl⟩

end Go.Proofs.Ytfjipaalelkpjaa
