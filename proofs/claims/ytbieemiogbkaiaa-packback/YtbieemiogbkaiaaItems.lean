/-
  A slice of items as it lies in memory; whether items are few; what a reader begins with.
-/
import Derived.Test.YtbieemiogbkaiaaNumR
namespace Go.Proofs.Ytbieemiogbkaiaa
open Go.RowKit

/-- an item. -/
structure It where
  n : Int
  size : Int
  isText : Bool
  text : ByteArray

/-- what an item's fields may be. -/
def It.ok (x : It) : Prop := 0 ≤ x.n ∧ x.n ≤ 18446744073709551615

/-- the cells of an item. -/
def It.at (x : It) (w : World) (b o : Nat) : Prop :=
  w.cell? ⟨b, o, none⟩ = some (.int .u64 x.n) ∧ w.cell? ⟨b, o + 1, none⟩ = some (.int .i64 x.size) ∧ w.cell? ⟨b, o + 2, none⟩ = some (.bool x.isText) ∧ w.cell? ⟨b, o + 3, none⟩ = some (.string x.text)

/-- the items that a slice leads to. -/
def Items (w : World) (a : Option Addr) (len : Nat) (its : List It) : Prop :=
  its.length = len ∧ (∀ x ∈ its, x.ok) ∧ (0 < len → ∃ b off, a = some ⟨b, off, none⟩ ∧ ∀ (i : Nat) (x : It), its[i]? = some x → x.at w b (off + i * 4))

theorem Items.below {w w' : World} {a : Option Addr} {len : Nat} {its : List It} (h : Items w a len its) (hb : Below w.heap.size w w') : Items w' a len its := by
  refine ⟨h.1, h.2.1, fun h0 => ?_⟩
  obtain ⟨b, off, ha, hc⟩ := h.2.2 h0
  refine ⟨b, off, ha, fun i x hi => ?_⟩
  obtain ⟨h1, h2, h3, h4⟩ := hc i x hi
  have hlt : b < w.heap.size := World.block_lt_of_cell? w _ h1
  refine ⟨?_, ?_, ?_, ?_⟩
  · rw [hb.cell (p := ⟨b, off + i * 4, none⟩) hlt]; exact h1
  · rw [hb.cell (p := ⟨b, off + i * 4 + 1, none⟩) hlt]; exact h2
  · rw [hb.cell (p := ⟨b, off + i * 4 + 2, none⟩) hlt]; exact h3
  · rw [hb.cell (p := ⟨b, off + i * 4 + 3, none⟩) hlt]; exact h4

/-- what is told of items: where it is true they are few. -/
def Fewly (len : Nat) (e : Ending) : Prop := ∃ v, e = .returned (.bool v) ∧ (v = true → len ≤ 100)

set_option maxHeartbeats 800000 in
theorem few_any (a : Option Addr) (len cap : Nat) (its : List It) (w : World) (h : Items w a len its) :
    Calls Try.prog 10 #[.slice a len cap] w fun e w' => Fewly len e ∧ w' = w := by
  have hll := h.1
  go_enter Try.func10, Try.ntmps10
  go_wp2
  go_loop [3] (fun i => ∃ k : Nat, k ≤ len ∧ k ≤ 100 ∧ i = .int .i64 k) (fun i => len - (intOf i).toNat)
  case atStart => exact ⟨0, Nat.zero_le _, Nat.zero_le _, rfl⟩
  case round =>
    obtain ⟨k, hk, hk1, rfl⟩ := hrel
    by_cases hlt : k < len
    · by_cases hlt1 : k < 100
      · obtain ⟨b, off, rfl, hc⟩ := h.2.2 (by omega)
        obtain ⟨q1, q2, q3, q4⟩ := hc k its[k] (List.getElem?_eq_getElem (by omega))
        clear hc q1 q2 q3 h
        generalize its[k].text = s at *
        obtain ⟨m, hm⟩ : ∃ m, s.size = m := ⟨_, rfl⟩
        have HK : Hid (k < 100 ∧ k < len) := ⟨hlt1, hlt⟩
        have hi1 : (k : Int) < (len : Int) := by omega
        have hi2 : (k : Int) < 100 := by omega
        clear hk hk1 hlt hlt1 hll
        rcases Bool.eq_false_or_eq_true (decide ((3000 : Int) < (m : Int))) with h1 | h1
        · rcases Bool.eq_false_or_eq_true (decide ((m : Int) < 65536)) with h2 | h2
          · go_wp2
            go_ret
            exact ⟨⟨false, rfl, fun h => absurd h (by decide)⟩, rfl⟩
          · go_wp2
            go_round
            case rel => exact ⟨k + 1, by have := HK.out; omega, by have := HK.out; omega, by go_num⟩
            case measure => simp [intOf]; omega
        · go_wp2
          go_round
          case rel => exact ⟨k + 1, by have := HK.out; omega, by have := HK.out; omega, by go_num⟩
          case measure => simp [intOf]; omega
      · go_wp2
        go_ret
        exact ⟨⟨decide ((len : Int) ≤ 100), rfl, fun h => by have := of_decide_eq_true h; omega⟩, rfl⟩
    · go_wp2
      go_ret
      exact ⟨⟨decide ((len : Int) ≤ 100), rfl, fun h => by have := of_decide_eq_true h; omega⟩, rfl⟩

set_option maxHeartbeats 400000 in
theorem read_any (a : Option Addr) (len cap : Nat) (l : List Int) (w : World) (hao : a = none → cap = 0) (hlen : len ≤ 900000000) (hb : Bs w a len l) :
    Calls Try.prog 14 #[.slice a len cap] w fun e w' => ∃ b, e = .returned (.pointer (some ⟨b, 0, none⟩)) ∧ Rd w' b (l, 0) ∧ w.heap.size ≤ b ∧ Below w.heap.size w w' := by
  go_enter Try.func14, Try.ntmps14
  go_wp2_with (go_at_call 23; refine (clone_any a len cap l _ hao hlen hb).mono ?_; rintro e w2 ⟨hb2, v, rfl, ho2⟩; obtain ⟨a2, cap2, rfl, hbs, hcap, hao2, _⟩ := owns_bs ho2 hb.2.1)
  go_ret
  have hx : ∀ x, a2 = some x → x.spot = none ∧ ∃ C f, w2.heap[x.block]? = some (.cells C 5 f) := by
    intro x e
    rcases ho2.2 with ⟨e2, _⟩ | ⟨g, c, cur, e2, _, hh, _⟩
    · cases e2; cases e
    · cases e2; cases e; exact ⟨rfl, cur, _, hh⟩
  have t2 : Two (w2.alloc (Obj.cells #[.slice a2 len cap2, .int .i64 0] 54)) w2.heap.size 54 (.slice a2 len cap2) (.int .i64 0) := by
    unfold Two
    show (w2.heap.push _)[w2.heap.size]? = _
    simp
  have hal : Below w2.heap.size w2 (w2.alloc (Obj.cells #[.slice a2 len cap2, .int .i64 0] 54)) := (Below.refl _ _).alloc (Nat.le_refl _) _
  refine ⟨_, rfl, ⟨⟨_, _, _, t2, hbs.below hal, hcap, hao2, fun x e => ⟨(hx x e).1, ?_⟩⟩, fun h => absurd rfl h⟩, hb2.size, hb2.alloc hb2.size _⟩
  obtain ⟨_, C, f, hC⟩ := hx x e
  exact ⟨C, f, by rw [hal.block _ (lt_of_block hC)]; exact hC⟩

end Go.Proofs.Ytbieemiogbkaiaa
