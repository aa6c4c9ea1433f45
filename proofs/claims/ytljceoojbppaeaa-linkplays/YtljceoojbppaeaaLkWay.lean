/-
  A link as it lies; its rows, and where a frame stands.
-/
import Derived.Test.YtljceoojbppaeaaLkRem
import Derived.Test.YtljceoojbppaeaaLkTurn
namespace Go.Proofs.Ytljceoojbppaeaa
open Go.RowKit D

/-- a link. -/
structure LkV (w : World) (b : Nat) (s : Lk) : Prop where
  blk : Blk w b 30 (rowC s.u ++ rowC s.d)
  ok : s.ok
theorem LkV.over {w w' : World} {b : Nat} {s : Lk} (h : LkV w b s) (hb : Below w.heap.size w w') : LkV w' b s := ⟨h.blk.over hb, h.ok⟩
theorem LkV.kb {w w' : World} {b c : Nat} {s : Lk} (h : LkV w b s) (hk : Kb c w w') (hc : b ≠ c) : LkV w' b s := ⟨Blk.kb h.blk hk hc, h.ok⟩
def offs (up : Bool) : Nat := if up then 0 else 65
def wayV (up : Bool) : Value := .iface (if up then 66 else 68) (.agg #[])
/-- one of its rows. -/
theorem LkV.row {w : World} {b : Nat} {s : Lk} (h : LkV w b s) (up : Bool) : ∃ A Z, A.length = offs up ∧ Row w b A (s.sel up) Z ∧ ∀ (w' : World) (l : List (List Int)), okR l → Row w' b A l Z → LkV w' b (s.put up l) := by
  cases up with
  | true => exact ⟨[], rowC s.d, rfl, ⟨h.blk, h.ok.1.1⟩, fun w' l hl hr => ⟨hr.blk, Lk.ok_put h.ok true hl⟩⟩
  | false =>
    refine ⟨rowC s.u, [], rowC_len h.ok.1.1, ⟨by rw [List.append_nil]; exact h.blk, h.ok.2.1⟩, fun w' l hl hr => ⟨?_, Lk.ok_put h.ok false hl⟩⟩
    have := hr.blk
    rwa [List.append_nil] at this

theorem wayOf_any (up : Bool) (w : World) : Calls Try.prog 26 #[.bool up] w fun e w' => e = .returned (wayV up) ∧ w' = w := by
  cases up with
  | true =>
    go_enter Try.func26, Try.ntmps26
    go_wp2
    go_ret
    exact ⟨rfl, rfl⟩
  | false =>
    go_enter Try.func26, Try.ntmps26
    go_wp2
    go_ret
    exact ⟨rfl, rfl⟩

set_option maxHeartbeats 1000000 in
theorem row_any (b : Nat) (up : Bool) (w : World) : Calls Try.prog 25 #[.pointer (some ⟨b, 0, none⟩), wayV up] w fun e w' => e = .returned (.pointer (some ⟨b, offs up, none⟩)) ∧ Below w.heap.size w w' := by
  have hb1 : Below w.heap.size w (w.alloc (.cells #[] 66)) := (Below.refl _ _).alloc (Nat.le_refl _) _
  cases up with
  | true =>
    have hta : ∀ W : World, (Instr.typeAssert (.iface 66 (.agg #[])) 53 66 true).run Try.prog W = .ok (.tuple #[.agg #[], .bool true]) W := fun W => by kernel_rfl
    unfold wayV offs
    rw [if_pos rfl, if_pos rfl]
    go_enter Try.func25, Try.ntmps25
    go_wp2
    go_ret
    exact ⟨rfl, hb1⟩
  | false =>
    have hta : ∀ W : World, (Instr.typeAssert (.iface 68 (.agg #[])) 53 66 true).run Try.prog W = .ok (.tuple #[.agg #[], .bool false]) W := fun W => by kernel_rfl
    unfold wayV offs
    rw [if_neg (by decide), if_neg (by decide)]
    go_enter Try.func25, Try.ntmps25
    go_wp2
    go_ret
    exact ⟨rfl, hb1⟩

set_option maxHeartbeats 1000000 in
theorem find_any (b : Nat) (s : Lk) (w : World) (h : LkV w b s) (n : Int) (hn : n < 9223372036854775808) :
    Calls Try.prog 34 #[.pointer (some ⟨b, 0, none⟩), .int .i64 n] w fun e w' => e = .returned (.tuple #[wayV (s.way n), .int .i64 (s.at n)]) ∧ Below w.heap.size w w' := by
  obtain ⟨A, Z, hA, hR, _⟩ := h.row true
  have hm := hR.many
  have hm1 := hR.drew.many
  rw [hA] at hm hm1
  have hlen : ((s.sel true).length : Int) ≤ 64 := by have := hR.le; omega
  change w.cell? ⟨b, 0 + 64, none⟩ = some (.int .i64 (s.u.length : Int)) at hm
  change w.drew.cell? ⟨b, 0 + 64, none⟩ = some (.int .i64 (s.u.length : Int)) at hm1
  change (s.u.length : Int) ≤ 64 at hlen
  rw [Nat.zero_add] at hm hm1
  clear h hR hA
  unfold Lk.way Lk.at
  generalize s.u.length = k at *
  by_cases hlt : n < (k : Int)
  · have e : decide (n < (k : Int)) = true := by simp; omega
    rw [e, if_pos hlt]
    go_enter Try.func34, Try.ntmps34
    go_wp2
    go_ret2
    exact ⟨rfl, Below.refl _ _⟩
  · have e : decide (n < (k : Int)) = false := by simp; omega
    rw [e, if_neg hlt]
    go_enter Try.func34, Try.ntmps34
    go_upto_region 3 with fail
    go_region
    go_wp2
    go_ret2
    exact ⟨rfl, (Below.refl _ _).drew⟩

end Go.Proofs.Ytljceoojbppaeaa
