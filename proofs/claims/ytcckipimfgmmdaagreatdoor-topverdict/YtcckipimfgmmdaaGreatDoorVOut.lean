/-
  Whether an instruction jumps out, by package check: proved of every instruction.
-/
import Derived.Test.YtcckipimfgmmdaaGreatDoorVSkips
namespace Go.Proofs.YtcckipimfgmmdaaGreatDoor.V
open Go.RowKit

theorem skips_bd (x : In) (hx : x.ok) : (skipsL x).length ≤ 2 ∧ ∀ s ∈ skipsL x, 0 ≤ s ∧ s ≤ 4294967295 := by
  obtain ⟨c, t, f, k⟩ := x
  unfold In.ok at hx
  dsimp only at hx
  unfold skipsL
  dsimp only
  repeat' split
  all_goals (refine ⟨by simp, ?_⟩; intro s hs; simp at hs; try omega)

/-- is one of the numbers too great? -/
def anyOut (l : List Int) (n : Nat) : Bool := l.any (fun s => !insB s n)

theorem anyOut_take (l : List Int) (n k : Nat) (hk : k < l.length) : anyOut (l.take (k + 1)) n = (anyOut (l.take k) n || !insB (l.getD k 0) n) := by
  have e1 : l.take (k + 1) = l.take k ++ [l[k]] := by rw [List.take_add_one, List.getElem?_eq_getElem hk]; rfl
  have e2 : l.getD k 0 = l[k] := by simp [hk]
  rw [e1, e2]
  unfold anyOut
  rw [List.any_append, List.any_cons, List.any_nil, Bool.or_false]

theorem anyOut_get (l : List Int) (n k : Nat) (hk : k < l.length) (h : insB (l.getD k 0) n = false) : anyOut l n = true := by
  have e2 : l.getD k 0 = l[k] := by simp [hk]
  unfold anyOut
  rw [List.any_eq_true]
  exact ⟨l[k], List.getElem_mem hk, by rw [← e2, h]; rfl⟩

set_option maxHeartbeats 800000 in
theorem out_any (x : In) (n : Nat) (w : World) (hx : x.ok) (hn : n ≤ 1000000) :
    Calls Tryz.prog 66 #[x.val, .int .i64 n] w fun e w' => e = .returned (.bool (outB x n)) ∧ Below w.heap.size w w' := by
  obtain ⟨hl2, hbd⟩ := skips_bd x hx
  have HJ : Hid (∀ W : World, Calls Tryz.prog 109 #[.int .u16 x.c] W fun e w' => e = .returned (.bool (jumpsB x.c)) ∧ w' = W) := fun W => jumps_any x.c W
  have HK : Hid (∀ W : World, Calls Tryz.prog 110 #[x.val] W fun e w' => SkipsTold W w' e (skipsL x)) := fun W => skips_any x W hx
  have HB : Hid (∀ s ∈ skipsL x, 0 ≤ s ∧ s ≤ 4294967295) := hbd
  have HO : Hid (outB x n = (jumpsB x.c && anyOut (skipsL x) n)) := rfl
  clear hbd hx
  generalize skipsL x = sl at *
  generalize outB x n = ob at *
  obtain ⟨c, t, f, k⟩ := x
  unfold In.val at *
  dsimp only at *
  generalize jumpsB c = q at *
  have e1 : ∀ o, Below w.heap.size w (w.alloc o) := fun o => (Below.refl _ _).alloc (Nat.le_refl _) _
  cases q with
  | false =>
    have ho : Hid (ob = false) := HO.out
    clear HO
    go_enter Tryz.func66, Tryz.ntmps66
    go_wp2_with (go_at_call 109; refine (HJ.out _).mono ?_; rintro e w2 ⟨rfl, rfl⟩)
    go_ret
    exact ⟨ret_bool ho.out.symm, e1 _⟩
  | true =>
    have ho : Hid (ob = anyOut sl n) := by unfold Hid; rw [HO.out, Bool.true_and]
    clear HO
    go_enter Tryz.func66, Tryz.ntmps66
    go_wp2_with (first | (go_at_call 109; refine (HJ.out _).mono ?_; rintro e w2 ⟨rfl, rfl⟩) | (go_at_call 110; refine (HK.out _).mono ?_; rintro e w3 ⟨⟨a3, rfl, n3⟩, b3⟩))
    have hb := (e1 _).trans (b3.mono (by rw [size_alloc']; omega))
    have hll := n3.1
    go_loop [14] (fun i => ∃ k : Nat, k ≤ sl.length ∧ i = .int .i64 k ∧ anyOut (sl.take k) n = false) (fun i => sl.length - (intOf i).toNat)
    case atStart => exact ⟨0, Nat.zero_le _, rfl, rfl⟩
    case round =>
      obtain ⟨k, hk, rfl, hno⟩ := hrel
      have HN : Hid (anyOut (sl.take k) n = false) := hno
      clear hno
      by_cases hlt : k < sl.length
      · obtain ⟨b, off, rfl, hc⟩ := n3.2 (by omega)
        have hck := hc k hlt
        clear hc
        have hs := HB.out (sl.getD k 0) (by simp [hlt])
        have HT : Hid (anyOut (sl.take (k + 1)) n = (anyOut (sl.take k) n || !insB (sl.getD k 0) n)) := anyOut_take sl n k hlt
        have HG : Hid (insB (sl.getD k 0) n = false → anyOut sl n = true) := anyOut_get sl n k hlt
        have HW : Hid (∀ W : World, Calls Tryz.prog 111 #[.int .u32 (sl.getD k 0), .int .i64 n] W fun e w' => e = .returned (.bool (insB (sl.getD k 0) n)) ∧ w' = W) := fun W => within_any (sl.getD k 0) n W hs.1 hs.2 hn
        clear hs
        generalize insB (sl.getD k 0) n = ib at *
        generalize sl.getD k 0 = s at *
        cases ib with
        | true =>
          go_wp2_with (go_at_call 111; refine (HW.out _).mono ?_; rintro e w5 ⟨rfl, rfl⟩)
          go_round
          case rel => exact ⟨k + 1, by omega, by go_num, by rw [HT.out, HN.out]; rfl⟩
          case measure => simp [intOf]; omega
        | false =>
          have HG2 : Hid (anyOut sl n = true) := HG.out rfl
          go_wp2_with (go_at_call 111; refine (HW.out _).mono ?_; rintro e w5 ⟨rfl, rfl⟩)
          go_ret
          exact ⟨ret_bool (by rw [ho.out, HG2.out]), hb⟩
      · have HN2 : Hid (anyOut sl n = false) := by have := HN.out; rw [List.take_of_length_le (by omega)] at this; exact this
        clear n3
        go_wp2
        go_ret
        exact ⟨ret_bool (by rw [ho.out, HN2.out]), hb⟩

end Go.Proofs.YtcckipimfgmmdaaGreatDoor.V
