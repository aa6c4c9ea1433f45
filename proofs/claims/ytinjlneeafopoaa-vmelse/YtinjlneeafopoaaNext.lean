/-
  Where any instruction of any program goes on, by package check: proved.
-/
import Derived.Test.YtinjlneeafopoaaNextMath
import Derived.Test.YtinjlneeafopoaaFirst
namespace Go.Proofs.Ytinjlneeafopoaa
open Go.RowKit

/-- a list of places that was told, as memory of its own. -/
def NextTold (w w' : World) (e : Ending) (l : List Int) : Prop := Below w.heap.size w w' ∧ ∃ v, e = .returned v ∧ w'.ownsRow w.heap.size 3 1 v l.length (cellsN l)

theorem new_int (w : World) (z : Int) : (w.alloc (.cells #[.int .i64 z] 3)).cell? ⟨w.heap.size, 0, none⟩ = some (.int .i64 z) := by simp

theorem next_out (a : Option Addr) (len cap : Nat) (i : Int) (w : World) (hi : i < 0 ∨ (len : Int) ≤ i) :
    Calls Try.prog 16 #[.slice a len cap, .int .i64 i] w fun e w' => NextTold w w' e [] := by
  by_cases h0 : i < 0
  · clear hi
    go_enter Try.func16, Try.ntmps16
    go_wp2
    go_ret
    exact ⟨Below.refl _ _, _, rfl, rfl, .inl ⟨rfl, rfl⟩⟩
  · have h1 : (len : Int) ≤ i := by omega
    have h2 : 0 ≤ i := by omega
    clear hi
    go_enter Try.func16, Try.ntmps16
    go_wp2
    go_ret
    exact ⟨Below.refl _ _, _, rfl, rfl, .inl ⟨rfl, rfl⟩⟩

set_option maxHeartbeats 1000000 in
theorem next_in (b off len cap i : Nat) (x : In) (w : World) (hlen : len ≤ 100000) (hi : i < len) (hx : x.ok) (hat : x.at w b (off + i * 4)) :
    Calls Try.prog 16 #[.slice (some ⟨b, off, none⟩) len cap, .int .i64 i] w fun e w' => NextTold w w' e (goOn i (len - 1 - i) (skipsL x)) := by
  obtain ⟨hl2, hbd⟩ := skips_bd x hx
  have HK : Hid (∀ W : World, Calls Try.prog 21 #[x.val] W fun e w' => SkipsTold W w' e (skipsL x)) := fun W => skips_any x W hx
  have HB : Hid (∀ s ∈ skipsL x, 0 ≤ s ∧ s ≤ 4294967295) := hbd
  clear hbd hx
  generalize skipsL x = sl at *
  obtain ⟨c, t, f, k⟩ := x
  obtain ⟨q1, q2, q3, q4⟩ := hat
  unfold In.val at *
  dsimp only at *
  have hbh : (len : Int) - 1 - i = ((len - 1 - i : Nat) : Int) := by omega
  have hn : Hid (len - 1 - i ≤ 100000) := by unfold Hid; omega
  have hi1 : (i : Int) < (len : Int) := by omega
  generalize len - 1 - i = n at *
  go_enter Try.func16, Try.ntmps16
  go_wp2_with (go_at_call 21; refine (HK.out _).mono ?_; rintro e w3 ⟨⟨a3, rfl, n3⟩, b3⟩)
  have hll := n3.1
  have hsz := b3.size
  go_loopw [5, 28] (fun v j wr => ∃ k : Nat, k ≤ sl.length ∧ j = .int .i64 k ∧ wr.ownsRow w3.heap.size 3 1 v (goOn i n (sl.take k)).length (cellsN (goOn i n (sl.take k))) ∧ Below w3.heap.size w3 wr) (fun _ j _ => sl.length - (intOf j).toNat)
  case atStart => exact ⟨0, Nat.zero_le _, rfl, ⟨rfl, .inl ⟨rfl, rfl⟩⟩, Below.refl _ _⟩
  case round =>
    obtain ⟨k, hk, rfl, ho, hbr⟩ := hrel
    by_cases hlt : k < sl.length
    · have hns := n3.below hbr
      obtain ⟨b2, off2, rfl, hc⟩ := hns.2 (by omega)
      have hck := hc k hlt
      clear hc hns
      have hs := HB.out (sl.getD k 0) (by simp [hlt])
      have hs0 := hs.1
      have hs1 := hs.2
      have HT : Hid (goOn i n (sl.take (k + 1)) = goOn i n (sl.take k) ++ (if insB (sl.getD k 0) n = true then [(i : Int) + 1 + sl.getD k 0] else [])) := goOn_take i n sl k hlt
      have HW : Hid (∀ W : World, Calls Try.prog 22 #[.int .u32 (sl.getD k 0), .int .i64 n] W fun e w' => e = .returned (.bool (insB (sl.getD k 0) n)) ∧ w' = W) := fun W => within_any (sl.getD k 0) n W hs.1 hs.2 (by have := hn.out; omega)
      have hgl : Hid ((goOn i n (sl.take k)).length ≤ 2) := by have := goOn_len i n (sl.take k); have h2 := List.length_take_le k sl; unfold Hid; omega
      clear hs
      generalize insB (sl.getD k 0) n = ib at *
      generalize sl.getD k 0 = s at *
      generalize goOn i n (sl.take k) = g at *
      have hbs := hbr.size
      have e1 : IntKind.i64.wrap s = s := by rw [IntKind.wrap_i64]; omega
      cases ib with
      | true =>
        have HT2 : Hid (goOn i n (sl.take (k + 1)) = g ++ [(i : Int) + 1 + s]) := HT.out
        clear HT
        go_wp2_with (first | (go_at_call 22; refine (HW.out _).mono ?_; rintro e w5 ⟨rfl, rfl⟩) | (at_builtin; refine append_int rfl (.tmp 35) (.tmp 41) rfl w3.heap.size _ g.length g rfl (ho.alloc _) ((i : Int) + 1 + s) _ rfl (new_int _ _) (by have := hgl.out; omega) (by rw [size_alloc']; omega) ?_; intro v4 w4 ho4 hg4))
        go_roundw
        case rel =>
          have hb3 := hbr.alloc hbs (Obj.cells #[.int .i64 ((i : Int) + 1 + s)] 3)
          exact ⟨k + 1, by omega, by go_num, by rw [HT2.out, List.length_append]; exact ho4, hb3.grown hg4 hb3.size (owns_block ho)⟩
        case measure => simp [intOf]; omega
      | false =>
        have HT2 : Hid (goOn i n (sl.take (k + 1)) = g) := by unfold Hid; rw [HT.out]; simp
        clear HT
        go_wp2_with (go_at_call 22; refine (HW.out _).mono ?_; rintro e w5 ⟨rfl, rfl⟩)
        go_roundw
        case rel => exact ⟨k + 1, by omega, by go_num, by rw [HT2.out]; exact ho, hbr⟩
        case measure => simp [intOf]; omega
    · have hta : sl.take k = sl := List.take_of_length_le (by omega)
      rw [hta] at ho
      clear hta
      go_wp2
      go_ret
      exact ⟨b3.trans (hbr.mono hsz), _, rfl, owns_lower ho hsz⟩

end Go.Proofs.Ytinjlneeafopoaa
