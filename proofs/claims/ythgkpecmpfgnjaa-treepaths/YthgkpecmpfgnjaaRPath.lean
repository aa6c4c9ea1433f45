/-
  The places that are passed, when a number is looked for: the document's.
-/
import Derived.Test.YthgkpecmpfgnjaaPath
namespace Go.Proofs.Ythgkpecmpfgnjaa
open Go.RowKit

theorem pMids_no {l : List Int} {n : Int} (h : l.length = 0 ∨ 4096 < l.length ∨ rises l = false) : pMids l n = [] := by
  unfold pMids bErr
  rcases h with h | h | h
  · rw [if_pos h]
  · rw [if_neg (by omega), if_pos h, if_neg (by omega)]
  · by_cases h0 : l.length = 0
    · rw [if_pos h0]
    · rw [if_neg h0, h]
      split
      · split at * <;> simp_all
      · rfl

theorem pMids_yes {l : List Int} {n : Int} (h0 : l.length ≠ 0) (h4 : ¬ 4096 < l.length) (h : rises l = true) : pMids l n = pathF l n 0 l.length := by
  have e : bErr l = 0 := by unfold bErr; rw [if_neg h4, if_pos h]
  unfold pMids
  rw [if_neg h0, if_pos e]

set_option maxHeartbeats 2000000 in
theorem refPath_any (a : Option Addr) (len cap : Nat) (l : List Int) (n : Int) (w : World) (h : Ns .u32 w a len l) :
    Calls Try.prog 14 #[.slice a len cap, .int .u32 n] w fun e w' => Told w w' e (pMids l n) := by
  have hll := h.1
  by_cases h0 : len = 0
  · rw [pMids_no (.inl (by omega))]
    subst h0
    clear h hll
    go_enter Try.func14, Try.ntmps14
    go_wp2
    go_ret
    exact ⟨Below.refl _ _, _, rfl, owns_nil _ _ _ _⟩
  · have hl0 : ((len : Int) == 0) = false := by simp; omega
    by_cases h4 : 4096 < len
    · rw [pMids_no (.inr (.inl (by omega)))]
      have h4' : (4096 : Int) < (len : Int) := by omega
      clear h hll h4 h0
      go_enter Try.func14, Try.ntmps14
      go_wp2
      go_ret
      exact ⟨Below.refl _ _, _, rfl, owns_nil _ _ _ _⟩
    · have HW : Hid (∀ W : World, Below w.heap.size w W → Calls Try.prog 22 #[.slice a len cap] W fun e w' => e = .returned (.bool (rises l)) ∧ Below w.heap.size w w') := fun W hb => (rises_any a len cap l W (h.below hb) (by omega)).mono fun e w' ⟨h1, h2⟩ => ⟨h1, hb.trans (h2.mono hb.size)⟩
      have h4' : (len : Int) ≤ 4096 := by omega
      by_cases hB : rises l = true
      · have e1 : pMids l n = pathF l n 0 len := by rw [pMids_yes (by omega) (by omega) hB, hll]
        rw [e1]
        have H4 : Hid (len ≤ 4096) := by unfold Hid; omega
        rw [hB] at HW
        clear e1 hB h4
        have HZ : Hid (len ≠ 0) := h0
        clear h0
        go_enter Try.func14, Try.ntmps14
        go_wp2_with (go_at_call 22; refine (HW.out _ (Below.refl _ _)).mono ?_; rintro e w1 ⟨rfl, hb1⟩)
        go_loopw [5, 6, 7] (fun v f t wr => ∃ (x y : Nat) (out : List Nat), Way l n len out x y ∧ f = .int .i64 x ∧ t = .int .i64 y ∧ wr.ownsRow w.heap.size 3 1 v out.length (cellsN out) ∧ Below w.heap.size w wr) (fun _ f t _ => (intOf t).toNat - (intOf f).toNat)
        case atStart => exact ⟨0, len, [], ⟨by have := HZ.out; omega, Nat.le_refl _, rfl⟩, rfl, rfl, owns_nil _ _ _ _, hb1⟩
        case round =>
          obtain ⟨x, y, out, hway, rfl, rfl, ho, hbr⟩ := hrel
          have HY : Hid (Way l n len out x y) := hway
          have hx : (x : Int) < (y : Int) := by have := hway.1; omega
          have hy : (y : Int) ≤ (len : Int) := by have := hway.2.1; omega
          have hol : Hid (out.length ≤ 4096) := Nat.le_trans hway.len H4.out
          clear hway
          have hbs := hbr.size
          by_cases h2 : 2 ≤ y - x
          · have hml := mid_lt h2
            obtain ⟨b, off, rfl, hc⟩ := h.2 (by omega)
            have q0 := hc (mid x y) (by omega)
            have HL : Hid (Ns .u32 w (some ⟨b, off, none⟩) len l) := h
            have HQ : Hid (∀ W : World, Below w.heap.size w W → W.cell? ⟨b, off + mid x y, none⟩ = some (.int .u32 (l.getD (mid x y) 0))) := fun W hb => by rw [hb.cell (p := ⟨b, off + mid x y, none⟩) (World.block_lt_of_cell? w _ q0)]; exact q0
            have hi1 : ((mid x y : Nat) : Int) < (len : Int) := by omega
            have HU : Hid (l.getD (mid x y) 0 ≤ n → Way l n len (out ++ [mid x y]) (mid x y) y) := fun hl => HY.out.up h2 hl
            have HD : Hid (¬ l.getD (mid x y) 0 ≤ n → Way l n len (out ++ [mid x y]) x (mid x y)) := fun hl => HY.out.down h2 hl
            have HML : Hid (x < mid x y ∧ mid x y < y) := hml
            have em : (x : Int) + ((y : Int) - (x : Int)) / 2 = ((mid x y : Nat) : Int) := by unfold mid; omega
            have h2' : (1 : Int) < (y : Int) - (x : Int) := by omega
            clear hc h q0 hml h2
            generalize mid x y = m at *
            generalize l.getD m 0 = z at *
            by_cases hz : z ≤ n
            · have hw2 := HU.out hz
              have HW2 : Hid (Way l n len (out ++ [m]) m y) := hw2
              clear hw2 HU HD
              go_wp2_with (at_builtin; refine append_int rfl (.tmp 34) (.tmp 36) rfl w.heap.size _ out.length out rfl (ho.alloc _) m _ rfl (new_int _ _) (by have := hol.out; omega) (by rw [size_alloc']; omega) ?_; intro v4 w4 ho4 hg4; have hb3 := hbr.alloc hbs (Obj.cells #[.int .i64 m] 3); have hb4 := hb3.grown hg4 hb3.size (owns_block ho); have q4 := HQ.out _ hb4)
              go_roundw
              case rel => exact ⟨m, y, out ++ [m], HW2.out, rfl, rfl, by rw [List.length_append]; exact ho4, hb4⟩
              case measure => have := HML.out; simp [intOf]; omega
            · have hw2 := HD.out hz
              have HW2 : Hid (Way l n len (out ++ [m]) x m) := hw2
              clear hw2 HU HD
              have hz' : n < z := by omega
              go_wp2_with (at_builtin; refine append_int rfl (.tmp 34) (.tmp 36) rfl w.heap.size _ out.length out rfl (ho.alloc _) m _ rfl (new_int _ _) (by have := hol.out; omega) (by rw [size_alloc']; omega) ?_; intro v4 w4 ho4 hg4; have hb3 := hbr.alloc hbs (Obj.cells #[.int .i64 m] 3); have hb4 := hb3.grown hg4 hb3.size (owns_block ho); have q4 := HQ.out _ hb4)
              go_roundw
              case rel => exact ⟨x, m, out ++ [m], HW2.out, rfl, rfl, by rw [List.length_append]; exact ho4, hb4⟩
              case measure => have := HML.out; simp [intOf]; omega
          · have HE : Hid (out ++ [x] = pathF l n 0 len) := HY.out.last (by omega)
            have h2' : (y : Int) - (x : Int) ≤ 1 := by omega
            clear h2
            go_wp2_with (at_builtin; refine append_int rfl (.tmp 46) (.tmp 48) rfl w.heap.size _ out.length out rfl (ho.alloc _) x _ rfl (new_int _ _) (by have := hol.out; omega) (by rw [size_alloc']; omega) ?_; intro v4 w4 ho4 hg4; have hb3 := hbr.alloc hbs (Obj.cells #[.int .i64 x] 3); have hb4 := hb3.grown hg4 hb3.size (owns_block ho))
            go_ret
            exact ⟨hb4, _, rfl, by rw [← HE.out, List.length_append]; exact ho4⟩
      · have hB' : rises l = false := by simpa using hB
        rw [pMids_no (.inr (.inr hB'))]
        rw [hB'] at HW
        clear hB hB' h h4
        go_enter Try.func14, Try.ntmps14
        go_wp2_with (go_at_call 22; refine (HW.out _ (Below.refl _ _)).mono ?_; rintro e w1 ⟨rfl, hb1⟩)
        go_ret
        exact ⟨hb1, _, rfl, owns_nil _ _ _ _⟩

end Go.Proofs.Ythgkpecmpfgnjaa
