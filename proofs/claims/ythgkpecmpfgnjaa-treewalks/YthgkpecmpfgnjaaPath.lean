/-
  The places that are passed, when a number is looked for: the program's and the document's.
-/
import Derived.Test.YthgkpecmpfgnjaaLeaf
namespace Go.Proofs.Ythgkpecmpfgnjaa
open Go.RowKit

/-- the search so far. -/
def Way (l : List Int) (n : Int) (len : Nat) (out : List Nat) (a b : Nat) : Prop := a < b ∧ b ≤ len ∧ out ++ pathF l n a b = pathF l n 0 len
theorem Way.len {l : List Int} {n : Int} {len a b : Nat} {out : List Nat} (h : Way l n len out a b) : out.length ≤ len := by
  have h1 := congrArg List.length h.2.2
  rw [List.length_append] at h1
  have h2 := pathF_le' l n len 0 len (by omega)
  have h3 : 1 ≤ (pathF l n a b).length := by
    by_cases hs : b - a < 2
    · rw [pathF_one hs]; exact Nat.le_refl _
    · rw [pathF_two (by omega), List.length_cons]; omega
  omega
theorem Way.up {l : List Int} {n : Int} {len a b : Nat} {out : List Nat} (h : Way l n len out a b) (h2 : 2 ≤ b - a) (hl : l.getD (mid a b) 0 ≤ n) : Way l n len (out ++ [mid a b]) (mid a b) b :=
  ⟨(mid_lt h2).2, h.2.1, by rw [← h.2.2, pathF_up h2 hl]; simp⟩
theorem Way.down {l : List Int} {n : Int} {len a b : Nat} {out : List Nat} (h : Way l n len out a b) (h2 : 2 ≤ b - a) (hl : ¬ l.getD (mid a b) 0 ≤ n) : Way l n len (out ++ [mid a b]) a (mid a b) :=
  ⟨(mid_lt h2).1, by have := (mid_lt h2).2; have := h.2.1; omega, by rw [← h.2.2, pathF_down h2 hl]; simp⟩
theorem Way.last {l : List Int} {n : Int} {len a b : Nat} {out : List Nat} (h : Way l n len out a b) (h2 : b - a < 2) : out ++ [a] = pathF l n 0 len := by rw [← h.2.2, pathF_one h2]

set_option maxHeartbeats 2000000 in
theorem path_any (a : Option Addr) (len cap : Nat) (l : List Int) (n : Int) (w : World) (h : Ns .u32 w a len l) :
    Calls Try.prog 13 #[.slice a len cap, .int .u32 n] w fun e w' => Told w w' e (pMids l n) := by
  have hll := h.1
  by_cases h0 : len = 0
  · have e1 : pMids l n = [] := by unfold pMids; rw [if_pos (by omega)]
    rw [e1]
    subst h0
    clear e1 h hll
    go_enter Try.func13, Try.ntmps13
    go_wp2
    go_ret
    exact ⟨Below.refl _ _, _, rfl, owns_nil _ _ _ _⟩
  · have HW : Hid (∀ W : World, Below w.heap.size w W → Calls Try.prog 19 #[.slice a len cap] W fun e w' => e = .returned (.int .i64 (bErr l)) ∧ Below w.heap.size w w') := fun W hb => (wrong_any a len cap l W (h.below hb)).mono fun e w' ⟨h1, h2⟩ => ⟨h1, hb.trans (h2.mono hb.size)⟩
    have hl0 : ((len : Int) == 0) = false := by simp; omega
    by_cases hB : bErr l = 0
    · have e1 : pMids l n = pathF l n 0 len := by unfold pMids; rw [if_neg (by omega), if_pos hB, hll]
      rw [e1]
      have H4 : Hid (len ≤ 4096) := by have := (bErr_zero hB).1; unfold Hid; omega
      rw [hB] at HW
      clear e1 hB
      have HZ : Hid (len ≠ 0) := h0
      clear h0
      go_enter Try.func13, Try.ntmps13
      go_wp2_with (go_at_call 19; refine (HW.out _ (Below.refl _ _)).mono ?_; rintro e w1 ⟨rfl, hb1⟩)
      go_loopw [5, 6, 7] (fun v f t wr => ∃ (x y : Nat) (out : List Nat), Way l n len out x y ∧ f = .int .i64 x ∧ t = .int .i64 y ∧ wr.ownsRow w.heap.size 3 1 v out.length (cellsN out) ∧ Below w.heap.size w wr) (fun _ f t _ => (intOf t).toNat - (intOf f).toNat)
      case atStart => exact ⟨0, len, [], ⟨by have := HZ.out; omega, Nat.le_refl _, rfl⟩, rfl, rfl, owns_nil _ _ _ _, hb1⟩
      case round =>
        obtain ⟨x, y, out, hway, rfl, rfl, ho, hbr⟩ := hrel
        have HY : Hid (Way l n len out x y) := hway
        have hx : Hid (x < y) := hway.1
        have hy : Hid (y ≤ len) := hway.2.1
        have hol : Hid (out.length ≤ 4096) := Nat.le_trans hway.len H4.out
        clear hway
        have hbs := hbr.size
        by_cases h2 : 2 ≤ y - x
        · have HH : Hid (∀ W : World, Calls Try.prog 20 #[.int .i64 x, .int .i64 y] W fun e w' => e = .returned (.bool true) ∧ w' = W) := fun W => (halved_any x y W (by have := hx.out; omega) (by have := hy.out; have := H4.out; omega)).mono fun e w' ⟨h1, h3⟩ => ⟨by rw [h1, decide_eq_true h2], h3⟩
          have HM : Hid (∀ W : World, Calls Try.prog 21 #[.int .i64 x, .int .i64 y] W fun e w' => e = .returned (.int .i64 (mid x y : Nat)) ∧ w' = W) := fun W => middle_any x y W (by have := hx.out; omega) (by have := hy.out; have := H4.out; omega)
          have hml := mid_lt h2
          obtain ⟨b, off, rfl, hc⟩ := h.2 (by have := hx.out; have := hy.out; omega)
          have q0 := hc (mid x y) (by have := hy.out; omega)
          have HL : Hid (Ns .u32 w (some ⟨b, off, none⟩) len l) := h
          have HQ : Hid (∀ W : World, Below w.heap.size w W → W.cell? ⟨b, off + mid x y, none⟩ = some (.int .u32 (l.getD (mid x y) 0))) := fun W hb => by rw [hb.cell (p := ⟨b, off + mid x y, none⟩) (World.block_lt_of_cell? w _ q0)]; exact q0
          have hi1 : ((mid x y : Nat) : Int) < (len : Int) := by have := hy.out; omega
          have HU : Hid (l.getD (mid x y) 0 ≤ n → Way l n len (out ++ [mid x y]) (mid x y) y) := fun hl => HY.out.up h2 hl
          have HD : Hid (¬ l.getD (mid x y) 0 ≤ n → Way l n len (out ++ [mid x y]) x (mid x y)) := fun hl => HY.out.down h2 hl
          have HML : Hid (x < mid x y ∧ mid x y < y) := hml
          clear hc h q0 hml h2
          generalize mid x y = m at *
          generalize l.getD m 0 = z at *
          by_cases hz : z ≤ n
          · have hw2 := HU.out hz
            have HW2 : Hid (Way l n len (out ++ [m]) m y) := hw2
            clear hw2 HU HD
            go_wp2_with (first | (go_at_call 20; refine (HH.out _).mono ?_; rintro e w5 ⟨rfl, rfl⟩) | (go_at_call 21; refine (HM.out _).mono ?_; rintro e w6 ⟨rfl, rfl⟩) | (at_builtin; refine append_int rfl (.tmp 25) (.tmp 27) rfl w.heap.size _ out.length out rfl (ho.alloc _) m _ rfl (new_int _ _) (by have := hol.out; omega) (by rw [size_alloc']; omega) ?_; intro v4 w4 ho4 hg4; have hb3 := hbr.alloc hbs (Obj.cells #[.int .i64 m] 3); have hb4 := hb3.grown hg4 hb3.size (owns_block ho); have q4 := HQ.out _ hb4))
            go_roundw
            case rel => exact ⟨m, y, out ++ [m], HW2.out, rfl, rfl, by rw [List.length_append]; exact ho4, hb4⟩
            case measure => have := HML.out; simp [intOf]; omega
          · have hw2 := HD.out hz
            have HW2 : Hid (Way l n len (out ++ [m]) x m) := hw2
            clear hw2 HU HD
            have hz' : n < z := by omega
            go_wp2_with (first | (go_at_call 20; refine (HH.out _).mono ?_; rintro e w5 ⟨rfl, rfl⟩) | (go_at_call 21; refine (HM.out _).mono ?_; rintro e w6 ⟨rfl, rfl⟩) | (at_builtin; refine append_int rfl (.tmp 25) (.tmp 27) rfl w.heap.size _ out.length out rfl (ho.alloc _) m _ rfl (new_int _ _) (by have := hol.out; omega) (by rw [size_alloc']; omega) ?_; intro v4 w4 ho4 hg4; have hb3 := hbr.alloc hbs (Obj.cells #[.int .i64 m] 3); have hb4 := hb3.grown hg4 hb3.size (owns_block ho); have q4 := HQ.out _ hb4))
            go_roundw
            case rel => exact ⟨x, m, out ++ [m], HW2.out, rfl, rfl, by rw [List.length_append]; exact ho4, hb4⟩
            case measure => have := HML.out; simp [intOf]; omega
        · have HH : Hid (∀ W : World, Calls Try.prog 20 #[.int .i64 x, .int .i64 y] W fun e w' => e = .returned (.bool false) ∧ w' = W) := fun W => (halved_any x y W (by have := hx.out; omega) (by have := hy.out; have := H4.out; omega)).mono fun e w' ⟨h1, h3⟩ => ⟨by rw [h1, decide_eq_false h2], h3⟩
          have HE : Hid (out ++ [x] = pathF l n 0 len) := HY.out.last (by omega)
          clear h2
          go_wp2_with (first | (go_at_call 20; refine (HH.out _).mono ?_; rintro e w5 ⟨rfl, rfl⟩) | (at_builtin; refine append_int rfl (.tmp 37) (.tmp 39) rfl w.heap.size _ out.length out rfl (ho.alloc _) x _ rfl (new_int _ _) (by have := hol.out; omega) (by rw [size_alloc']; omega) ?_; intro v4 w4 ho4 hg4; have hb3 := hbr.alloc hbs (Obj.cells #[.int .i64 x] 3); have hb4 := hb3.grown hg4 hb3.size (owns_block ho)))
          go_ret
          exact ⟨hb4, _, rfl, by rw [← HE.out, List.length_append]; exact ho4⟩
    · have e1 : pMids l n = [] := by unfold pMids; rw [if_neg (by omega), if_neg hB]
      rw [e1]
      have hb0 : (bErr l == 0) = false := by simp; exact hB
      generalize bErr l = er at *
      clear e1
      go_enter Try.func13, Try.ntmps13
      go_wp2_with (go_at_call 19; refine (HW.out _ (Below.refl _ _)).mono ?_; rintro e w1 ⟨rfl, hb1⟩)
      go_ret
      exact ⟨hb1, _, rfl, owns_nil _ _ _ _⟩

end Go.Proofs.Ythgkpecmpfgnjaa
