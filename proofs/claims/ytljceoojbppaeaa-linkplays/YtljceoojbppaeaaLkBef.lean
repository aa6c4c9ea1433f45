/-
  What befalls a frame.
-/
import Derived.Test.YtljceoojbppaeaaLkWay
namespace Go.Proofs.Ytljceoojbppaeaa
open Go.RowKit D

/-- has a row of a link a frame of this number? -/
theorem hasL_any (w : World) (b : Nat) (s : Lk) (up : Bool) (h : LkV w b s) (n : Int) :
    Calls Try.prog 28 #[.pointer (some ⟨b, offs up, none⟩), .int .i64 n] w fun e w' => e = .returned (.bool (hasN (s.sel up) n)) ∧ w' = w := by
  obtain ⟨A, Z, hA, hR, _⟩ := h.row up
  rw [← hA]
  exact has_any w b A Z _ hR n
theorem removeL_any (w : World) (b : Nat) (s : Lk) (up : Bool) (h : LkV w b s) (n : Int) (hn : hasN (s.sel up) n = true) :
    Calls Try.prog 29 #[.pointer (some ⟨b, offs up, none⟩), .int .i64 n] w fun e w' => e = .returned (.tuple #[]) ∧ LkV w' b (s.take up n) ∧ Kb b w w' := by
  obtain ⟨A, Z, hA, hR, hB⟩ := h.row up
  have h1 := hasN_lt hn
  obtain ⟨m, rfl⟩ : ∃ m : Nat, n = (m : Int) := ⟨n.toNat, by omega⟩
  rw [← hA]
  refine (remove_any w b A Z _ hR m (by simpa using h1.2)).mono fun e w' ⟨h2, h3, h4⟩ => ⟨h2, ?_, h4⟩
  unfold Lk.take
  rw [if_pos hn]
  exact hB w' _ (okR_erase (Lk.ok_sel h.ok up) _) h3
theorem addL_any (w : World) (b : Nat) (s : Lk) (up : Bool) (h : LkV w b s) (f : List Int) (hf : okF f) :
    Calls Try.prog 27 #[.pointer (some ⟨b, offs up, none⟩), .string (strOfNums f)] w fun e w' => e = .returned (.bool (decide ((s.sel up).length < 64))) ∧ LkV w' b (if (s.sel up).length < 64 then s.put up (s.sel up ++ [f]) else s) ∧ Kb b w w' := by
  obtain ⟨A, Z, hA, hR, hB⟩ := h.row up
  rw [← hA]
  by_cases hl : (s.sel up).length < 64
  · refine (add_yes w b A Z _ hR hl f).mono fun e w' ⟨h2, h3, h4⟩ => ⟨by rw [h2, decide_eq_true hl], ?_, h4⟩
    rw [if_pos hl]
    exact hB w' _ (okR_snoc (Lk.ok_sel h.ok up) hl hf) h3
  · refine (add_no w b A Z _ hR (by have := hR.le; omega) f).mono fun e w' ⟨h2, h3⟩ => ⟨by rw [h2, decide_eq_false hl], ?_, by rw [h3]; exact Kb.refl _ _⟩
    rw [if_neg hl, h3]
    exact h

set_option maxHeartbeats 4000000 in
theorem drop_bef (b : Nat) (s : Lk) (w : World) (h : LkV w b s) (n : Int) (hn : n < 9223372036854775808) :
    Calls Try.prog 30 #[.pointer (some ⟨b, 0, none⟩), .int .i64 n, .iface 59 (.agg #[])] w fun e w' => e = .returned (.bool (s.has n)) ∧ LkV w' b (s.drop n) ∧ Kb b w w' := by
  have hta : ∀ W : World, (Instr.typeAssert (.iface 59 (.agg #[])) 70 59 true).run Try.prog W = .ok (.tuple #[.agg #[], .bool true]) W := fun W => by kernel_rfl
  have HF : Hid (Calls Try.prog 34 #[.pointer (some ⟨b, 0, none⟩), .int .i64 n] w fun e w' => e = .returned (.tuple #[wayV (s.way n), .int .i64 (s.at n)]) ∧ Below w.heap.size w w') := find_any b s w h n hn
  have HL : Hid (LkV w b s) := h
  clear h
  have HD : Hid (s.has n = hasN (s.sel (s.way n)) (s.at n)) := rfl
  have HE : Hid (s.drop n = s.take (s.way n) (s.at n)) := rfl
  generalize s.has n = q at *
  generalize s.drop n = s' at *
  generalize s.at n = k at *
  generalize s.way n = up at *
  go_enter Try.func30, Try.ntmps30
  go_upto_region 2 with (go_at_call 34; refine HF.out.mono ?_; rintro e w1 ⟨rfl, hb1⟩)
  have HL1 : Hid (LkV w1 b s) := HL.out.over hb1
  go_upto_region 3 with (go_at_call 25; refine (row_any b up w1).mono ?_; rintro e w2 ⟨rfl, hb2⟩)
  have HL2 : Hid (LkV w2 b s) := HL1.out.over hb2
  have HB2 : Hid (Below w.heap.size w w2) := hb1.trans (hb2.mono hb1.size)
  have HH : Hid (Calls Try.prog 28 #[.pointer (some ⟨b, offs up, none⟩), .int .i64 k] w2 fun e w' => e = .returned (.bool q) ∧ w' = w2) := by
    have := hasL_any w2 b s up HL2.out k
    rw [← HD.out] at this
    exact this
  clear hb1 hb2
  cases q with
  | false =>
    go_wp2_with (go_at_call 28; refine HH.out.mono ?_; rintro e w3 ⟨rfl, rfl⟩)
    go_ret
    refine ⟨rfl, ?_, kb_below HB2.out⟩
    rw [HE.out]
    unfold Lk.take
    rw [← HD.out, if_neg (by decide)]
    exact HL2.out
  | true =>
    have hb3 : Below w2.heap.size w2 (w2.alloc (.cells #[] 59)) := (Below.refl _ _).alloc (Nat.le_refl _) _
    have HL3 : Hid (LkV (w2.alloc (.cells #[] 59)) b s) := HL2.out.over hb3
    have HB3 : Hid (Below w.heap.size w (w2.alloc (.cells #[] 59))) := HB2.out.trans (hb3.mono HB2.out.size)
    have HR : Hid (Calls Try.prog 29 #[.pointer (some ⟨b, offs up, none⟩), .int .i64 k] (w2.alloc (.cells #[] 59)) fun e w' => e = .returned (.tuple #[]) ∧ LkV w' b (s.take up k) ∧ Kb b (w2.alloc (.cells #[] 59)) w') := removeL_any _ b s up HL3.out k HD.out.symm
    clear hb3
    go_upto_region 8 with (go_at_call 28; refine HH.out.mono ?_; rintro e w3 ⟨rfl, rfl⟩)
    generalize w3.alloc (.cells #[] 59) = w4 at *
    go_wp2_with (go_at_call 29; refine HR.out.mono ?_; rintro e w5 ⟨rfl, h5, k5⟩)
    go_ret
    exact ⟨rfl, by rw [HE.out]; exact h5, (kb_below HB3.out).trans k5⟩

end Go.Proofs.Ytljceoojbppaeaa
