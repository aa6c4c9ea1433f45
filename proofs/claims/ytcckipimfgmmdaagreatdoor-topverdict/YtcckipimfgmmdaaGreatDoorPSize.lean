/-
  How many bytes of a text are ahead of the first that does not belong.
-/
import Derived.Test.YtcckipimfgmmdaaGreatDoorPSmall
namespace Go.Proofs.YtcckipimfgmmdaaGreatDoor.P
open Go.RowKit

/-- what is passed is of the kind, as far as a place. -/
def Run (p : UInt8 → Bool) (l : (List UInt8)) (pos : Nat) : Prop := pos ≤ l.length ∧ ∀ i c, i < pos → l[i]? = some c → p c = true

theorem Run.last {p : UInt8 → Bool} {s : ByteArray} {pos : Nat} (h : Run p (lst s) pos) (hp : ¬ pos < s.size) : ((lst s).takeWhile p).length = s.size := by
  have h1 := h.1
  rw [lst_length] at h1
  obtain rfl : pos = s.size := by omega
  exact take_while_eq p _ _ h.1 h.2 (fun c hc => by have := (List.getElem?_eq_some_iff.1 hc).1; rw [lst_length] at this; omega)

theorem Run.stop {p : UInt8 → Bool} {s : ByteArray} {pos : Nat} (h : Run p (lst s) pos) (hp : pos < s.size) (hn : p (s[pos]'hp) = false) : ((lst s).takeWhile p).length = pos :=
  take_while_eq p _ _ h.1 h.2 (fun c hc => by rw [lst_at s pos hp] at hc; cases hc; exact hn)

/-- a kind that is told of runes as of their first bytes; all from 128 on alike. -/
structure Kind (q : Nat → Bool) (b : Bool) : Prop where
  high : ∀ n, 128 ≤ n → q n = b

theorem Kind.rune {q : Nat → Bool} {b : Bool} (h : Kind q b) (s : ByteArray) (pos : Nat) (hp : pos < s.size) : q (Utf8.decode s pos).1 = q (s[pos]'hp).toNat := by
  rcases Nat.lt_or_ge (s[pos]'hp).toNat 128 with ha | ha
  · rw [decode_ascii s pos hp ha]
  · rw [h.high _ ha, h.high _ (decode_high s pos hp ha).1]

theorem Kind.step {q : Nat → Bool} {b : Bool} (h : Kind q b) {s : ByteArray} {pos : Nat} (hr : Run (fun c => q c.toNat) (lst s) pos) (hp : pos < s.size) (hq : q (Utf8.decode s pos).1 = true) : Run (fun c => q c.toNat) (lst s) (pos + (Utf8.decode s pos).2) := by
  refine ⟨by rw [lst_length]; exact width_le s pos hp, fun i c hi hc => ?_⟩
  rcases Nat.lt_trichotomy i pos with h1 | h1 | h1
  · exact hr.2 i c h1 hc
  · subst h1
    rw [lst_at s i hp] at hc
    cases hc
    show q _ = true
    rw [← h.rune s i hp]
    exact hq
  · obtain ⟨d, hd, hd1⟩ := decode_tail s pos hp (i - pos) (by omega) (by omega)
    rw [show pos + (i - pos) = i from by omega, hc] at hd
    cases hd
    show q _ = true
    rw [h.high _ hd1]
    rcases Nat.lt_or_ge (s[pos]'hp).toNat 128 with ha | ha
    · rw [decode_ascii s pos hp ha] at hi
      simp at hi
      omega
    · rw [h.high _ (decode_high s pos hp ha).1] at hq
      exact hq

theorem kindW : Kind wN false := ⟨fun _ h => wN_high h⟩
theorem kindN : Kind noN true := ⟨fun _ h => noN_high h⟩

set_option maxHeartbeats 800000 in
theorem sizeW_any (s : ByteArray) (w : World) :
    Calls Tryz.prog 41 #[.string s, .func (.func 71) #[] #[]] w fun e w' => e = .returned (.int .i64 ((lst s).takeWhile ofW).length) ∧ Below w.heap.size w w' := by
  go_enter Tryz.func41, Tryz.ntmps41
  go_wp2
  go_loopw [4] (fun n w' => n = .int .i64 0 ∧ ∃ pos, w' = w.iter s pos ∧ Run ofW (lst s) pos) (fun _ w' => s.size - w'.iterPos w.heap.size)
  case atStart => exact ⟨rfl, 0, rfl, Nat.zero_le _, fun i c h => by omega⟩
  case round =>
    obtain ⟨rfl, pos, rfl, hr⟩ := hrel
    have hbe : Below w.heap.size w (w.iter s pos) := (Below.refl _ _).alloc (Nat.le_refl _) _
    by_cases hp : pos < s.size
    · have hnx : ∀ ty, (Instr.next (.pointer (some ⟨w.heap.size, 0, none⟩)) true ty).run Tryz.prog (w.iter s pos) = _ := fun ty => run_next_any w s pos ty hp
      have hwd := width_pos s pos hp
      rcases Bool.eq_false_or_eq_true (wN (Utf8.decode s pos).1) with hq | hq
      · go_wp2_with (go_at_call 71; refine (w_any _ _).mono ?_; rintro e w' ⟨rfl, rfl⟩; rw [hq])
        go_roundw
        case rel => exact ⟨rfl, _, rfl, kindW.step hr hp hq⟩
        case measure => simp; omega
      · go_wp2_with (go_at_call 71; refine (w_any _ _).mono ?_; rintro e w' ⟨rfl, rfl⟩; rw [hq])
        go_ret
        exact ⟨ret_int (by rw [hr.stop hp (by rw [kindW.rune s pos hp] at hq; exact hq)]), (Below.refl _ _).alloc (Nat.le_refl _) _⟩
    · have hnx : ∀ ty, (Instr.next (.pointer (some ⟨w.heap.size, 0, none⟩)) true ty).run Tryz.prog (w.iter s pos) = _ := fun ty => run_next_end w s pos ty hp
      go_wp2
      go_ret
      exact ⟨ret_int (by rw [hr.last hp]), hbe⟩

set_option maxHeartbeats 800000 in
theorem sizeN_any (s : ByteArray) (w : World) :
    Calls Tryz.prog 41 #[.string s, .func (.func 42) #[] #[]] w fun e w' => e = .returned (.int .i64 ((lst s).takeWhile ofN).length) ∧ Below w.heap.size w w' := by
  go_enter Tryz.func41, Tryz.ntmps41
  go_wp2
  go_loopw [4] (fun n w' => n = .int .i64 0 ∧ ∃ pos, w' = w.iter s pos ∧ Run ofN (lst s) pos) (fun _ w' => s.size - w'.iterPos w.heap.size)
  case atStart => exact ⟨rfl, 0, rfl, Nat.zero_le _, fun i c h => by omega⟩
  case round =>
    obtain ⟨rfl, pos, rfl, hr⟩ := hrel
    have hbe : Below w.heap.size w (w.iter s pos) := (Below.refl _ _).alloc (Nat.le_refl _) _
    by_cases hp : pos < s.size
    · have hnx : ∀ ty, (Instr.next (.pointer (some ⟨w.heap.size, 0, none⟩)) true ty).run Tryz.prog (w.iter s pos) = _ := fun ty => run_next_any w s pos ty hp
      have hwd := width_pos s pos hp
      rcases Bool.eq_false_or_eq_true (noN (Utf8.decode s pos).1) with hq | hq
      · go_wp2_with (go_at_call 42; refine (no_any _ _).mono ?_; rintro e w' ⟨rfl, rfl⟩; rw [hq])
        go_roundw
        case rel => exact ⟨rfl, _, rfl, kindN.step hr hp hq⟩
        case measure => simp; omega
      · go_wp2_with (go_at_call 42; refine (no_any _ _).mono ?_; rintro e w' ⟨rfl, rfl⟩; rw [hq])
        go_ret
        exact ⟨ret_int (by rw [hr.stop hp (by rw [kindN.rune s pos hp] at hq; exact hq)]), (Below.refl _ _).alloc (Nat.le_refl _) _⟩
    · have hnx : ∀ ty, (Instr.next (.pointer (some ⟨w.heap.size, 0, none⟩)) true ty).run Tryz.prog (w.iter s pos) = _ := fun ty => run_next_end w s pos ty hp
      go_wp2
      go_ret
      exact ⟨ret_int (by rw [hr.last hp]), hbe⟩

end Go.Proofs.YtcckipimfgmmdaaGreatDoor.P
