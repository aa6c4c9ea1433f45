/-
  A number's bytes, by the document's answer.
-/
import Derived.Test.YtfjipaalelkpjaaFrHead
import Derived.Laws.MakeOwn
namespace Go.Proofs.Ytfjipaalelkpjaa
open Go.RowKit D

theorem wt_blk {w : World} {b : Nat} {l : List Int} (h : Blk w b 5 (cellsB l)) (hl : ∀ n ∈ l, 0 ≤ n ∧ n ≤ 255) (h2 : l.length ≤ maxLen) : Wt w (.slice (some ⟨b, 0, none⟩) l.length l.length) l := by
  refine ⟨hl, .inr ⟨b, 0, l.length, rfl, Nat.le_refl _, h2, h.lt, fun i hi => ?_, fun i => h.f i, fun i hi => ?_⟩⟩
  · rw [h.cell, List.getElem?_eq_getElem (by simp [cellsB]; omega)]
    rfl
  · rw [h.cell]
    simp [cellsB, List.getElem?_eq_getElem (show i < l.length by omega)]
theorem make_two (w : World) : (Instr.makeSlice 22 (.int .i64 2) (.int .i64 2)).run Try.prog w = .ok (.slice (some ⟨w.heap.size, 0, none⟩) 2 2) (w.alloc (.cells #[.int .u8 0, .int .u8 0] 5)) := by
  obtain ⟨i0, hi, hz0, hz1, hz2⟩ := info_parts Try.info5
  have := run_make (P := Try.prog) w 22 5 i0 (.int .u8 0) Try.underlying22 hi hz0 .i64 .i64 2 2 (by decide) (by decide) (by rw [hz2]; decide) (by decide)
  rw [hz1] at this
  have e : madeCells (Value.int .u8 0).cells (Int.toNat 2 * 1) = #[.int .u8 0, .int .u8 0] := by kernel_rfl
  rw [e] at this
  exact this
theorem make_four (w : World) : (Instr.makeSlice 22 (.int .i64 4) (.int .i64 4)).run Try.prog w = .ok (.slice (some ⟨w.heap.size, 0, none⟩) 4 4) (w.alloc (.cells #[.int .u8 0, .int .u8 0, .int .u8 0, .int .u8 0] 5)) := by
  obtain ⟨i0, hi, hz0, hz1, hz2⟩ := info_parts Try.info5
  have := run_make (P := Try.prog) w 22 5 i0 (.int .u8 0) Try.underlying22 hi hz0 .i64 .i64 4 4 (by decide) (by decide) (by rw [hz2]; decide) (by decide)
  rw [hz1] at this
  have e : madeCells (Value.int .u8 0).cells (Int.toNat 4 * 1) = #[.int .u8 0, .int .u8 0, .int .u8 0, .int .u8 0] := by kernel_rfl
  rw [e] at this
  exact this

/-- what is filled in so far, of two. -/
def filled2 (n : Int) : Nat → Int × List Int
  | 0 => (n, [0, 0])
  | 1 => (n / 256, [0, n % 256])
  | _ => (n / 65536, [n / 256 % 256, n % 256])
set_option maxHeartbeats 2000000 in
theorem big_two (n : Nat) (w : World) (hn : n ≤ 512) :
    Calls Try.prog 22 #[.int .i64 n, .int .i64 2] w fun e w' => ∃ v, e = .returned v ∧ Wt w' v (two n) ∧ Below w.heap.size w w' ∧ ∀ k, v.ownBlock = some k → w.heap.size ≤ k := by
  have hm := make_two w
  have HB : Hid (Below w.heap.size w (w.alloc (.cells #[.int .u8 0, .int .u8 0] 5))) := (Below.refl _ _).alloc (Nat.le_refl _) _
  have HK : Hid (Blk (w.alloc (.cells #[.int .u8 0, .int .u8 0] 5)) w.heap.size 5 (cellsB [0, 0])) := blk_new w _ _
  go_enter Try.func22, Try.ntmps22
  go_wp2
  go_loopw [0, 6] (fun m i wr => ∃ k : Nat, k ≤ 2 ∧ i = .int .i64 (1 - k) ∧ m = .int .i64 (filled2 n k).1 ∧ Blk wr w.heap.size 5 (cellsB (filled2 n k).2) ∧ Below w.heap.size w wr) (fun _ i _ => (intOf i + 1).toNat)
  case atStart => exact ⟨0, by decide, rfl, rfl, HK.out, HB.out⟩
  case round =>
    obtain ⟨k, hk, rfl, rfl, hbk, hbl⟩ := hrel
    have hb2 := fun i v => hbk.set i v
    have HL : Hid (Below w.heap.size w wr) := hbl
    match k, hk with
    | 0, _ =>
      have hc : wr.cell? ⟨w.heap.size, 1, none⟩ = some (.int .u8 0) := hbk.cell 1
      have hf := hbk.f 1
      have HS : Hid (Blk (wr.setCell ⟨w.heap.size, 1, none⟩ (.int .u8 ((n : Int) % 256))) w.heap.size 5 (cellsB (filled2 n 1).2)) := hbk.set 1 (.int .u8 ((n : Int) % 256))
      clear hbk hb2 hbl
      simp only [filled2] at *
      go_wp2
      go_round
      case rel => exact ⟨1, by decide, rfl, rfl, HS.out, HL.out.setCell (Nat.le_refl _) _⟩
      case measure => simp [intOf]
    | 1, _ =>
      have hc : wr.cell? ⟨w.heap.size, 0, none⟩ = some (.int .u8 0) := hbk.cell 0
      have hf := hbk.f 0
      have HS : Hid (Blk (wr.setCell ⟨w.heap.size, 0, none⟩ (.int .u8 ((n : Int) / 256 % 256))) w.heap.size 5 (cellsB (filled2 n 2).2)) := hbk.set 0 (.int .u8 ((n : Int) / 256 % 256))
      clear hbk hb2 hbl
      simp only [filled2] at *
      go_wp2
      go_round
      case rel => exact ⟨2, by decide, rfl, by simp; omega, HS.out, HL.out.setCell (Nat.le_refl _) _⟩
      case measure => simp [intOf]
    | 2, _ =>
      have HW : Hid (Wt wr (.slice (some ⟨w.heap.size, 0, none⟩) 2 2) (two n)) := by
        have e : (filled2 n 2).2 = two n := by simp only [filled2, two]; congr 1; omega
        rw [e] at hbk
        exact wt_blk hbk (two_bd hn) (by simp [two, maxLen])
      clear hbk hb2 hbl
      simp only [filled2] at *
      go_wp2
      go_ret
      exact ⟨_, rfl, HW.out, HL.out, fun k hk => by cases hk; exact Nat.le_refl _⟩

/-- what is filled in so far, of four. -/
def filled4 (n : Int) : Nat → Int × List Int
  | 0 => (n, [0, 0, 0, 0])
  | 1 => (n / 256, [0, 0, 0, n % 256])
  | 2 => (n / 65536, [0, 0, n / 256 % 256, n % 256])
  | 3 => (n / 16777216, [0, n / 65536 % 256, n / 256 % 256, n % 256])
  | _ => (n / 4294967296, [n / 16777216 % 256, n / 65536 % 256, n / 256 % 256, n % 256])
set_option maxHeartbeats 2000000 in
theorem big_four (n : Int) (w : World) (hn : 0 ≤ n ∧ n ≤ 4294967295) :
    Calls Try.prog 22 #[.int .i64 n, .int .i64 4] w fun e w' => ∃ v, e = .returned v ∧ Wt w' v (four n) ∧ Below w.heap.size w w' ∧ ∀ k, v.ownBlock = some k → w.heap.size ≤ k := by
  have hm := make_four w
  obtain ⟨hn0, hn1⟩ := hn
  have HB : Hid (Below w.heap.size w (w.alloc (.cells #[.int .u8 0, .int .u8 0, .int .u8 0, .int .u8 0] 5))) := (Below.refl _ _).alloc (Nat.le_refl _) _
  have HK : Hid (Blk (w.alloc (.cells #[.int .u8 0, .int .u8 0, .int .u8 0, .int .u8 0] 5)) w.heap.size 5 (cellsB [0, 0, 0, 0])) := blk_new w _ _
  go_enter Try.func22, Try.ntmps22
  go_wp2
  go_loopw [0, 6] (fun m i wr => ∃ k : Nat, k ≤ 4 ∧ i = .int .i64 (3 - k) ∧ m = .int .i64 (filled4 n k).1 ∧ Blk wr w.heap.size 5 (cellsB (filled4 n k).2) ∧ Below w.heap.size w wr) (fun _ i _ => (intOf i + 1).toNat)
  case atStart => exact ⟨0, by decide, rfl, rfl, HK.out, HB.out⟩
  case round =>
    obtain ⟨k, hk, rfl, rfl, hbk, hbl⟩ := hrel
    have HL : Hid (Below w.heap.size w wr) := hbl
    match k, hk with
    | 0, _ =>
      have hc : wr.cell? ⟨w.heap.size, 3, none⟩ = some (.int .u8 0) := hbk.cell 3
      have hf := hbk.f 3
      have HS : Hid (Blk (wr.setCell ⟨w.heap.size, 3, none⟩ (.int .u8 (n % 256))) w.heap.size 5 (cellsB (filled4 n 1).2)) := hbk.set 3 (.int .u8 (n % 256))
      clear hbk hbl
      simp only [filled4] at *
      go_wp2
      go_round
      case rel => exact ⟨1, by decide, rfl, rfl, HS.out, HL.out.setCell (Nat.le_refl _) _⟩
      case measure => simp [intOf]
    | 1, _ =>
      have hc : wr.cell? ⟨w.heap.size, 2, none⟩ = some (.int .u8 0) := hbk.cell 2
      have hf := hbk.f 2
      have HS : Hid (Blk (wr.setCell ⟨w.heap.size, 2, none⟩ (.int .u8 (n / 256 % 256))) w.heap.size 5 (cellsB (filled4 n 2).2)) := hbk.set 2 (.int .u8 (n / 256 % 256))
      clear hbk hbl
      simp only [filled4] at *
      go_wp2
      go_round
      case rel => exact ⟨2, by decide, rfl, by simp; omega, HS.out, HL.out.setCell (Nat.le_refl _) _⟩
      case measure => simp [intOf]
    | 2, _ =>
      have hc : wr.cell? ⟨w.heap.size, 1, none⟩ = some (.int .u8 0) := hbk.cell 1
      have hf := hbk.f 1
      have HS : Hid (Blk (wr.setCell ⟨w.heap.size, 1, none⟩ (.int .u8 (n / 65536 % 256))) w.heap.size 5 (cellsB (filled4 n 3).2)) := hbk.set 1 (.int .u8 (n / 65536 % 256))
      clear hbk hbl
      simp only [filled4] at *
      go_wp2
      go_round
      case rel => exact ⟨3, by decide, rfl, by simp; omega, HS.out, HL.out.setCell (Nat.le_refl _) _⟩
      case measure => simp [intOf]
    | 3, _ =>
      have hc : wr.cell? ⟨w.heap.size, 0, none⟩ = some (.int .u8 0) := hbk.cell 0
      have hf := hbk.f 0
      have HS : Hid (Blk (wr.setCell ⟨w.heap.size, 0, none⟩ (.int .u8 (n / 16777216 % 256))) w.heap.size 5 (cellsB (filled4 n 4).2)) := hbk.set 0 (.int .u8 (n / 16777216 % 256))
      clear hbk hbl
      simp only [filled4] at *
      go_wp2
      go_round
      case rel => exact ⟨4, by decide, rfl, by simp; omega, HS.out, HL.out.setCell (Nat.le_refl _) _⟩
      case measure => simp [intOf]
    | 4, _ =>
      have HW : Hid (Wt wr (.slice (some ⟨w.heap.size, 0, none⟩) 4 4) (four n)) := by
        have e : (filled4 n 4).2 = four n := by simp only [filled4, four]; congr 1; omega
        rw [e] at hbk
        exact wt_blk hbk (four_bd ⟨hn0, hn1⟩) (by simp [four, maxLen])
      clear hbk hbl
      simp only [filled4] at *
      go_wp2
      go_ret
      exact ⟨_, rfl, HW.out, HL.out, fun k hk => by cases hk; exact Nat.le_refl _⟩

end Go.Proofs.Ytfjipaalelkpjaa
