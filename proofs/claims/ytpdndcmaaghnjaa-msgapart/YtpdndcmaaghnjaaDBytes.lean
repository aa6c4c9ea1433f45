/-
  A call's bytes, and the word of a call at a place, by package data, proved of every call.
-/
import Derived.Test.YtpdndcmaaghnjaaDSplit
namespace Go.Proofs.Ytpdndcmaaghnjaa.D
open Go.RowKit

theorem valW_get (ws : List Int) (k : Nat) (hk : k < ws.length) : (cellsW ws).toArray[k]? = some (.int .u32 (ws.getD k 0)) := by
  rw [List.getElem?_toArray]
  exact cellsW_get ws k hk

set_option maxHeartbeats 800000 in
theorem bytes_any (d : Da) (w : World) (hd : d.ok) :
    Calls Try.prog 41 #[d.val] w fun e w' => Below w.heap.size w w' ∧ ∃ v, e = .returned v ∧ w'.ownsRow w.heap.size 5 1 v 64 (cellsB d.enc) := by
  have HL : Hid (d.words.length = 16) := words_len d hd
  have HU : Hid (∀ z ∈ d.words, U32 z) := words_u d hd
  have HC : Hid ((Try.prog.info? 26).map (·.size) = some d.cells.toArray.size) := by unfold Hid; rw [Try.size26]; simp [d.cells_len hd]
  have HG : Hid (∀ k, k < 16 → (cellsW d.words).toArray[k]? = some (.int .u32 (d.words.getD k 0))) := fun k hk => valW_get _ k (by rw [HL.out]; exact hk)
  have HS : Hid (∀ W : World, Calls Try.prog 50 #[.agg d.cells.toArray] W fun e w' => e = .returned (.agg (cellsW d.words).toArray) ∧ Below W.heap.size W w') := fun W => split_any d W hd
  unfold Da.val Da.enc
  generalize d.words = ws at *
  generalize d.cells.toArray = A at *
  generalize (cellsW ws).toArray = R at *
  clear hd
  obtain ⟨i0, hi, hz0, hz1, hz2⟩ := info_parts Try.info5
  have hk1 := blk_new w A 26
  have hk2 : Below w.heap.size w (w.alloc (Obj.cells A 26)) := (Below.refl _ _).alloc (Nat.le_refl _) _
  obtain ⟨wm, hmk, hown, hgr⟩ := run_make_own (P := Try.prog) (w.alloc (Obj.cells A 26)) w.heap.size 30 5 i0 (.int .u8 0) 1 Try.underlying30 hi hz0 hz1 .i64 .i64 64 (by rw [hz2]; omega) (by unfold maxLen; omega) hk2.size
  have hbm : Below (w.alloc (Obj.cells A 26)).heap.size (w.alloc (Obj.cells A 26)) wm := (Below.refl _ _).grown hgr (Nat.le_refl _) (fun k e => by cases e)
  have hk3 : Hid (Blk wm w.heap.size 26 A.toList) := hk1.over hbm
  have hk4 : Hid (Below w.heap.size w wm) := hk2.trans (hbm.mono hk2.size)
  have hkz := hk4.out.size
  rw [size_alloc', show ((64 : Nat) : Int) = 64 from rfl] at hmk
  rw [size_alloc'] at hown
  clear hi hz0 hz1 hz2 hgr hbm hk1 hk2
  have HO : Hid (wm.ownsRow w.heap.size 5 1 (.slice (some ⟨w.heap.size + 1, 0, none⟩) 0 64) 0 []) := hown
  clear hown
  go_enter Try.func41, Try.ntmps41
  go_wp2_with (first | (refine wpList_load_row rfl 26 (.tmp 1) rfl w.heap.size rfl 26 A (0, 0) _ hk3.out Try.underlying26 rfl HC.out ?_) | (go_at_call 50; refine (HS.out _).mono ?_; rintro e w2 ⟨rfl, hb2⟩))
  have ho2 := owns_below HO.out hb2 (Nat.le_refl _)
  have hb3 := hk4.out.trans (hb2.mono hkz)
  clear HO hk3 hk4 hb2 hkz hmk
  go_loopw [3, 9] (fun v i wr => ∃ k : Nat, k ≤ 16 ∧ i = .int .i64 k ∧ wr.ownsRow w.heap.size 5 1 v (k * 4) (cellsB (encW (ws.take k))) ∧ Below w.heap.size w wr) (fun _ i _ => 16 - (intOf i).toNat)
  case atStart => exact ⟨0, by decide, rfl, ho2, hb3⟩
  case round =>
    obtain ⟨k, hk, rfl, ho, hbr⟩ := hrel
    clear ho2 hb3
    by_cases hlt : k < 16
    · have hix : ∀ W : World, (Instr.index 81 (.agg R) (.int .i64 k)).run Try.prog W = .ok (.int .u32 (ws.getD k 0)) W := fun W => index_row 81 23 16 .i64 .u32 Try.underlying81 Try.underlying23 Try.sizeOf23 _ k _ hlt (HG.out k hlt) W
      have HE : Hid (encW (ws.take (k + 1)) = encW (ws.take k) ++ w4 (ws.getD k 0)) := encW_take ws k (by rw [HL.out]; exact hlt)
      have HD : Hid ([ws.getD k 0 % 256, ws.getD k 0 / 256 % 256, ws.getD k 0 / 65536 % 256, ws.getD k 0 / 16777216 % 256] = w4 (ws.getD k 0)) := by
        have := getD_u HU.out k
        unfold U32 at this
        unfold Hid w4
        rw [show ws.getD k 0 / 16777216 % 256 = ws.getD k 0 / 16777216 by omega]
      have HW : Hid (Byt [ws.getD k 0 % 256, ws.getD k 0 / 256 % 256, ws.getD k 0 / 65536 % 256, ws.getD k 0 / 16777216 % 256]) := by
        unfold Hid
        rw [HD.out]
        exact w4_byt _ (getD_u HU.out k)
      generalize ws.getD k 0 = x at *
      generalize encW (ws.take k) = el at *
      have hbs := hbr.size
      go_wp2_with (at_builtin; refine append_bytes rfl (.tmp 12) (.tmp 24) rfl w.heap.size _ (k * 4) el rfl (ho.alloc _) (some ⟨wr.heap.size, 0, none⟩) 4 4 [x % 256, x / 256 % 256, x / 65536 % 256, x / 16777216 % 256] rfl (by simp) (bs_four wr _ _ _ _ HW.out) (by omega) (by rw [size_alloc']; omega) ?_; intro v1 w1 ho1 hg1)
      go_roundw
      case rel =>
        refine ⟨k + 1, by omega, by go_num, ?_, ?_⟩
        · rw [HE.out, ← HD.out, Nat.add_mul, Nat.one_mul]
          exact ho1
        · have hb4 := hbr.alloc hbs (Obj.cells #[.int .u8 (x % 256), .int .u8 (x / 256 % 256), .int .u8 (x / 65536 % 256), .int .u8 (x / 16777216 % 256)] 5)
          exact hb4.grown hg1 hb4.size (owns_block ho)
      case measure => simp [intOf]; omega
    · have hk6 : ¬ (k : Int) < 16 := by omega
      obtain ⟨e4, et⟩ : k * 4 = 64 ∧ ws.take k = ws := by
        obtain rfl : k = 16 := by omega
        exact ⟨rfl, List.take_of_length_le (by rw [HL.out]; omega)⟩
      rw [e4, et] at ho
      clear e4 et hlt hk
      go_wp2
      go_ret
      exact ⟨hbr, _, rfl, ho⟩

end Go.Proofs.Ytpdndcmaaghnjaa.D
