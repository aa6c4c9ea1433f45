/-
  How many instructions behind one a run leaves out: proved of every run.
-/
import Derived.Test.YtcckipimfgmmdaaGreatDoorVVOther
import Derived.Deep.RegionHeld3
namespace Go.Proofs.YtcckipimfgmmdaaGreatDoor.V
open Go.RowKit

set_option maxHeartbeats 2000000 in
theorem skip_any (x : In) (s : St) (d : Da) (b m n : Nat) (w : World) (hx : x.ok) (hd : d.ok) (hv : Vm w b m n d s) :
    Calls Tryz.prog 116 #[.pointer (some ⟨b, 0, none⟩), x.val] w fun e w' => e = .returned (.int .i64 (skipV x s)) ∧ Below w.heap.size w w' := by
  have HJ : Hid (∀ W : World, Calls Tryz.prog 109 #[.int .u16 x.c] W fun e w' => e = .returned (.bool (jumpsB x.c)) ∧ w' = W) := fun W => jumps_any x.c W
  have HV : Hid (skipV x s = if jumpsB x.c = false then 0 else if (x.c == 5) = true then x.k else if holdsV (kOf x.c) s.a (othV x s) = true then x.t else x.f) := rfl
  have w3 : IntKind.i64.wrap x.k = x.k := by unfold In.ok at hx; rw [IntKind.wrap_i64]; omega
  have w1 : IntKind.i64.wrap x.t = x.t := by unfold In.ok at hx; rw [IntKind.wrap_i64]; omega
  have w2 : IntKind.i64.wrap x.f = x.f := by unfold In.ok at hx; rw [IntKind.wrap_i64]; omega
  have HK : Hid (∀ W : World, Calls Tryz.prog 134 #[.int .u16 x.c] W fun e w' => e = .returned (.int .u16 (kOf x.c)) ∧ w' = W) := fun W => vmByK_any x.c W
  have HH : Hid (∀ W : World, Calls Tryz.prog 136 #[.int .u16 (kOf x.c), .int .u32 s.a, .int .u32 (othV x s)] W fun e w' => e = .returned (.bool (holdsV (kOf x.c) s.a (othV x s))) ∧ w' = W) := fun W => holds_any _ _ _ W
  obtain ⟨VB, hVB⟩ : ∃ VB : World → Prop, VB = fun W => Vm W b m n d s ∧ Below w.heap.size w W := ⟨_, rfl⟩
  have HS : Hid (∀ W, (W.cell? ⟨w.heap.size, 0, none⟩ = some (.int .u16 x.c) ∧ W.cell? ⟨w.heap.size, 1, none⟩ = some (.int .u8 x.t) ∧ W.cell? ⟨w.heap.size, 2, none⟩ = some (.int .u8 x.f) ∧ W.cell? ⟨w.heap.size, 3, none⟩ = some (.int .u32 x.k) ∧ W.cell? ⟨b, 9, none⟩ = some (.int .u32 s.a) ∧ VB W) → Calls Tryz.prog 135 #[.pointer (some ⟨b, 0, none⟩), x.val] W fun e w' => e = .returned (.int .u32 (othV x s)) ∧ (w'.cell? ⟨w.heap.size, 0, none⟩ = some (.int .u16 x.c) ∧ w'.cell? ⟨w.heap.size, 1, none⟩ = some (.int .u8 x.t) ∧ w'.cell? ⟨w.heap.size, 2, none⟩ = some (.int .u8 x.f) ∧ w'.cell? ⟨w.heap.size, 3, none⟩ = some (.int .u32 x.k) ∧ w'.cell? ⟨b, 9, none⟩ = some (.int .u32 s.a) ∧ VB w')) := by
    intro W ⟨g1, g2, g3, g4, g5, g6⟩
    subst hVB
    refine (other_any x s d b m n W hd g6.1).mono ?_
    rintro e w' ⟨rfl, hb⟩
    have ha : In.at x W w.heap.size 0 := ⟨g1, g2, g3, g4⟩
    obtain ⟨q1, q2, q3, q4⟩ := ha.below hb
    exact ⟨rfl, q1, q2, q3, q4, ((g6.1.over hb).cells hd).1, g6.1.over hb, g6.2.trans (hb.mono g6.2.size)⟩
  have H0 : Hid (VB (w.alloc (Obj.cells #[.int .u16 x.c, .int .u8 x.t, .int .u8 x.f, .int .u32 x.k] 60)).drew) := by subst hVB; exact ⟨(hv.over (below_new w _)).drew, (below_new w _).drew⟩
  have h9 : ∀ o, (w.alloc o).cell? ⟨b, 9, none⟩ = some (.int .u32 s.a) := fun o => ((hv.over (below_new w o)).cells hd).1
  have HB : Hid (∀ W, VB W → Below w.heap.size w W) := by subst hVB; exact fun W h => h.2
  clear hv hx hVB
  generalize skipV x s = z at *
  obtain ⟨c, t, f, k⟩ := x
  unfold In.val at *
  dsimp only at *
  generalize kOf c = kc at *
  generalize jumpsB c = q at *
  cases q with
  | false =>
    go_enter Tryz.func116, Tryz.ntmps116
    go_wp2_with (go_at_call 109; refine (HJ.out _).mono ?_; rintro e w2 ⟨rfl, rfl⟩)
    go_ret
    exact ⟨ret_int (by rw [HV.out]; simp), below_new _ _⟩
  | true =>
    by_cases h5 : c = 5
    · subst h5
      go_enter Tryz.func116, Tryz.ntmps116
      go_wp2_with (go_at_call 109; refine (HJ.out _).mono ?_; rintro e w2 ⟨rfl, rfl⟩)
      go_ret
      exact ⟨ret_int (by rw [HV.out]; simp), below_new _ _⟩
    · have h5' : (c == 5) = false := by simpa using h5
      clear h5
      generalize othV ⟨c, t, f, k⟩ s = o at *
      generalize holdsV kc s.a o = hh at *
      go_enter Tryz.func116, Tryz.ntmps116
      go_wp2_with (go_at_call 109; refine (HJ.out _).mono ?_; rintro e w2 ⟨rfl, rfl⟩)
      have i0 : (w.alloc (Obj.cells #[.int .u16 c, .int .u8 t, .int .u8 f, .int .u32 k] 60)).cell? ⟨w.heap.size, 0, none⟩ = some (.int .u16 c) := by simp
      have i1 : (w.alloc (Obj.cells #[.int .u16 c, .int .u8 t, .int .u8 f, .int .u32 k] 60)).cell? ⟨w.heap.size, 1, none⟩ = some (.int .u8 t) := by simp
      have i2 : (w.alloc (Obj.cells #[.int .u16 c, .int .u8 t, .int .u8 f, .int .u32 k] 60)).cell? ⟨w.heap.size, 2, none⟩ = some (.int .u8 f) := by simp
      have i3 : (w.alloc (Obj.cells #[.int .u16 c, .int .u8 t, .int .u8 f, .int .u32 k] 60)).cell? ⟨w.heap.size, 3, none⟩ = some (.int .u32 k) := by simp
      have i9 := h9 (Obj.cells #[.int .u16 c, .int .u8 t, .int .u8 f, .int .u32 k] 60)
      clear h9
      generalize w.alloc (Obj.cells #[.int .u16 c, .int .u8 t, .int .u8 f, .int .u32 k] 60) = W at *
      have h0 := H0.out
      go_region_held3 (fun W => W.cell? ⟨w.heap.size, 0, none⟩ = some (.int .u16 c) ∧ W.cell? ⟨w.heap.size, 1, none⟩ = some (.int .u8 t) ∧ W.cell? ⟨w.heap.size, 2, none⟩ = some (.int .u8 f) ∧ W.cell? ⟨w.heap.size, 3, none⟩ = some (.int .u32 k) ∧ W.cell? ⟨b, 9, none⟩ = some (.int .u32 s.a) ∧ VB W) (first | assumption | go_keep) (first | (go_at_call 134; refine (HK.out _).mono ?_; rintro e w2 ⟨rfl, rfl⟩) | (go_at_call 136; refine (HH.out _).mono ?_; rintro e w2 ⟨rfl, rfl⟩) | (go_at_call 135; refine (HS.out _ (by assumption)).mono ?_; rintro e w5 ⟨rfl, hS5⟩))
      all_goals
        obtain ⟨q0, q1, q2, q3, q9, qB⟩ := hS5
        have QB := HB.out _ qB
        clear qB h0
        cases hh with
        | true =>
          go_wp2
          go_ret
          exact ⟨ret_int (by rw [HV.out]; simp [h5']), QB⟩
        | false =>
          go_wp2
          go_ret
          exact ⟨ret_int (by rw [HV.out]; simp [h5']), QB⟩

end Go.Proofs.YtcckipimfgmmdaaGreatDoor.V
