/-
  Where an instruction may go on, by package check, and whether it jumps out: proved of every instruction.
-/
import Derived.Test.YtcckipimfgmmdaaGreatDoorVBase
namespace Go.Proofs.YtcckipimfgmmdaaGreatDoor.V
open Go.RowKit

theorem ns_one (w : World) (a : Int) : Ns .u32 (w.alloc (.cells #[.int .u32 a] 23)) (some ⟨w.heap.size, 0, none⟩) 1 [a] := by
  refine ⟨rfl, fun _ => ⟨_, _, rfl, fun i hi => ?_⟩⟩
  match i, hi with
  | 0, _ => simp

theorem ns_two (w : World) (a b : Int) : Ns .u32 (w.alloc (.cells #[.int .u32 a, .int .u32 b] 23)) (some ⟨w.heap.size, 0, none⟩) 2 [a, b] := by
  refine ⟨rfl, fun _ => ⟨_, _, rfl, fun i hi => ?_⟩⟩
  match i, hi with
  | 0, _ | 1, _ => simp

/-- what skips tells. -/
def SkipsTold (w w' : World) (e : Ending) (l : List Int) : Prop := (∃ a, e = .returned (.slice a l.length l.length) ∧ Ns .u32 w' a l.length l) ∧ Below w.heap.size w w'

set_option maxHeartbeats 800000 in
theorem skips_any (x : In) (w : World) (hx : x.ok) :
    Calls Tryz.prog 110 #[x.val] w fun e w' => SkipsTold w w' e (skipsL x) := by
  have HE : Hid (∀ W : World, Calls Tryz.prog 67 #[.int .u16 x.c] W fun e w' => e = .returned (.bool (isIn endL x.c)) ∧ w' = W) := fun W => ends_any x.c W
  have HJ : Hid (∀ W : World, Calls Tryz.prog 109 #[.int .u16 x.c] W fun e w' => e = .returned (.bool (jumpsB x.c)) ∧ w' = W) := fun W => jumps_any x.c W
  have HS : Hid (skipsL x = if isIn endL x.c = true then [] else if x.c = 5 then [x.k] else if jumpsB x.c = false then [0] else if x.t = x.f then [x.t] else if x.t < x.f then [x.t, x.f] else [x.f, x.t]) := rfl
  have HX : Hid x.ok := hx
  clear hx
  generalize skipsL x = sl at *
  obtain ⟨c, t, f, k⟩ := x
  unfold In.val
  dsimp only at *
  have e1 : ∀ o, Below w.heap.size w (w.alloc o) := fun o => (Below.refl _ _).alloc (Nat.le_refl _) _
  have e2 : ∀ o o', Below w.heap.size w ((w.alloc o).alloc o') := fun o o' => (e1 o).alloc (by rw [size_alloc']; omega) _
  have n1 : ∀ (o : Obj) (a : Int), Ns .u32 ((w.alloc o).alloc (.cells #[.int .u32 a] 23)) (some ⟨w.heap.size + 1, 0, none⟩) 1 [a] := fun o a => by have := ns_one (w.alloc o) a; rw [size_alloc'] at this; exact this
  have n2 : ∀ (o : Obj) (a b : Int), Ns .u32 ((w.alloc o).alloc (.cells #[.int .u32 a, .int .u32 b] 23)) (some ⟨w.heap.size + 1, 0, none⟩) 2 [a, b] := fun o a b => by have := ns_two (w.alloc o) a b; rw [size_alloc'] at this; exact this
  have wt : IntKind.u32.wrap t = t := by have := HX.out; unfold In.ok at this; dsimp only at this; rw [IntKind.wrap_u32]; omega
  have wf : IntKind.u32.wrap f = f := by have := HX.out; unfold In.ok at this; dsimp only at this; rw [IntKind.wrap_u32]; omega
  generalize isIn endL c = p at *
  generalize jumpsB c = q at *
  cases p with
  | true =>
    have hs : Hid (sl = []) := by unfold Hid; rw [HS.out, if_pos rfl]
    clear HS
    go_enter Tryz.func110, Tryz.ntmps110
    go_wp2_with (go_at_call 67; refine (HE.out _).mono ?_; rintro e w2 ⟨rfl, rfl⟩)
    go_ret
    rw [hs.out]
    exact ⟨⟨none, rfl, rfl, fun h => absurd h (by decide)⟩, e1 _⟩
  | false =>
    by_cases hc : c = 5
    · have hs : Hid (sl = [k]) := by unfold Hid; rw [HS.out, if_neg (by decide), if_pos hc]
      clear HS
      subst hc
      go_enter Tryz.func110, Tryz.ntmps110
      go_wp2_with (go_at_call 67; refine (HE.out _).mono ?_; rintro e w2 ⟨rfl, rfl⟩)
      go_ret
      rw [hs.out]
      exact ⟨⟨_, rfl, n1 _ _⟩, e2 _ _⟩
    · cases q with
      | false =>
        have hs : Hid (sl = [0]) := by unfold Hid; rw [HS.out, if_neg (by decide), if_neg hc, if_pos rfl]
        clear HS
        go_enter Tryz.func110, Tryz.ntmps110
        go_wp2_with (first | (go_at_call 67; refine (HE.out _).mono ?_; rintro e w2 ⟨rfl, rfl⟩) | (go_at_call 109; refine (HJ.out _).mono ?_; rintro e w2 ⟨rfl, rfl⟩))
        go_ret
        rw [hs.out]
        exact ⟨⟨_, rfl, n1 _ _⟩, e2 _ _⟩
      | true =>
        by_cases htf : t = f
        · have hs : Hid (sl = [t]) := by unfold Hid; rw [HS.out, if_neg (by decide), if_neg hc, if_neg (by decide), if_pos htf]
          clear HS
          subst htf
          go_enter Tryz.func110, Tryz.ntmps110
          go_wp2_with (first | (go_at_call 67; refine (HE.out _).mono ?_; rintro e w2 ⟨rfl, rfl⟩) | (go_at_call 109; refine (HJ.out _).mono ?_; rintro e w2 ⟨rfl, rfl⟩))
          go_ret
          rw [hs.out]
          exact ⟨⟨_, rfl, n1 _ _⟩, e2 _ _⟩
        · by_cases hl : t < f
          · have hs : Hid (sl = [t, f]) := by unfold Hid; rw [HS.out, if_neg (by decide), if_neg hc, if_neg (by decide), if_neg htf, if_pos hl]
            clear HS
            go_enter Tryz.func110, Tryz.ntmps110
            go_wp2_with (first | (go_at_call 67; refine (HE.out _).mono ?_; rintro e w2 ⟨rfl, rfl⟩) | (go_at_call 109; refine (HJ.out _).mono ?_; rintro e w2 ⟨rfl, rfl⟩))
            go_ret
            rw [hs.out]
            exact ⟨⟨_, rfl, n2 _ _ _⟩, e2 _ _⟩
          · have hs : Hid (sl = [f, t]) := by unfold Hid; rw [HS.out, if_neg (by decide), if_neg hc, if_neg (by decide), if_neg htf, if_neg hl]
            have hl2 : f < t := by omega
            clear HS
            go_enter Tryz.func110, Tryz.ntmps110
            go_wp2_with (first | (go_at_call 67; refine (HE.out _).mono ?_; rintro e w2 ⟨rfl, rfl⟩) | (go_at_call 109; refine (HJ.out _).mono ?_; rintro e w2 ⟨rfl, rfl⟩))
            go_ret
            rw [hs.out]
            exact ⟨⟨_, rfl, n2 _ _ _⟩, e2 _ _⟩

end Go.Proofs.YtcckipimfgmmdaaGreatDoor.V
