/-
  Whether a run ends with an instruction, what it answers then, and which number it takes beside A: proved of every run.
-/
import Derived.Test.YtcckipimfgmmdaaGreatDoorVVMem
import Derived.Deep.QuietTactic
import Derived.BigQuiet
import Derived.WalkSmall
namespace Go.Proofs.YtcckipimfgmmdaaGreatDoor.V
open Go.RowKit

theorem below_new (w : World) (o : Obj) : Below w.heap.size w (w.alloc o) := (Below.refl _ _).alloc (Nat.le_refl _) _

set_option maxHeartbeats 400000 in
theorem endsWith_any (x : In) (s : St) (d : Da) (b m n : Nat) (w : World) (hd : d.ok) (hv : Vm w b m n d s) :
    Calls Tryz.prog 113 #[.pointer (some ⟨b, 0, none⟩), x.val] w fun e w' => e = .returned (.bool (endV x s)) ∧ Below w.heap.size w w' := by
  have HE : Hid (∀ W : World, Calls Tryz.prog 67 #[.int .u16 x.c] W fun e w' => e = .returned (.bool (isIn endL x.c)) ∧ w' = W) := fun W => ends_any x.c W
  have h10 : ∀ o, (w.alloc o).cell? ⟨b, 10, none⟩ = some (.int .u32 s.x) := fun o => ((hv.over (below_new w o)).cells hd).2.1
  have HV : Hid (endV x s = (isIn endL x.c || (x.c == 60 && s.x == 0))) := rfl
  clear hv
  generalize endV x s = z at *
  obtain ⟨c, t, f, k⟩ := x
  unfold In.val
  dsimp only at *
  generalize isIn endL c = p at *
  cases p with
  | true =>
    go_enter Tryz.func113, Tryz.ntmps113
    go_wp2_with (go_at_call 67; refine (HE.out _).mono ?_; rintro e w2 ⟨rfl, rfl⟩)
    all_goals (go_ret; exact ⟨ret_bool (by rw [HV.out]; simp [*]), below_new _ _⟩)
  | false =>
    go_enter Tryz.func113, Tryz.ntmps113
    go_wp2_with (go_at_call 67; refine (HE.out _).mono ?_; rintro e w2 ⟨rfl, rfl⟩)
    all_goals (go_ret; exact ⟨ret_bool (by rw [HV.out]; simp [*]), below_new _ _⟩)

set_option maxHeartbeats 400000 in
theorem told_any (x : In) (s : St) (d : Da) (b m n : Nat) (w : World) (hd : d.ok) (hv : Vm w b m n d s) :
    Calls Tryz.prog 114 #[.pointer (some ⟨b, 0, none⟩), x.val] w fun e w' => e = .returned (.int .u32 (tellV x s)) ∧ Below w.heap.size w w' := by
  have h9 : ∀ o, (w.alloc o).cell? ⟨b, 9, none⟩ = some (.int .u32 s.a) := fun o => ((hv.over (below_new w o)).cells hd).1
  clear hv
  obtain ⟨c, t, f, k⟩ := x
  unfold In.val
  dsimp only at *
  go_enter Tryz.func114, Tryz.ntmps114
  go_wp2
  all_goals (go_ret; exact ⟨ret_int (by simp [tellV, *]), below_new _ _⟩)

set_option maxHeartbeats 400000 in
theorem other_any (x : In) (s : St) (d : Da) (b m n : Nat) (w : World) (hd : d.ok) (hv : Vm w b m n d s) :
    Calls Tryz.prog 135 #[.pointer (some ⟨b, 0, none⟩), x.val] w fun e w' => e = .returned (.int .u32 (othV x s)) ∧ Below w.heap.size w w' := by
  have HK : Hid (∀ W : World, Calls Tryz.prog 134 #[.int .u16 x.c] W fun e w' => e = .returned (.int .u16 (kOf x.c)) ∧ w' = W) := fun W => vmByK_any x.c W
  have h10 : ∀ o, (w.alloc o).cell? ⟨b, 10, none⟩ = some (.int .u32 s.x) := fun o => ((hv.over (below_new w o)).cells hd).2.1
  have HV : Hid (othV x s = if (x.c == kOf x.c) = true then x.k else s.x) := rfl
  clear hv
  generalize othV x s = z at *
  obtain ⟨c, t, f, k⟩ := x
  unfold In.val
  dsimp only at *
  generalize kOf c = kc at *
  go_enter Tryz.func135, Tryz.ntmps135
  go_wp2
  go_quiet ((first | (go_at_call 134; refine Calls.quiet_of_same (HK.out _))))
  go_wp2
  all_goals (go_ret; exact ⟨ret_int (by rw [HV.out]; simp [*]), below_drewN (below_new _ _) _⟩)

end Go.Proofs.YtcckipimfgmmdaaGreatDoor.V
