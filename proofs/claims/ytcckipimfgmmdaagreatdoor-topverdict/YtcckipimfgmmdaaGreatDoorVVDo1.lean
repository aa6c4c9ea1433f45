/-
  What an instruction does to A and X: those that load a number or take one for the other; proved of every run.
-/
import Derived.Test.YtcckipimfgmmdaaGreatDoorVVOther
namespace Go.Proofs.YtcckipimfgmmdaaGreatDoor.V
open Go.RowKit

/-- what is told of an instruction that was done. -/
def DoTold (w w' : World) (e : Ending) (b m n : Nat) (d : Da) (s : St) : Prop := e = .returned (.tuple #[]) ∧ Vm w' b m (n + 1) d s ∧ But b m w w'

theorem do_0 (t f k : Int) (s : St) (d : Da) (b m n : Nat) (w : World) (hd : d.ok) (hne : m ≠ b) (hv : Vm w b m n d s) :
    Calls Tryz.prog 115 #[.pointer (some ⟨b, 0, none⟩), .agg #[.int .u16 0, .int .u8 t, .int .u8 f, .int .u32 k]] w fun e w' => DoTold w w' e b m n d { s with a := k } := by
  have hV : Hid (Vm w b m n d s) := hv
  have h9 : ∀ o, (w.alloc o).cell? ⟨b, 9, none⟩ = some (.int .u32 s.a) := fun o => ((hv.over (below_new w o)).cells hd).1
  have h10 : ∀ o, (w.alloc o).cell? ⟨b, 10, none⟩ = some (.int .u32 s.x) := fun o => ((hv.over (below_new w o)).cells hd).2.1
  have f9 : ∀ o, (w.alloc o).frozen? ⟨b, 9, none⟩ = false := fun o => (hv.over (below_new w o)).f 9
  clear hv
  go_enter Tryz.func115, Tryz.ntmps115
  go_wp2
  go_end0
  exact ⟨rfl, ((hV.out.over (below_new _ _)).setA hd hne _).mono (Nat.le_succ _), ((But.refl _ _ _).over (below_new _ _)).set _ _⟩

theorem do_1 (t f k : Int) (s : St) (d : Da) (b m n : Nat) (w : World) (hd : d.ok) (hne : m ≠ b) (hv : Vm w b m n d s) :
    Calls Tryz.prog 115 #[.pointer (some ⟨b, 0, none⟩), .agg #[.int .u16 1, .int .u8 t, .int .u8 f, .int .u32 k]] w fun e w' => DoTold w w' e b m n d { s with x := k } := by
  have hV : Hid (Vm w b m n d s) := hv
  have h9 : ∀ o, (w.alloc o).cell? ⟨b, 9, none⟩ = some (.int .u32 s.a) := fun o => ((hv.over (below_new w o)).cells hd).1
  have h10 : ∀ o, (w.alloc o).cell? ⟨b, 10, none⟩ = some (.int .u32 s.x) := fun o => ((hv.over (below_new w o)).cells hd).2.1
  have f9 : ∀ o, (w.alloc o).frozen? ⟨b, 10, none⟩ = false := fun o => (hv.over (below_new w o)).f 10
  clear hv
  go_enter Tryz.func115, Tryz.ntmps115
  go_wp2
  go_end0
  exact ⟨rfl, ((hV.out.over (below_new _ _)).setX hd hne _).mono (Nat.le_succ _), ((But.refl _ _ _).over (below_new _ _)).set _ _⟩

theorem do_7 (t f k : Int) (s : St) (d : Da) (b m n : Nat) (w : World) (hd : d.ok) (hne : m ≠ b) (hv : Vm w b m n d s) :
    Calls Tryz.prog 115 #[.pointer (some ⟨b, 0, none⟩), .agg #[.int .u16 7, .int .u8 t, .int .u8 f, .int .u32 k]] w fun e w' => DoTold w w' e b m n d { s with x := s.a } := by
  have hV : Hid (Vm w b m n d s) := hv
  have h9 : ∀ o, (w.alloc o).cell? ⟨b, 9, none⟩ = some (.int .u32 s.a) := fun o => ((hv.over (below_new w o)).cells hd).1
  have h10 : ∀ o, (w.alloc o).cell? ⟨b, 10, none⟩ = some (.int .u32 s.x) := fun o => ((hv.over (below_new w o)).cells hd).2.1
  have f9 : ∀ o, (w.alloc o).frozen? ⟨b, 10, none⟩ = false := fun o => (hv.over (below_new w o)).f 10
  clear hv
  go_enter Tryz.func115, Tryz.ntmps115
  go_wp2
  go_end0
  exact ⟨rfl, ((hV.out.over (below_new _ _)).setX hd hne _).mono (Nat.le_succ _), ((But.refl _ _ _).over (below_new _ _)).set _ _⟩

theorem do_135 (t f k : Int) (s : St) (d : Da) (b m n : Nat) (w : World) (hd : d.ok) (hne : m ≠ b) (hv : Vm w b m n d s) :
    Calls Tryz.prog 115 #[.pointer (some ⟨b, 0, none⟩), .agg #[.int .u16 135, .int .u8 t, .int .u8 f, .int .u32 k]] w fun e w' => DoTold w w' e b m n d { s with a := s.x } := by
  have hV : Hid (Vm w b m n d s) := hv
  have h9 : ∀ o, (w.alloc o).cell? ⟨b, 9, none⟩ = some (.int .u32 s.a) := fun o => ((hv.over (below_new w o)).cells hd).1
  have h10 : ∀ o, (w.alloc o).cell? ⟨b, 10, none⟩ = some (.int .u32 s.x) := fun o => ((hv.over (below_new w o)).cells hd).2.1
  have f9 : ∀ o, (w.alloc o).frozen? ⟨b, 9, none⟩ = false := fun o => (hv.over (below_new w o)).f 9
  clear hv
  go_enter Tryz.func115, Tryz.ntmps115
  go_wp2
  go_end0
  exact ⟨rfl, ((hV.out.over (below_new _ _)).setA hd hne _).mono (Nat.le_succ _), ((But.refl _ _ _).over (below_new _ _)).set _ _⟩

theorem do_132 (t f k : Int) (s : St) (d : Da) (b m n : Nat) (w : World) (hd : d.ok) (hne : m ≠ b) (hv : Vm w b m n d s) :
    Calls Tryz.prog 115 #[.pointer (some ⟨b, 0, none⟩), .agg #[.int .u16 132, .int .u8 t, .int .u8 f, .int .u32 k]] w fun e w' => DoTold w w' e b m n d { s with a := (-s.a) % 4294967296 } := by
  have hV : Hid (Vm w b m n d s) := hv
  have h9 : ∀ o, (w.alloc o).cell? ⟨b, 9, none⟩ = some (.int .u32 s.a) := fun o => ((hv.over (below_new w o)).cells hd).1
  have h10 : ∀ o, (w.alloc o).cell? ⟨b, 10, none⟩ = some (.int .u32 s.x) := fun o => ((hv.over (below_new w o)).cells hd).2.1
  have f9 : ∀ o, (w.alloc o).frozen? ⟨b, 9, none⟩ = false := fun o => (hv.over (below_new w o)).f 9
  clear hv
  go_enter Tryz.func115, Tryz.ntmps115
  go_wp2
  go_end0
  exact ⟨rfl, ((hV.out.over (below_new _ _)).setA hd hne _).mono (Nat.le_succ _), ((But.refl _ _ _).over (below_new _ _)).set _ _⟩

end Go.Proofs.YtcckipimfgmmdaaGreatDoor.V
