/-
  What an instruction does that takes or fills a cell: proved of every run.
-/
import Derived.Test.YtcckipimfgmmdaaGreatDoorVVDo1
import Derived.Maps.OwnOps
import Derived.Deep.RegionHeld3
namespace Go.Proofs.YtcckipimfgmmdaaGreatDoor.V
open Go.RowKit

set_option maxHeartbeats 1000000 in
theorem do_96 (t f k : Int) (s : St) (d : Da) (b m n : Nat) (w : World) (hk : U32 k) (hd : d.ok) (hne : m ≠ b) (hv : Vm w b m n d s) :
    Calls Tryz.prog 115 #[.pointer (some ⟨b, 0, none⟩), .agg #[.int .u16 96, .int .u8 t, .int .u8 f, .int .u32 k]] w fun e w' => DoTold w w' e b m n d { s with a := s.c k } := by
  have hV : Hid (Vm w b m n d s) := hv
  have h11 : ∀ o, (w.alloc o).cell? ⟨b, 11, none⟩ = some (.map (some m)) := fun o => ((hv.over (below_new w o)).cells hd).2.2.1
  have h9 : ∀ o, (w.alloc o).cell? ⟨b, 9, none⟩ = some (.int .u32 s.a) := fun o => ((hv.over (below_new w o)).cells hd).1
  have f9 : ∀ o, (w.alloc o).frozen? ⟨b, 9, none⟩ = false := fun o => (hv.over (below_new w o)).f 9
  have hL : ∀ o, (Instr.lookup 146 (.map (some m)) (.int .u32 k) false).run Tryz.prog (w.alloc o).drew = .ok (.int .u32 (s.c k)) (w.alloc o).drew := fun o => (hv.over (below_new w o)).drew.2.look k hk
  clear hv
  go_enter Tryz.func115, Tryz.ntmps115
  go_wp2
  have i3 : (w.alloc (Obj.cells #[.int .u16 96, .int .u8 t, .int .u8 f, .int .u32 k] 60)).cell? ⟨w.heap.size, 3, none⟩ = some (.int .u32 k) := by simp
  have i11 := h11 (Obj.cells #[.int .u16 96, .int .u8 t, .int .u8 f, .int .u32 k] 60)
  have i9 := h9 (Obj.cells #[.int .u16 96, .int .u8 t, .int .u8 f, .int .u32 k] 60)
  have g9 := f9 (Obj.cells #[.int .u16 96, .int .u8 t, .int .u8 f, .int .u32 k] 60)
  have gL := hL (Obj.cells #[.int .u16 96, .int .u8 t, .int .u8 f, .int .u32 k] 60)
  have VV : Hid (Vm (w.alloc (Obj.cells #[.int .u16 96, .int .u8 t, .int .u8 f, .int .u32 k] 60)) b m n d s ∧ Below w.heap.size w (w.alloc (Obj.cells #[.int .u16 96, .int .u8 t, .int .u8 f, .int .u32 k] 60))) := ⟨hV.out.over (below_new _ _), below_new _ _⟩
  have hlt := hV.out.1.lt
  clear h11 h9 f9 hL hV
  generalize (w.alloc (Obj.cells #[.int .u16 96, .int .u8 t, .int .u8 f, .int .u32 k] 60)) = W at *
  have kS : (W.setCell ⟨b, 9, none⟩ (.int .u32 (s.c k))).drew.cell? ⟨w.heap.size, 3, none⟩ = some (.int .u32 k) ∧ (W.setCell ⟨b, 9, none⟩ (.int .u32 (s.c k))).drew.cell? ⟨b, 11, none⟩ = some (.map (some m)) ∧ (Instr.lookup 146 (.map (some m)) (.int .u32 k) false).run Tryz.prog (W.setCell ⟨b, 9, none⟩ (.int .u32 (s.c k))).drew = .ok (.int .u32 (s.c k)) (W.setCell ⟨b, 9, none⟩ (.int .u32 (s.c k))).drew := by
    have hv2 := (VV.out.1.setA hd hne (s.c k)).drew
    refine ⟨?_, (hv2.cells hd).2.2.1, hv2.2.look k hk⟩
    rw [← i3]
    exact World.cell?_of_block (w := W) (Below.heap_setCell _ _ _ _ (by show w.heap.size ≠ b; omega))
  go_region_held3 (fun X => X.cell? ⟨w.heap.size, 3, none⟩ = some (.int .u32 k) ∧ X.cell? ⟨b, 11, none⟩ = some (.map (some m)) ∧ (Instr.lookup 146 (.map (some m)) (.int .u32 k) false).run Tryz.prog X = .ok (.int .u32 (s.c k)) X) (first | assumption | go_keep) (fail)
  all_goals
    go_wp2
    go_end0
    exact ⟨rfl, ((VV.out.1.drew).setA hd hne _).mono (Nat.le_succ _), (((But.refl _ _ _).trans (But.of VV.out.2)).drew).set _ _⟩

set_option maxHeartbeats 1000000 in
theorem do_97 (t f k : Int) (s : St) (d : Da) (b m n : Nat) (w : World) (hk : U32 k) (hd : d.ok) (hne : m ≠ b) (hv : Vm w b m n d s) :
    Calls Tryz.prog 115 #[.pointer (some ⟨b, 0, none⟩), .agg #[.int .u16 97, .int .u8 t, .int .u8 f, .int .u32 k]] w fun e w' => DoTold w w' e b m n d { s with x := s.c k } := by
  have hV : Hid (Vm w b m n d s) := hv
  have h11 : ∀ o, (w.alloc o).cell? ⟨b, 11, none⟩ = some (.map (some m)) := fun o => ((hv.over (below_new w o)).cells hd).2.2.1
  have h9 : ∀ o, (w.alloc o).cell? ⟨b, 10, none⟩ = some (.int .u32 s.x) := fun o => ((hv.over (below_new w o)).cells hd).2.1
  have f9 : ∀ o, (w.alloc o).frozen? ⟨b, 10, none⟩ = false := fun o => (hv.over (below_new w o)).f 10
  have hL : ∀ o, (Instr.lookup 146 (.map (some m)) (.int .u32 k) false).run Tryz.prog (w.alloc o).drew = .ok (.int .u32 (s.c k)) (w.alloc o).drew := fun o => (hv.over (below_new w o)).drew.2.look k hk
  clear hv
  go_enter Tryz.func115, Tryz.ntmps115
  go_wp2
  have i3 : (w.alloc (Obj.cells #[.int .u16 97, .int .u8 t, .int .u8 f, .int .u32 k] 60)).cell? ⟨w.heap.size, 3, none⟩ = some (.int .u32 k) := by simp
  have i11 := h11 (Obj.cells #[.int .u16 97, .int .u8 t, .int .u8 f, .int .u32 k] 60)
  have i9 := h9 (Obj.cells #[.int .u16 97, .int .u8 t, .int .u8 f, .int .u32 k] 60)
  have g9 := f9 (Obj.cells #[.int .u16 97, .int .u8 t, .int .u8 f, .int .u32 k] 60)
  have gL := hL (Obj.cells #[.int .u16 97, .int .u8 t, .int .u8 f, .int .u32 k] 60)
  have VV : Hid (Vm (w.alloc (Obj.cells #[.int .u16 97, .int .u8 t, .int .u8 f, .int .u32 k] 60)) b m n d s ∧ Below w.heap.size w (w.alloc (Obj.cells #[.int .u16 97, .int .u8 t, .int .u8 f, .int .u32 k] 60))) := ⟨hV.out.over (below_new _ _), below_new _ _⟩
  have hlt := hV.out.1.lt
  clear h11 h9 f9 hL hV
  generalize (w.alloc (Obj.cells #[.int .u16 97, .int .u8 t, .int .u8 f, .int .u32 k] 60)) = W at *
  have kS : (W.setCell ⟨b, 10, none⟩ (.int .u32 (s.c k))).drew.cell? ⟨w.heap.size, 3, none⟩ = some (.int .u32 k) ∧ (W.setCell ⟨b, 10, none⟩ (.int .u32 (s.c k))).drew.cell? ⟨b, 11, none⟩ = some (.map (some m)) ∧ (Instr.lookup 146 (.map (some m)) (.int .u32 k) false).run Tryz.prog (W.setCell ⟨b, 10, none⟩ (.int .u32 (s.c k))).drew = .ok (.int .u32 (s.c k)) (W.setCell ⟨b, 10, none⟩ (.int .u32 (s.c k))).drew := by
    have hv2 := (VV.out.1.setX hd hne (s.c k)).drew
    refine ⟨?_, (hv2.cells hd).2.2.1, hv2.2.look k hk⟩
    rw [← i3]
    exact World.cell?_of_block (w := W) (Below.heap_setCell _ _ _ _ (by show w.heap.size ≠ b; omega))
  go_region_held3 (fun X => X.cell? ⟨w.heap.size, 3, none⟩ = some (.int .u32 k) ∧ X.cell? ⟨b, 11, none⟩ = some (.map (some m)) ∧ (Instr.lookup 146 (.map (some m)) (.int .u32 k) false).run Tryz.prog X = .ok (.int .u32 (s.c k)) X) (first | assumption | go_keep) (fail)
  all_goals
    go_wp2
    go_end0
    exact ⟨rfl, ((VV.out.1.drew).setX hd hne _).mono (Nat.le_succ _), (((But.refl _ _ _).trans (But.of VV.out.2)).drew).set _ _⟩

set_option maxHeartbeats 1000000 in
theorem do_2 (t f k : Int) (s : St) (d : Da) (b m n : Nat) (w : World) (hk : U32 k) (hs : U32 s.a) (hn : n ≤ 1000000) (hd : d.ok) (hne : m ≠ b) (hv : Vm w b m n d s) :
    Calls Tryz.prog 115 #[.pointer (some ⟨b, 0, none⟩), .agg #[.int .u16 2, .int .u8 t, .int .u8 f, .int .u32 k]] w fun e w' => DoTold w w' e b m n d { s with c := putC s.c k s.a } := by
  have hV : Hid (Vm w b m n d s) := hv
  have h11 : ∀ o, (w.alloc o).cell? ⟨b, 11, none⟩ = some (.map (some m)) := fun o => ((hv.over (below_new w o)).cells hd).2.2.1
  have h9 : ∀ o, (w.alloc o).cell? ⟨b, 9, none⟩ = some (.int .u32 s.a) := fun o => ((hv.over (below_new w o)).cells hd).1
  have hP : ∀ o, ∃ w', (Instr.mapUpdate 146 (.map (some m)) (.int .u32 k) (.int .u32 s.a)).run Tryz.prog (w.alloc o).drew = .ok () w' ∧ Cel w' m (n + 1) (putC s.c k s.a) ∧ (w.alloc o).drew.grownBy w' (some m) := fun o => (hv.over (below_new w o)).drew.2.put k _ hk hs hn
  clear hv
  go_enter Tryz.func115, Tryz.ntmps115
  go_wp2
  have i3 : (w.alloc (Obj.cells #[.int .u16 2, .int .u8 t, .int .u8 f, .int .u32 k] 60)).cell? ⟨w.heap.size, 3, none⟩ = some (.int .u32 k) := by simp
  have i11 := h11 (Obj.cells #[.int .u16 2, .int .u8 t, .int .u8 f, .int .u32 k] 60)
  have i9 := h9 (Obj.cells #[.int .u16 2, .int .u8 t, .int .u8 f, .int .u32 k] 60)
  obtain ⟨w1, hrun, hc1, hg1⟩ := hP (Obj.cells #[.int .u16 2, .int .u8 t, .int .u8 f, .int .u32 k] 60)
  have VV : Hid (Vm (w.alloc (Obj.cells #[.int .u16 2, .int .u8 t, .int .u8 f, .int .u32 k] 60)) b m n d s ∧ Below w.heap.size w (w.alloc (Obj.cells #[.int .u16 2, .int .u8 t, .int .u8 f, .int .u32 k] 60))) := ⟨hV.out.over (below_new _ _), below_new _ _⟩
  have hlt := hV.out.2.lt
  clear h11 h9 hP hV
  generalize (w.alloc (Obj.cells #[.int .u16 2, .int .u8 t, .int .u8 f, .int .u32 k] 60)) = W at *
  have HC : Hid (Cel w1 m (n + 1) (putC s.c k s.a) ∧ W.drew.grownBy w1 (some m)) := ⟨hc1, hg1⟩
  have kS : w1.cell? ⟨w.heap.size, 3, none⟩ = some (.int .u32 k) ∧ w1.cell? ⟨b, 11, none⟩ = some (.map (some m)) ∧ w1.cell? ⟨b, 9, none⟩ = some (.int .u32 s.a) := by
    have hv2 := VV.out.1.drew.put hne _ hg1 hc1
    refine ⟨?_, (hv2.cells hd).2.2.1, (hv2.cells hd).1⟩
    rw [← i3]
    exact World.cell?_of_block (w := W) (hg1.block _ (World.block_lt_of_cell? W _ i3) (fun e => by injection e with e; dsimp only at e; omega))
  clear hc1 hg1
  go_region_held3 (fun X => X.cell? ⟨w.heap.size, 3, none⟩ = some (.int .u32 k) ∧ X.cell? ⟨b, 11, none⟩ = some (.map (some m)) ∧ X.cell? ⟨b, 9, none⟩ = some (.int .u32 s.a)) (first | assumption | go_keep) (fail)
  all_goals
    go_wp2
    go_end0
    exact ⟨rfl, VV.out.1.drew.put hne _ HC.out.2 HC.out.1, (((But.refl _ _ _).trans (But.of VV.out.2)).drew).grown HC.out.2⟩

set_option maxHeartbeats 1000000 in
theorem do_3 (t f k : Int) (s : St) (d : Da) (b m n : Nat) (w : World) (hk : U32 k) (hs : U32 s.x) (hn : n ≤ 1000000) (hd : d.ok) (hne : m ≠ b) (hv : Vm w b m n d s) :
    Calls Tryz.prog 115 #[.pointer (some ⟨b, 0, none⟩), .agg #[.int .u16 3, .int .u8 t, .int .u8 f, .int .u32 k]] w fun e w' => DoTold w w' e b m n d { s with c := putC s.c k s.x } := by
  have hV : Hid (Vm w b m n d s) := hv
  have h11 : ∀ o, (w.alloc o).cell? ⟨b, 11, none⟩ = some (.map (some m)) := fun o => ((hv.over (below_new w o)).cells hd).2.2.1
  have h9 : ∀ o, (w.alloc o).cell? ⟨b, 10, none⟩ = some (.int .u32 s.x) := fun o => ((hv.over (below_new w o)).cells hd).2.1
  have hP : ∀ o, ∃ w', (Instr.mapUpdate 146 (.map (some m)) (.int .u32 k) (.int .u32 s.x)).run Tryz.prog (w.alloc o).drew = .ok () w' ∧ Cel w' m (n + 1) (putC s.c k s.x) ∧ (w.alloc o).drew.grownBy w' (some m) := fun o => (hv.over (below_new w o)).drew.2.put k _ hk hs hn
  clear hv
  go_enter Tryz.func115, Tryz.ntmps115
  go_wp2
  have i3 : (w.alloc (Obj.cells #[.int .u16 3, .int .u8 t, .int .u8 f, .int .u32 k] 60)).cell? ⟨w.heap.size, 3, none⟩ = some (.int .u32 k) := by simp
  have i11 := h11 (Obj.cells #[.int .u16 3, .int .u8 t, .int .u8 f, .int .u32 k] 60)
  have i9 := h9 (Obj.cells #[.int .u16 3, .int .u8 t, .int .u8 f, .int .u32 k] 60)
  obtain ⟨w1, hrun, hc1, hg1⟩ := hP (Obj.cells #[.int .u16 3, .int .u8 t, .int .u8 f, .int .u32 k] 60)
  have VV : Hid (Vm (w.alloc (Obj.cells #[.int .u16 3, .int .u8 t, .int .u8 f, .int .u32 k] 60)) b m n d s ∧ Below w.heap.size w (w.alloc (Obj.cells #[.int .u16 3, .int .u8 t, .int .u8 f, .int .u32 k] 60))) := ⟨hV.out.over (below_new _ _), below_new _ _⟩
  have hlt := hV.out.2.lt
  clear h11 h9 hP hV
  generalize (w.alloc (Obj.cells #[.int .u16 3, .int .u8 t, .int .u8 f, .int .u32 k] 60)) = W at *
  have HC : Hid (Cel w1 m (n + 1) (putC s.c k s.x) ∧ W.drew.grownBy w1 (some m)) := ⟨hc1, hg1⟩
  have kS : w1.cell? ⟨w.heap.size, 3, none⟩ = some (.int .u32 k) ∧ w1.cell? ⟨b, 11, none⟩ = some (.map (some m)) ∧ w1.cell? ⟨b, 10, none⟩ = some (.int .u32 s.x) := by
    have hv2 := VV.out.1.drew.put hne _ hg1 hc1
    refine ⟨?_, (hv2.cells hd).2.2.1, (hv2.cells hd).2.1⟩
    rw [← i3]
    exact World.cell?_of_block (w := W) (hg1.block _ (World.block_lt_of_cell? W _ i3) (fun e => by injection e with e; dsimp only at e; omega))
  clear hc1 hg1
  go_region_held3 (fun X => X.cell? ⟨w.heap.size, 3, none⟩ = some (.int .u32 k) ∧ X.cell? ⟨b, 11, none⟩ = some (.map (some m)) ∧ X.cell? ⟨b, 10, none⟩ = some (.int .u32 s.x)) (first | assumption | go_keep) (fail)
  all_goals
    go_wp2
    go_end0
    exact ⟨rfl, VV.out.1.drew.put hne _ HC.out.2 HC.out.1, (((But.refl _ _ _).trans (But.of VV.out.2)).drew).grown HC.out.2⟩

end Go.Proofs.YtcckipimfgmmdaaGreatDoor.V
