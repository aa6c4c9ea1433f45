/-
  What an instruction does that loads a word of the call: proved of every run.
-/
import Derived.Test.YtcckipimfgmmdaaGreatDoorVVDo1
import Derived.Deep.RegionHeld3
namespace Go.Proofs.YtcckipimfgmmdaaGreatDoor.V
open Go.RowKit

set_option maxHeartbeats 4000000 in
theorem do_32 (t f k : Int) (s : St) (d : Da) (b m n : Nat) (w : World) (hk : U32 k) (hd : d.ok) (hne : m ≠ b) (hv : Vm w b m n d s) :
    Calls Tryz.prog 115 #[.pointer (some ⟨b, 0, none⟩), .agg #[.int .u16 32, .int .u8 t, .int .u8 f, .int .u32 k]] w fun e w' => DoTold w w' e b m n d { s with a := ldv d k } := by
  have VV : Hid (Vm (w.alloc (Obj.cells #[.int .u16 32, .int .u8 t, .int .u8 f, .int .u32 k] 60)) b m n d s ∧ Below w.heap.size w (w.alloc (Obj.cells #[.int .u16 32, .int .u8 t, .int .u8 f, .int .u32 k] 60))) := ⟨hv.over (below_new _ _), below_new _ _⟩
  have HL : Hid (∀ X : World, Calls Tryz.prog 132 #[d.val, .int .u32 k] X fun e w' => e = .returned (.tuple #[.int .u32 (ldv d k), .int .i64 (lde k)]) ∧ Below X.heap.size X w') := fun X => load_any d k X hd hk
  have HC : Hid (∀ X s', Vm X b m n d s' → ∀ i, i < 9 → X.cell? ⟨b, i, none⟩ = d.cells[i]?) := fun X s' h i hi => h.call hd i hi
  have HD : Hid d.ok := hd
  have i3 : (w.alloc (Obj.cells #[.int .u16 32, .int .u8 t, .int .u8 f, .int .u32 k] 60)).cell? ⟨w.heap.size, 3, none⟩ = some (.int .u32 k) := by simp
  have hlt := hv.1.lt
  generalize ldv d k = v at *
  generalize lde k = ev at *
  obtain ⟨dn, da, dp, dg⟩ := d
  have hl := hd.2.2.2.1
  obtain ⟨x0, x1, x2, x3, x4, x5, rfl⟩ := six hl
  unfold Da.val at HL
  have HS : Hid (∀ X s', Vm X b m n ⟨dn, da, dp, [x0, x1, x2, x3, x4, x5]⟩ s' → X.cell? ⟨w.heap.size, 3, none⟩ = some (.int .u32 k) → (fun X => X.cell? ⟨b, 0, none⟩ = some (.int .u32 dn) ∧ X.cell? ⟨b, 1, none⟩ = some (.int .u32 da) ∧ X.cell? ⟨b, 2, none⟩ = some (.int .u64 dp) ∧ X.cell? ⟨b, 3, none⟩ = some (.int .u64 x0) ∧ X.cell? ⟨b, 4, none⟩ = some (.int .u64 x1) ∧ X.cell? ⟨b, 5, none⟩ = some (.int .u64 x2) ∧ X.cell? ⟨b, 6, none⟩ = some (.int .u64 x3) ∧ X.cell? ⟨b, 7, none⟩ = some (.int .u64 x4) ∧ X.cell? ⟨b, 8, none⟩ = some (.int .u64 x5) ∧ X.cell? ⟨w.heap.size, 3, none⟩ = some (.int .u32 k)) X) := fun X s' h h3 => ⟨HC.out X s' h 0 (by decide), HC.out X s' h 1 (by decide), HC.out X s' h 2 (by decide), HC.out X s' h 3 (by decide), HC.out X s' h 4 (by decide), HC.out X s' h 5 (by decide), HC.out X s' h 6 (by decide), HC.out X s' h 7 (by decide), HC.out X s' h 8 (by decide), h3⟩
  have hS0 := HS.out _ s VV.out.1 i3
  clear hv hd hl HC
  unfold Da.cells at HL
  simp only [List.map_cons, List.map_nil] at HL
  go_enter Tryz.func115, Tryz.ntmps115
  go_wp2
  generalize (w.alloc (Obj.cells #[.int .u16 32, .int .u8 t, .int .u8 f, .int .u32 k] 60)) = W at *
  have hb3 := World.block_lt_of_cell? W _ i3
  have HQ : Hid (Calls Tryz.prog 132 #[.agg #[.int .u32 dn, .int .u32 da, .int .u64 dp, .int .u64 x0, .int .u64 x1, .int .u64 x2, .int .u64 x3, .int .u64 x4, .int .u64 x5], .int .u32 k] W.drew fun e w' => e = .returned (.tuple #[.int .u32 v, .int .i64 ev]) ∧ ((fun X => X.cell? ⟨b, 0, none⟩ = some (.int .u32 dn) ∧ X.cell? ⟨b, 1, none⟩ = some (.int .u32 da) ∧ X.cell? ⟨b, 2, none⟩ = some (.int .u64 dp) ∧ X.cell? ⟨b, 3, none⟩ = some (.int .u64 x0) ∧ X.cell? ⟨b, 4, none⟩ = some (.int .u64 x1) ∧ X.cell? ⟨b, 5, none⟩ = some (.int .u64 x2) ∧ X.cell? ⟨b, 6, none⟩ = some (.int .u64 x3) ∧ X.cell? ⟨b, 7, none⟩ = some (.int .u64 x4) ∧ X.cell? ⟨b, 8, none⟩ = some (.int .u64 x5) ∧ X.cell? ⟨w.heap.size, 3, none⟩ = some (.int .u32 k)) w' ∧ w'.cell? ⟨b, 9, none⟩ = some (.int .u32 s.a) ∧ w'.frozen? ⟨b, 9, none⟩ = false ∧ (fun X => X.cell? ⟨b, 0, none⟩ = some (.int .u32 dn) ∧ X.cell? ⟨b, 1, none⟩ = some (.int .u32 da) ∧ X.cell? ⟨b, 2, none⟩ = some (.int .u64 dp) ∧ X.cell? ⟨b, 3, none⟩ = some (.int .u64 x0) ∧ X.cell? ⟨b, 4, none⟩ = some (.int .u64 x1) ∧ X.cell? ⟨b, 5, none⟩ = some (.int .u64 x2) ∧ X.cell? ⟨b, 6, none⟩ = some (.int .u64 x3) ∧ X.cell? ⟨b, 7, none⟩ = some (.int .u64 x4) ∧ X.cell? ⟨b, 8, none⟩ = some (.int .u64 x5) ∧ X.cell? ⟨w.heap.size, 3, none⟩ = some (.int .u32 k)) (w'.setCell ⟨b, 9, none⟩ (.int .u32 v)) ∧ Hid (Vm w' b m n ⟨dn, da, dp, [x0, x1, x2, x3, x4, x5]⟩ s ∧ Below w.heap.size w w'))) := by
    refine (HL.out W.drew).mono ?_
    rintro e w' ⟨rfl, hb⟩
    have h1 : Vm w' b m n ⟨dn, da, dp, [x0, x1, x2, x3, x4, x5]⟩ s := VV.out.1.drew.over hb
    have h3 : w'.cell? ⟨w.heap.size, 3, none⟩ = some (.int .u32 k) := (hb.cell (p := ⟨w.heap.size, 3, none⟩) hb3).trans i3
    refine ⟨rfl, HS.out _ s h1 h3, (h1.cells HD.out).1, h1.f 9, HS.out _ _ (h1.setA HD.out hne v) ?_, h1, VV.out.2.drew.trans (hb.mono VV.out.2.size)⟩
    rw [← h3]
    exact World.cell?_of_block (w := w') (Below.heap_setCell _ _ _ _ (by show w.heap.size ≠ b; omega))
  clear HL HS hb3 i3
  have s0 := hS0
  obtain ⟨q0, q1, q2, q3, q4, q5, q6, q7, q8, q9⟩ := s0
  go_region_held3 (fun X => X.cell? ⟨b, 0, none⟩ = some (.int .u32 dn) ∧ X.cell? ⟨b, 1, none⟩ = some (.int .u32 da) ∧ X.cell? ⟨b, 2, none⟩ = some (.int .u64 dp) ∧ X.cell? ⟨b, 3, none⟩ = some (.int .u64 x0) ∧ X.cell? ⟨b, 4, none⟩ = some (.int .u64 x1) ∧ X.cell? ⟨b, 5, none⟩ = some (.int .u64 x2) ∧ X.cell? ⟨b, 6, none⟩ = some (.int .u64 x3) ∧ X.cell? ⟨b, 7, none⟩ = some (.int .u64 x4) ∧ X.cell? ⟨b, 8, none⟩ = some (.int .u64 x5) ∧ X.cell? ⟨w.heap.size, 3, none⟩ = some (.int .u32 k)) (first | assumption | go_keep) (first | (go_at_call 132; refine (HQ.out).mono ?_; rintro e w5 ⟨rfl, hS5, c5, f5, kS5, G5⟩))
  all_goals
    go_wp2
    go_end0
    exact ⟨rfl, (G5.out.1.setA HD.out hne _).mono (Nat.le_succ _), ((But.refl _ _ _).trans (But.of G5.out.2)).set _ _⟩

end Go.Proofs.YtcckipimfgmmdaaGreatDoor.V
