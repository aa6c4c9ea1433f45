/-
  Texts of this seat, joined: VVMem, VVOther, VVDo1, VVDo2.
-/
import Derived.Test.YtcckipimfgmmdaaGreatDoorGv14
import Derived.Maps.Own
import Derived.Maps.Views
import Derived.Deep.QuietTactic
import Derived.BigQuiet
import Derived.WalkSmall
import Derived.Maps.OwnOps
import Derived.Deep.RegionHeld3

namespace Go.Proofs.YtcckipimfgmmdaaGreatDoor.V
open Go.RowKit Go.Maps

structure But (b m : Nat) (w w' : World) : Prop where
  os : w'.os = w.os
  tape : w'.tape = w.tape
  output : w'.output = w.output
  size : w.heap.size ≤ w'.heap.size
  block : ∀ k, k < w.heap.size → k ≠ b → k ≠ m → w'.heap[k]? = w.heap[k]?

section
variable {b m : Nat} {w w' v : World}
theorem But.refl (b m : Nat) (w : World) : But b m w w := ⟨rfl, rfl, rfl, Nat.le_refl _, fun _ _ _ _ => rfl⟩
theorem But.trans (h : But b m w w') (k : But b m w' v) : But b m w v :=
  ⟨k.os.trans h.os, k.tape.trans h.tape, k.output.trans h.output, Nat.le_trans h.size k.size, fun i hi h1 h2 => (k.block i (Nat.lt_of_lt_of_le hi h.size) h1 h2).trans (h.block i hi h1 h2)⟩
theorem But.of (h : Below w.heap.size w w') : But b m w w' := ⟨h.os, h.tape, h.output, h.size, fun k hk _ _ => h.block k hk⟩
theorem But.over (h : But b m w w') (k : Below w'.heap.size w' v) : But b m w v := h.trans (But.of k)
theorem But.drew (h : But b m w w') : But b m w w'.drew := ⟨h.os, h.tape, h.output, h.size, h.block⟩
theorem But.set (h : But b m w w') (i : Nat) (u : Value) : But b m w (w'.setCell ⟨b, i, none⟩ u) :=
  h.trans ⟨rfl, rfl, rfl, by simp [World.setCell], fun k _ h1 _ => Below.heap_setCell _ _ _ _ h1⟩
theorem But.grown (h : But b m w w') (g : w'.grownBy v (some m)) : But b m w v :=
  h.trans ⟨g.os, g.tape, g.output, g.size, fun k hk _ h2 => g.block k hk (fun e => h2 (by injection e))⟩
theorem But.below {B : Nat} {w0 : World} (h : Below B w0 w) (k : But b m w w') (hb : B ≤ b) (hm : B ≤ m) (hB : B ≤ w.heap.size) : Below B w0 w' :=
  h.trans ⟨k.os, k.tape, k.output, k.size, fun i hi => k.block i (by omega) (by omega) (by omega)⟩
theorem But.row {base sz : Nat} {t : TypeId} {x : Value} {n : Nat} {xs : List Value} (h : But b m w w') (k : w.ownsRow base t sz x n xs) (h1 : b < base) (h2 : m < base) : w'.ownsRow base t sz x n xs := by
  refine ⟨k.1, ?_⟩
  rcases k.2 with hn | ⟨g, cap, cur, hv, hg, hh, r⟩
  · exact .inl hn
  · exact .inr ⟨g, cap, cur, hv, hg, by rw [h.block g (lt_of_block hh) (by omega) (by omega)]; exact hh, r⟩
end

theorem wf32 {k : Int} (h : U32 k) : (Lit.int .u32 k).wf = true := by
  unfold U32 at h
  have e1 : IntKind.u32.min = 0 := by decide
  have e2 : IntKind.u32.max = 4294967295 := by decide
  simp [Lit.wf, e1, e2]
  exact h

theorem zero23 (w : World) : (zeroValue 23).run Tryz.prog w = .ok (.int .u32 0) w := by kernel_rfl

def Cel (w : World) (m n : Nat) (C : Int → Int) : Prop :=
  ∃ D : DataW Unit, w.ownsMap Tryz.prog 23 (plainElem Tryz.prog 23) m n D ∧ IsMap D ∧ ∀ k, U32 k → D.atKey (.int .u32 k) (.lit (.int .u32 0)) = .lit (.int .u32 (C k))

theorem cel_new (w : World) : Cel (w.alloc (.map #[] 0)) w.heap.size 0 (fun _ => 0) :=
  ⟨.map [], World.ownsMap_made w _ _ _, isMap_empty, fun _ _ => rfl⟩

section
variable {w w' : World} {m n : Nat} {C : Int → Int}
theorem Cel.lt (h : Cel w m n C) : m < w.heap.size := by obtain ⟨D, h1, _⟩ := h; exact h1.lt
theorem Cel.kept {r : Option Nat} (h : Cel w m n C) (hg : w.grownBy w' r) (hne : some m ≠ r) : Cel w' m n C := by obtain ⟨D, h1, h2⟩ := h; exact ⟨D, h1.kept hg hne, h2⟩
theorem Cel.over (h : Cel w m n C) (hb : Below w.heap.size w w') : Cel w' m n C := h.kept (r := none) ⟨hb.os, hb.tape, hb.output, hb.size, fun k hk _ => hb.block k hk⟩ (by simp)
theorem Cel.mono {n' : Nat} (h : Cel w m n C) (hn : n ≤ n') : Cel w m n' C := by obtain ⟨D, h1, h2⟩ := h; exact ⟨D, h1.mono hn, h2⟩
theorem Cel.set (h : Cel w m n C) (b i : Nat) (u : Value) (hne : m ≠ b) : Cel (w.setCell ⟨b, i, none⟩ u) m n C :=
  h.kept (r := some b) ⟨rfl, rfl, rfl, by simp [World.setCell], fun k _ h1 => Below.heap_setCell _ _ _ _ (fun e => h1 (by rw [e]))⟩ (fun e => hne (by injection e))
set_option maxRecDepth 100000 in
theorem Cel.look (h : Cel w m n C) (k : Int) (hk : U32 k) : (Instr.lookup 146 (.map (some m)) (.int .u32 k) false).run Tryz.prog w = .ok (.int .u32 (C k)) w := by
  obtain ⟨D, h1, _, h2⟩ := h
  obtain ⟨c, hrun, hat, _⟩ := h1.lookup_int (int_keyed Tryz.underlying23) Tryz.underlying146 Tryz.underlying23 (zero23 w) (keyOf_int_mk Tryz.underlying23 (wf32 hk))
  rw [h2 k hk] at hat
  injection hat with hat
  injection hat with _ hat
  rw [hrun, hat]
set_option maxRecDepth 100000 in
theorem Cel.put (h : Cel w m n C) (k v : Int) (hk : U32 k) (hv : U32 v) (hn : n ≤ 1000000) : ∃ w', (Instr.mapUpdate 146 (.map (some m)) (.int .u32 k) (.int .u32 v)).run Tryz.prog w = .ok () w' ∧ Cel w' m (n + 1) (putC C k v) ∧ w.grownBy w' (some m) := by
  obtain ⟨D, h1, h3, h2⟩ := h
  obtain ⟨w', hrun, ho, hg⟩ := h1.update (int_keyed Tryz.underlying23) Tryz.underlying146 (by unfold maxLen; omega) (keyOf_int_mk Tryz.underlying23 (wf32 hk)) (plainElem_int Tryz.underlying23 (wf32 hv))
  refine ⟨w', hrun, ⟨_, ho, h3.put _ _, fun j hj => ?_⟩, hg⟩
  unfold putC
  by_cases e : j = k
  · subst e
    rw [if_pos rfl, atKey_put_same h3 (by trivial)]
  · rw [if_neg e, atKey_put_other (by intro h; injection h; contradiction)]
    exact h2 j hj
end

def Vm (w : World) (b m n : Nat) (d : Da) (s : St) : Prop :=
  Blk w b 148 (d.cells ++ [.int .u32 s.a, .int .u32 s.x, .map (some m), .int .u32 s.ans]) ∧ Cel w m n s.c

section
variable {w w' : World} {b m n : Nat} {d : Da} {s : St}
theorem Vm.cells (h : Vm w b m n d s) (hd : d.ok) : w.cell? ⟨b, 9, none⟩ = some (.int .u32 s.a) ∧ w.cell? ⟨b, 10, none⟩ = some (.int .u32 s.x) ∧ w.cell? ⟨b, 11, none⟩ = some (.map (some m)) ∧ w.cell? ⟨b, 12, none⟩ = some (.int .u32 s.ans) := by
  have hl := d.cells_len hd
  refine ⟨?_, ?_, ?_, ?_⟩ <;> (rw [h.1.cell, List.getElem?_append_right (by omega), hl]; rfl)
theorem Vm.call (h : Vm w b m n d s) (hd : d.ok) (i : Nat) (hi : i < 9) : w.cell? ⟨b, i, none⟩ = d.cells[i]? := by
  have hl := d.cells_len hd
  rw [h.1.cell, List.getElem?_append_left (by omega)]
theorem Vm.over (h : Vm w b m n d s) (hb : Below w.heap.size w w') : Vm w' b m n d s := ⟨h.1.over hb, h.2.over hb⟩
theorem Vm.drew (h : Vm w b m n d s) : Vm w.drew b m n d s := h
theorem Vm.mono {n' : Nat} (h : Vm w b m n d s) (hn : n ≤ n') : Vm w b m n' d s := ⟨h.1, h.2.mono hn⟩
theorem Vm.f (h : Vm w b m n d s) (i : Nat) : w.frozen? ⟨b, i, none⟩ = false := h.1.f i
theorem Vm.setA (h : Vm w b m n d s) (hd : d.ok) (hne : m ≠ b) (v : Int) : Vm (w.setCell ⟨b, 9, none⟩ (.int .u32 v)) b m n d { s with a := v } := by
  refine ⟨?_, h.2.set b 9 _ hne⟩
  have := h.1.set 9 (.int .u32 v)
  rw [List.set_append_right _ _ (by rw [d.cells_len hd]; omega), d.cells_len hd] at this
  exact this
theorem Vm.setX (h : Vm w b m n d s) (hd : d.ok) (hne : m ≠ b) (v : Int) : Vm (w.setCell ⟨b, 10, none⟩ (.int .u32 v)) b m n d { s with x := v } := by
  refine ⟨?_, h.2.set b 10 _ hne⟩
  have := h.1.set 10 (.int .u32 v)
  rw [List.set_append_right _ _ (by rw [d.cells_len hd]; omega), d.cells_len hd] at this
  exact this
theorem Vm.setAns (h : Vm w b m n d s) (hd : d.ok) (hne : m ≠ b) (v : Int) : Vm (w.setCell ⟨b, 12, none⟩ (.int .u32 v)) b m n d { s with ans := v } := by
  refine ⟨?_, h.2.set b 12 _ hne⟩
  have := h.1.set 12 (.int .u32 v)
  rw [List.set_append_right _ _ (by rw [d.cells_len hd]; omega), d.cells_len hd] at this
  exact this
theorem Vm.put (h : Vm w b m n d s) (hne : m ≠ b) (C : Int → Int) (hg : w.grownBy w' (some m)) (hc : Cel w' m (n + 1) C) : Vm w' b m (n + 1) d { s with c := C } := by
  refine ⟨?_, hc⟩
  have := h.1
  unfold Blk at *
  rw [hg.block b (lt_of_block this) (fun e => hne (by injection e with e; exact e.symm))]
  exact this
end

end Go.Proofs.YtcckipimfgmmdaaGreatDoor.V

namespace Go.Proofs.YtcckipimfgmmdaaGreatDoor.V
open Go.RowKit

theorem below_new (w : World) (o : Obj) : Below w.heap.size w (w.alloc o) := (Below.refl _ _).alloc (Nat.le_refl _) _

set_option maxHeartbeats 400000 in
theorem endsWith_any (x : In) (s : St) (d : Da) (b m n : Nat) (w : World) (hd : d.ok) (hv : Vm w b m n d s) :
    Calls Tryz.prog 113 #[.pointer (some ⟨b, 0, none⟩), x.val] w fun e w' => e = .returned (.bool (endV x s)) ∧ Below w.heap.size w w' := by
  have HE : Hid (∀ W : World, Calls Tryz.prog 67 #[.int .u16 x.c] W fun e w' => e = .returned (.bool (isIn endL x.c)) ∧ w' = W) := fun W => ends_any x.c W
  have h10 : ∀ o, (w.alloc o).cell? ⟨b, 10, none⟩ = some (.int .u32 s.x) := fun o => ((hv.over (below_new w o)).cells hd).2.1
  have HV : Hid (endV x s = (isIn endL x.c || (x.c == 60 && s.x == 0))) := rfl
  clear hv
  generalize endV x s = z at *
  obtain ⟨c, t, f, k⟩ := x
  unfold In.val
  dsimp only at *
  generalize isIn endL c = p at *
  cases p with
  | true =>
    go_enter Tryz.func113, Tryz.ntmps113
    go_wp2_with (go_at_call 67; refine (HE.out _).mono ?_; rintro e w2 ⟨rfl, rfl⟩)
    all_goals (go_ret; exact ⟨ret_bool (by rw [HV.out]; simp [*]), below_new _ _⟩)
  | false =>
    go_enter Tryz.func113, Tryz.ntmps113
    go_wp2_with (go_at_call 67; refine (HE.out _).mono ?_; rintro e w2 ⟨rfl, rfl⟩)
    all_goals (go_ret; exact ⟨ret_bool (by rw [HV.out]; simp [*]), below_new _ _⟩)

set_option maxHeartbeats 400000 in
theorem told_any (x : In) (s : St) (d : Da) (b m n : Nat) (w : World) (hd : d.ok) (hv : Vm w b m n d s) :
    Calls Tryz.prog 114 #[.pointer (some ⟨b, 0, none⟩), x.val] w fun e w' => e = .returned (.int .u32 (tellV x s)) ∧ Below w.heap.size w w' := by
  have h9 : ∀ o, (w.alloc o).cell? ⟨b, 9, none⟩ = some (.int .u32 s.a) := fun o => ((hv.over (below_new w o)).cells hd).1
  clear hv
  obtain ⟨c, t, f, k⟩ := x
  unfold In.val
  dsimp only at *
  go_enter Tryz.func114, Tryz.ntmps114
  go_wp2
  all_goals (go_ret; exact ⟨ret_int (by simp [tellV, *]), below_new _ _⟩)

set_option maxHeartbeats 400000 in
theorem other_any (x : In) (s : St) (d : Da) (b m n : Nat) (w : World) (hd : d.ok) (hv : Vm w b m n d s) :
    Calls Tryz.prog 135 #[.pointer (some ⟨b, 0, none⟩), x.val] w fun e w' => e = .returned (.int .u32 (othV x s)) ∧ Below w.heap.size w w' := by
  have HK : Hid (∀ W : World, Calls Tryz.prog 134 #[.int .u16 x.c] W fun e w' => e = .returned (.int .u16 (kOf x.c)) ∧ w' = W) := fun W => vmByK_any x.c W
  have h10 : ∀ o, (w.alloc o).cell? ⟨b, 10, none⟩ = some (.int .u32 s.x) := fun o => ((hv.over (below_new w o)).cells hd).2.1
  have HV : Hid (othV x s = if (x.c == kOf x.c) = true then x.k else s.x) := rfl
  clear hv
  generalize othV x s = z at *
  obtain ⟨c, t, f, k⟩ := x
  unfold In.val
  dsimp only at *
  generalize kOf c = kc at *
  go_enter Tryz.func135, Tryz.ntmps135
  go_wp2
  go_quiet ((first | (go_at_call 134; refine Calls.quiet_of_same (HK.out _))))
  go_wp2
  all_goals (go_ret; exact ⟨ret_int (by rw [HV.out]; simp [*]), below_drewN (below_new _ _) _⟩)

end Go.Proofs.YtcckipimfgmmdaaGreatDoor.V

namespace Go.Proofs.YtcckipimfgmmdaaGreatDoor.V
open Go.RowKit

def DoTold (w w' : World) (e : Ending) (b m n : Nat) (d : Da) (s : St) : Prop := e = .returned (.tuple #[]) ∧ Vm w' b m (n + 1) d s ∧ But b m w w'

theorem do_0 (t f k : Int) (s : St) (d : Da) (b m n : Nat) (w : World) (hd : d.ok) (hne : m ≠ b) (hv : Vm w b m n d s) :
    Calls Tryz.prog 115 #[.pointer (some ⟨b, 0, none⟩), .agg #[.int .u16 0, .int .u8 t, .int .u8 f, .int .u32 k]] w fun e w' => DoTold w w' e b m n d { s with a := k } := by
  have hV : Hid (Vm w b m n d s) := hv
  have h9 : ∀ o, (w.alloc o).cell? ⟨b, 9, none⟩ = some (.int .u32 s.a) := fun o => ((hv.over (below_new w o)).cells hd).1
  have h10 : ∀ o, (w.alloc o).cell? ⟨b, 10, none⟩ = some (.int .u32 s.x) := fun o => ((hv.over (below_new w o)).cells hd).2.1
  have f9 : ∀ o, (w.alloc o).frozen? ⟨b, 9, none⟩ = false := fun o => (hv.over (below_new w o)).f 9
  clear hv
  go_enter Tryz.func115, Tryz.ntmps115
  go_wp2
  go_end0
  exact ⟨rfl, ((hV.out.over (below_new _ _)).setA hd hne _).mono (Nat.le_succ _), ((But.refl _ _ _).over (below_new _ _)).set _ _⟩

theorem do_1 (t f k : Int) (s : St) (d : Da) (b m n : Nat) (w : World) (hd : d.ok) (hne : m ≠ b) (hv : Vm w b m n d s) :
    Calls Tryz.prog 115 #[.pointer (some ⟨b, 0, none⟩), .agg #[.int .u16 1, .int .u8 t, .int .u8 f, .int .u32 k]] w fun e w' => DoTold w w' e b m n d { s with x := k } := by
  have hV : Hid (Vm w b m n d s) := hv
  have h9 : ∀ o, (w.alloc o).cell? ⟨b, 9, none⟩ = some (.int .u32 s.a) := fun o => ((hv.over (below_new w o)).cells hd).1
  have h10 : ∀ o, (w.alloc o).cell? ⟨b, 10, none⟩ = some (.int .u32 s.x) := fun o => ((hv.over (below_new w o)).cells hd).2.1
  have f9 : ∀ o, (w.alloc o).frozen? ⟨b, 10, none⟩ = false := fun o => (hv.over (below_new w o)).f 10
  clear hv
  go_enter Tryz.func115, Tryz.ntmps115
  go_wp2
  go_end0
  exact ⟨rfl, ((hV.out.over (below_new _ _)).setX hd hne _).mono (Nat.le_succ _), ((But.refl _ _ _).over (below_new _ _)).set _ _⟩

theorem do_7 (t f k : Int) (s : St) (d : Da) (b m n : Nat) (w : World) (hd : d.ok) (hne : m ≠ b) (hv : Vm w b m n d s) :
    Calls Tryz.prog 115 #[.pointer (some ⟨b, 0, none⟩), .agg #[.int .u16 7, .int .u8 t, .int .u8 f, .int .u32 k]] w fun e w' => DoTold w w' e b m n d { s with x := s.a } := by
  have hV : Hid (Vm w b m n d s) := hv
  have h9 : ∀ o, (w.alloc o).cell? ⟨b, 9, none⟩ = some (.int .u32 s.a) := fun o => ((hv.over (below_new w o)).cells hd).1
  have h10 : ∀ o, (w.alloc o).cell? ⟨b, 10, none⟩ = some (.int .u32 s.x) := fun o => ((hv.over (below_new w o)).cells hd).2.1
  have f9 : ∀ o, (w.alloc o).frozen? ⟨b, 10, none⟩ = false := fun o => (hv.over (below_new w o)).f 10
  clear hv
  go_enter Tryz.func115, Tryz.ntmps115
  go_wp2
  go_end0
  exact ⟨rfl, ((hV.out.over (below_new _ _)).setX hd hne _).mono (Nat.le_succ _), ((But.refl _ _ _).over (below_new _ _)).set _ _⟩

theorem do_135 (t f k : Int) (s : St) (d : Da) (b m n : Nat) (w : World) (hd : d.ok) (hne : m ≠ b) (hv : Vm w b m n d s) :
    Calls Tryz.prog 115 #[.pointer (some ⟨b, 0, none⟩), .agg #[.int .u16 135, .int .u8 t, .int .u8 f, .int .u32 k]] w fun e w' => DoTold w w' e b m n d { s with a := s.x } := by
  have hV : Hid (Vm w b m n d s) := hv
  have h9 : ∀ o, (w.alloc o).cell? ⟨b, 9, none⟩ = some (.int .u32 s.a) := fun o => ((hv.over (below_new w o)).cells hd).1
  have h10 : ∀ o, (w.alloc o).cell? ⟨b, 10, none⟩ = some (.int .u32 s.x) := fun o => ((hv.over (below_new w o)).cells hd).2.1
  have f9 : ∀ o, (w.alloc o).frozen? ⟨b, 9, none⟩ = false := fun o => (hv.over (below_new w o)).f 9
  clear hv
  go_enter Tryz.func115, Tryz.ntmps115
  go_wp2
  go_end0
  exact ⟨rfl, ((hV.out.over (below_new _ _)).setA hd hne _).mono (Nat.le_succ _), ((But.refl _ _ _).over (below_new _ _)).set _ _⟩

theorem do_132 (t f k : Int) (s : St) (d : Da) (b m n : Nat) (w : World) (hd : d.ok) (hne : m ≠ b) (hv : Vm w b m n d s) :
    Calls Tryz.prog 115 #[.pointer (some ⟨b, 0, none⟩), .agg #[.int .u16 132, .int .u8 t, .int .u8 f, .int .u32 k]] w fun e w' => DoTold w w' e b m n d { s with a := (-s.a) % 4294967296 } := by
  have hV : Hid (Vm w b m n d s) := hv
  have h9 : ∀ o, (w.alloc o).cell? ⟨b, 9, none⟩ = some (.int .u32 s.a) := fun o => ((hv.over (below_new w o)).cells hd).1
  have h10 : ∀ o, (w.alloc o).cell? ⟨b, 10, none⟩ = some (.int .u32 s.x) := fun o => ((hv.over (below_new w o)).cells hd).2.1
  have f9 : ∀ o, (w.alloc o).frozen? ⟨b, 9, none⟩ = false := fun o => (hv.over (below_new w o)).f 9
  clear hv
  go_enter Tryz.func115, Tryz.ntmps115
  go_wp2
  go_end0
  exact ⟨rfl, ((hV.out.over (below_new _ _)).setA hd hne _).mono (Nat.le_succ _), ((But.refl _ _ _).over (below_new _ _)).set _ _⟩

end Go.Proofs.YtcckipimfgmmdaaGreatDoor.V

namespace Go.Proofs.YtcckipimfgmmdaaGreatDoor.V
open Go.RowKit

set_option maxHeartbeats 1000000 in
theorem do_96 (t f k : Int) (s : St) (d : Da) (b m n : Nat) (w : World) (hk : U32 k) (hd : d.ok) (hne : m ≠ b) (hv : Vm w b m n d s) :
    Calls Tryz.prog 115 #[.pointer (some ⟨b, 0, none⟩), .agg #[.int .u16 96, .int .u8 t, .int .u8 f, .int .u32 k]] w fun e w' => DoTold w w' e b m n d { s with a := s.c k } := by
  have hV : Hid (Vm w b m n d s) := hv
  have h11 : ∀ o, (w.alloc o).cell? ⟨b, 11, none⟩ = some (.map (some m)) := fun o => ((hv.over (below_new w o)).cells hd).2.2.1
  have h9 : ∀ o, (w.alloc o).cell? ⟨b, 9, none⟩ = some (.int .u32 s.a) := fun o => ((hv.over (below_new w o)).cells hd).1
  have f9 : ∀ o, (w.alloc o).frozen? ⟨b, 9, none⟩ = false := fun o => (hv.over (below_new w o)).f 9
  have hL : ∀ o, (Instr.lookup 146 (.map (some m)) (.int .u32 k) false).run Tryz.prog (w.alloc o).drew = .ok (.int .u32 (s.c k)) (w.alloc o).drew := fun o => (hv.over (below_new w o)).drew.2.look k hk
  clear hv
  go_enter Tryz.func115, Tryz.ntmps115
  go_wp2
  have i3 : (w.alloc (Obj.cells #[.int .u16 96, .int .u8 t, .int .u8 f, .int .u32 k] 60)).cell? ⟨w.heap.size, 3, none⟩ = some (.int .u32 k) := by simp
  have i11 := h11 (Obj.cells #[.int .u16 96, .int .u8 t, .int .u8 f, .int .u32 k] 60)
  have i9 := h9 (Obj.cells #[.int .u16 96, .int .u8 t, .int .u8 f, .int .u32 k] 60)
  have g9 := f9 (Obj.cells #[.int .u16 96, .int .u8 t, .int .u8 f, .int .u32 k] 60)
  have gL := hL (Obj.cells #[.int .u16 96, .int .u8 t, .int .u8 f, .int .u32 k] 60)
  have VV : Hid (Vm (w.alloc (Obj.cells #[.int .u16 96, .int .u8 t, .int .u8 f, .int .u32 k] 60)) b m n d s ∧ Below w.heap.size w (w.alloc (Obj.cells #[.int .u16 96, .int .u8 t, .int .u8 f, .int .u32 k] 60))) := ⟨hV.out.over (below_new _ _), below_new _ _⟩
  have hlt := hV.out.1.lt
  clear h11 h9 f9 hL hV
  generalize (w.alloc (Obj.cells #[.int .u16 96, .int .u8 t, .int .u8 f, .int .u32 k] 60)) = W at *
  have kS : (W.setCell ⟨b, 9, none⟩ (.int .u32 (s.c k))).drew.cell? ⟨w.heap.size, 3, none⟩ = some (.int .u32 k) ∧ (W.setCell ⟨b, 9, none⟩ (.int .u32 (s.c k))).drew.cell? ⟨b, 11, none⟩ = some (.map (some m)) ∧ (Instr.lookup 146 (.map (some m)) (.int .u32 k) false).run Tryz.prog (W.setCell ⟨b, 9, none⟩ (.int .u32 (s.c k))).drew = .ok (.int .u32 (s.c k)) (W.setCell ⟨b, 9, none⟩ (.int .u32 (s.c k))).drew := by
    have hv2 := (VV.out.1.setA hd hne (s.c k)).drew
    refine ⟨?_, (hv2.cells hd).2.2.1, hv2.2.look k hk⟩
    rw [← i3]
    exact World.cell?_of_block (w := W) (Below.heap_setCell _ _ _ _ (by show w.heap.size ≠ b; omega))
  go_region_held3 (fun X => X.cell? ⟨w.heap.size, 3, none⟩ = some (.int .u32 k) ∧ X.cell? ⟨b, 11, none⟩ = some (.map (some m)) ∧ (Instr.lookup 146 (.map (some m)) (.int .u32 k) false).run Tryz.prog X = .ok (.int .u32 (s.c k)) X) (first | assumption | go_keep) (fail)
  all_goals
    go_wp2
    go_end0
    exact ⟨rfl, ((VV.out.1.drew).setA hd hne _).mono (Nat.le_succ _), (((But.refl _ _ _).trans (But.of VV.out.2)).drew).set _ _⟩

set_option maxHeartbeats 1000000 in
theorem do_97 (t f k : Int) (s : St) (d : Da) (b m n : Nat) (w : World) (hk : U32 k) (hd : d.ok) (hne : m ≠ b) (hv : Vm w b m n d s) :
    Calls Tryz.prog 115 #[.pointer (some ⟨b, 0, none⟩), .agg #[.int .u16 97, .int .u8 t, .int .u8 f, .int .u32 k]] w fun e w' => DoTold w w' e b m n d { s with x := s.c k } := by
  have hV : Hid (Vm w b m n d s) := hv
  have h11 : ∀ o, (w.alloc o).cell? ⟨b, 11, none⟩ = some (.map (some m)) := fun o => ((hv.over (below_new w o)).cells hd).2.2.1
  have h9 : ∀ o, (w.alloc o).cell? ⟨b, 10, none⟩ = some (.int .u32 s.x) := fun o => ((hv.over (below_new w o)).cells hd).2.1
  have f9 : ∀ o, (w.alloc o).frozen? ⟨b, 10, none⟩ = false := fun o => (hv.over (below_new w o)).f 10
  have hL : ∀ o, (Instr.lookup 146 (.map (some m)) (.int .u32 k) false).run Tryz.prog (w.alloc o).drew = .ok (.int .u32 (s.c k)) (w.alloc o).drew := fun o => (hv.over (below_new w o)).drew.2.look k hk
  clear hv
  go_enter Tryz.func115, Tryz.ntmps115
  go_wp2
  have i3 : (w.alloc (Obj.cells #[.int .u16 97, .int .u8 t, .int .u8 f, .int .u32 k] 60)).cell? ⟨w.heap.size, 3, none⟩ = some (.int .u32 k) := by simp
  have i11 := h11 (Obj.cells #[.int .u16 97, .int .u8 t, .int .u8 f, .int .u32 k] 60)
  have i9 := h9 (Obj.cells #[.int .u16 97, .int .u8 t, .int .u8 f, .int .u32 k] 60)
  have g9 := f9 (Obj.cells #[.int .u16 97, .int .u8 t, .int .u8 f, .int .u32 k] 60)
  have gL := hL (Obj.cells #[.int .u16 97, .int .u8 t, .int .u8 f, .int .u32 k] 60)
  have VV : Hid (Vm (w.alloc (Obj.cells #[.int .u16 97, .int .u8 t, .int .u8 f, .int .u32 k] 60)) b m n d s ∧ Below w.heap.size w (w.alloc (Obj.cells #[.int .u16 97, .int .u8 t, .int .u8 f, .int .u32 k] 60))) := ⟨hV.out.over (below_new _ _), below_new _ _⟩
  have hlt := hV.out.1.lt
  clear h11 h9 f9 hL hV
  generalize (w.alloc (Obj.cells #[.int .u16 97, .int .u8 t, .int .u8 f, .int .u32 k] 60)) = W at *
  have kS : (W.setCell ⟨b, 10, none⟩ (.int .u32 (s.c k))).drew.cell? ⟨w.heap.size, 3, none⟩ = some (.int .u32 k) ∧ (W.setCell ⟨b, 10, none⟩ (.int .u32 (s.c k))).drew.cell? ⟨b, 11, none⟩ = some (.map (some m)) ∧ (Instr.lookup 146 (.map (some m)) (.int .u32 k) false).run Tryz.prog (W.setCell ⟨b, 10, none⟩ (.int .u32 (s.c k))).drew = .ok (.int .u32 (s.c k)) (W.setCell ⟨b, 10, none⟩ (.int .u32 (s.c k))).drew := by
    have hv2 := (VV.out.1.setX hd hne (s.c k)).drew
    refine ⟨?_, (hv2.cells hd).2.2.1, hv2.2.look k hk⟩
    rw [← i3]
    exact World.cell?_of_block (w := W) (Below.heap_setCell _ _ _ _ (by show w.heap.size ≠ b; omega))
  go_region_held3 (fun X => X.cell? ⟨w.heap.size, 3, none⟩ = some (.int .u32 k) ∧ X.cell? ⟨b, 11, none⟩ = some (.map (some m)) ∧ (Instr.lookup 146 (.map (some m)) (.int .u32 k) false).run Tryz.prog X = .ok (.int .u32 (s.c k)) X) (first | assumption | go_keep) (fail)
  all_goals
    go_wp2
    go_end0
    exact ⟨rfl, ((VV.out.1.drew).setX hd hne _).mono (Nat.le_succ _), (((But.refl _ _ _).trans (But.of VV.out.2)).drew).set _ _⟩

set_option maxHeartbeats 1000000 in
theorem do_2 (t f k : Int) (s : St) (d : Da) (b m n : Nat) (w : World) (hk : U32 k) (hs : U32 s.a) (hn : n ≤ 1000000) (hd : d.ok) (hne : m ≠ b) (hv : Vm w b m n d s) :
    Calls Tryz.prog 115 #[.pointer (some ⟨b, 0, none⟩), .agg #[.int .u16 2, .int .u8 t, .int .u8 f, .int .u32 k]] w fun e w' => DoTold w w' e b m n d { s with c := putC s.c k s.a } := by
  have hV : Hid (Vm w b m n d s) := hv
  have h11 : ∀ o, (w.alloc o).cell? ⟨b, 11, none⟩ = some (.map (some m)) := fun o => ((hv.over (below_new w o)).cells hd).2.2.1
  have h9 : ∀ o, (w.alloc o).cell? ⟨b, 9, none⟩ = some (.int .u32 s.a) := fun o => ((hv.over (below_new w o)).cells hd).1
  have hP : ∀ o, ∃ w', (Instr.mapUpdate 146 (.map (some m)) (.int .u32 k) (.int .u32 s.a)).run Tryz.prog (w.alloc o).drew = .ok () w' ∧ Cel w' m (n + 1) (putC s.c k s.a) ∧ (w.alloc o).drew.grownBy w' (some m) := fun o => (hv.over (below_new w o)).drew.2.put k _ hk hs hn
  clear hv
  go_enter Tryz.func115, Tryz.ntmps115
  go_wp2
  have i3 : (w.alloc (Obj.cells #[.int .u16 2, .int .u8 t, .int .u8 f, .int .u32 k] 60)).cell? ⟨w.heap.size, 3, none⟩ = some (.int .u32 k) := by simp
  have i11 := h11 (Obj.cells #[.int .u16 2, .int .u8 t, .int .u8 f, .int .u32 k] 60)
  have i9 := h9 (Obj.cells #[.int .u16 2, .int .u8 t, .int .u8 f, .int .u32 k] 60)
  obtain ⟨w1, hrun, hc1, hg1⟩ := hP (Obj.cells #[.int .u16 2, .int .u8 t, .int .u8 f, .int .u32 k] 60)
  have VV : Hid (Vm (w.alloc (Obj.cells #[.int .u16 2, .int .u8 t, .int .u8 f, .int .u32 k] 60)) b m n d s ∧ Below w.heap.size w (w.alloc (Obj.cells #[.int .u16 2, .int .u8 t, .int .u8 f, .int .u32 k] 60))) := ⟨hV.out.over (below_new _ _), below_new _ _⟩
  have hlt := hV.out.2.lt
  clear h11 h9 hP hV
  generalize (w.alloc (Obj.cells #[.int .u16 2, .int .u8 t, .int .u8 f, .int .u32 k] 60)) = W at *
  have HC : Hid (Cel w1 m (n + 1) (putC s.c k s.a) ∧ W.drew.grownBy w1 (some m)) := ⟨hc1, hg1⟩
  have kS : w1.cell? ⟨w.heap.size, 3, none⟩ = some (.int .u32 k) ∧ w1.cell? ⟨b, 11, none⟩ = some (.map (some m)) ∧ w1.cell? ⟨b, 9, none⟩ = some (.int .u32 s.a) := by
    have hv2 := VV.out.1.drew.put hne _ hg1 hc1
    refine ⟨?_, (hv2.cells hd).2.2.1, (hv2.cells hd).1⟩
    rw [← i3]
    exact World.cell?_of_block (w := W) (hg1.block _ (World.block_lt_of_cell? W _ i3) (fun e => by injection e with e; dsimp only at e; omega))
  clear hc1 hg1
  go_region_held3 (fun X => X.cell? ⟨w.heap.size, 3, none⟩ = some (.int .u32 k) ∧ X.cell? ⟨b, 11, none⟩ = some (.map (some m)) ∧ X.cell? ⟨b, 9, none⟩ = some (.int .u32 s.a)) (first | assumption | go_keep) (fail)
  all_goals
    go_wp2
    go_end0
    exact ⟨rfl, VV.out.1.drew.put hne _ HC.out.2 HC.out.1, (((But.refl _ _ _).trans (But.of VV.out.2)).drew).grown HC.out.2⟩

set_option maxHeartbeats 1000000 in
theorem do_3 (t f k : Int) (s : St) (d : Da) (b m n : Nat) (w : World) (hk : U32 k) (hs : U32 s.x) (hn : n ≤ 1000000) (hd : d.ok) (hne : m ≠ b) (hv : Vm w b m n d s) :
    Calls Tryz.prog 115 #[.pointer (some ⟨b, 0, none⟩), .agg #[.int .u16 3, .int .u8 t, .int .u8 f, .int .u32 k]] w fun e w' => DoTold w w' e b m n d { s with c := putC s.c k s.x } := by
  have hV : Hid (Vm w b m n d s) := hv
  have h11 : ∀ o, (w.alloc o).cell? ⟨b, 11, none⟩ = some (.map (some m)) := fun o => ((hv.over (below_new w o)).cells hd).2.2.1
  have h9 : ∀ o, (w.alloc o).cell? ⟨b, 10, none⟩ = some (.int .u32 s.x) := fun o => ((hv.over (below_new w o)).cells hd).2.1
  have hP : ∀ o, ∃ w', (Instr.mapUpdate 146 (.map (some m)) (.int .u32 k) (.int .u32 s.x)).run Tryz.prog (w.alloc o).drew = .ok () w' ∧ Cel w' m (n + 1) (putC s.c k s.x) ∧ (w.alloc o).drew.grownBy w' (some m) := fun o => (hv.over (below_new w o)).drew.2.put k _ hk hs hn
  clear hv
  go_enter Tryz.func115, Tryz.ntmps115
  go_wp2
  have i3 : (w.alloc (Obj.cells #[.int .u16 3, .int .u8 t, .int .u8 f, .int .u32 k] 60)).cell? ⟨w.heap.size, 3, none⟩ = some (.int .u32 k) := by simp
  have i11 := h11 (Obj.cells #[.int .u16 3, .int .u8 t, .int .u8 f, .int .u32 k] 60)
  have i9 := h9 (Obj.cells #[.int .u16 3, .int .u8 t, .int .u8 f, .int .u32 k] 60)
  obtain ⟨w1, hrun, hc1, hg1⟩ := hP (Obj.cells #[.int .u16 3, .int .u8 t, .int .u8 f, .int .u32 k] 60)
  have VV : Hid (Vm (w.alloc (Obj.cells #[.int .u16 3, .int .u8 t, .int .u8 f, .int .u32 k] 60)) b m n d s ∧ Below w.heap.size w (w.alloc (Obj.cells #[.int .u16 3, .int .u8 t, .int .u8 f, .int .u32 k] 60))) := ⟨hV.out.over (below_new _ _), below_new _ _⟩
  have hlt := hV.out.2.lt
  clear h11 h9 hP hV
  generalize (w.alloc (Obj.cells #[.int .u16 3, .int .u8 t, .int .u8 f, .int .u32 k] 60)) = W at *
  have HC : Hid (Cel w1 m (n + 1) (putC s.c k s.x) ∧ W.drew.grownBy w1 (some m)) := ⟨hc1, hg1⟩
  have kS : w1.cell? ⟨w.heap.size, 3, none⟩ = some (.int .u32 k) ∧ w1.cell? ⟨b, 11, none⟩ = some (.map (some m)) ∧ w1.cell? ⟨b, 10, none⟩ = some (.int .u32 s.x) := by
    have hv2 := VV.out.1.drew.put hne _ hg1 hc1
    refine ⟨?_, (hv2.cells hd).2.2.1, (hv2.cells hd).2.1⟩
    rw [← i3]
    exact World.cell?_of_block (w := W) (hg1.block _ (World.block_lt_of_cell? W _ i3) (fun e => by injection e with e; dsimp only at e; omega))
  clear hc1 hg1
  go_region_held3 (fun X => X.cell? ⟨w.heap.size, 3, none⟩ = some (.int .u32 k) ∧ X.cell? ⟨b, 11, none⟩ = some (.map (some m)) ∧ X.cell? ⟨b, 10, none⟩ = some (.int .u32 s.x)) (first | assumption | go_keep) (fail)
  all_goals
    go_wp2
    go_end0
    exact ⟨rfl, VV.out.1.drew.put hne _ HC.out.2 HC.out.1, (((But.refl _ _ _).trans (But.of VV.out.2)).drew).grown HC.out.2⟩

end Go.Proofs.YtcckipimfgmmdaaGreatDoor.V
