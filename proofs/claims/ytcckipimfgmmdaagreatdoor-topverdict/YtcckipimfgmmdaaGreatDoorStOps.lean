/-
  Len, Cost, and one filter of a stack.
-/
import Derived.Test.YtcckipimfgmmdaaGreatDoorStMem
import Derived.Test.YtcckipimfgmmdaaGreatDoorAMem
import Derived.BigQuiet
import Derived.Deep.DeepCutAuto
namespace Go.Proofs.YtcckipimfgmmdaaGreatDoor.S
open Go.RowKit

theorem cell_own {w : World} {base sz : Nat} {t : TypeId} {a : Option Addr} {n cap i : Nat} {xs : List Value} {u : Value} (h : w.ownsRow base t sz (.slice a n cap) n xs) (hi : xs[i]? = some u) : ∃ g, a = some ⟨g, 0, none⟩ ∧ w.cell? ⟨g, i, none⟩ = some u := by
  have hl := (List.getElem?_eq_some_iff.1 hi).1
  rcases h.2 with ⟨e, h0⟩ | ⟨g, c, cur, e, _⟩
  · rw [h.1, h0] at hl
    omega
  · cases e
    have := h.cells (g := g) rfl i u hi
    rw [Addr.add_lit, Nat.zero_add] at this
    exact ⟨g, rfl, this⟩
/-- some of a program's instructions. -/
theorem ins_part {w : World} {base : Nat} {a : Option Addr} {n cap : Nat} {L : List V.In} (h : w.ownsRow base 60 4 (.slice a n cap) n (V.cellsI L)) (hl : ∀ x ∈ L, x.ok) (p m : Nat) (hm : p + m ≤ n) (h0 : 0 < m) :
    ∃ g, a = some ⟨g, 0, none⟩ ∧ FlV w (.slice (some ⟨g, p * 4, none⟩) m m) ((L.drop p).take m) := by
  have hlen : L.length = n := by have := h.1; rw [V.cellsI_length] at this; omega
  obtain ⟨g, rfl, _⟩ : ∃ g, a = some ⟨g, 0, none⟩ ∧ True := by
    rcases h.2 with ⟨e, h1⟩ | ⟨g, c, cur, e, _⟩
    · omega
    · cases e
      exact ⟨g, rfl, trivial⟩
  have hcm : n ≤ maxLen := by
    rcases h.2 with ⟨e, _⟩ | ⟨_, _, _, e, _, _, h1, h2, _⟩
    · cases e
    · cases e
      omega
  have hk : ((L.drop p).take m).length = m := by rw [List.length_take, List.length_drop]; omega
  refine ⟨g, rfl, _, _, by rw [hk], ⟨rfl, fun x hx => hl x (List.mem_of_mem_drop (List.mem_of_mem_take hx)), fun _ => ⟨g, p * 4, rfl, fun i x hx => ?_⟩⟩, by rw [hk]; omega, by rw [hk]; exact Nat.le_refl _, fun e => by cases e⟩
  have hx2 : L[p + i]? = some x := by
    have hi := (List.getElem?_eq_some_iff.1 hx).1
    rw [List.getElem?_take_of_lt (by omega), List.getElem?_drop] at hx
    exact hx
  have key : ∀ c u, c < 4 → x.cells[c]? = some u → w.cell? ⟨g, p * 4 + i * 4 + c, none⟩ = some u := by
    intro c u hc hu
    have := h.cells (g := g) rfl ((p + i) * 4 + c) u (by rw [V.cellsI_get L (p + i) x c hx2 hc]; exact hu)
    rw [Addr.add_lit, Nat.zero_add, Nat.add_mul] at this
    exact this
  exact ⟨key 0 _ (by decide) rfl, key 1 _ (by decide) rfl, key 2 _ (by decide) rfl, key 3 _ (by decide) rfl⟩

theorem slice_full (W : World) (t e : TypeId) (ht : Tryz.prog.underlying t = some (.slice e)) (a : Option Addr) (ha : a = none ∨ ∃ g, a = some ⟨g, 0, none⟩) (n cap : Nat) (h : n ≤ cap) (h2 : cap ≤ maxLen) {sz : Nat} (hs : (sizeOf e).run Tryz.prog W = .ok sz W) :
    (Instr.slice t (.slice a n cap) none (some (.int .i64 n)) (some (.int .i64 n))).run Tryz.prog W = .ok (.slice a n n) W := by
  have e1 : Tryz.prog.elem t = e := by simp [Program.elem, ht]
  have h3 : cap ≤ 9223372036854775807 := by unfold maxLen at h2; omega
  have h4 : (n : Int) ≤ (cap : Int) := by omega
  rcases ha with rfl | ⟨g, rfl⟩
  · simp [Instr.slice, run_underlying ht, Instr.sliceBounds, run_sliceBound, hs, h4, Sem.run_bind, Result.andThen]
  · simp [Instr.slice, run_underlying ht, Instr.sliceBounds, run_sliceBound, hs, h4, Sem.run_bind, Result.andThen, Addr.add]

set_option maxRecDepth 8000 in
theorem len_any (X : World) (b : Nat) (vc ve : Value) (ls : List (List V.In)) (hS : StkV X b vc ve ls) :
    Calls Tryz.prog 14 #[.pointer (some ⟨b, 0, none⟩)] X fun e w' => e = .returned (.int .i64 (ls.length : Nat)) ∧ w' = X := by
  obtain ⟨ae, ce, rfl⟩ := own_slice hS.ends
  have c1 := hS.blk.cell 1
  simp only [List.getElem?_cons_succ, List.getElem?_cons_zero] at c1
  clear hS
  go_enter Tryz.func14, Tryz.ntmps14
  go_wp2_with fail
  go_ret
  exact ⟨rfl, rfl⟩

set_option maxRecDepth 8000 in
theorem cost_any (X : World) (b : Nat) (vc ve : Value) (ls : List (List V.In)) (hS : StkV X b vc ve ls) (h1 : ls.flatten.length ≤ 100000) (h2 : ls.length ≤ 1000) :
    Calls Tryz.prog 9 #[.pointer (some ⟨b, 0, none⟩)] X fun e w' => e = .returned (.int .i64 (costL ls : Nat)) ∧ Below X.heap.size X w' := by
  have HL : Hid (∀ m, Calls Tryz.prog 14 #[.pointer (some ⟨b, 0, none⟩)] (X.drewN m) fun e w' => e = .returned (.int .i64 (ls.length : Nat)) ∧ w' = X.drewN m) := fun m => len_any _ b vc ve ls (hS.over (A.below_drewN X m))
  have HB : Hid (∀ m, Below X.heap.size X (X.drewN m)) := fun m => A.below_drewN X m
  have HC : Hid ((costL ls : Int) = (ls.flatten.length : Int) + 4 * (ls.length : Int)) := by unfold Hid; rw [cost_flat]; omega
  obtain ⟨ac, cc, rfl⟩ := own_slice hS.code
  have c0 := hS.blk.cell 0
  simp only [List.getElem?_cons_zero] at c0
  clear hS
  have e1 : IntKind.i64.wrap (4 * (ls.length : Int)) = 4 * (ls.length : Int) := by rw [IntKind.wrap_i64]; omega
  have e2 : IntKind.i64.wrap ((ls.flatten.length : Int) + 4 * (ls.length : Int)) = (ls.flatten.length : Int) + 4 * (ls.length : Int) := by rw [IntKind.wrap_i64]; omega
  generalize costL ls = cl at *
  generalize ls.flatten.length = fl at *
  generalize ls.length = nl at *
  go_enter Tryz.func9, Tryz.ntmps9
  go_upto_region 1 with fail
  go_quiet ((first | (go_at_call 14; exact Calls.quiet_of_same (HL.out _))))
  go_wp2_with fail
  go_ret
  exact ⟨by rw [HC.out]; rfl, HB.out _⟩

set_option maxRecDepth 8000 in
set_option maxHeartbeats 1000000 in
theorem filter_any (X : World) (b : Nat) (vc ve : Value) (ls : List (List V.In)) (hS : StkV X b vc ve ls) (hok : OkS ls) (i : Nat) (hi : i < ls.length) :
    Calls Tryz.prog 57 #[.pointer (some ⟨b, 0, none⟩), .int .i64 i] X fun e w' => ∃ v, e = .returned v ∧ FlV X v ls[i] ∧ Below X.heap.size X w' := by
  have hlen := chk_len (hok.1 ls[i] (List.getElem_mem hi)).1
  have htf := take_flat hi
  have hfl := flat_le ls (i + 1)
  have hfc : ls.flatten.length ≤ 32768 := by have := hok.2.2; rw [cost_flat] at this; omega
  have h32 := hok.2.1
  obtain ⟨ac, cc, rfl⟩ := own_slice hS.code
  obtain ⟨ae, ce, rfl⟩ := own_slice hS.ends
  have hLok : ∀ x ∈ ls.flatten, x.ok := fun x hx => by
    obtain ⟨l, hl, hx⟩ := List.mem_flatten.1 hx
    exact (hok.1 l hl).2 x hx
  have hcc : ls.flatten.length ≤ cc := by
    rcases hS.code.2 with ⟨e, h⟩ | ⟨_, _, _, e, _, _, h1, _⟩
    · simp at e; omega
    · simp at e; omega
  obtain ⟨g, rfl, hFl⟩ := ins_part hS.code hLok (ls.take i).flatten.length ls[i].length (by omega) hlen.1
  rw [flat_at hi] at hFl
  obtain ⟨ge, rfl, ce1⟩ := cell_own hS.ends (i := i) (u := .int .i64 ((ls.take (i + 1)).flatten.length : Nat)) (by unfold V.cellsN; rw [List.getElem?_map, endsF_get 0 ls i hi, Nat.zero_add]; rfl)
  have c0 := hS.blk.cell 0
  have c1 := hS.blk.cell 1
  simp only [List.getElem?_cons_zero, List.getElem?_cons_succ] at c0 c1
  have HF : Hid (∀ o, o = (ls.take i).flatten.length * 4 → FlV X (.slice (some ⟨g, o, none⟩) ls[i].length ls[i].length) ls[i]) := fun o e => e ▸ hFl
  have HB : Hid (∀ m, Below X.heap.size X (X.drewN m)) := fun m => A.below_drewN X m
  have HP : Hid (∀ j, i = j + 1 → X.cell? ⟨ge, j, none⟩ = some (.int .i64 ((ls.take i).flatten.length : Nat))) := fun j e => by
    subst e
    obtain ⟨g2, e2, h2⟩ := cell_own hS.ends (i := j) (u := .int .i64 ((ls.take (j + 1)).flatten.length : Nat)) (by unfold V.cellsN; rw [List.getElem?_map, endsF_get 0 ls j (by omega), Nat.zero_add]; rfl)
    cases e2
    exact h2
  have HZ : Hid (i = 0 → (ls.take i).flatten.length = 0) := fun e => by subst e; rfl
  clear hS hLok hFl
  rw [htf] at ce1
  obtain ⟨q, hq⟩ : ∃ q, q = (ls.take i).flatten.length + ls[i].length := ⟨_, rfl⟩
  rw [← hq] at ce1
  have hk1 : q ≤ ls.flatten.length := by omega
  have hk2 : q - (ls.take i).flatten.length = ls[i].length := by omega
  have hk3 : (ls.take i).flatten.length < q := by omega
  clear hq
  clear htf hfl hok
  generalize (ls.take i).flatten.length = p at *
  generalize ls.flatten.length = fl at *
  have HI : Hid (i < ls.length) := hi
  generalize ls[i] = li at *
  generalize li.length = m at *
  have hi1 : (i : Int) < (ls.length : Int) := by omega
  have hsl : ∀ W : World, (Instr.slice 30 (.slice (some ⟨g, 0, none⟩) fl cc) (some (.int .i64 (p : Nat))) (some (.int .i64 (q : Nat))) (some (.int .i64 (q : Nat)))).run Tryz.prog W = .ok (.slice (some ⟨g, p * 4, none⟩) m m) W := fun W => by
    have q1 : (p : Int) ≤ (q : Int) := by omega
    have q2 : (q : Int) ≤ (cc : Int) := by omega
    have q3 : ¬ q = p := by omega
    have q4 : (sizeOf 60).run Tryz.prog W = .ok 4 W := by
      obtain ⟨i0, hi0, _, hz1, _⟩ := info_parts V.Tryz.info60
      simp [sizeOf, typeInfo, hi0, hz1]
    simp [Instr.slice, run_underlying Tryz.underlying30, Instr.sliceBounds, run_sliceBound, q1, q2, q3, q4, hk2, Sem.run_bind, Result.andThen, Addr.add]
    intro hp
    rw [hp]
  go_enter Tryz.func57, Tryz.ntmps57
  go_upto_region 1 with fail
  go_quiet (fail)
  by_cases h0 : i = 0
  · have hp := HZ.out h0
    have h00 : ¬ (0 : Int) < (i : Int) := by omega
    subst hp
    go_wp2_with fail
    go_ret
    exact ⟨_, rfl, HF.out _ rfl, HB.out _⟩
  · obtain ⟨j, rfl⟩ : ∃ j, i = j + 1 := ⟨i - 1, by omega⟩
    have cj := HP.out j rfl
    have h00 : (0 : Int) < ((j + 1 : Nat) : Int) := by omega
    go_wp2_with fail
    go_ret
    exact ⟨_, rfl, HF.out _ rfl, HB.out _⟩

end Go.Proofs.YtcckipimfgmmdaaGreatDoor.S
