/-
  Texts of this seat, joined: VVGo, SkRow, StMem, AMath.
-/
import Derived.Test.YtamioifoemklfaaJ7
import Derived.Test.YtamioifoemklfaaJ1
import Derived.Maps.AppendAt
import Derived.Laws.AppendOwnNone
import Derived.Deep.AppendSrc
import Derived.Test.YtamioifoemklfaaRows
import Derived.Laws.BitsAllLaws

namespace Go.Proofs.Ytamioifoemklfaa.V
open Go.RowKit

/-- what is wrong with a program; what it answers; the places that it goes through. -/
def errV (l : List In) : Int := (chk l).1
def ansV (l : List In) (d : Da) : Int := if errV l = 0 then (allV l d).2.ans else 0
def plV (l : List In) (d : Da) : List Int := if errV l = 0 then (allV l d).1.map (fun p : Nat => (p : Int)) else []

theorem mkCourse_any (w : World) (b : Nat) (a : Option Addr) (len cap : Nat) :
    Calls Try.prog 40 #[.pointer (some ⟨b, 0, none⟩), .slice a len cap] w fun e w' => e = .returned (.func (Fn.func 53) #[] #[.pointer (some ⟨w.heap.size + 1, 0, none⟩), .pointer (some ⟨w.heap.size, 0, none⟩)]) ∧ w' = (w.alloc (.cells #[.pointer (some ⟨b, 0, none⟩)] 93)).alloc (.cells #[.slice a len cap] 31) := by
  go_enter Try.func40, Try.ntmps40
  go_wp2
  go_ret
  exact ⟨rfl, rfl⟩

theorem Vm.grown {w w' : World} {b m n : Nat} {d : Da} {s : St} {r : Option Nat} (h : Vm w b m n d s) (hg : w.grownBy w' r) (h1 : some b ≠ r) (h2 : some m ≠ r) : Vm w' b m n d s := by
  refine ⟨?_, h.2.kept hg h2⟩
  have := h.1
  unfold Blk at *
  rw [hg.block b (lt_of_block this) h1]
  exact this

/-- a run under way, in the loop that goes through it. -/
structure Rn (w : World) (a : Option Addr) (len cap : Nat) (ins : List In) (d : Da) (m : Nat) (Z : List Int × St) (k : Nat) (ps : List Int) (s : St) (v : Value) (wr : World) : Prop where
  k5 : k ≤ 5000000000
  pk : ps.length ≤ k
  pl : ps.length ≤ len
  so : s.ok
  ow : wr.ownsRow (m + 4) 3 1 v ps.length (cellsN ps)
  vm : Vm wr (m + 1) m ps.length d s
  cl : wr.cell? ⟨m + 1 + 1 + 1, 0, none⟩ = some (.slice a len cap)
  cp : wr.cell? ⟨m + 1 + 1, 0, none⟩ = some (.pointer (some ⟨m + 1, 0, none⟩))
  bw : Below w.heap.size w wr
  sz : m + 4 ≤ wr.heap.size
  eq : (ps ++ (runV ins d (len - k) k s).1.map (fun p : Nat => (p : Int)), (runV ins d (len - k) k s).2) = Z

theorem not_own {w : World} {base sz : Nat} {t : TypeId} {v : Value} {n : Nat} {xs : List Value} (h : w.ownsRow base t sz v n xs) (j : Nat) (hj : j < base) : some j ≠ v.ownBlock := by
  intro e
  have := owns_block h j e.symm
  omega

/-- behind an append. -/
theorem Rn.app {w wr w4 : World} {a : Option Addr} {len cap : Nat} {ins : List In} {d : Da} {m : Nat} {Z : List Int × St} {k : Nat} {ps : List Int} {s : St} {v : Value} (h : Rn w a len cap ins d m Z k ps s v wr) (hm : w.heap.size ≤ m) (o : Obj) (hg : (wr.alloc o).grownBy w4 v.ownBlock) :
    Vm w4 (m + 1) m ps.length d s ∧ w4.cell? ⟨m + 1 + 1 + 1, 0, none⟩ = some (.slice a len cap) ∧ w4.cell? ⟨m + 1 + 1, 0, none⟩ = some (.pointer (some ⟨m + 1, 0, none⟩)) ∧ Below w.heap.size w w4 ∧ m + 4 ≤ w4.heap.size := by
  have n1 := not_own h.ow (m + 1) (by omega)
  have n0 := not_own h.ow m (by omega)
  have n3 := not_own h.ow (m + 1 + 1 + 1) (by omega)
  have n2 := not_own h.ow (m + 1 + 1) (by omega)
  have c3 := ((below_new wr o).cell (World.block_lt_of_cell? wr _ h.cl)).trans h.cl
  have c2 := ((below_new wr o).cell (World.block_lt_of_cell? wr _ h.cp)).trans h.cp
  have hb := h.bw.alloc h.bw.size o
  refine ⟨(h.vm.over (below_new wr o)).grown hg n1 n0, hg.cell c3 n3, hg.cell c2 n2, hb.grown hg hb.size (fun j hj => ?_), ?_⟩
  · have := owns_block h.ow j hj
    omega
  · have := h.sz
    have := hg.size
    rw [size_alloc'] at this
    omega

theorem zero_st : St.zero.ok := ⟨⟨by decide, by decide⟩, ⟨by decide, by decide⟩, ⟨by decide, by decide⟩, fun _ => ⟨Int.le_refl 0, by show (0 : Int) ≤ 4294967295; decide⟩⟩

theorem But.cell {w w' : World} {b m j i : Nat} {v : Value} (h : But b m w w') (hc : w.cell? ⟨j, i, none⟩ = some v) (h1 : j ≠ b) (h2 : j ≠ m) : w'.cell? ⟨j, i, none⟩ = some v := by
  rw [← hc]
  exact World.cell?_of_block (w := w) (h.block j (World.block_lt_of_cell? w _ hc) h1 h2)

/-- behind a place. -/
theorem Rn.on {w wr w4 w5 : World} {a : Option Addr} {len cap : Nat} {ins : List In} {d : Da} {m : Nat} {Z : List Int × St} {k k' : Nat} {ps : List Int} {s s' : St} {v v4 : Value} (h : Rn w a len cap ins d m Z k ps s v wr) (hm : w.heap.size ≤ m) (hk : k < len)
    (hk1 : k < k') (hk2 : k' ≤ 5000000000) (so : s'.ok) (ow : w4.ownsRow (m + 4) 3 1 v4 (ps.length + 1) (cellsN (ps ++ [(k : Int)]))) (cl : w4.cell? ⟨m + 1 + 1 + 1, 0, none⟩ = some (.slice a len cap)) (cp : w4.cell? ⟨m + 1 + 1, 0, none⟩ = some (.pointer (some ⟨m + 1, 0, none⟩)))
    (bw : Below w.heap.size w w4) (sz : m + 4 ≤ w4.heap.size) (vm : Vm w5 (m + 1) m (ps.length + 1) d s') (bt : But (m + 1) m w4 w5)
    (eq : runV ins d (len - k) k s = (k :: (runV ins d (len - k') k' s').1, (runV ins d (len - k') k' s').2)) : Rn w a len cap ins d m Z k' (ps ++ [(k : Int)]) s' v4 w5 := by
  have e : (ps ++ [(k : Int)]).length = ps.length + 1 := by simp
  have p1 := h.pk
  refine ⟨hk2, by rw [e]; omega, by rw [e]; omega, so, by rw [e]; exact bt.row ow (by omega) (by omega), by rw [e]; exact vm, bt.cell cl (by omega) (by omega), bt.cell cp (by omega) (by omega), bt.below bw (by omega) (by omega) (by omega), Nat.le_trans sz bt.size, ?_⟩
  rw [← h.eq, eq]
  simp

/-- what is told of a program and a call. -/
def GoTold (w w' : World) (e : Ending) (ins : List In) (d : Da) : Prop :=
  Below w.heap.size w w' ∧ ∃ v, e = .returned (.tuple #[.int .u32 (ansV ins d), v, .int .i64 (errV ins)]) ∧ w'.ownsRow w.heap.size 3 1 v (plV ins d).length (cellsN (plV ins d))

theorem six_blocks (w1 : World) (dn da dp x0 x1 x2 x3 x4 x5 : Int) (a : Option Addr) (len cap : Nat) (W : World)
    (hW : W = (((w1.alloc (Obj.map #[] 0)).alloc (Obj.cells #[.int .u32 dn, .int .u32 da, .int .u64 dp, .int .u64 x0, .int .u64 x1, .int .u64 x2, .int .u64 x3, .int .u64 x4, .int .u64 x5, .int .u32 0, .int .u32 0, .map (some w1.heap.size), .int .u32 0] 83)).alloc (.cells #[.pointer (some ⟨w1.heap.size + 1, 0, none⟩)] 93)).alloc (.cells #[.slice a len cap] 31)) :
    Vm W (w1.heap.size + 1) w1.heap.size 0 ⟨dn, da, dp, [x0, x1, x2, x3, x4, x5]⟩ St.zero ∧ W.cell? ⟨w1.heap.size + 1 + 1 + 1, 0, none⟩ = some (.slice a len cap) ∧ W.cell? ⟨w1.heap.size + 1 + 1, 0, none⟩ = some (.pointer (some ⟨w1.heap.size + 1, 0, none⟩)) ∧ Below w1.heap.size w1 W ∧ w1.heap.size + 4 ≤ W.heap.size := by
  subst hW
  have b0 := below_new w1 (Obj.map #[] 0)
  have s0 := size_alloc' w1 (Obj.map #[] 0)
  have v0 := cel_new w1
  generalize w1.alloc (Obj.map #[] 0) = X0 at *
  have B1 := blk_new X0 #[.int .u32 dn, .int .u32 da, .int .u64 dp, .int .u64 x0, .int .u64 x1, .int .u64 x2, .int .u64 x3, .int .u64 x4, .int .u64 x5, .int .u32 0, .int .u32 0, .map (some w1.heap.size), .int .u32 0] 83
  have b1 := below_new X0 (Obj.cells #[.int .u32 dn, .int .u32 da, .int .u64 dp, .int .u64 x0, .int .u64 x1, .int .u64 x2, .int .u64 x3, .int .u64 x4, .int .u64 x5, .int .u32 0, .int .u32 0, .map (some w1.heap.size), .int .u32 0] 83)
  have s1 := size_alloc' X0 (Obj.cells #[.int .u32 dn, .int .u32 da, .int .u64 dp, .int .u64 x0, .int .u64 x1, .int .u64 x2, .int .u64 x3, .int .u64 x4, .int .u64 x5, .int .u32 0, .int .u32 0, .map (some w1.heap.size), .int .u32 0] 83)
  generalize X0.alloc (Obj.cells #[.int .u32 dn, .int .u32 da, .int .u64 dp, .int .u64 x0, .int .u64 x1, .int .u64 x2, .int .u64 x3, .int .u64 x4, .int .u64 x5, .int .u32 0, .int .u32 0, .map (some w1.heap.size), .int .u32 0] 83) = X1 at *
  rw [s0] at B1
  have V1 : Vm X1 (w1.heap.size + 1) w1.heap.size 0 ⟨dn, da, dp, [x0, x1, x2, x3, x4, x5]⟩ St.zero := ⟨B1, v0.over b1⟩
  have c2 : (X1.alloc (.cells #[.pointer (some ⟨w1.heap.size + 1, 0, none⟩)] 93)).cell? ⟨X1.heap.size, 0, none⟩ = some (.pointer (some ⟨w1.heap.size + 1, 0, none⟩)) := by simp
  have b2 := below_new X1 (.cells #[.pointer (some ⟨w1.heap.size + 1, 0, none⟩)] 93)
  have s2 := size_alloc' X1 (.cells #[.pointer (some ⟨w1.heap.size + 1, 0, none⟩)] 93)
  generalize X1.alloc (.cells #[.pointer (some ⟨w1.heap.size + 1, 0, none⟩)] 93) = X2 at *
  have c3 : (X2.alloc (.cells #[.slice a len cap] 31)).cell? ⟨X2.heap.size, 0, none⟩ = some (.slice a len cap) := by simp
  have b3 := below_new X2 (.cells #[.slice a len cap] 31)
  have s3 := size_alloc' X2 (.cells #[.slice a len cap] 31)
  generalize X2.alloc (.cells #[.slice a len cap] 31) = X3 at *
  have e2 : X1.heap.size = w1.heap.size + 1 + 1 := by omega
  have e3 : X2.heap.size = w1.heap.size + 1 + 1 + 1 := by omega
  rw [e3] at c3
  rw [e2] at c2
  refine ⟨(V1.over b2).over b3, c3, (b3.cell (World.block_lt_of_cell? X2 _ c2)).trans c2, ?_, by omega⟩
  exact ((b0.trans (b1.mono b0.size)).trans (b2.mono (by omega))).trans (b3.mono (by omega))

set_option maxHeartbeats 4000000 in
theorem go_any (a : Option Addr) (len cap : Nat) (ins : List In) (d : Da) (w : World) (hlen : len ≤ maxLen) (h : Ins w a len ins) (hd : d.ok) :
    Calls Try.prog 30 #[.slice a len cap, d.val] w fun e w' => GoTold w w' e ins d := by
  have hll := h.1
  have HI : Hid (Ins w a len ins) := h
  have HC : Hid (∀ X, Below w.heap.size w X → Calls Try.prog 22 #[.slice a len cap] X fun e w' => Told X w' e (chk ins)) := fun X hX => check_any a len cap ins X hlen (h.below hX)
  have HD : Hid d.ok := hd
  by_cases he : errV ins = 0
  · have hok := chk_ok ins he
    have h4 : len ≤ 4096 := by omega
    have HF : Hid ((ff ins 0).1 = 0) := hok.2.2.1
    have HA : Hid (ansV ins d = (allV ins d).2.ans) := by unfold Hid ansV; rw [if_pos he]
    have HP : Hid (plV ins d = (allV ins d).1.map (fun p : Nat => (p : Int))) := by unfold Hid plV; rw [if_pos he]
    have HE : Hid (errV ins = 0) := he
    have hc0 : (chk ins).1 = 0 := he
    have HZ : Hid (([] : List Int) ++ (runV ins d (len - 0) 0 St.zero).1.map (fun p : Nat => (p : Int)) = (allV ins d).1.map (fun p : Nat => (p : Int)) ∧ (runV ins d (len - 0) 0 St.zero).2 = (allV ins d).2) := by
      unfold Hid allV
      rw [hll]
      exact ⟨rfl, rfl⟩
    clear hok he hd h
    generalize chk ins = ck at *
    obtain ⟨c1, c2⟩ := ck
    dsimp only at hc0
    subst hc0
    have hl9 := HD.out.2.2.2.1
    obtain ⟨dn, da, dp, dg⟩ := d
    obtain ⟨x0, x1, x2, x3, x4, x5, rfl⟩ := six hl9
    clear hl9
    unfold Da.val Da.cells
    simp only [List.map_cons, List.map_nil]
    have hmm := @run_makeMap Try.prog
    go_enter Try.func30, Try.ntmps30
    go_wp2_with (first | (go_at_call 22; refine (HC.out _ (below_new _ _)).mono ?_; rintro e w1 ⟨rfl, b1⟩; have Q1 := (blk_new w #[.int .u32 dn, .int .u32 da, .int .u64 dp, .int .u64 x0, .int .u64 x1, .int .u64 x2, .int .u64 x3, .int .u64 x4, .int .u64 x5] 27).over b1; have q0 := Q1.cell 0; have q1 := Q1.cell 1; have q2 := Q1.cell 2; have q3 := Q1.cell 3; have q4 := Q1.cell 4; have q5 := Q1.cell 5; have q6 := Q1.cell 6; have q7 := Q1.cell 7; have q8 := Q1.cell 8; clear Q1; simp only [List.getElem?_cons_zero, List.getElem?_cons_succ] at q0 q1 q2 q3 q4 q5 q6 q7 q8) | (go_at_call 40; refine (mkCourse_any _ _ _ _ _).mono ?_; rintro e w2 ⟨rfl, rfl⟩))
    have HB : Hid (Below w.heap.size w w1) := (below_new w _).trans (b1.mono (by rw [size_alloc']; omega))
    have hm : w.heap.size ≤ w1.heap.size := HB.out.size
    obtain ⟨V0, L0, P0, B0, Z0⟩ := six_blocks w1 dn da dp x0 x1 x2 x3 x4 x5 a len cap _ rfl
    clear q0 q1 q2 q3 q4 q5 q6 q7 q8 b1 hmm
    go_loopw [11, 12] (fun v i wr => ∃ (k : Nat) (ps : List Int) (s : St), i = .int .i64 k ∧ Rn w a len cap ins ⟨dn, da, dp, [x0, x1, x2, x3, x4, x5]⟩ w1.heap.size ((allV ins ⟨dn, da, dp, [x0, x1, x2, x3, x4, x5]⟩).1.map (fun p : Nat => (p : Int)), (allV ins ⟨dn, da, dp, [x0, x1, x2, x3, x4, x5]⟩).2) k ps s v wr) (fun _ i _ => len - (intOf i).toNat)
    case atStart =>
      refine ⟨0, [], St.zero, rfl, by omega, Nat.le_refl _, Nat.zero_le _, zero_st, ⟨rfl, .inl ⟨rfl, rfl⟩⟩, V0, L0, P0, HB.out.trans (B0.mono hm), Z0, Prod.ext HZ.out.1 HZ.out.2⟩
    case round =>
      clear V0 L0 P0 B0 Z0
      obtain ⟨k, ps, s, rfl, hR⟩ := hrel
      by_cases hlt : k < len
      · obtain ⟨x, hx⟩ : ∃ x, ins[k]? = some x := ⟨ins[k], List.getElem?_eq_getElem (by omega)⟩
        have hfx : fault x (len - 1 - k) = 0 := by
          have h1 := ff_all ins 0 HF.out k (by omega)
          rw [List.getElem?_eq_getElem (show k < ins.length by omega)] at hx
          cases hx
          rw [show ins.length - 1 - k = len - 1 - k from by omega] at h1
          exact h1
        have hxo : x.ok := HI.out.2.1 x (List.mem_of_getElem? hx)
        have hgt := nextV_gt len ⟨dn, da, dp, [x0, x1, x2, x3, x4, x5]⟩ x k s hxo hlt
        have hle : (nextV len ⟨dn, da, dp, [x0, x1, x2, x3, x4, x5]⟩ x k s).1 ≤ 5000000000 := by
          have := skipV_nn x (doV ⟨dn, da, dp, [x0, x1, x2, x3, x4, x5]⟩ x s) hxo
          unfold nextV
          split
          · show (len : Int) ≤ _; omega
          · show (k : Int) + 1 + _ ≤ _; omega
        have HStep : Hid (runV ins ⟨dn, da, dp, [x0, x1, x2, x3, x4, x5]⟩ (len - k) k s = (k :: (runV ins ⟨dn, da, dp, [x0, x1, x2, x3, x4, x5]⟩ (len - (nextV len ⟨dn, da, dp, [x0, x1, x2, x3, x4, x5]⟩ x k s).1.toNat) (nextV len ⟨dn, da, dp, [x0, x1, x2, x3, x4, x5]⟩ x k s).1.toNat (nextV len ⟨dn, da, dp, [x0, x1, x2, x3, x4, x5]⟩ x k s).2).1, (runV ins ⟨dn, da, dp, [x0, x1, x2, x3, x4, x5]⟩ (len - (nextV len ⟨dn, da, dp, [x0, x1, x2, x3, x4, x5]⟩ x k s).1.toNat) (nextV len ⟨dn, da, dp, [x0, x1, x2, x3, x4, x5]⟩ x k s).1.toNat (nextV len ⟨dn, da, dp, [x0, x1, x2, x3, x4, x5]⟩ x k s).2).2)) := by
          have := runV_step ins ⟨dn, da, dp, [x0, x1, x2, x3, x4, x5]⟩ HI.out.2.1 k s x hx
          rw [hll] at this
          exact this
        have HQ : Hid (∀ X, Below w.heap.size w X → Vm X (w1.heap.size + 1) w1.heap.size ps.length ⟨dn, da, dp, [x0, x1, x2, x3, x4, x5]⟩ s → X.cell? ⟨w1.heap.size + 1 + 1 + 1, 0, none⟩ = some (.slice a len cap) → X.cell? ⟨w1.heap.size + 1 + 1, 0, none⟩ = some (.pointer (some ⟨w1.heap.size + 1, 0, none⟩)) → Calls Try.prog 53 #[.int .i64 k, .pointer (some ⟨w1.heap.size + 1 + 1 + 1, 0, none⟩), .pointer (some ⟨w1.heap.size + 1 + 1, 0, none⟩)] X fun e w' => WentTold X w' e (w1.heap.size + 1) w1.heap.size ps.length ⟨dn, da, dp, [x0, x1, x2, x3, x4, x5]⟩ (nextV len ⟨dn, da, dp, [x0, x1, x2, x3, x4, x5]⟩ x k s)) := by
          intro X hb hv h1 h2
          have := hR.pl
          exact course_any k len cap a ins _ _ _ _ ps.length ⟨dn, da, dp, [x0, x1, x2, x3, x4, x5]⟩ s X h4 (HI.out.below hb) hlt hR.so HD.out (by omega) h1 h2 hv (by omega) (by omega) (by omega) (by omega) (by omega) x hx (fun he => div_ok x _ s hxo hfx he)
        have HNo : Hid ((nextV len ⟨dn, da, dp, [x0, x1, x2, x3, x4, x5]⟩ x k s).2.ok) := nextV_ok len ⟨dn, da, dp, [x0, x1, x2, x3, x4, x5]⟩ x k s HD.out hxo hR.so
        have HR : Hid (Rn w a len cap ins ⟨dn, da, dp, [x0, x1, x2, x3, x4, x5]⟩ w1.heap.size ((allV ins ⟨dn, da, dp, [x0, x1, x2, x3, x4, x5]⟩).1.map (fun p : Nat => (p : Int)), (allV ins ⟨dn, da, dp, [x0, x1, x2, x3, x4, x5]⟩).2) k ps s _ wr) := hR
        have ho := hR.ow
        have hsz := hR.sz
        have hpl : Hid (ps.length ≤ 4096) := by have := hR.pl; unfold Hid; omega
        clear hR hxo hfx hx
        generalize nextV len ⟨dn, da, dp, [x0, x1, x2, x3, x4, x5]⟩ x k s = nx at *
        obtain ⟨nx1, nx2⟩ := nx
        dsimp only at hgt hle
        obtain ⟨k', rfl⟩ : ∃ k' : Nat, nx1 = (k' : Int) := ⟨nx1.toNat, by omega⟩
        have hlt2 : (k : Int) < (len : Int) := by omega
        have HG : Hid (k < k' ∧ k' ≤ 5000000000) := by unfold Hid; omega
        clear hgt hle
        go_wp2_with (first | (at_builtin; refine append_int rfl (.tmp 33) (.tmp 35) rfl (w1.heap.size + 4) _ ps.length ps rfl (ho.alloc _) (k : Int) _ rfl (new_int _ _) (by have := hpl.out; omega) (by rw [size_alloc']; omega) ?_; intro v4 w4 ho4 hg4; obtain ⟨V4, L4, P4, B4, Z4⟩ := HR.out.app hm _ hg4) | (go_at_call 53; refine (HQ.out _ B4 V4 L4 P4).mono ?_; rintro e w5 ⟨rfl, V5, U5⟩))
        go_roundw
        case rel => exact ⟨k', ps ++ [(k : Int)], nx2, rfl, HR.out.on hm hlt HG.out.1 HG.out.2 HNo.out ho4 L4 P4 B4 Z4 V5 U5 HStep.out⟩
        case measure =>
          have := HG.out
          simp [intOf]
          omega
      · have c12 : wr.cell? ⟨w1.heap.size + 1, 12, none⟩ = some (.int .u32 s.ans) := (hR.vm.cells HD.out).2.2.2
        have heq := hR.eq
        rw [runV_none ins ⟨dn, da, dp, [x0, x1, x2, x3, x4, x5]⟩ _ k s (by omega)] at heq
        have E1 : Hid ((allV ins ⟨dn, da, dp, [x0, x1, x2, x3, x4, x5]⟩).1.map (fun p : Nat => (p : Int)) = ps) := by unfold Hid; have := congrArg Prod.fst heq; simpa using this.symm
        have E2 : Hid ((allV ins ⟨dn, da, dp, [x0, x1, x2, x3, x4, x5]⟩).2 = s) := by unfold Hid; have := congrArg Prod.snd heq; simpa using this.symm
        have HR : Hid (Rn w a len cap ins ⟨dn, da, dp, [x0, x1, x2, x3, x4, x5]⟩ w1.heap.size ((allV ins ⟨dn, da, dp, [x0, x1, x2, x3, x4, x5]⟩).1.map (fun p : Nat => (p : Int)), (allV ins ⟨dn, da, dp, [x0, x1, x2, x3, x4, x5]⟩).2) k ps s _ wr) := hR
        have hlt2 : ¬ (k : Int) < (len : Int) := by omega
        clear hR heq
        go_wp2
        go_ret3
        unfold GoTold
        rw [HA.out, HE.out, E2.out, HP.out, E1.out]
        exact ⟨HR.out.bw, _, rfl, owns_lower HR.out.ow (by omega)⟩
  · have HA : Hid (ansV ins d = 0) := by unfold Hid ansV; rw [if_neg he]
    have HP : Hid (plV ins d = []) := by unfold Hid plV; rw [if_neg he]
    have HE : Hid (errV ins = (chk ins).1) := rfl
    have hc0 : ¬ (chk ins).1 = 0 := he
    clear he hd h HI
    unfold Da.val
    generalize chk ins = ck at *
    obtain ⟨c1, c2⟩ := ck
    dsimp only at hc0
    generalize d.cells.toArray = A at *
    have hb : ∀ o, Below w.heap.size w (w.alloc o) := fun o => below_new w o
    go_enter Try.func30, Try.ntmps30
    go_wp2_with (first | (go_at_call 22; refine (HC.out _ (hb _)).mono ?_; rintro e w1 ⟨rfl, b1⟩))
    go_ret3
    unfold GoTold
    rw [HA.out, HE.out, HP.out]
    exact ⟨(below_new w _).trans (b1.mono (by rw [size_alloc']; omega)), _, rfl, rfl, .inl ⟨rfl, rfl⟩⟩

end Go.Proofs.Ytamioifoemklfaa.V

namespace Go.Proofs.Ytamioifoemklfaa
open Go.RowKit

/-- what a function tells that makes a program. -/
def Tld (w : World) (l : List V.In) (e : Ending) (w' : World) : Prop := ∃ v, e = .returned v ∧ w'.ownsRow w.heap.size 56 4 v l.length (V.cellsI l) ∧ Below w.heap.size w w'

theorem own_fresh (w : World) (base : Nat) (hb : base ≤ w.heap.size) (l : List V.In) (n : Nat) (hn : l.length = n) (hl : l.length ≤ 1000) (cs : Array Value) (hc : cs.toList = V.cellsI l) : (w.alloc (Obj.cells cs 56)).ownsRow base 56 4 (.slice (some ⟨w.heap.size, 0, none⟩) n n) n (V.cellsI l) := by
  subst hn
  have h4 := V.cellsI_length l
  have hs : cs.size = l.length * 4 := by rw [← Array.length_toList, hc, h4]
  refine ⟨h4, .inr ⟨w.heap.size, l.length, cs, rfl, hb, heap_alloc_new _ _, Nat.le_refl _, by unfold maxLen; omega, hs, ?_⟩⟩
  rw [hc, List.take_of_length_le (by omega)]

theorem own_in (w : World) (base : Nat) (hb : base ≤ w.heap.size) (c t f k : Int) (g : Nat) (hg : g = w.heap.size) : (w.alloc (Obj.cells #[.int .u16 c, .int .u8 t, .int .u8 f, .int .u32 k] 56)).ownsRow base 56 4 (.slice (some ⟨g, 0, none⟩) 1 1) 1 (V.cellsI [⟨c, t, f, k⟩]) := by
  subst hg
  exact own_fresh w base hb [⟨c, t, f, k⟩] 1 rfl (by simp) _ rfl
theorem own_in2 (w : World) (base : Nat) (hb : base ≤ w.heap.size) (c t f k c' t' f' k' : Int) (g : Nat) (hg : g = w.heap.size) : (w.alloc (Obj.cells #[.int .u16 c, .int .u8 t, .int .u8 f, .int .u32 k, .int .u16 c', .int .u8 t', .int .u8 f', .int .u32 k'] 56)).ownsRow base 56 4 (.slice (some ⟨g, 0, none⟩) 2 2) 2 (V.cellsI [⟨c, t, f, k⟩, ⟨c', t', f', k'⟩]) := by
  subst hg
  exact own_fresh w base hb [⟨c, t, f, k⟩, ⟨c', t', f', k'⟩] 2 rfl (by simp) _ rfl
theorem own_slice {w : World} {base sz : Nat} {t : TypeId} {v : Value} {n : Nat} {xs : List Value} (h : w.ownsRow base t sz v n xs) : ∃ a cap, v = .slice a n cap := by
  rcases h.2 with ⟨rfl, rfl⟩ | ⟨g, cap, cur, rfl, _⟩
  · exact ⟨none, 0, rfl⟩
  · exact ⟨_, cap, rfl⟩
theorem own_nil (w : World) (base : Nat) : w.ownsRow base 56 4 (.slice none 0 0) 0 (V.cellsI []) := ⟨by simp [V.cellsI], .inl ⟨rfl, rfl⟩⟩

/-- two rows that do not share a block. -/
def Apart (v u : Value) : Prop := ∀ j, v.ownBlock = some j → u.ownBlock ≠ some j

/-- what an append to a row leaves. -/
structure Grw (X Y : World) (base : Nat) (v v' : Value) (n : Nat) (l : List V.In) : Prop where
  own : Y.ownsRow base 56 4 v' n (V.cellsI l)
  grown : X.grownBy Y v.ownBlock
  blk : v'.ownBlock = v.ownBlock ∨ v'.ownBlock = some X.heap.size

/-- a row appended to a row of the call's own. -/
theorem run_app {w : World} (ty : TypeId) (base : Nat) (v : Value) (n : Nat) (l : List V.In) (hown : w.ownsRow base 56 4 v n (V.cellsI l))
    (base2 : Nat) (v2 : Value) (m : Nat) (k : List V.In) (hown2 : w.ownsRow base2 56 4 v2 m (V.cellsI k)) (hn : n + m ≤ 100000) (hbase : base ≤ w.heap.size) :
    ∃ v' w', (Builtin.append_ #[31, 31] ty #[v, v2]).run Try.prog w = .ok v' w' ∧ Grw w w' base v v' (n + m) (l ++ k) := by
  obtain ⟨i0, hi, hz0, hz1, hz2⟩ := info_parts V.Try.info56
  rcases hown2.2 with ⟨rfl, rfl⟩ | ⟨g, cap, cur, rfl, _⟩
  · have hk : k = [] := by
      have := hown2.1
      rw [V.cellsI_length] at this
      exact List.eq_nil_of_length_eq_zero (by omega)
    subst hk
    refine ⟨v, w, ?_, ⟨by simpa using hown, V.grow_refl _ _, .inl rfl⟩⟩
    exact run_append_owned_none w base 31 ty 56 i0 4 Try.underlying31 hi v n (V.cellsI l) hown
  · obtain ⟨v', w', h0, h1, h2, _, h4⟩ := run_append_own_at (P := Try.prog) w base 31 ty 56 i0 _ 4 8 Try.underlying31 hi hz0 hz1 hz2 rfl (by decide) v n (V.cellsI l) hown ⟨g, 0, none⟩ m cap (V.cellsI k) hown2.1 (hown2.cells (g := g) rfl) (V.cellsI_kind k) (by unfold maxLen; omega) (by omega) hbase
    exact ⟨v', w', h0, ⟨by rw [V.cellsI_app]; exact h1, h2, h4⟩⟩
theorem app_rows {w : World} {ops : Array Oper} {rest : List Oper} {o : Oper} {a : Act} {Q : Exit → Act → World → Prop} (hgd : o.guard = none) (s x : Operand)
    (ho : o.op = .call { callee := .builtin .append, args := #[s, x], argTypes := #[31, 31] })
    (base : Nat) (v : Value) (n : Nat) (l : List V.In) (hs : a.eval s = v) (hown : w.ownsRow base 56 4 v n (V.cellsI l))
    (base2 : Nat) (v2 : Value) (m : Nat) (k : List V.In) (hx : a.eval x = v2) (hown2 : w.ownsRow base2 56 4 v2 m (V.cellsI k))
    (hn : n + m ≤ 100000) (hbase : base ≤ w.heap.size)
    (h : ∀ v' w', Grw w w' base v v' (n + m) (l ++ k) → wpList Try.prog ops Q rest (a.put o.dst v') w') : wpList Try.prog ops Q (o :: rest) a w := by
  obtain ⟨v', w', hrun, hG⟩ := run_app o.type base v n l hown base2 v2 m k hown2 hn hbase
  refine wpList_plain hgd fun K hK => ?_
  unfold Oper.wp execOp
  simp only [ho, resolve, invoke, builtin, Sem.run_bind, Sem.run_pure, Result.andThen_ok, List.map_toArray, List.map_cons, List.map_nil, hs, hx, hrun]
  exact hK _ _ (h v' w' hG)
theorem step_rows {w : World} {ops : Array Oper} {o : Oper} {a : Act} {K : Act → World → Prop} {Q : Exit → Act → World → Prop} {E : Prop} (hgd : o.guard = none) (s x : Operand)
    (ho : o.op = .call { callee := .builtin .append, args := #[s, x], argTypes := #[31, 31] })
    (base : Nat) (v : Value) (n : Nat) (l : List V.In) (hs : a.eval s = v) (hown : w.ownsRow base 56 4 v n (V.cellsI l))
    (base2 : Nat) (v2 : Value) (m : Nat) (k : List V.In) (hx : a.eval x = v2) (hown2 : w.ownsRow base2 56 4 v2 m (V.cellsI k))
    (hn : n + m ≤ 100000) (hbase : base ≤ w.heap.size)
    (h : ∀ v' w', Grw w w' base v v' (n + m) (l ++ k) → K (a.put o.dst v') w') :
    if Region.wanted o (yielded ops a.tmps) = true then Oper.wp Try.prog o a w K Q else E := by
  rw [if_pos (by simp [Region.wanted, hgd])]
  obtain ⟨v', w', hrun, hG⟩ := run_app o.type base v n l hown base2 v2 m k hown2 hn hbase
  unfold Oper.wp execOp
  simp only [ho, resolve, invoke, builtin, Sem.run_bind, Sem.run_pure, Result.andThen_ok, List.map_toArray, List.map_cons, List.map_nil, hs, hx, hrun]
  exact h _ _ hG
theorem Grw.below {X Y : World} {base : Nat} {v v' : Value} {n : Nat} {l : List V.In} (h : Grw X Y base v v' n l) {w : World} {n0 : Nat} {l0 : List V.In} (hown : X.ownsRow base 56 4 v n0 (V.cellsI l0)) (hb : Below base w X) (hB : base ≤ X.heap.size) : Below base w Y :=
  hb.grown h.grown hB (V.owns_block hown)
/-- another row stays. -/
theorem Grw.kept {X Y : World} {base b2 : Nat} {v v' u : Value} {n m : Nat} {l : List V.In} {xs : List Value} (h : Grw X Y base v v' n l) (hu : X.ownsRow b2 56 4 u m xs) (ha : Apart v u) : Y.ownsRow b2 56 4 u m xs ∧ Apart v' u := by
  refine ⟨hu.kept h.grown ?_, fun j hj e => ?_⟩
  · cases hq : u.ownBlock with
    | none => exact .inl rfl
    | some j => exact .inr fun e => ha j e.symm hq
  · rcases h.blk with hb | hb
    · exact ha j (hb ▸ hj) e
    · rw [hb] at hj
      cases hj
      have := V.own_lt hu _ e
      omega

theorem below_new (w : World) (o : Obj) : Below w.heap.size w (w.alloc o) := (Below.refl _ _).alloc (Nat.le_refl _) _
theorem own_over {X Y : World} {b sz : Nat} {t : TypeId} {v : Value} {n : Nat} {xs : List Value} (h : X.ownsRow b t sz v n xs) (hb : Below X.heap.size X Y) : Y.ownsRow b t sz v n xs := V.owns_below h hb (Nat.le_refl _)

/-- rows of unlike types lie apart. -/
theorem own_ne {X : World} {b c s s' : Nat} {t t' : TypeId} {v u : Value} {n m : Nat} {xs ys : List Value} (ht : t ≠ t') (h : X.ownsRow b t s v n xs) (h' : X.ownsRow c t' s' u m ys) : v.ownBlock = none ∨ v.ownBlock ≠ u.ownBlock := by
  rcases h.2 with ⟨rfl, _⟩ | ⟨g, cap, cur, rfl, _, hg, _⟩
  · exact .inl rfl
  · rcases h'.2 with ⟨rfl, _⟩ | ⟨g', cap', cur', rfl, _, hg', _⟩
    · exact .inr (by intro e; cases e)
    · refine .inr fun e => ?_
      have e2 : g = g' := by simpa [Value.ownBlock] using e
      subst e2
      rw [hg] at hg'
      simp at hg'
      exact ht hg'.2

/-- a slice of filters, of the call's own. -/
theorem Try.infoFil : (Try.prog.info? 31).map (fun i => (i.zero, i.size, i.bytes)) = some (some (.slice none 0 0), 1, 24) := by kernel_rfl
structure GrwF (X Y : World) (base : Nat) (v v' : Value) (n : Nat) (vs : List Value) : Prop where
  own : Y.ownsRow base 31 1 v' n vs
  grown : X.grownBy Y v.ownBlock
  blk : v'.ownBlock = v.ownBlock ∨ v'.ownBlock = some X.heap.size
theorem run_appF {w : World} (ty : TypeId) (base : Nat) (v : Value) (n : Nat) (vs : List Value) (hown : w.ownsRow base 31 1 v n vs) (ad : Addr) (u : Value) (hu : w.cell? ad = some u) (h1 : u.oneCell' = true) (hn : n ≤ 100000) (hbase : base ≤ w.heap.size) :
    ∃ v' w', (Builtin.append_ #[22, 22] ty #[v, .slice (some ad) 1 1]).run Try.prog w = .ok v' w' ∧ GrwF w w' base v v' (n + 1) (vs ++ [u]) := by
  obtain ⟨i0, hi, hz0, hz1, hz2⟩ := info_parts Try.infoFil
  obtain ⟨v', w', q0, q1, q2, _, q4⟩ := run_append_own_at (P := Try.prog) w base 22 ty 31 i0 _ 1 24 Try.underlying22 hi hz0 hz1 hz2 rfl (by decide) v n vs hown ad 1 1 [u] rfl (by
    intro j x hx
    match j, hx with
    | 0, hx =>
      cases hx
      have : ad.add 0 = ad := by obtain ⟨b, o, s⟩ := ad; cases s <;> simp [Addr.add]
      rw [this]
      exact hu) (by intro x hx; rw [List.mem_singleton] at hx; subst hx; exact h1) (by unfold maxLen; omega) (by omega) hbase
  exact ⟨v', w', q0, ⟨q1, q2, q4⟩⟩

/-- how much filters cost. -/
def costL (ls : List (List V.In)) : Nat := (ls.map fun l => l.length + 4).sum
theorem costL_step {ls : List (List V.In)} {i : Nat} (h : i < ls.length) : costL (ls.take (i + 1)) = costL (ls.take i) + (ls[i].length + 4) := by
  unfold costL
  rw [List.take_succ_eq_append_getElem h, List.map_append, List.sum_append]
  simp
/-- a stack attaches a filter: the error, and the filters then. -/
def attE (ls : List (List V.In)) (l : List V.In) : Int := if (V.chk l).1 = 0 then (if 32 ≤ ls.length ∨ 32768 < costL ls + (l.length + 4) then 16 else 0) else (V.chk l).1
def attL (ls : List (List V.In)) (l : List V.In) : List (List V.In) := if attE ls l = 0 then ls ++ [l] else ls

set_option maxRecDepth 8000 in
set_option maxHeartbeats 1000000 in
theorem rcost_any (X : World) (b : Nat) (vL : Value) (ls : List (List V.In)) (hk : V.Blk X b 37 [vL]) (h : FlR X vL ls) (hl : ls.length ≤ 100) (hs : ∀ l ∈ ls, l.length ≤ 5000) :
    Calls Try.prog 14 #[.pointer (some ⟨b, 0, none⟩)] X fun e w' => e = .returned (.int .i64 (costL ls : Nat)) ∧ Below X.heap.size X w' := by
  obtain ⟨p1, c1, rfl, hk1, hk2⟩ : ∃ p c, vL = .slice p ls.length c ∧ ls.length ≤ c ∧ c ≤ 9223372036854775807 := by obtain ⟨p, c, e, h1, h2, _⟩ := h; exact ⟨p, c, e, h1, h2⟩
  have HF : Hid (∀ W, Below X.heap.size X W → FlR W (.slice p1 ls.length c1) ls ∧ W.cell? ⟨b, 0, none⟩ = some (.slice p1 ls.length c1)) := fun W hW => ⟨h.below hW, (hk.over hW).cell 0⟩
  have HS : Hid (∀ i, i ≤ ls.length → costL (ls.take i) ≤ i * 5004) := fun i => by
    induction i with
    | zero => intro _; rw [List.take_zero, Nat.zero_mul]; exact Nat.le_refl _
    | succ i ih =>
      intro hi
      have h1 := ih (by omega)
      have h2 := hs ls[i] (List.getElem_mem (by omega))
      rw [costL_step (by omega), Nat.add_mul]
      omega
  have HSl : Hid (∀ l ∈ ls, l.length ≤ 5000) := hs
  clear h hk hs
  go_enter Try.func14, Try.ntmps14
  go_wp2_with fail
  go_loopw [3, 4] (fun v3 vi wr => ∃ (i m : Nat), vi = .int .i64 i ∧ v3 = .int .i64 m ∧ i ≤ ls.length ∧ m = costL (ls.take i) ∧ Below X.heap.size X wr) (fun _ vi _ => ls.length - (intOf vi).toNat)
  case atStart => exact ⟨0, 0, rfl, rfl, Nat.zero_le _, rfl, Below.refl _ _⟩
  case round =>
    obtain ⟨i, m, rfl, rfl, hi, hm, hb⟩ := hrel
    obtain ⟨hfl, c0⟩ := HF.out wr hb
    have hm1 : m ≤ i * 5004 := by rw [hm]; exact HS.out i hi
    have HM : Hid (m = costL (ls.take i)) := hm
    clear hm
    by_cases hlt : i < ls.length
    · have hi1 : (i : Int) < (ls.length : Int) := by omega
      obtain ⟨b1, o1, a', c', rfl, e1, e2⟩ := flR_at hfl hlt
      have hn := HSl.out ls[i] (List.getElem_mem hlt)
      have HST : Hid (costL (ls.take (i + 1)) = costL (ls.take i) + (ls[i].length + 4)) := costL_step hlt
      generalize ls[i].length = n at *
      clear e2 hfl
      go_wp2_with fail
      go_roundw
      case rel => exact ⟨i + 1, m + n + 4, by go_num, by go_num, hlt, by rw [HST.out, HM.out]; omega, hb⟩
      case measure => simp [intOf]; omega
    · have hi1 : ¬ (i : Int) < (ls.length : Int) := by omega
      have HE : Hid (m = costL ls) := by have := HM.out; rw [List.take_of_length_le (by omega)] at this; exact this
      clear hfl
      go_wp2_with fail
      go_ret
      exact ⟨by rw [HE.out]; rfl, hb⟩

end Go.Proofs.Ytamioifoemklfaa

namespace Go.Proofs.Ytamioifoemklfaa
open Go.RowKit

/-- where each filter ends. -/
def endsF : Nat → List (List V.In) → List Int
  | _, [] => []
  | p, l :: ls => ((p + l.length : Nat) : Int) :: endsF (p + l.length) ls
theorem endsF_len (p : Nat) (ls : List (List V.In)) : (endsF p ls).length = ls.length := by
  induction ls generalizing p with
  | nil => rfl
  | cons l ls ih => simp only [endsF, List.length_cons, ih]
theorem endsF_snoc (p : Nat) (ls : List (List V.In)) (l : List V.In) : endsF p (ls ++ [l]) = endsF p ls ++ [((p + ls.flatten.length + l.length : Nat) : Int)] := by
  induction ls generalizing p with
  | nil => simp [endsF]
  | cons k ls ih =>
    rw [List.cons_append, endsF, endsF, ih, List.flatten_cons, List.length_append, List.cons_append, Nat.add_assoc p k.length]
theorem endsF_get (p : Nat) (ls : List (List V.In)) (i : Nat) (h : i < ls.length) : (endsF p ls)[i]? = some ((p + (ls.take (i + 1)).flatten.length : Nat) : Int) := by
  induction ls generalizing p i with
  | nil => exact absurd h (Nat.not_lt_zero _)
  | cons l ls ih =>
    cases i with
    | zero => simp [endsF]
    | succ i =>
      rw [endsF, List.getElem?_cons_succ, ih _ _ (by simpa using h), List.take_succ_cons, List.flatten_cons, List.length_append, Nat.add_assoc]
theorem take_flat {ls : List (List V.In)} {i : Nat} (h : i < ls.length) : (ls.take (i + 1)).flatten.length = (ls.take i).flatten.length + ls[i].length := by
  rw [List.take_succ_eq_append_getElem h, List.flatten_append, List.length_append]
  simp
theorem flat_le (ls : List (List V.In)) (i : Nat) : (ls.take i).flatten.length ≤ ls.flatten.length := by
  have := congrArg (fun x => (List.flatten x).length) (List.take_append_drop i ls)
  simp only [List.flatten_append, List.length_append] at this
  omega
theorem flat_at {ls : List (List V.In)} {i : Nat} (h : i < ls.length) : (ls.flatten.drop (ls.take i).flatten.length).take ls[i].length = ls[i] := by
  have e : ls.flatten = (ls.take i).flatten ++ (ls[i] ++ (ls.drop (i + 1)).flatten) := by
    have := List.take_append_drop i ls
    rw [List.drop_eq_getElem_cons h] at this
    have h2 := congrArg List.flatten this
    rw [List.flatten_append, List.flatten_cons] at h2
    exact h2.symm
  rw [e, List.drop_left, List.take_left]
theorem cost_flat (ls : List (List V.In)) : costL ls = ls.flatten.length + 4 * ls.length := by
  unfold costL
  induction ls with
  | nil => rfl
  | cons l ls ih => rw [List.map_cons, List.sum_cons, ih, List.flatten_cons, List.length_append, List.length_cons]; omega

/-- filters that may be together on a stack. -/
def OkS (ls : List (List V.In)) : Prop := (∀ l ∈ ls, (V.chk l).1 = 0 ∧ ∀ x ∈ l, x.ok) ∧ ls.length ≤ 32 ∧ costL ls ≤ 32768
theorem okS_nil : OkS [] := ⟨fun l h => (by cases h), by decide, by decide⟩
theorem costL_snoc (ls : List (List V.In)) (l : List V.In) : costL (ls ++ [l]) = costL ls + (l.length + 4) := by
  unfold costL
  rw [List.map_append, List.sum_append]
  simp
theorem chk_len {l : List V.In} (h : (V.chk l).1 = 0) : 0 < l.length ∧ l.length ≤ 4096 := by
  unfold V.chk at h
  split at h
  · cases h
  · split at h
    · cases h
    · omega
theorem okS_att {ls : List (List V.In)} {l : List V.In} (h : OkS ls) (hl : ∀ x ∈ l, x.ok) (e : attE ls l = 0) : OkS (ls ++ [l]) := by
  unfold attE at e
  split at e
  case isFalse h1 => exact absurd e h1
  case isTrue h1 =>
    split at e
    · cases e
    · rename_i h2
      refine ⟨fun k hk => ?_, by rw [List.length_append, List.length_singleton]; omega, by rw [costL_snoc]; omega⟩
      rcases List.mem_append.1 hk with hk | hk
      · exact h.1 k hk
      · rw [List.mem_singleton] at hk
        subst hk
        exact ⟨h1, hl⟩
theorem okS_attL {ls : List (List V.In)} {l : List V.In} (h : OkS ls) (hl : ∀ x ∈ l, x.ok) : OkS (attL ls l) := by
  unfold attL
  split
  · exact okS_att h hl ‹_›
  · exact h
/-- what can be attached once can be attached again. -/
theorem okS_take {ls : List (List V.In)} (h : OkS ls) (i : Nat) : OkS (ls.take i) := by
  refine ⟨fun l hl => h.1 l (List.mem_of_mem_take hl), Nat.le_trans (by rw [List.length_take]; exact Nat.min_le_right _ _) h.2.1, ?_⟩
  have h3 := h.2.2
  rw [cost_flat] at h3 ⊢
  have := flat_le ls i
  rw [List.length_take]
  omega
theorem att_again {ls : List (List V.In)} (h : OkS ls) {i : Nat} (hi : i < ls.length) : attE (ls.take i) ls[i] = 0 := by
  have h1 := (h.1 ls[i] (List.getElem_mem hi)).1
  have h2 := h.2.1
  have h3 := (okS_take h (i + 1)).2.2
  rw [costL_step hi] at h3
  unfold attE
  rw [if_pos h1, if_neg]
  rw [List.length_take]
  omega

/-- a stack. -/
structure StkV (w : World) (b : Nat) (vc ve : Value) (ls : List (List V.In)) : Prop where
  blk : V.Blk w b 34 [vc, ve]
  code : w.ownsRow 0 56 4 vc ls.flatten.length (V.cellsI ls.flatten)
  ends : w.ownsRow 0 3 1 ve ls.length (V.cellsN (endsF 0 ls))
theorem StkV.over {w w' : World} {b : Nat} {vc ve : Value} {ls : List (List V.In)} (h : StkV w b vc ve ls) (hb : Below w.heap.size w w') : StkV w' b vc ve ls := ⟨h.blk.over hb, own_over h.code hb, own_over h.ends hb⟩
theorem StkV.drew {w : World} {b : Nat} {vc ve : Value} {ls : List (List V.In)} (h : StkV w b vc ve ls) : StkV w.drew b vc ve ls := ⟨h.blk.drew, h.code.drew, h.ends.drew⟩
theorem blk_ne {X : World} {b j : Nat} {t t' : TypeId} {cs ds : List Value} (ht : t ≠ t') (h : V.Blk X b t cs) (h' : V.Blk X j t' ds) : b ≠ j := by
  rintro rfl
  unfold V.Blk at h h'
  rw [h] at h'
  simp at h'
  exact ht h'.2
/-- a row and a block of unlike types lie apart. -/
theorem row_ne {X : World} {b c s : Nat} {t t' : TypeId} {v : Value} {n : Nat} {xs cs : List Value} (ht : t ≠ t') (h : X.ownsRow c t s v n xs) (h' : V.Blk X b t' cs) : v.ownBlock = none ∨ v.ownBlock ≠ some b := by
  rcases h.2 with ⟨rfl, _⟩ | ⟨g, cap, cur, rfl, _, hg, _⟩
  · exact .inl rfl
  · refine .inr fun e => ?_
    have e2 : g = b := by simpa [Value.ownBlock] using e
    subst e2
    unfold V.Blk at h'
    rw [hg] at h'
    simp at h'
    exact ht h'.2
theorem blk_grown {w w' : World} {b : Nat} {t : TypeId} {l : List Value} {r : Option Nat} (h : V.Blk w b t l) (hg : w.grownBy w' r) (hne : some b ≠ r) : V.Blk w' b t l := by
  have hl := h.lt
  unfold V.Blk at h ⊢
  rw [hg.block b hl hne]
  exact h
/-- another stack's block was turned. -/
theorem StkV.other {X Y : World} {b j : Nat} {vc ve : Value} {ls : List (List V.In)} {cs : List Value} (h : StkV X b vc ve ls) (hj : V.Blk X j 34 cs) (hne : b ≠ j) (hg : X.grownBy Y (some j)) : StkV Y b vc ve ls :=
  ⟨blk_grown h.blk hg (fun e => hne (by simpa using e)), h.code.kept hg (row_ne (by decide) h.code hj), h.ends.kept hg (row_ne (by decide) h.ends hj)⟩
theorem grown_of_below {X Y : World} (h : Below X.heap.size X Y) (r : Option Nat) : X.grownBy Y r := ⟨h.os, h.tape, h.output, h.size, fun k hk _ => h.block k hk⟩
theorem grown_trans {X Y Z : World} {r : Option Nat} (h : X.grownBy Y r) (k : Y.grownBy Z r) : X.grownBy Z r :=
  ⟨k.os.trans h.os, k.tape.trans h.tape, k.output.trans h.output, Nat.le_trans h.size k.size, fun i hi hr => (k.block i (Nat.lt_of_lt_of_le hi h.size) hr).trans (h.block i hi hr)⟩
theorem grown_below {X Y : World} {B b : Nat} (h : X.grownBy Y (some b)) (hB : B ≤ b) (hs : B ≤ X.heap.size) : Below B X Y :=
  ⟨h.os, h.tape, h.output, h.size, fun k hk => h.block k (by omega) (by simp; omega)⟩
theorem grown_set (X : World) (b i : Nat) (v : Value) : X.grownBy (X.setCell ⟨b, i, none⟩ v) (some b) := by
  refine ⟨by simp [World.setCell], by simp [World.setCell], by simp [World.setCell], by simp, fun k hk hr => ?_⟩
  exact heap_setCell_other X ⟨b, i, none⟩ k v (fun e => hr (by rw [e]))

/-- a row to which something is appended that has no room: a new row. -/
theorem run_fresh {P : Program} (w : World) (t ty e : TypeId) (i : TypeInfo) (z : Value) (size bytes : Nat) (ht : P.underlying t = some (.slice e)) (hi : P.info? e = some i) (hz : i.zero = some z)
    (hsize : i.size = size) (hby : i.bytes = bytes) (hzs : z.cells.size = size) (a : Option Addr) (n cap : Nat) (xs : List Value) (hown : w.ownsRow 0 e size (.slice a n cap) n xs)
    (ad : Addr) (m c : Nat) (news : List Value) (hl : news.length = m * size) (hnews : ∀ j u, news[j]? = some u → w.cell? (ad.add j) = some u) (h1 : ∀ u ∈ news, u.oneCell' = true) (hm : 0 < m)
    (h63 : n + m ≤ maxLen) (hbytes : (n + m) * bytes ≤ 140737488355328) :
    ∃ cap' w', (Builtin.append_ #[t, t] ty #[.slice a n n, .slice (some ad) m c]).run P w = .ok (.slice (some ⟨w.heap.size, 0, none⟩) (n + m) cap') w' ∧
      w'.ownsRow w.heap.size e size (.slice (some ⟨w.heap.size, 0, none⟩) (n + m) cap') (n + m) (xs ++ news) ∧ Below w.heap.size w w' := by
  subst hsize
  subst hby
  have hlen : (xs ++ news).length = (n + m) * i.size := by rw [List.length_append, hown.1, hl, Nat.add_mul]
  have hold : (Builtin.firstCells i.size n (.slice a n n)).run P w.drew = .ok xs.toArray w.drew := by
    rcases hown.2 with ⟨e0, h0⟩ | ⟨g, cap2, cur, e0, _⟩
    · cases e0
      have hx : xs = [] := List.eq_nil_of_length_eq_zero (by simpa using hown.1)
      subst hx
      exact run_firstCells_none w.drew i.size 0 0 0
    · cases e0
      exact run_firstCells_some w.drew i.size n ⟨g, 0, none⟩ n n xs hown.1 (hown.cells (g := g) rfl)
  have hge := grownCap_ge w (n + m) n e
  have hcm : grownCap w (n + m) n e ≤ maxLen := grownCap_le_maxLen w (n + m) n e h63
  refine ⟨_, _, run_append_grow_src w t t ty e i z ht hi hz a n n xs hold _ m news (Src.ofSlice w ht ad m c news hl hnews h1) (by omega) (by unfold maxLen at h63; omega) (growslice_fits (by omega) hbytes), ?_, ?_⟩
  · refine ⟨hlen, .inr ⟨w.heap.size, _, _, rfl, Nat.le_refl _, heap_alloc_new w.drew _, hge, hcm, ?_, ?_⟩⟩
    · simp only [Array.size_append, List.size_toArray, size_zeroCells, hzs, hlen, ← Nat.add_mul]
      congr 1
      omega
    · rw [Array.toList_append, ← hlen]
      exact List.take_left
  · exact ((Below.refl _ _).drew).alloc (Nat.le_refl _) _

end Go.Proofs.Ytamioifoemklfaa

namespace Go.Proofs.Ytamioifoemklfaa.A

/-- a number of 32 bits. -/
def U32 (x : Int) : Prop := 0 ≤ x ∧ x ≤ 4294967295

/-- has a kind an Arg? -/
def hasB (k : Int) : Bool := k == 3 || k == 4 || k == 6

/-- the numbers of the kinds, from 0 on. -/
def tblL : List Int := [0, 2147483648, 0, 196608, 327680, 2143289344, 2146435072, 2147221504, 2147418112]

/-- a kind's number. -/
def numK (k : Int) : Int := tblL.getD k.toNat 0

/-- the kind of a number without its last bits. -/
def kiH (n : Int) : Int :=
  if n = 2147483648 then 1 else if n = 0 then 2 else if n = 196608 then 3 else if n = 327680 then 4
  else if n = 2143289344 then 5 else if n = 2146435072 then 6 else if n = 2147221504 then 7 else if n = 2147418112 then 8 else 1

/-- a number without its last 16 bits. -/
def top (v : Int) : Int := v / 65536 * 65536

/-- the kind and the Arg of what a filter answered. -/
def ki (v : Int) : Int := kiH (top v)
def ar (v : Int) : Int := if hasB (ki v) = true then v % 65536 else 0

/-- may an act be? -/
def rightB (k a : Int) : Bool := decide (1 ≤ k) && decide (k ≤ 8) && (a == 0 || hasB k && decide (0 ≤ a) && decide (a ≤ 65535))

/-- how a filter answers an act. -/
def valZ (k a : Int) : Int := if rightB k a = true then numK k + a else 0
def errZ (k a : Int) : Int := if rightB k a = true then 0 else 1

theorem kiH_bd (n : Int) : 1 ≤ kiH n ∧ kiH n ≤ 8 := by
  unfold kiH
  repeat' split
  all_goals omega
theorem ki_bd (v : Int) : 1 ≤ ki v ∧ ki v ≤ 8 := kiH_bd _

/-- what a search has found when it has come to a kind. -/
theorem kiH_found (n : Int) (k : Nat) (h1 : 1 ≤ k) (h8 : k ≤ 8) (hno : ∀ j, 1 ≤ j → j < k → tblL.getD j 0 ≠ n) (h : tblL.getD k 0 = n) : kiH n = k := by
  have q1 := hno 1
  have q2 := hno 2
  have q3 := hno 3
  have q4 := hno 4
  have q5 := hno 5
  have q6 := hno 6
  have q7 := hno 7
  clear hno
  simp only [tblL, List.getD_cons_succ, List.getD_cons_zero] at q1 q2 q3 q4 q5 q6 q7
  obtain rfl | rfl | rfl | rfl | rfl | rfl | rfl | rfl : k = 1 ∨ k = 2 ∨ k = 3 ∨ k = 4 ∨ k = 5 ∨ k = 6 ∨ k = 7 ∨ k = 8 := by omega
  all_goals (simp only [tblL, List.getD_cons_succ, List.getD_cons_zero] at h; subst h; rfl)

theorem kiH_none (n : Int) (hno : ∀ j, 1 ≤ j → j < 9 → tblL.getD j 0 ≠ n) : kiH n = 1 := by
  have q1 := hno 1 (by omega) (by omega)
  have q2 := hno 2 (by omega) (by omega)
  have q3 := hno 3 (by omega) (by omega)
  have q4 := hno 4 (by omega) (by omega)
  have q5 := hno 5 (by omega) (by omega)
  have q6 := hno 6 (by omega) (by omega)
  have q7 := hno 7 (by omega) (by omega)
  have q8 := hno 8 (by omega) (by omega)
  simp only [tblL, List.getD_cons_succ, List.getD_cons_zero] at q1 q2 q3 q4 q5 q6 q7 q8
  unfold kiH
  rw [if_neg (fun e => q1 e.symm), if_neg (fun e => q2 e.symm), if_neg (fun e => q3 e.symm), if_neg (fun e => q4 e.symm), if_neg (fun e => q5 e.symm), if_neg (fun e => q6 e.symm), if_neg (fun e => q7 e.symm), if_neg (fun e => q8 e.symm)]

theorem right_bd {k a : Int} (h : rightB k a = true) : 1 ≤ k ∧ k ≤ 8 ∧ 0 ≤ a ∧ a ≤ 65535 ∧ (hasB k = false → a = 0) := by
  unfold rightB at h
  simp only [Bool.and_eq_true, Bool.or_eq_true, decide_eq_true_eq, beq_iff_eq] at h
  obtain ⟨⟨h1, h2⟩, h3⟩ := h
  rcases h3 with h3 | ⟨⟨h3, h4⟩, h5⟩
  · exact ⟨h1, h2, by omega, by omega, fun _ => h3⟩
  · exact ⟨h1, h2, h4, h5, fun e => by rw [e] at h3; cases h3⟩

theorem eight {k : Int} (h1 : 1 ≤ k) (h8 : k ≤ 8) : k = 1 ∨ k = 2 ∨ k = 3 ∨ k = 4 ∨ k = 5 ∨ k = 6 ∨ k = 7 ∨ k = 8 := by omega

theorem numK_top {k : Int} (h1 : 1 ≤ k) (h8 : k ≤ 8) : 0 ≤ numK k ∧ numK k ≤ 2147483648 ∧ numK k % 65536 = 0 ∧ kiH (numK k) = k := by
  rcases eight h1 h8 with rfl | rfl | rfl | rfl | rfl | rfl | rfl | rfl <;> decide

/-- the number of an act is read as the act. -/
theorem back {k a : Int} (h : rightB k a = true) : ki (valZ k a) = k ∧ ar (valZ k a) = a ∧ U32 (valZ k a) := by
  obtain ⟨h1, h8, a0, a1, hz⟩ := right_bd h
  obtain ⟨n0, n1, n2, n3⟩ := numK_top h1 h8
  have ev : valZ k a = numK k + a := by unfold valZ; rw [if_pos h]
  have et : top (valZ k a) = numK k := by rw [ev]; unfold top; omega
  have ek : ki (valZ k a) = k := by unfold ki; rw [et]; exact n3
  refine ⟨ek, ?_, by rw [ev]; unfold U32; omega⟩
  unfold ar
  rw [ek, ev]
  by_cases hh : hasB k = true
  · rw [if_pos hh]; omega
  · rw [if_neg hh]
    exact (hz (by simpa using hh)).symm

/-- whatever a filter answers is an act that may be. -/
theorem right_of (v : Int) : rightB (ki v) (ar v) = true := by
  obtain ⟨h1, h8⟩ := ki_bd v
  unfold rightB ar
  by_cases hh : hasB (ki v) = true
  · rw [if_pos hh, hh]
    have a0 : 0 ≤ v % 65536 := by omega
    have a1 : v % 65536 ≤ 65535 := by omega
    simp [h1, h8, a0, a1]
  · rw [if_neg hh]
    simp [h1, h8]

theorem low_bits (v : Int) (h : U32 v) : bits BinOp.and IntKind.u32 v 65535 = v % 65536 := by
  obtain ⟨h0, h1⟩ := h
  obtain ⟨n, rfl⟩ := Int.eq_ofNat_of_zero_le h0
  have := u32_and_nat n 65535 (by omega) (by decide)
  rw [nat_mask16] at this
  rw [show (65535 : Int) = ((65535 : Nat) : Int) from rfl, this]
  omega

theorem top_bits (v : Int) (h : U32 v) : bits BinOp.andNot IntKind.u32 v 65535 = top v := by
  obtain ⟨h0, h1⟩ := h
  obtain ⟨n, rfl⟩ := Int.eq_ofNat_of_zero_le h0
  have := u32_andNot_nat n 65535 (by omega) (by decide)
  rw [show (65535 : Int) = ((65535 : Nat) : Int) from rfl, this]
  have e : n &&& (4294967295 - 65535) = n / 65536 * 65536 := by
    apply Nat.eq_of_testBit_eq
    intro i
    have e1 : (4294967295 - 65535 : Nat) = (2 ^ 16 - 1) <<< 16 := by decide
    rw [e1, show n / 65536 * 65536 = (n >>> 16) <<< 16 by rw [Nat.shiftRight_eq_div_pow, Nat.shiftLeft_eq]]
    rw [Nat.testBit_and, Nat.testBit_shiftLeft, Nat.testBit_shiftLeft, Nat.testBit_shiftRight, Nat.testBit_two_pow_sub_one]
    by_cases hi : 16 ≤ i
    · rw [show 16 + (i - 16) = i by omega]
      by_cases hj : i - 16 < 16
      · simp [hi, hj]
      · have : n.testBit i = false := Nat.testBit_lt_two_pow (Nat.lt_of_lt_of_le (show n < 2 ^ 32 by omega) (Nat.pow_le_pow_right (by omega) (by omega)))
        simp [this]
    · simp [hi]
  rw [e]
  unfold top
  omega

theorem or_bits (x a : Int) (h0 : 0 ≤ x) (h1 : x ≤ 2147483648) (h2 : x % 65536 = 0) (a0 : 0 ≤ a) (a1 : a ≤ 65535) : bits BinOp.or IntKind.u32 x a = x + a := by
  obtain ⟨n, rfl⟩ := Int.eq_ofNat_of_zero_le h0
  obtain ⟨m, rfl⟩ := Int.eq_ofNat_of_zero_le a0
  rw [u32_or_nat n m (by omega) (by omega)]
  obtain ⟨q, rfl⟩ : ∃ q, n = q * 2 ^ 16 := ⟨n / 65536, by omega⟩
  rw [← Nat.shiftLeft_eq, ← Nat.shiftLeft_add_eq_or_of_lt (by omega), Nat.shiftLeft_eq]
  omega

end Go.Proofs.Ytamioifoemklfaa.A
