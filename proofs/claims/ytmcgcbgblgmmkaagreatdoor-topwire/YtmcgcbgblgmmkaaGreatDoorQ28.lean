/-
  VVGo VVRun.
-/
import Derived.Test.YtmcgcbgblgmmkaaGreatDoorQ27
set_option maxHeartbeats 4000000
namespace Go.Proofs.YtmcgcbgblgmmkaaGreatDoor.V
open F.D (Blk blk_new size_alloc')
open M (Da Da.cells Da.val)
open P (owns_block owns_lower)
open Go.RowKit
def errV (l : List In) : Int := (chk l).1
def ansV (l : List In) (d : Da) : Int := if errV l = 0 then (allV l d).2.ans else 0
def plV (l : List In) (d : Da) : List Int := if errV l = 0 then (allV l d).1.map (fun p : Nat => (p : Int)) else []
theorem mkCourse_any (w : World) (b : Nat) (a : Option Addr) (len cap : Nat) :
  Calls Tryz.prog 162 #[.pointer (some ⟨b, 0, none⟩), .slice a len cap] w fun e w' => e = .returned (.func (Fn.func 186) #[] #[.pointer (some ⟨w.heap.size + 1, 0, none⟩), .pointer (some ⟨w.heap.size, 0, none⟩)]) /\ w' = (w.alloc (.cells #[.pointer (some ⟨b, 0, none⟩)] 271)).alloc (.cells #[.slice a len cap] 61) := by
 go_enter Tryz.func162, Tryz.ntmps162
 go_wp2
 go_ret
 exact ⟨rfl, rfl⟩
theorem Vm.grown {w w' : World} {b m n : Nat} {d : Da} {s : St} {r : Option Nat} (h : Vm w b m n d s) (hg : w.grownBy w' r) (h1 : some b ≠ r) (h2 : some m ≠ r) : Vm w' b m n d s := by
 refine ⟨?_, h.2.kept hg h2⟩
 have := h.1
 unfold Blk at *
 rw [hg.block b (lt_of_block this) h1]
 exact this
structure Rn (w : World) (a : Option Addr) (len cap : Nat) (ins : List In) (d : Da) (m : Nat) (Z : List Int × St) (k : Nat) (ps : List Int) (s : St) (v : Value) (wr : World) : Prop where
 k5 : k <= 5000000000
 pk : ps.length <= k
 pl : ps.length <= len
 so : s.ok
 ow : wr.ownsRow (m + 4) 3 1 v ps.length (cellsN ps)
 vm : Vm wr (m + 1) m ps.length d s
 cl : wr.cell? ⟨m + 1 + 1 + 1, 0, none⟩ = some (.slice a len cap)
 cp : wr.cell? ⟨m + 1 + 1, 0, none⟩ = some (.pointer (some ⟨m + 1, 0, none⟩))
 bw : Below w.heap.size w wr
 sz : m + 4 <= wr.heap.size
 eq : (ps ++ (runV ins d (len - k) k s).1.map (fun p : Nat => (p : Int)), (runV ins d (len - k) k s).2) = Z
theorem not_own {w : World} {base sz : Nat} {t : TypeId} {v : Value} {n : Nat} {xs : List Value} (h : w.ownsRow base t sz v n xs) (j : Nat) (hj : j < base) : some j ≠ v.ownBlock := by
 intro e
 have := owns_block h j e.symm
 omega
theorem Rn.app {w wr w4 : World} {a : Option Addr} {len cap : Nat} {ins : List In} {d : Da} {m : Nat} {Z : List Int × St} {k : Nat} {ps : List Int} {s : St} {v : Value} (h : Rn w a len cap ins d m Z k ps s v wr) (hm : w.heap.size <= m) (o : Obj) (hg : (wr.alloc o).grownBy w4 v.ownBlock) :
  Vm w4 (m + 1) m ps.length d s /\ w4.cell? ⟨m + 1 + 1 + 1, 0, none⟩ = some (.slice a len cap) /\ w4.cell? ⟨m + 1 + 1, 0, none⟩ = some (.pointer (some ⟨m + 1, 0, none⟩)) /\ Below w.heap.size w w4 /\ m + 4 <= w4.heap.size := by
 have n1 := not_own h.ow (m + 1) (by omega)
 have n0 := not_own h.ow m (by omega)
 have n3 := not_own h.ow (m + 1 + 1 + 1) (by omega)
 have n2 := not_own h.ow (m + 1 + 1) (by omega)
 have c3 := ((below_new wr o).cell (World.block_lt_of_cell? wr _ h.cl)).trans h.cl
 have c2 := ((below_new wr o).cell (World.block_lt_of_cell? wr _ h.cp)).trans h.cp
 have hb := h.bw.alloc h.bw.size o
 refine ⟨(h.vm.over (below_new wr o)).grown hg n1 n0, hg.cell c3 n3, hg.cell c2 n2, hb.grown hg hb.size (fun j hj => ?_), ?_⟩
 ·have := owns_block h.ow j hj
  omega
 ·have := h.sz
  have := hg.size
  rw [size_alloc'] at this
  omega
theorem zero_st : St.zero.ok := ⟨⟨by decide, by decide⟩, ⟨by decide, by decide⟩, ⟨by decide, by decide⟩, fun _ => ⟨Int.le_refl 0, by show (0 : Int) <= 4294967295; decide⟩⟩
theorem But.cell {w w' : World} {b m j i : Nat} {v : Value} (h : But b m w w') (hc : w.cell? ⟨j, i, none⟩ = some v) (h1 : j ≠ b) (h2 : j ≠ m) : w'.cell? ⟨j, i, none⟩ = some v := by
 rw [<- hc]
 exact World.cell?_of_block (w := w) (h.block j (World.block_lt_of_cell? w _ hc) h1 h2)
theorem Rn.on {w wr w4 w5 : World} {a : Option Addr} {len cap : Nat} {ins : List In} {d : Da} {m : Nat} {Z : List Int × St} {k k' : Nat} {ps : List Int} {s s' : St} {v v4 : Value} (h : Rn w a len cap ins d m Z k ps s v wr) (hm : w.heap.size <= m) (hk : k < len)
  (hk1 : k < k') (hk2 : k' <= 5000000000) (so : s'.ok) (ow : w4.ownsRow (m + 4) 3 1 v4 (ps.length + 1) (cellsN (ps ++ [(k : Int)]))) (cl : w4.cell? ⟨m + 1 + 1 + 1, 0, none⟩ = some (.slice a len cap)) (cp : w4.cell? ⟨m + 1 + 1, 0, none⟩ = some (.pointer (some ⟨m + 1, 0, none⟩)))
  (bw : Below w.heap.size w w4) (sz : m + 4 <= w4.heap.size) (vm : Vm w5 (m + 1) m (ps.length + 1) d s') (bt : But (m + 1) m w4 w5)
  (eq : runV ins d (len - k) k s = (k :: (runV ins d (len - k') k' s').1, (runV ins d (len - k') k' s').2)) : Rn w a len cap ins d m Z k' (ps ++ [(k : Int)]) s' v4 w5 := by
 have e : (ps ++ [(k : Int)]).length = ps.length + 1 := by simp
 have p1 := h.pk
 refine ⟨hk2, by rw [e]; omega, by rw [e]; omega, so, by rw [e]; exact bt.row ow (by omega) (by omega), by rw [e]; exact vm, bt.cell cl (by omega) (by omega), bt.cell cp (by omega) (by omega), bt.below bw (by omega) (by omega) (by omega), Nat.le_trans sz bt.size, ?_⟩
 rw [<- h.eq, eq]
 simp
def GoTold (w w' : World) (e : Ending) (ins : List In) (d : Da) : Prop :=
 Below w.heap.size w w' /\ ∃ v, e = .returned (.tuple #[.int .u32 (ansV ins d), v, .int .i64 (errV ins)]) /\ w'.ownsRow w.heap.size 3 1 v (plV ins d).length (cellsN (plV ins d))
theorem six_blocks (w1 : World) (dn da dp x0 x1 x2 x3 x4 x5 : Int) (a : Option Addr) (len cap : Nat) (W : World)
  (hW : W = (((w1.alloc (Obj.map #[] 0)).alloc (Obj.cells #[.int .u32 dn, .int .u32 da, .int .u64 dp, .int .u64 x0, .int .u64 x1, .int .u64 x2, .int .u64 x3, .int .u64 x4, .int .u64 x5, .int .u32 0, .int .u32 0, .map (some w1.heap.size), .int .u32 0] 239)).alloc (.cells #[.pointer (some ⟨w1.heap.size + 1, 0, none⟩)] 271)).alloc (.cells #[.slice a len cap] 61)) :
  Vm W (w1.heap.size + 1) w1.heap.size 0 ⟨dn, da, dp, [x0, x1, x2, x3, x4, x5]⟩ St.zero /\ W.cell? ⟨w1.heap.size + 1 + 1 + 1, 0, none⟩ = some (.slice a len cap) /\ W.cell? ⟨w1.heap.size + 1 + 1, 0, none⟩ = some (.pointer (some ⟨w1.heap.size + 1, 0, none⟩)) /\ Below w1.heap.size w1 W /\ w1.heap.size + 4 <= W.heap.size := by
 subst hW
 have b0 := below_new w1 (Obj.map #[] 0)
 have s0 := size_alloc' w1 (Obj.map #[] 0)
 have v0 := cel_new w1
 generalize w1.alloc (Obj.map #[] 0) = X0 at *
 have B1 := blk_new X0 #[.int .u32 dn, .int .u32 da, .int .u64 dp, .int .u64 x0, .int .u64 x1, .int .u64 x2, .int .u64 x3, .int .u64 x4, .int .u64 x5, .int .u32 0, .int .u32 0, .map (some w1.heap.size), .int .u32 0] 239
 have b1 := below_new X0 (Obj.cells #[.int .u32 dn, .int .u32 da, .int .u64 dp, .int .u64 x0, .int .u64 x1, .int .u64 x2, .int .u64 x3, .int .u64 x4, .int .u64 x5, .int .u32 0, .int .u32 0, .map (some w1.heap.size), .int .u32 0] 239)
 have s1 := size_alloc' X0 (Obj.cells #[.int .u32 dn, .int .u32 da, .int .u64 dp, .int .u64 x0, .int .u64 x1, .int .u64 x2, .int .u64 x3, .int .u64 x4, .int .u64 x5, .int .u32 0, .int .u32 0, .map (some w1.heap.size), .int .u32 0] 239)
 generalize X0.alloc (Obj.cells #[.int .u32 dn, .int .u32 da, .int .u64 dp, .int .u64 x0, .int .u64 x1, .int .u64 x2, .int .u64 x3, .int .u64 x4, .int .u64 x5, .int .u32 0, .int .u32 0, .map (some w1.heap.size), .int .u32 0] 239) = X1 at *
 rw [s0] at B1
 have V1 : Vm X1 (w1.heap.size + 1) w1.heap.size 0 ⟨dn, da, dp, [x0, x1, x2, x3, x4, x5]⟩ St.zero := ⟨B1, v0.over b1⟩
 have c2 : (X1.alloc (.cells #[.pointer (some ⟨w1.heap.size + 1, 0, none⟩)] 271)).cell? ⟨X1.heap.size, 0, none⟩ = some (.pointer (some ⟨w1.heap.size + 1, 0, none⟩)) := by simp
 have b2 := below_new X1 (.cells #[.pointer (some ⟨w1.heap.size + 1, 0, none⟩)] 271)
 have s2 := size_alloc' X1 (.cells #[.pointer (some ⟨w1.heap.size + 1, 0, none⟩)] 271)
 generalize X1.alloc (.cells #[.pointer (some ⟨w1.heap.size + 1, 0, none⟩)] 271) = X2 at *
 have c3 : (X2.alloc (.cells #[.slice a len cap] 61)).cell? ⟨X2.heap.size, 0, none⟩ = some (.slice a len cap) := by simp
 have b3 := below_new X2 (.cells #[.slice a len cap] 61)
 have s3 := size_alloc' X2 (.cells #[.slice a len cap] 61)
 generalize X2.alloc (.cells #[.slice a len cap] 61) = X3 at *
 have e2 : X1.heap.size = w1.heap.size + 1 + 1 := by omega
 have e3 : X2.heap.size = w1.heap.size + 1 + 1 + 1 := by omega
 rw [e3] at c3
 rw [e2] at c2
 refine ⟨(V1.over b2).over b3, c3, (b3.cell (World.block_lt_of_cell? X2 _ c2)).trans c2, ?_, by omega⟩
 exact ((b0.trans (b1.mono b0.size)).trans (b2.mono (by omega))).trans (b3.mono (by omega))
theorem go_any (a : Option Addr) (len cap : Nat) (ins : List In) (d : Da) (w : World) (hlen : len <= maxLen) (h : Ins w a len ins) (hd : d.ok) :
  Calls Tryz.prog 130 #[.slice a len cap, d.val] w fun e w' => GoTold w w' e ins d := by
 have hll := h.1
 have HI : Hid (Ins w a len ins) := h
 have HC : Hid (∀ X, Below w.heap.size w X -> Calls Tryz.prog 38 #[.slice a len cap] X fun e w' => Told X w' e (chk ins)) := fun X hX => check_any a len cap ins X hlen (h.below hX)
 have HD : Hid d.ok := hd
 by_cases he : errV ins = 0
 ·have hok := chk_ok ins he
  have h4 : len <= 4096 := by omega
  have HF : Hid ((ff ins 0).1 = 0) := hok.2.2.1
  have HA : Hid (ansV ins d = (allV ins d).2.ans) := by unfold Hid ansV; rw [if_pos he]
  have HP : Hid (plV ins d = (allV ins d).1.map (fun p : Nat => (p : Int))) := by unfold Hid plV; rw [if_pos he]
  have HE : Hid (errV ins = 0) := he
  have hc0 : (chk ins).1 = 0 := he
  have HZ : Hid (([] : List Int) ++ (runV ins d (len - 0) 0 St.zero).1.map (fun p : Nat => (p : Int)) = (allV ins d).1.map (fun p : Nat => (p : Int)) /\ (runV ins d (len - 0) 0 St.zero).2 = (allV ins d).2) := by
   unfold Hid allV
   rw [hll]
   exact ⟨rfl, rfl⟩
  clear hok he hd h
  generalize chk ins = ck at *
  obtain ⟨c1, c2⟩ := ck
  dsimp only at hc0
  subst hc0
  have hl9 := HD.out.2.2.2.1
  obtain ⟨dn, da, dp, dg⟩ := d
  obtain ⟨x0, x1, x2, x3, x4, x5, rfl⟩ := six hl9
  clear hl9
  unfold Da.val Da.cells
  simp only [List.map_cons, List.map_nil]
  have hmm := @run_makeMap Tryz.prog
  go_enter Tryz.func130, Tryz.ntmps130
  go_wp2_with (first | (go_at_call 38; refine (HC.out _ (below_new _ _)).mono ?_; rintro e w1 ⟨rfl, b1⟩; have Q1 := (blk_new w #[.int .u32 dn, .int .u32 da, .int .u64 dp, .int .u64 x0, .int .u64 x1, .int .u64 x2, .int .u64 x3, .int .u64 x4, .int .u64 x5] 34).over b1; have q0 := Q1.cell 0; have q1 := Q1.cell 1; have q2 := Q1.cell 2; have q3 := Q1.cell 3; have q4 := Q1.cell 4; have q5 := Q1.cell 5; have q6 := Q1.cell 6; have q7 := Q1.cell 7; have q8 := Q1.cell 8; clear Q1; simp only [List.getElem?_cons_zero, List.getElem?_cons_succ] at q0 q1 q2 q3 q4 q5 q6 q7 q8) | (go_at_call 162; refine (mkCourse_any _ _ _ _ _).mono ?_; rintro e w2 ⟨rfl, rfl⟩))
  have HB : Hid (Below w.heap.size w w1) := (below_new w _).trans (b1.mono (by rw [size_alloc']; omega))
  have hm : w.heap.size <= w1.heap.size := HB.out.size
  obtain ⟨V0, L0, P0, B0, Z0⟩ := six_blocks w1 dn da dp x0 x1 x2 x3 x4 x5 a len cap _ rfl
  clear q0 q1 q2 q3 q4 q5 q6 q7 q8 b1 hmm
  go_loopw [11, 12] (fun v i wr => ∃ (k : Nat) (ps : List Int) (s : St), i = .int .i64 k /\ Rn w a len cap ins ⟨dn, da, dp, [x0, x1, x2, x3, x4, x5]⟩ w1.heap.size ((allV ins ⟨dn, da, dp, [x0, x1, x2, x3, x4, x5]⟩).1.map (fun p : Nat => (p : Int)), (allV ins ⟨dn, da, dp, [x0, x1, x2, x3, x4, x5]⟩).2) k ps s v wr) (fun _ i _ => len - (intOf i).toNat)
  case atStart =>
   refine ⟨0, [], St.zero, rfl, by omega, Nat.le_refl _, Nat.zero_le _, zero_st, ⟨rfl, .inl ⟨rfl, rfl⟩⟩, V0, L0, P0, HB.out.trans (B0.mono hm), Z0, Prod.ext HZ.out.1 HZ.out.2⟩
  case round =>
   clear V0 L0 P0 B0 Z0
   obtain ⟨k, ps, s, rfl, hR⟩ := hrel
   by_cases hlt : k < len
   ·obtain ⟨x, hx⟩ : ∃ x, ins[k]? = some x := ⟨ins[k], List.getElem?_eq_getElem (by omega)⟩
    have hfx : fault x (len - 1 - k) = 0 := by
     have h1 := ff_all ins 0 HF.out k (by omega)
     rw [List.getElem?_eq_getElem (show k < ins.length by omega)] at hx
     cases hx
     rw [show ins.length - 1 - k = len - 1 - k from by omega] at h1
     exact h1
    have hxo : x.ok := HI.out.2.1 x (List.mem_of_getElem? hx)
    have hgt := nextV_gt len ⟨dn, da, dp, [x0, x1, x2, x3, x4, x5]⟩ x k s hxo hlt
    have hle : (nextV len ⟨dn, da, dp, [x0, x1, x2, x3, x4, x5]⟩ x k s).1 <= 5000000000 := by
     have := skipV_nn x (doV ⟨dn, da, dp, [x0, x1, x2, x3, x4, x5]⟩ x s) hxo
     unfold nextV
     split
     ·show (len : Int) <= _; omega
     ·show (k : Int) + 1 + _ <= _; omega
    have HStep : Hid (runV ins ⟨dn, da, dp, [x0, x1, x2, x3, x4, x5]⟩ (len - k) k s = (k :: (runV ins ⟨dn, da, dp, [x0, x1, x2, x3, x4, x5]⟩ (len - (nextV len ⟨dn, da, dp, [x0, x1, x2, x3, x4, x5]⟩ x k s).1.toNat) (nextV len ⟨dn, da, dp, [x0, x1, x2, x3, x4, x5]⟩ x k s).1.toNat (nextV len ⟨dn, da, dp, [x0, x1, x2, x3, x4, x5]⟩ x k s).2).1, (runV ins ⟨dn, da, dp, [x0, x1, x2, x3, x4, x5]⟩ (len - (nextV len ⟨dn, da, dp, [x0, x1, x2, x3, x4, x5]⟩ x k s).1.toNat) (nextV len ⟨dn, da, dp, [x0, x1, x2, x3, x4, x5]⟩ x k s).1.toNat (nextV len ⟨dn, da, dp, [x0, x1, x2, x3, x4, x5]⟩ x k s).2).2)) := by
     have := runV_step ins ⟨dn, da, dp, [x0, x1, x2, x3, x4, x5]⟩ HI.out.2.1 k s x hx
     rw [hll] at this
     exact this
    have HQ : Hid (∀ X, Below w.heap.size w X -> Vm X (w1.heap.size + 1) w1.heap.size ps.length ⟨dn, da, dp, [x0, x1, x2, x3, x4, x5]⟩ s -> X.cell? ⟨w1.heap.size + 1 + 1 + 1, 0, none⟩ = some (.slice a len cap) -> X.cell? ⟨w1.heap.size + 1 + 1, 0, none⟩ = some (.pointer (some ⟨w1.heap.size + 1, 0, none⟩)) -> Calls Tryz.prog 186 #[.int .i64 k, .pointer (some ⟨w1.heap.size + 1 + 1 + 1, 0, none⟩), .pointer (some ⟨w1.heap.size + 1 + 1, 0, none⟩)] X fun e w' => WentTold X w' e (w1.heap.size + 1) w1.heap.size ps.length ⟨dn, da, dp, [x0, x1, x2, x3, x4, x5]⟩ (nextV len ⟨dn, da, dp, [x0, x1, x2, x3, x4, x5]⟩ x k s)) := by
     intro X hb hv h1 h2
     have := hR.pl
     exact course_any k len cap a ins _ _ _ _ ps.length ⟨dn, da, dp, [x0, x1, x2, x3, x4, x5]⟩ s X h4 (HI.out.below hb) hlt hR.so HD.out (by omega) h1 h2 hv (by omega) (by omega) (by omega) (by omega) (by omega) x hx (fun he => div_ok x _ s hxo hfx he)
    have HNo : Hid ((nextV len ⟨dn, da, dp, [x0, x1, x2, x3, x4, x5]⟩ x k s).2.ok) := nextV_ok len ⟨dn, da, dp, [x0, x1, x2, x3, x4, x5]⟩ x k s HD.out hxo hR.so
    have HR : Hid (Rn w a len cap ins ⟨dn, da, dp, [x0, x1, x2, x3, x4, x5]⟩ w1.heap.size ((allV ins ⟨dn, da, dp, [x0, x1, x2, x3, x4, x5]⟩).1.map (fun p : Nat => (p : Int)), (allV ins ⟨dn, da, dp, [x0, x1, x2, x3, x4, x5]⟩).2) k ps s _ wr) := hR
    have ho := hR.ow
    have hsz := hR.sz
    have hpl : Hid (ps.length <= 4096) := by have := hR.pl; unfold Hid; omega
    clear hR hxo hfx hx
    generalize nextV len ⟨dn, da, dp, [x0, x1, x2, x3, x4, x5]⟩ x k s = nx at *
    obtain ⟨nx1, nx2⟩ := nx
    dsimp only at hgt hle
    obtain ⟨k', rfl⟩ : ∃ k' : Nat, nx1 = (k' : Int) := ⟨nx1.toNat, by omega⟩
    have hlt2 : (k : Int) < (len : Int) := by omega
    have HG : Hid (k < k' /\ k' <= 5000000000) := by unfold Hid; omega
    clear hgt hle
    go_wp2_with (first | (at_builtin; refine append_int rfl (.tmp 33) (.tmp 35) rfl (w1.heap.size + 4) _ ps.length ps rfl (ho.alloc _) (k : Int) _ rfl (new_int _ _) (by have := hpl.out; omega) (by rw [size_alloc']; omega) ?_; intro v4 w4 ho4 hg4; obtain ⟨V4, L4, P4, B4, Z4⟩ := HR.out.app hm _ hg4) | (go_at_call 186; refine (HQ.out _ B4 V4 L4 P4).mono ?_; rintro e w5 ⟨rfl, V5, U5⟩))
    go_roundw
    case rel => exact ⟨k', ps ++ [(k : Int)], nx2, rfl, HR.out.on hm hlt HG.out.1 HG.out.2 HNo.out ho4 L4 P4 B4 Z4 V5 U5 HStep.out⟩
    case measure =>
     have := HG.out
     simp [intOf]
     omega
   ·have c12 : wr.cell? ⟨w1.heap.size + 1, 12, none⟩ = some (.int .u32 s.ans) := (hR.vm.cells HD.out).2.2.2
    have heq := hR.eq
    rw [runV_none ins ⟨dn, da, dp, [x0, x1, x2, x3, x4, x5]⟩ _ k s (by omega)] at heq
    have E1 : Hid ((allV ins ⟨dn, da, dp, [x0, x1, x2, x3, x4, x5]⟩).1.map (fun p : Nat => (p : Int)) = ps) := by unfold Hid; have := congrArg Prod.fst heq; simpa using this.symm
    have E2 : Hid ((allV ins ⟨dn, da, dp, [x0, x1, x2, x3, x4, x5]⟩).2 = s) := by unfold Hid; have := congrArg Prod.snd heq; simpa using this.symm
    have HR : Hid (Rn w a len cap ins ⟨dn, da, dp, [x0, x1, x2, x3, x4, x5]⟩ w1.heap.size ((allV ins ⟨dn, da, dp, [x0, x1, x2, x3, x4, x5]⟩).1.map (fun p : Nat => (p : Int)), (allV ins ⟨dn, da, dp, [x0, x1, x2, x3, x4, x5]⟩).2) k ps s _ wr) := hR
    have hlt2 : ¬ (k : Int) < (len : Int) := by omega
    clear hR heq
    go_wp2
    go_ret3
    unfold GoTold
    rw [HA.out, HE.out, E2.out, HP.out, E1.out]
    exact ⟨HR.out.bw, _, rfl, owns_lower HR.out.ow (by omega)⟩
 ·have HA : Hid (ansV ins d = 0) := by unfold Hid ansV; rw [if_neg he]
  have HP : Hid (plV ins d = []) := by unfold Hid plV; rw [if_neg he]
  have HE : Hid (errV ins = (chk ins).1) := rfl
  have hc0 : ¬ (chk ins).1 = 0 := he
  clear he hd h HI
  unfold Da.val
  generalize chk ins = ck at *
  obtain ⟨c1, c2⟩ := ck
  dsimp only at hc0
  generalize d.cells.toArray = A at *
  have hb : ∀ o, Below w.heap.size w (w.alloc o) := fun o => below_new w o
  go_enter Tryz.func130, Tryz.ntmps130
  go_wp2_with (first | (go_at_call 38; refine (HC.out _ (hb _)).mono ?_; rintro e w1 ⟨rfl, b1⟩))
  go_ret3
  unfold GoTold
  rw [HA.out, HE.out, HP.out]
  exact ⟨(below_new w _).trans (b1.mono (by rw [size_alloc']; omega)), _, rfl, rfl, .inl ⟨rfl, rfl⟩⟩
def RunTold (w w' : World) (e : Ending) (ins : List In) (d : Da) : Prop :=
 e = .returned (.tuple #[.int .u32 (ansV ins d), .int .i64 ((plV ins d).length : Nat), .int .i64 (errV ins)]) /\ Below w.heap.size w w'
theorem run_any (a : Option Addr) (len cap : Nat) (ins : List In) (d : Da) (w : World) (hlen : len <= maxLen) (h : Ins w a len ins) (hd : d.ok) :
  Calls Tryz.prog 80 #[.slice a len cap, d.val] w fun e w' => RunTold w w' e ins d := by
 have HG : Hid (∀ X, Below w.heap.size w X -> Calls Tryz.prog 130 #[.slice a len cap, .agg d.cells.toArray] X fun e w' => GoTold X w' e ins d) := fun X hX => go_any a len cap ins d X hlen (h.below hX) hd
 have HC : Hid ((Tryz.prog.info? 34).map (·.size) = some d.cells.toArray.size) := by unfold Hid; rw [Tryz.size34]; simp [d.cells_len hd]
 have hB : Hid (Blk (w.alloc (Obj.cells d.cells.toArray 34)) w.heap.size 34 d.cells.toArray.toList) := blk_new w _ 34
 unfold Da.val RunTold
 unfold GoTold at HG
 clear h hd hlen
 generalize d.cells.toArray = A at *
 generalize ansV ins d = an at *
 generalize plV ins d = pl at *
 generalize errV ins = er at *
 go_enter Tryz.func80, Tryz.ntmps80
 go_wp2_with (first | (refine wpList_load_row rfl 34 (.tmp 3) rfl w.heap.size rfl 34 A (0, 0) _ hB.out Tryz.underlying34 rfl HC.out ?_) | (go_at_call 130; refine (HG.out _ (below_new _ _)).mono ?_; rintro e w2 ⟨b2, v2, rfl, o2⟩; obtain ⟨a2, c2, rfl, -⟩ := owns_ns o2))
 go_ret3
 exact ⟨rfl, (below_new w _).trans (b2.mono (below_new w _).size)⟩
end Go.Proofs.YtmcgcbgblgmmkaaGreatDoor.V
