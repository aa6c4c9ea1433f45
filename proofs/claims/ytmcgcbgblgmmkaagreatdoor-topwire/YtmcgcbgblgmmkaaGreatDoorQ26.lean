/-
  VCalls VVMath VVSmall VVMem VVOther VVDo1 VVDo2.
-/
import Derived.Test.YtmcgcbgblgmmkaaGreatDoorQ25
import Derived.WalkSmall
import Derived.Laws.Bits64b
import Derived.Maps.Own
import Derived.Maps.Views
import Derived.Deep.QuietTactic
import Derived.Maps.OwnOps
set_option maxRecDepth 100000
set_option maxHeartbeats 1000000
namespace Go.Proofs.YtmcgcbgblgmmkaaGreatDoor.V
open F.D (Blk blk_new size_alloc')
open M (Da Da.mk)
def U32 (x : Int) : Prop := 0 <= x /\ x <= 4294967295
def U64 (x : Int) : Prop := 0 <= x /\ x <= 18446744073709551615
end Go.Proofs.YtmcgcbgblgmmkaaGreatDoor.V
namespace Go.Proofs.YtmcgcbgblgmmkaaGreatDoor.M
open Go.RowKit
def Da.ok (d : Da) : Prop := V.U32 d.n /\ V.U32 d.a /\ V.U64 d.p /\ d.g.length = 6 /\ ∀ z ∈ d.g, V.U64 z
end Go.Proofs.YtmcgcbgblgmmkaaGreatDoor.M
namespace Go.Proofs.YtmcgcbgblgmmkaaGreatDoor.V
open F.D (Blk blk_new size_alloc')
open M (Da Da.mk)
open Go.RowKit
open M (Da.ok)
def lo (x : Int) : Int := x % 4294967296
def hi (x : Int) : Int := x / 4294967296
theorem lo_u (x : Int) : U32 (lo x) := by unfold U32 lo; omega
theorem hi_u (x : Int) (h : U64 x) : U32 (hi x) := by unfold U64 at h; unfold U32 hi; omega
end Go.Proofs.YtmcgcbgblgmmkaaGreatDoor.V
namespace Go.Proofs.YtmcgcbgblgmmkaaGreatDoor.M
open Go.RowKit
def Da.words (d : Da) : List Int := d.n :: d.a :: V.lo d.p :: V.hi d.p :: d.g.flatMap (fun x => [V.lo x, V.hi x])
end Go.Proofs.YtmcgcbgblgmmkaaGreatDoor.M
namespace Go.Proofs.YtmcgcbgblgmmkaaGreatDoor.V
open F.D (Blk blk_new size_alloc')
open M (Da Da.mk)
open Go.RowKit
open M (Da.ok)
open M (Da.words)
def w4 (x : Int) : List Int := [x % 256, x / 256 % 256, x / 65536 % 256, x / 16777216]
def r4 (l : List Int) : Int := l.getD 0 0 + 256 * l.getD 1 0 + 65536 * l.getD 2 0 + 16777216 * l.getD 3 0
theorem six {g : List Int} (h : g.length = 6) : ∃ a b c d e f, g = [a, b, c, d, e, f] := by
 match g, h with
 | [a, b, c, d, e, f], _ => exact ⟨a, b, c, d, e, f, rfl⟩
theorem words_len (d : Da) (h : d.ok) : d.words.length = 16 := by
 obtain ⟨n, a, p, g⟩ := d
 obtain ⟨_, _, _, hg, _⟩ := h
 obtain ⟨x0, x1, x2, x3, x4, x5, rfl⟩ := six hg
 rfl
theorem words_u (d : Da) (h : d.ok) : ∀ z ∈ d.words, U32 z := by
 intro z hz
 simp only [Da.words, List.mem_cons, List.mem_flatMap, List.not_mem_nil, or_false] at hz
 rcases hz with rfl | rfl | rfl | rfl | ⟨x, hx, rfl | rfl⟩
 ·exact h.1
 ·exact h.2.1
 ·exact lo_u _
 ·exact hi_u _ h.2.2.1
 ·exact lo_u _
 ·exact hi_u _ (h.2.2.2.2 x hx)
theorem getD_u {ws : List Int} (h : ∀ z ∈ ws, U32 z) (k : Nat) : U32 (ws.getD k 0) := by
 rw [List.getD_eq_getElem?_getD]
 by_cases hk : k < ws.length
 ·rw [List.getElem?_eq_getElem hk]; exact h _ (List.getElem_mem hk)
 ·rw [List.getElem?_eq_none (by omega)]; exact ⟨by decide, by decide⟩
theorem word_lo (d : Da) (h : d.ok) (k : Nat) (hk : k < 6) : d.words.getD (4 + 2 * k) 0 = lo (d.g.getD k 0) := by
 obtain ⟨n, a, p, g⟩ := d
 obtain ⟨_, _, _, hg, _⟩ := h
 obtain ⟨x0, x1, x2, x3, x4, x5, rfl⟩ := six hg
 match k, hk with
 | 0, _ => rfl
 | 1, _ => rfl
 | 2, _ => rfl
 | 3, _ => rfl
 | 4, _ => rfl
 | 5, _ => rfl
theorem own_lt {w : World} {base sz : Nat} {t : TypeId} {v : Value} {n : Nat} {xs : List Value} (h : w.ownsRow base t sz v n xs) : ∀ k, v.ownBlock = some k -> k < w.heap.size := by
 intro k hk
 rcases h.2 with ⟨rfl, rfl⟩ | ⟨g, cap, cur, rfl, hb, hh, _⟩
 ·cases hk
 ·cases hk; exact lt_of_block hh
section
variable {w : World} {b : Nat} {t : TypeId} {l : List Value}
end
theorem blk_new' (w : World) (o : Obj) (cs : Array Value) (t : TypeId) : Blk ((w.alloc o).alloc (Obj.cells cs t)) (w.heap.size + 1) t cs.toList := by
 have := blk_new (w.alloc o) cs t
 rw [size_alloc'] at this
 exact this
theorem index_row (t e : TypeId) (n : Nat) (ik k : IntKind) (ht : Tryz.prog.underlying t = some (.array n e)) (he : Tryz.prog.underlying e = some (.int k)) (hsz : ∀ w, (sizeOf e).run Tryz.prog w = .ok 1 w)
  (A : Array Value) (i : Nat) (x : Int) (hi : i < n) (hA : A[i]? = some (.int k x)) (W : World) : (Instr.index t (.agg A) (.int ik i)).run Tryz.prog W = .ok (.int k x) W := by
 have hc : (0 : Int) <= (i : Int) /\ (i : Int) < (n : Int) := by omega
 simp [Instr.index, asIntOf, run_underlying ht, hsz, part, isAgg, run_underlying he, hc, hA]
 intro h
 omega
end Go.Proofs.YtmcgcbgblgmmkaaGreatDoor.V
namespace Go.Proofs.YtmcgcbgblgmmkaaGreatDoor.M
open Go.RowKit
def Da.cells (d : Da) : List Value := .int .u32 d.n :: .int .u32 d.a :: .int .u64 d.p :: d.g.map (Value.int .u64)
end Go.Proofs.YtmcgcbgblgmmkaaGreatDoor.M
namespace Go.Proofs.YtmcgcbgblgmmkaaGreatDoor.V
open F.D (Blk blk_new size_alloc')
open M (Da Da.mk)
open Go.RowKit
open M (Da.ok)
open M (Da.words)
open M (Da.cells)
end Go.Proofs.YtmcgcbgblgmmkaaGreatDoor.V
namespace Go.Proofs.YtmcgcbgblgmmkaaGreatDoor.M
open Go.RowKit
def Da.val (d : Da) : Value := .agg d.cells.toArray
end Go.Proofs.YtmcgcbgblgmmkaaGreatDoor.M
namespace Go.Proofs.YtmcgcbgblgmmkaaGreatDoor.V
open F.D (Blk blk_new size_alloc')
open M (Da Da.mk)
open Go.RowKit
open M (Da.ok)
open M (Da.words)
open M (Da.cells)
open M (Da.val)
def cellsW (ws : List Int) : List Value := ws.map (Value.int .u32)
def valW (ws : List Int) : Value := .agg (cellsW ws).toArray
theorem Tryz.size34 : (Tryz.prog.info? 34).map (·.size) = some 9 := by kernel_rfl
theorem Tryz.size215 : (Tryz.prog.info? 215).map (·.size) = some 16 := by kernel_rfl
theorem cellsW_get (ws : List Int) (i : Nat) (h : i < ws.length) : (cellsW ws)[i]? = some (.int .u32 (ws.getD i 0)) := by
 simp [cellsW, List.getElem?_eq_getElem h]
theorem cellsW_one (ws : List Int) : (cellsW ws).toArray.all (·.oneCell') = true := by
 simp [cellsW, Value.oneCell']
end Go.Proofs.YtmcgcbgblgmmkaaGreatDoor.V
namespace Go.Proofs.YtmcgcbgblgmmkaaGreatDoor.M
open Go.RowKit
theorem Da.cells_len (d : Da) (h : d.ok) : d.cells.length = 9 := by simp [Da.cells, h.2.2.2.1]
end Go.Proofs.YtmcgcbgblgmmkaaGreatDoor.M
namespace Go.Proofs.YtmcgcbgblgmmkaaGreatDoor.V
open F.D (Blk blk_new size_alloc')
open M (Da Da.mk)
open Go.RowKit
open M (Da.ok)
open M (Da.words)
open M (Da.cells)
open M (Da.val)
open M (Da.cells_len)
theorem halves_any (n : Int) (w : World) (h : U64 n) :
  Calls Tryz.prog 164 #[.int .u64 n] w fun e w' => e = .returned (.tuple #[.int .u32 (lo n), .int .u32 (hi n)]) /\ w' = w := by
 have HH : Hid (n / 4294967296 % 4294967296 = hi n) := by
  unfold Hid hi
  unfold U64 at h
  omega
 clear h
 go_enter Tryz.func164, Tryz.ntmps164
 go_wp2
 go_ret2
 rw [HH.out]
 exact ⟨rfl, rfl⟩
def wordsTo (ws : List Int) (k : Nat) : List Int := ws.take (4 + 2 * k) ++ List.replicate (12 - 2 * k) 0
theorem wordsTo_all (ws : List Int) (h : ws.length = 16) : wordsTo ws 6 = ws := by
 unfold wordsTo
 rw [List.take_of_length_le (by omega)]
 simp
theorem wordsTo_set (n a p : Int) (g : List Int) (hg : g.length = 6) (k : Nat) (hk : k < 6) :
  ((cellsW (wordsTo (Da.mk n a p g).words k)).set (4 + 2 * k) (.int .u32 (lo (g.getD k 0)))).set (4 + 2 * k + 1) (.int .u32 (hi (g.getD k 0))) = cellsW (wordsTo (Da.mk n a p g).words (k + 1)) := by
 obtain ⟨x0, x1, x2, x3, x4, x5, rfl⟩ := six hg
 match k, hk with
 | 0, _ => rfl
 | 1, _ => rfl
 | 2, _ => rfl
 | 3, _ => rfl
 | 4, _ => rfl
 | 5, _ => rfl
theorem split_any (d : Da) (w : World) (hd : d.ok) :
  Calls Tryz.prog 133 #[d.val] w fun e w' => e = .returned (valW d.words) /\ Below w.heap.size w w' := by
 have HH : Hid (∀ (n : Int) (W : World), U64 n -> Calls Tryz.prog 164 #[.int .u64 n] W fun e w' => e = .returned (.tuple #[.int .u32 (lo n), .int .u32 (hi n)]) /\ w' = W) := fun n W h => halves_any n W h
 have HP : Hid (U64 d.p) := hd.2.2.1
 have HG : Hid (∀ z ∈ d.g, U64 z) := hd.2.2.2.2
 obtain ⟨n, a, p, g⟩ := d
 have hl := hd.2.2.2.1
 obtain ⟨x0, x1, x2, x3, x4, x5, rfl⟩ := six hl
 clear hd hl
 unfold Da.val Da.cells at *
 simp only [List.map_cons, List.map_nil] at *
 go_enter Tryz.func133, Tryz.ntmps133
 go_wp2_with (go_at_call 164; refine (HH.out _ _ HP.out).mono ?_; rintro e w2 ⟨rfl, rfl⟩)
 have B0 : Hid (∀ o1 o2 o3 : Obj, Below w.heap.size w (((w.alloc o1).alloc o2).alloc o3)) := fun o1 o2 o3 => (((Below.refl _ _).alloc (Nat.le_refl _) _).alloc (by rw [size_alloc']; omega) _).alloc (by rw [size_alloc', size_alloc']; omega) _
 go_loopw [22] (fun i wr => ∃ k : Nat, k <= 6 /\ i = .int .i64 k /\ Blk wr (w.heap.size + 1 + 1) 215 (cellsW (wordsTo (Da.mk n a p [x0, x1, x2, x3, x4, x5]).words k)) /\ Blk wr (w.heap.size + 1) 215 (List.replicate 16 (.int .u32 0)) /\ Below w.heap.size w wr) (fun i _ => 6 - (intOf i).toNat)
 case atStart =>
  refine ⟨0, by decide, rfl, ?_, ?_, B0.out _ _ _⟩
  ·have := blk_new (((w.alloc (Obj.cells #[.int .u32 n, .int .u32 a, .int .u64 p, .int .u64 x0, .int .u64 x1, .int .u64 x2, .int .u64 x3, .int .u64 x4, .int .u64 x5] 34)).alloc (Obj.cells (List.replicate 16 (Value.int .u32 0)).toArray 215))) (cellsW (wordsTo (Da.mk n a p [x0, x1, x2, x3, x4, x5]).words 0)).toArray 215
   rw [size_alloc', size_alloc'] at this
   exact this
  ·have := blk_new' w (Obj.cells #[.int .u32 n, .int .u32 a, .int .u64 p, .int .u64 x0, .int .u64 x1, .int .u64 x2, .int .u64 x3, .int .u64 x4, .int .u64 x5] 34) (List.replicate 16 (Value.int .u32 0)).toArray 215
   exact this.alloc _
 case round =>
  obtain ⟨k, hk, rfl, hb, hz, hbr⟩ := hrel
  by_cases hlt : k < 6
  ·have HS : Hid (((cellsW (wordsTo (Da.mk n a p [x0, x1, x2, x3, x4, x5]).words k)).set (4 + 2 * k) (.int .u32 (lo ([x0, x1, x2, x3, x4, x5].getD k 0)))).set (4 + 2 * k + 1) (.int .u32 (hi ([x0, x1, x2, x3, x4, x5].getD k 0))) = cellsW (wordsTo (Da.mk n a p [x0, x1, x2, x3, x4, x5]).words (k + 1))) := wordsTo_set n a p _ rfl k hlt
   have HU : Hid (U64 ([x0, x1, x2, x3, x4, x5].getD k 0)) := by
    unfold Hid
    rw [List.getD_eq_getElem?_getD, List.getElem?_eq_getElem (show k < [x0, x1, x2, x3, x4, x5].length from hlt)]
    exact HG.out _ (List.getElem_mem (show k < [x0, x1, x2, x3, x4, x5].length from hlt))
   have hA : (#[.int .u64 x0, .int .u64 x1, .int .u64 x2, .int .u64 x3, .int .u64 x4, .int .u64 x5] : Array Value)[k]? = some (.int .u64 ([x0, x1, x2, x3, x4, x5].getD k 0)) := by
    match k, hlt with
    | 0, _ => rfl
    | 1, _ => rfl
    | 2, _ => rfl
    | 3, _ => rfl
    | 4, _ => rfl
    | 5, _ => rfl
   have hlen : (cellsW (wordsTo (Da.mk n a p [x0, x1, x2, x3, x4, x5]).words k)).length = 16 := by
    match k, hlt with
    | 0, _ => rfl
    | 1, _ => rfl
    | 2, _ => rfl
    | 3, _ => rfl
    | 4, _ => rfl
    | 5, _ => rfl
   generalize cellsW (wordsTo (Da.mk n a p [x0, x1, x2, x3, x4, x5]).words k) = L at *
   have hc1 := hb.cell (4 + 2 * k)
   rw [List.getElem?_eq_getElem (by omega)] at hc1
   have hc2 := hb.cell (4 + 2 * k + 1)
   rw [List.getElem?_eq_getElem (by omega)] at hc2
   have f1 := hb.f (4 + 2 * k)
   have f2 := hb.f (4 + 2 * k + 1)
   generalize L[4 + 2 * k]'_ = v1 at *
   generalize L[4 + 2 * k + 1]'_ = v2 at *
   have HB : Hid (Blk wr (w.heap.size + 1 + 1) 215 L) := hb
   have HZ : Hid (Blk wr (w.heap.size + 1) 215 (List.replicate 16 (Value.int IntKind.u32 0))) := hz
   clear hb hz hlen
   generalize [x0, x1, x2, x3, x4, x5].getD k 0 = z at *
   have hix : ∀ W : World, (Instr.index 32 (.agg #[.int .u64 x0, .int .u64 x1, .int .u64 x2, .int .u64 x3, .int .u64 x4, .int .u64 x5]) (.int .i64 k)).run Tryz.prog W = .ok (.int .u64 z) W := fun W => index_row 32 30 6 .i64 .u64 Tryz.underlying32 Tryz.underlying30 Tryz.sizeOf30 _ k z hlt hA W
   clear hA
   generalize (#[.int .u64 x0, .int .u64 x1, .int .u64 x2, .int .u64 x3, .int .u64 x4, .int .u64 x5] : Array Value) = A at *
   go_wp2_with (go_at_call 164; refine (HH.out _ _ HU.out).mono ?_; rintro e w2 ⟨rfl, rfl⟩)
   go_roundw
   case rel =>
    refine ⟨k + 1, by omega, by go_num, ?_, ?_, ?_⟩
    ·rw [<- HS.out]
     exact (HB.out.set _ _).set _ _
    ·exact (HZ.out.other _ _ (by show w.heap.size + 1 ≠ w.heap.size + 1 + 1; omega)).other _ _ (by show w.heap.size + 1 ≠ w.heap.size + 1 + 1; omega)
    ·exact (hbr.setCell (by show w.heap.size <= w.heap.size + 1 + 1; omega) _).setCell (by show w.heap.size <= w.heap.size + 1 + 1; omega) _
   case measure => simp [intOf]; omega
  ·have hk6 : ¬ (k : Int) < 6 := by omega
   have hw : wordsTo (Da.mk n a p [x0, x1, x2, x3, x4, x5]).words k = (Da.mk n a p [x0, x1, x2, x3, x4, x5]).words := by
    obtain rfl : k = 6 := by omega
    exact wordsTo_all _ rfl
   rw [hw] at hb
   clear hw hlt hk
   obtain ⟨R, hR⟩ : ∃ R, R = cellsW (Da.mk n a p [x0, x1, x2, x3, x4, x5]).words := ⟨_, rfl⟩
   have h1 : R.toArray.all (·.oneCell') = true := by rw [hR]; exact cellsW_one _
   have hl : R.length = 16 := by rw [hR]; rfl
   have HV : Hid (valW (Da.mk n a p [x0, x1, x2, x3, x4, x5]).words = .agg R.toArray) := by rw [hR]; exact rfl
   rw [<- hR] at hb
   clear hR
   have HB : Hid (Blk (wr.setRow (w.heap.size + 1) R.toArray) (w.heap.size + 1) 215 R) := hz.row R.toArray
   have HC : Hid (Below w.heap.size w (wr.setRow (w.heap.size + 1) R.toArray)) := below_setRow hbr (show w.heap.size <= w.heap.size + 1 by omega) R.toArray
   have HZ : Hid ((Tryz.prog.info? 215).map (·.size) = some R.toArray.size) := by unfold Hid; rw [Tryz.size215]; simp [hl]
   have HS : Hid ((List.replicate 16 (Value.int .u32 0)).toArray.size = R.toArray.size) := by unfold Hid; simp [hl]
   have hB1 : Hid (Blk wr (w.heap.size + 1 + 1) 215 R) := hb
   have hB2 : Hid (Blk wr (w.heap.size + 1) 215 (List.replicate 16 (.int .u32 0))) := hz
   have H1 : Hid (R.toArray.all (·.oneCell') = true) := h1
   clear hb hz h1 hl hbr
   go_wp2_with (first | (refine wpList_load_row rfl 215 (.tmp 3) rfl (w.heap.size + 1 + 1) rfl 215 R.toArray (0, 0) (.array 16 31) hB1.out Tryz.underlying215 rfl HZ.out ?_) | (refine wpList_store_row rfl 215 (.tmp 2) (.tmp 40) rfl (w.heap.size + 1) R.toArray rfl rfl 215 _ hB2.out HZ.out HS.out H1.out ?_; generalize wr.setRow (w.heap.size + 1) R.toArray = X at *))
   rw [HV.out]
   refine bodyPost_ret (v := .agg R.toArray) ?_ rfl ⟨rfl, HC.out⟩
   exact results_cell_row Tryz.results133 _ _ (w.heap.size + 1) 215 R.toArray (0, 0) (.array 16 31) rfl HB.out Tryz.underlying215 rfl HZ.out
theorem valW_get (ws : List Int) (k : Nat) (hk : k < ws.length) : (cellsW ws).toArray[k]? = some (.int .u32 (ws.getD k 0)) := by
 rw [List.getElem?_toArray]
 exact cellsW_get ws k hk
def ldv (d : Da) (m : Int) : Int := if m % 4 = 0 /\ m < 64 then d.words.getD (m / 4).toNat 0 else 0
def lde (m : Int) : Int := if m % 4 = 0 /\ m < 64 then 0 else 12
theorem ld_in (d : Da) (j : Nat) (hj : j < 16) : ldv d ((4 * j : Nat) : Int) = d.words.getD j 0 /\ lde ((4 * j : Nat) : Int) = 0 := by
 have h : ((4 * j : Nat) : Int) % 4 = 0 /\ ((4 * j : Nat) : Int) < 64 := by omega
 unfold ldv lde
 rw [if_pos h, if_pos h, show (((4 * j : Nat) : Int) / 4).toNat = j by omega]
 exact ⟨rfl, rfl⟩
theorem ld_out (d : Da) (m : Int) (h : ¬ (m % 4 = 0 /\ m < 64)) : ldv d m = 0 /\ lde m = 12 := by
 unfold ldv lde
 rw [if_neg h, if_neg h]
 exact ⟨rfl, rfl⟩
theorem load_any (d : Da) (m : Int) (w : World) (hd : d.ok) (hm : U32 m) :
  Calls Tryz.prog 204 #[d.val, .int .u32 m] w fun e w' => e = .returned (.tuple #[.int .u32 (ldv d m), .int .i64 (lde m)]) /\ Below w.heap.size w w' := by
 have hk2 : Hid (Below w.heap.size w (w.alloc (Obj.cells d.cells.toArray 34))) := (Below.refl _ _).alloc (Nat.le_refl _) _
 by_cases hc : m % 4 = 0 /\ m < 64
 ·have HL : Hid (d.words.length = 16) := words_len d hd
  have HC : Hid ((Tryz.prog.info? 34).map (·.size) = some d.cells.toArray.size) := by unfold Hid; rw [Tryz.size34]; simp [d.cells_len hd]
  have HG : Hid (∀ k, k < 16 -> (cellsW d.words).toArray[k]? = some (.int .u32 (d.words.getD k 0))) := fun k hk => valW_get _ k (by rw [HL.out]; exact hk)
  have HS : Hid (∀ W : World, Calls Tryz.prog 133 #[.agg d.cells.toArray] W fun e w' => e = .returned (.agg (cellsW d.words).toArray) /\ Below W.heap.size W w') := fun W => split_any d W hd
  obtain ⟨h0, h1⟩ := hm
  obtain ⟨j, hj, rfl⟩ : ∃ j : Nat, j < 16 /\ m = ((4 * j : Nat) : Int) := ⟨(m / 4).toNat, by omega, by omega⟩
  obtain ⟨e1, e2⟩ := ld_in d j hj
  rw [e1, e2]
  have hix : ∀ W : World, (Instr.index 215 (.agg (cellsW d.words).toArray) (.int .u32 j)).run Tryz.prog W = .ok (.int .u32 (d.words.getD j 0)) W := fun W => index_row 215 31 16 .u32 .u32 Tryz.underlying215 Tryz.underlying31 Tryz.sizeOf31 _ j _ hj (HG.out j hj) W
  have hr : Int.tmod ((4 * j : Nat) : Int) 4 = 0 := by rw [Int.tmod_eq_emod_of_nonneg (by omega)]; omega
  have hq : Int.tdiv ((4 * j : Nat) : Int) 4 = (j : Int) := by rw [Int.tdiv_eq_ediv_of_nonneg (by omega)]; omega
  have hlt : ¬ (64 : Int) <= ((4 * j : Nat) : Int) := by omega
  have hB : Hid (Blk (w.alloc (Obj.cells d.cells.toArray 34)) w.heap.size 34 d.cells.toArray.toList) := blk_new w _ 34
  clear e1 e2 hc h0 h1 hd HL HG
  unfold Da.val
  generalize d.words.getD j 0 = x at *
  generalize d.cells.toArray = A at *
  generalize (cellsW d.words).toArray = R at *
  generalize hM : ((4 * j : Nat) : Int) = M at *
  clear hM
  go_enter Tryz.func204, Tryz.ntmps204
  go_wp2_with (first | (refine wpList_load_row rfl 34 (.tmp 2) rfl w.heap.size rfl 34 A (0, 0) _ hB.out Tryz.underlying34 rfl HC.out ?_) | (go_at_call 133; refine (HS.out _).mono ?_; rintro e w2 ⟨rfl, hb2⟩))
  go_ret2
  exact ⟨rfl, hk2.out.trans (hb2.mono hk2.out.size)⟩
 ·obtain ⟨e1, e2⟩ := ld_out d m hc
  rw [e1, e2]
  obtain ⟨h0, h1⟩ := hm
  clear e1 e2 hd
  unfold Da.val
  generalize d.cells.toArray = A at *
  by_cases h4 : m % 4 = 0
  ·have hr : Int.tmod m 4 = 0 := by rw [Int.tmod_eq_emod_of_nonneg (by omega)]; omega
   have hlt : (64 : Int) <= m := by omega
   clear hc h4 h0 h1
   go_enter Tryz.func204, Tryz.ntmps204
   go_wp2
   go_ret2
   exact ⟨rfl, hk2.out⟩
  ·have hr : ¬ Int.tmod m 4 = 0 := by rw [Int.tmod_eq_emod_of_nonneg (by omega)]; omega
   clear hc h4 h0 h1
   go_enter Tryz.func204, Tryz.ntmps204
   go_wp2
   go_ret2
   exact ⟨rfl, hk2.out⟩
structure St where
 a : Int
 x : Int
 c : Int -> Int
 ans : Int
def reckV (c a n : Int) : Int :=
 if (c == 4) = true then (a + n) % 4294967296 else if (c == 20) = true then (a - n) % 4294967296 else if (c == 36) = true then (a * n) % 4294967296 else if (c == 52) = true then a / n
 else if (c == 68) = true then bits .or .u32 a n else if (c == 84) = true then bits .and .u32 a n else if (c == 164) = true then bits .xor .u32 a n
 else if (c == 100) = true then (a * 2 ^ (n % 32).toNat) % 4294967296 else if (c == 116) = true then a / 2 ^ (n % 32).toNat else a
def holdsV (c a n : Int) : Bool :=
 if (c == 21) = true then a == n else if (c == 37) = true then decide (n < a) else if (c == 53) = true then decide (n <= a) else bits .and .u32 a n != 0
def othV (x : In) (s : St) : Int := if (x.c == kOf x.c) = true then x.k else s.x
def putC (c : Int -> Int) (k v : Int) : Int -> Int := fun j => if j = k then v else c j
def doV (d : Da) (x : In) (s : St) : St :=
 if (x.c == 32) = true then { s with a := ldv d x.k } else if (x.c == 0) = true then { s with a := x.k } else if (x.c == 1) = true then { s with x := x.k }
 else if (x.c == 96) = true then { s with a := s.c x.k } else if (x.c == 97) = true then { s with x := s.c x.k }
 else if (x.c == 2) = true then { s with c := putC s.c x.k s.a } else if (x.c == 3) = true then { s with c := putC s.c x.k s.x }
 else if (x.c == 7) = true then { s with x := s.a } else if (x.c == 135) = true then { s with a := s.x } else if (x.c == 132) = true then { s with a := (-s.a) % 4294967296 }
 else { s with a := reckV (kOf x.c) s.a (othV x s) }
def skipV (x : In) (s : St) : Int :=
 if jumpsB x.c = false then 0 else if (x.c == 5) = true then x.k else if holdsV (kOf x.c) s.a (othV x s) = true then x.t else x.f
def endV (x : In) (s : St) : Bool := isIn endL x.c || (x.c == 60 && s.x == 0)
def tellV (x : In) (s : St) : Int := if (x.c == 6) = true then x.k else if (x.c == 22) = true then s.a else 0
def St.ok (s : St) : Prop := U32 s.a /\ U32 s.x /\ U32 s.ans /\ ∀ k, U32 (s.c k)
open F (ret_int)
open F.D (ret_bool)
theorem vmByK_any (c : Int) (w : World) : Calls Tryz.prog 206 #[.int .u16 c] w fun e w' => e = .returned (.int .u16 (kOf c)) /\ w' = w := by
 go_enter Tryz.func206, Tryz.ntmps206
 go_wp2
 go_ret
 exact ⟨rfl, rfl⟩
theorem holds_any (c a n : Int) (w : World) : Calls Tryz.prog 208 #[.int .u16 c, .int .u32 a, .int .u32 n] w fun e w' => e = .returned (.bool (holdsV c a n)) /\ w' = w := by
 go_enter Tryz.func208, Tryz.ntmps208
 go_wp2
 all_goals (go_ret; exact ⟨ret_bool (by simp [holdsV, *]), rfl⟩)
theorem reckon_any (c a n : Int) (w : World) (ha : U32 a) (hn : U32 n) (hz : (c == 52) = true -> ¬ n = 0) : Calls Tryz.prog 205 #[.int .u16 c, .int .u32 a, .int .u32 n] w fun e w' => e = .returned (.int .u32 (reckV c a n)) /\ w' = w := by
 obtain ⟨a0, a1⟩ := ha
 obtain ⟨n0, n1⟩ := hn
 have hq : a.tdiv n % 4294967296 = a / n := by
  rw [Int.tdiv_eq_ediv_of_nonneg a0]
  have h1 : 0 <= a / n := Int.ediv_nonneg a0 n0
  have h2 : a / n <= a := Int.ediv_le_self n a0
  omega
 go_enter Tryz.func205, Tryz.ntmps205
 go_wp2
 all_goals (go_ret; exact ⟨ret_int (by simp [reckV, *]), rfl⟩)
open Go.RowKit Go.Maps
structure But (b m : Nat) (w w' : World) : Prop where
 os : w'.os = w.os
 tape : w'.tape = w.tape
 output : w'.output = w.output
 size : w.heap.size <= w'.heap.size
 block : ∀ k, k < w.heap.size -> k ≠ b -> k ≠ m -> w'.heap[k]? = w.heap[k]?
section
variable {b m : Nat} {w w' v : World}
theorem But.refl (b m : Nat) (w : World) : But b m w w := ⟨rfl, rfl, rfl, Nat.le_refl _, fun _ _ _ _ => rfl⟩
theorem But.trans (h : But b m w w') (k : But b m w' v) : But b m w v :=
 ⟨k.os.trans h.os, k.tape.trans h.tape, k.output.trans h.output, Nat.le_trans h.size k.size, fun i hi h1 h2 => (k.block i (Nat.lt_of_lt_of_le hi h.size) h1 h2).trans (h.block i hi h1 h2)⟩
theorem But.of (h : Below w.heap.size w w') : But b m w w' := ⟨h.os, h.tape, h.output, h.size, fun k hk _ _ => h.block k hk⟩
theorem But.over (h : But b m w w') (k : Below w'.heap.size w' v) : But b m w v := h.trans (But.of k)
theorem But.drew (h : But b m w w') : But b m w w'.drew := ⟨h.os, h.tape, h.output, h.size, h.block⟩
theorem But.set (h : But b m w w') (i : Nat) (u : Value) : But b m w (w'.setCell ⟨b, i, none⟩ u) :=
 h.trans ⟨rfl, rfl, rfl, by simp [World.setCell], fun k _ h1 _ => Below.heap_setCell _ _ _ _ h1⟩
theorem But.grown (h : But b m w w') (g : w'.grownBy v (some m)) : But b m w v :=
 h.trans ⟨g.os, g.tape, g.output, g.size, fun k hk _ h2 => g.block k hk (fun e => h2 (by injection e))⟩
theorem But.below {B : Nat} {w0 : World} (h : Below B w0 w) (k : But b m w w') (hb : B <= b) (hm : B <= m) (hB : B <= w.heap.size) : Below B w0 w' :=
 h.trans ⟨k.os, k.tape, k.output, k.size, fun i hi => k.block i (by omega) (by omega) (by omega)⟩
theorem But.row {base sz : Nat} {t : TypeId} {x : Value} {n : Nat} {xs : List Value} (h : But b m w w') (k : w.ownsRow base t sz x n xs) (h1 : b < base) (h2 : m < base) : w'.ownsRow base t sz x n xs := by
 refine ⟨k.1, ?_⟩
 rcases k.2 with hn | ⟨g, cap, cur, hv, hg, hh, r⟩
 ·exact .inl hn
 ·exact .inr ⟨g, cap, cur, hv, hg, by rw [h.block g (lt_of_block hh) (by omega) (by omega)]; exact hh, r⟩
end
theorem wf32 {k : Int} (h : U32 k) : (Lit.int .u32 k).wf = true := by
 unfold U32 at h
 have e1 : IntKind.u32.min = 0 := by decide
 have e2 : IntKind.u32.max = 4294967295 := by decide
 simp [Lit.wf, e1, e2]
 exact h
theorem zero23 (w : World) : (zeroValue 31).run Tryz.prog w = .ok (.int .u32 0) w := by kernel_rfl
def Cel (w : World) (m n : Nat) (C : Int -> Int) : Prop :=
 ∃ D : DataW Unit, w.ownsMap Tryz.prog 31 (plainElem Tryz.prog 31) m n D /\ IsMap D /\ ∀ k, U32 k -> D.atKey (.int .u32 k) (.lit (.int .u32 0)) = .lit (.int .u32 (C k))
theorem cel_new (w : World) : Cel (w.alloc (.map #[] 0)) w.heap.size 0 (fun _ => 0) :=
 ⟨.map [], World.ownsMap_made w _ _ _, isMap_empty, fun _ _ => rfl⟩
section
variable {w w' : World} {m n : Nat} {C : Int -> Int}
theorem Cel.lt (h : Cel w m n C) : m < w.heap.size := by obtain ⟨D, h1, _⟩ := h; exact h1.lt
theorem Cel.kept {r : Option Nat} (h : Cel w m n C) (hg : w.grownBy w' r) (hne : some m ≠ r) : Cel w' m n C := by obtain ⟨D, h1, h2⟩ := h; exact ⟨D, h1.kept hg hne, h2⟩
theorem Cel.over (h : Cel w m n C) (hb : Below w.heap.size w w') : Cel w' m n C := h.kept (r := none) ⟨hb.os, hb.tape, hb.output, hb.size, fun k hk _ => hb.block k hk⟩ (by simp)
theorem Cel.mono {n' : Nat} (h : Cel w m n C) (hn : n <= n') : Cel w m n' C := by obtain ⟨D, h1, h2⟩ := h; exact ⟨D, h1.mono hn, h2⟩
theorem Cel.set (h : Cel w m n C) (b i : Nat) (u : Value) (hne : m ≠ b) : Cel (w.setCell ⟨b, i, none⟩ u) m n C :=
 h.kept (r := some b) ⟨rfl, rfl, rfl, by simp [World.setCell], fun k _ h1 => Below.heap_setCell _ _ _ _ (fun e => h1 (by rw [e]))⟩ (fun e => hne (by injection e))
theorem Cel.look (h : Cel w m n C) (k : Int) (hk : U32 k) : (Instr.lookup 237 (.map (some m)) (.int .u32 k) false).run Tryz.prog w = .ok (.int .u32 (C k)) w := by
 obtain ⟨D, h1, _, h2⟩ := h
 obtain ⟨c, hrun, hat, _⟩ := h1.lookup_int (int_keyed Tryz.underlying31) Tryz.underlying237 Tryz.underlying31 (zero23 w) (keyOf_int_mk Tryz.underlying31 (wf32 hk))
 rw [h2 k hk] at hat
 injection hat with hat
 injection hat with _ hat
 rw [hrun, hat]
theorem Cel.put (h : Cel w m n C) (k v : Int) (hk : U32 k) (hv : U32 v) (hn : n <= 1000000) : ∃ w', (Instr.mapUpdate 237 (.map (some m)) (.int .u32 k) (.int .u32 v)).run Tryz.prog w = .ok () w' /\ Cel w' m (n + 1) (putC C k v) /\ w.grownBy w' (some m) := by
 obtain ⟨D, h1, h3, h2⟩ := h
 obtain ⟨w', hrun, ho, hg⟩ := h1.update (int_keyed Tryz.underlying31) Tryz.underlying237 (by unfold maxLen; omega) (keyOf_int_mk Tryz.underlying31 (wf32 hk)) (plainElem_int Tryz.underlying31 (wf32 hv))
 refine ⟨w', hrun, ⟨_, ho, h3.put _ _, fun j hj => ?_⟩, hg⟩
 unfold putC
 by_cases e : j = k
 ·subst e
  rw [if_pos rfl, atKey_put_same h3 (by trivial)]
 ·rw [if_neg e, atKey_put_other (by intro h; injection h; contradiction)]
  exact h2 j hj
end
def Vm (w : World) (b m n : Nat) (d : Da) (s : St) : Prop :=
 Blk w b 239 (d.cells ++ [.int .u32 s.a, .int .u32 s.x, .map (some m), .int .u32 s.ans]) /\ Cel w m n s.c
section
variable {w w' : World} {b m n : Nat} {d : Da} {s : St}
theorem Vm.cells (h : Vm w b m n d s) (hd : d.ok) : w.cell? ⟨b, 9, none⟩ = some (.int .u32 s.a) /\ w.cell? ⟨b, 10, none⟩ = some (.int .u32 s.x) /\ w.cell? ⟨b, 11, none⟩ = some (.map (some m)) /\ w.cell? ⟨b, 12, none⟩ = some (.int .u32 s.ans) := by
 have hl := d.cells_len hd
 refine ⟨?_, ?_, ?_, ?_⟩ <;> (rw [h.1.cell, List.getElem?_append_right (by omega), hl]; rfl)
theorem Vm.call (h : Vm w b m n d s) (hd : d.ok) (i : Nat) (hi : i < 9) : w.cell? ⟨b, i, none⟩ = d.cells[i]? := by
 have hl := d.cells_len hd
 rw [h.1.cell, List.getElem?_append_left (by omega)]
theorem Vm.over (h : Vm w b m n d s) (hb : Below w.heap.size w w') : Vm w' b m n d s := ⟨h.1.over hb, h.2.over hb⟩
theorem Vm.drew (h : Vm w b m n d s) : Vm w.drew b m n d s := h
theorem Vm.mono {n' : Nat} (h : Vm w b m n d s) (hn : n <= n') : Vm w b m n' d s := ⟨h.1, h.2.mono hn⟩
theorem Vm.f (h : Vm w b m n d s) (i : Nat) : w.frozen? ⟨b, i, none⟩ = false := h.1.f i
theorem Vm.setA (h : Vm w b m n d s) (hd : d.ok) (hne : m ≠ b) (v : Int) : Vm (w.setCell ⟨b, 9, none⟩ (.int .u32 v)) b m n d { s with a := v } := by
 refine ⟨?_, h.2.set b 9 _ hne⟩
 have := h.1.set 9 (.int .u32 v)
 rw [List.set_append_right _ _ (by rw [d.cells_len hd]; omega), d.cells_len hd] at this
 exact this
theorem Vm.setX (h : Vm w b m n d s) (hd : d.ok) (hne : m ≠ b) (v : Int) : Vm (w.setCell ⟨b, 10, none⟩ (.int .u32 v)) b m n d { s with x := v } := by
 refine ⟨?_, h.2.set b 10 _ hne⟩
 have := h.1.set 10 (.int .u32 v)
 rw [List.set_append_right _ _ (by rw [d.cells_len hd]; omega), d.cells_len hd] at this
 exact this
theorem Vm.setAns (h : Vm w b m n d s) (hd : d.ok) (hne : m ≠ b) (v : Int) : Vm (w.setCell ⟨b, 12, none⟩ (.int .u32 v)) b m n d { s with ans := v } := by
 refine ⟨?_, h.2.set b 12 _ hne⟩
 have := h.1.set 12 (.int .u32 v)
 rw [List.set_append_right _ _ (by rw [d.cells_len hd]; omega), d.cells_len hd] at this
 exact this
theorem Vm.put (h : Vm w b m n d s) (hne : m ≠ b) (C : Int -> Int) (hg : w.grownBy w' (some m)) (hc : Cel w' m (n + 1) C) : Vm w' b m (n + 1) d { s with c := C } := by
 refine ⟨?_, hc⟩
 have := h.1
 unfold Blk at *
 rw [hg.block b (lt_of_block this) (fun e => hne (by injection e with e; exact e.symm))]
 exact this
end
theorem below_new (w : World) (o : Obj) : Below w.heap.size w (w.alloc o) := (Below.refl _ _).alloc (Nat.le_refl _) _
theorem endsWith_any (x : In) (s : St) (d : Da) (b m n : Nat) (w : World) (hd : d.ok) (hv : Vm w b m n d s) :
  Calls Tryz.prog 187 #[.pointer (some ⟨b, 0, none⟩), x.val] w fun e w' => e = .returned (.bool (endV x s)) /\ Below w.heap.size w w' := by
 have HE : Hid (∀ W : World, Calls Tryz.prog 129 #[.int .u16 x.c] W fun e w' => e = .returned (.bool (isIn endL x.c)) /\ w' = W) := fun W => ends_any x.c W
 have h10 : ∀ o, (w.alloc o).cell? ⟨b, 10, none⟩ = some (.int .u32 s.x) := fun o => ((hv.over (below_new w o)).cells hd).2.1
 have HV : Hid (endV x s = (isIn endL x.c || (x.c == 60 && s.x == 0))) := rfl
 clear hv
 generalize endV x s = z at *
 obtain ⟨c, t, f, k⟩ := x
 unfold In.val
 dsimp only at *
 generalize isIn endL c = p at *
 cases p with
 | true =>
  go_enter Tryz.func187, Tryz.ntmps187
  go_wp2_with (go_at_call 129; refine (HE.out _).mono ?_; rintro e w2 ⟨rfl, rfl⟩)
  all_goals (go_ret; exact ⟨ret_bool (by rw [HV.out]; simp [*]), below_new _ _⟩)
 | false =>
  go_enter Tryz.func187, Tryz.ntmps187
  go_wp2_with (go_at_call 129; refine (HE.out _).mono ?_; rintro e w2 ⟨rfl, rfl⟩)
  all_goals (go_ret; exact ⟨ret_bool (by rw [HV.out]; simp [*]), below_new _ _⟩)
theorem told_any (x : In) (s : St) (d : Da) (b m n : Nat) (w : World) (hd : d.ok) (hv : Vm w b m n d s) :
  Calls Tryz.prog 188 #[.pointer (some ⟨b, 0, none⟩), x.val] w fun e w' => e = .returned (.int .u32 (tellV x s)) /\ Below w.heap.size w w' := by
 have h9 : ∀ o, (w.alloc o).cell? ⟨b, 9, none⟩ = some (.int .u32 s.a) := fun o => ((hv.over (below_new w o)).cells hd).1
 clear hv
 obtain ⟨c, t, f, k⟩ := x
 unfold In.val
 dsimp only at *
 go_enter Tryz.func188, Tryz.ntmps188
 go_wp2
 all_goals (go_ret; exact ⟨ret_int (by simp [tellV, *]), below_new _ _⟩)
theorem other_any (x : In) (s : St) (d : Da) (b m n : Nat) (w : World) (hd : d.ok) (hv : Vm w b m n d s) :
  Calls Tryz.prog 207 #[.pointer (some ⟨b, 0, none⟩), x.val] w fun e w' => e = .returned (.int .u32 (othV x s)) /\ Below w.heap.size w w' := by
 have HK : Hid (∀ W : World, Calls Tryz.prog 206 #[.int .u16 x.c] W fun e w' => e = .returned (.int .u16 (kOf x.c)) /\ w' = W) := fun W => vmByK_any x.c W
 have h10 : ∀ o, (w.alloc o).cell? ⟨b, 10, none⟩ = some (.int .u32 s.x) := fun o => ((hv.over (below_new w o)).cells hd).2.1
 have HV : Hid (othV x s = if (x.c == kOf x.c) = true then x.k else s.x) := rfl
 clear hv
 generalize othV x s = z at *
 obtain ⟨c, t, f, k⟩ := x
 unfold In.val
 dsimp only at *
 generalize kOf c = kc at *
 go_enter Tryz.func207, Tryz.ntmps207
 go_wp2
 go_quiet ((first | (go_at_call 206; refine Calls.quiet_of_same (HK.out _))))
 go_wp2
 all_goals (go_ret; exact ⟨ret_int (by rw [HV.out]; simp [*]), below_drewN (below_new _ _) _⟩)
def DoTold (w w' : World) (e : Ending) (b m n : Nat) (d : Da) (s : St) : Prop := e = .returned (.tuple #[]) /\ Vm w' b m (n + 1) d s /\ But b m w w'
theorem do_0 (t f k : Int) (s : St) (d : Da) (b m n : Nat) (w : World) (hd : d.ok) (hne : m ≠ b) (hv : Vm w b m n d s) :
  Calls Tryz.prog 189 #[.pointer (some ⟨b, 0, none⟩), .agg #[.int .u16 0, .int .u8 t, .int .u8 f, .int .u32 k]] w fun e w' => DoTold w w' e b m n d { s with a := k } := by
 have hV : Hid (Vm w b m n d s) := hv
 have h9 : ∀ o, (w.alloc o).cell? ⟨b, 9, none⟩ = some (.int .u32 s.a) := fun o => ((hv.over (below_new w o)).cells hd).1
 have h10 : ∀ o, (w.alloc o).cell? ⟨b, 10, none⟩ = some (.int .u32 s.x) := fun o => ((hv.over (below_new w o)).cells hd).2.1
 have f9 : ∀ o, (w.alloc o).frozen? ⟨b, 9, none⟩ = false := fun o => (hv.over (below_new w o)).f 9
 clear hv
 go_enter Tryz.func189, Tryz.ntmps189
 go_wp2
 go_end0
 exact ⟨rfl, ((hV.out.over (below_new _ _)).setA hd hne _).mono (Nat.le_succ _), ((But.refl _ _ _).over (below_new _ _)).set _ _⟩
theorem do_1 (t f k : Int) (s : St) (d : Da) (b m n : Nat) (w : World) (hd : d.ok) (hne : m ≠ b) (hv : Vm w b m n d s) :
  Calls Tryz.prog 189 #[.pointer (some ⟨b, 0, none⟩), .agg #[.int .u16 1, .int .u8 t, .int .u8 f, .int .u32 k]] w fun e w' => DoTold w w' e b m n d { s with x := k } := by
 have hV : Hid (Vm w b m n d s) := hv
 have h9 : ∀ o, (w.alloc o).cell? ⟨b, 9, none⟩ = some (.int .u32 s.a) := fun o => ((hv.over (below_new w o)).cells hd).1
 have h10 : ∀ o, (w.alloc o).cell? ⟨b, 10, none⟩ = some (.int .u32 s.x) := fun o => ((hv.over (below_new w o)).cells hd).2.1
 have f9 : ∀ o, (w.alloc o).frozen? ⟨b, 10, none⟩ = false := fun o => (hv.over (below_new w o)).f 10
 clear hv
 go_enter Tryz.func189, Tryz.ntmps189
 go_wp2
 go_end0
 exact ⟨rfl, ((hV.out.over (below_new _ _)).setX hd hne _).mono (Nat.le_succ _), ((But.refl _ _ _).over (below_new _ _)).set _ _⟩
theorem do_7 (t f k : Int) (s : St) (d : Da) (b m n : Nat) (w : World) (hd : d.ok) (hne : m ≠ b) (hv : Vm w b m n d s) :
  Calls Tryz.prog 189 #[.pointer (some ⟨b, 0, none⟩), .agg #[.int .u16 7, .int .u8 t, .int .u8 f, .int .u32 k]] w fun e w' => DoTold w w' e b m n d { s with x := s.a } := by
 have hV : Hid (Vm w b m n d s) := hv
 have h9 : ∀ o, (w.alloc o).cell? ⟨b, 9, none⟩ = some (.int .u32 s.a) := fun o => ((hv.over (below_new w o)).cells hd).1
 have h10 : ∀ o, (w.alloc o).cell? ⟨b, 10, none⟩ = some (.int .u32 s.x) := fun o => ((hv.over (below_new w o)).cells hd).2.1
 have f9 : ∀ o, (w.alloc o).frozen? ⟨b, 10, none⟩ = false := fun o => (hv.over (below_new w o)).f 10
 clear hv
 go_enter Tryz.func189, Tryz.ntmps189
 go_wp2
 go_end0
 exact ⟨rfl, ((hV.out.over (below_new _ _)).setX hd hne _).mono (Nat.le_succ _), ((But.refl _ _ _).over (below_new _ _)).set _ _⟩
theorem do_135 (t f k : Int) (s : St) (d : Da) (b m n : Nat) (w : World) (hd : d.ok) (hne : m ≠ b) (hv : Vm w b m n d s) :
  Calls Tryz.prog 189 #[.pointer (some ⟨b, 0, none⟩), .agg #[.int .u16 135, .int .u8 t, .int .u8 f, .int .u32 k]] w fun e w' => DoTold w w' e b m n d { s with a := s.x } := by
 have hV : Hid (Vm w b m n d s) := hv
 have h9 : ∀ o, (w.alloc o).cell? ⟨b, 9, none⟩ = some (.int .u32 s.a) := fun o => ((hv.over (below_new w o)).cells hd).1
 have h10 : ∀ o, (w.alloc o).cell? ⟨b, 10, none⟩ = some (.int .u32 s.x) := fun o => ((hv.over (below_new w o)).cells hd).2.1
 have f9 : ∀ o, (w.alloc o).frozen? ⟨b, 9, none⟩ = false := fun o => (hv.over (below_new w o)).f 9
 clear hv
 go_enter Tryz.func189, Tryz.ntmps189
 go_wp2
 go_end0
 exact ⟨rfl, ((hV.out.over (below_new _ _)).setA hd hne _).mono (Nat.le_succ _), ((But.refl _ _ _).over (below_new _ _)).set _ _⟩
theorem do_132 (t f k : Int) (s : St) (d : Da) (b m n : Nat) (w : World) (hd : d.ok) (hne : m ≠ b) (hv : Vm w b m n d s) :
  Calls Tryz.prog 189 #[.pointer (some ⟨b, 0, none⟩), .agg #[.int .u16 132, .int .u8 t, .int .u8 f, .int .u32 k]] w fun e w' => DoTold w w' e b m n d { s with a := (-s.a) % 4294967296 } := by
 have hV : Hid (Vm w b m n d s) := hv
 have h9 : ∀ o, (w.alloc o).cell? ⟨b, 9, none⟩ = some (.int .u32 s.a) := fun o => ((hv.over (below_new w o)).cells hd).1
 have h10 : ∀ o, (w.alloc o).cell? ⟨b, 10, none⟩ = some (.int .u32 s.x) := fun o => ((hv.over (below_new w o)).cells hd).2.1
 have f9 : ∀ o, (w.alloc o).frozen? ⟨b, 9, none⟩ = false := fun o => (hv.over (below_new w o)).f 9
 clear hv
 go_enter Tryz.func189, Tryz.ntmps189
 go_wp2
 go_end0
 exact ⟨rfl, ((hV.out.over (below_new _ _)).setA hd hne _).mono (Nat.le_succ _), ((But.refl _ _ _).over (below_new _ _)).set _ _⟩
theorem do_96 (t f k : Int) (s : St) (d : Da) (b m n : Nat) (w : World) (hk : U32 k) (hd : d.ok) (hne : m ≠ b) (hv : Vm w b m n d s) :
  Calls Tryz.prog 189 #[.pointer (some ⟨b, 0, none⟩), .agg #[.int .u16 96, .int .u8 t, .int .u8 f, .int .u32 k]] w fun e w' => DoTold w w' e b m n d { s with a := s.c k } := by
 have hV : Hid (Vm w b m n d s) := hv
 have h11 : ∀ o, (w.alloc o).cell? ⟨b, 11, none⟩ = some (.map (some m)) := fun o => ((hv.over (below_new w o)).cells hd).2.2.1
 have h9 : ∀ o, (w.alloc o).cell? ⟨b, 9, none⟩ = some (.int .u32 s.a) := fun o => ((hv.over (below_new w o)).cells hd).1
 have f9 : ∀ o, (w.alloc o).frozen? ⟨b, 9, none⟩ = false := fun o => (hv.over (below_new w o)).f 9
 have hL : ∀ o, (Instr.lookup 237 (.map (some m)) (.int .u32 k) false).run Tryz.prog (w.alloc o).drew = .ok (.int .u32 (s.c k)) (w.alloc o).drew := fun o => (hv.over (below_new w o)).drew.2.look k hk
 clear hv
 go_enter Tryz.func189, Tryz.ntmps189
 go_wp2
 have i3 : (w.alloc (Obj.cells #[.int .u16 96, .int .u8 t, .int .u8 f, .int .u32 k] 156)).cell? ⟨w.heap.size, 3, none⟩ = some (.int .u32 k) := by simp
 have i11 := h11 (Obj.cells #[.int .u16 96, .int .u8 t, .int .u8 f, .int .u32 k] 156)
 have i9 := h9 (Obj.cells #[.int .u16 96, .int .u8 t, .int .u8 f, .int .u32 k] 156)
 have g9 := f9 (Obj.cells #[.int .u16 96, .int .u8 t, .int .u8 f, .int .u32 k] 156)
 have gL := hL (Obj.cells #[.int .u16 96, .int .u8 t, .int .u8 f, .int .u32 k] 156)
 have VV : Hid (Vm (w.alloc (Obj.cells #[.int .u16 96, .int .u8 t, .int .u8 f, .int .u32 k] 156)) b m n d s /\ Below w.heap.size w (w.alloc (Obj.cells #[.int .u16 96, .int .u8 t, .int .u8 f, .int .u32 k] 156))) := ⟨hV.out.over (below_new _ _), below_new _ _⟩
 have hlt := hV.out.1.lt
 clear h11 h9 f9 hL hV
 generalize (w.alloc (Obj.cells #[.int .u16 96, .int .u8 t, .int .u8 f, .int .u32 k] 156)) = W at *
 have kS : (W.setCell ⟨b, 9, none⟩ (.int .u32 (s.c k))).drew.cell? ⟨w.heap.size, 3, none⟩ = some (.int .u32 k) /\ (W.setCell ⟨b, 9, none⟩ (.int .u32 (s.c k))).drew.cell? ⟨b, 11, none⟩ = some (.map (some m)) /\ (Instr.lookup 237 (.map (some m)) (.int .u32 k) false).run Tryz.prog (W.setCell ⟨b, 9, none⟩ (.int .u32 (s.c k))).drew = .ok (.int .u32 (s.c k)) (W.setCell ⟨b, 9, none⟩ (.int .u32 (s.c k))).drew := by
  have hv2 := (VV.out.1.setA hd hne (s.c k)).drew
  refine ⟨?_, (hv2.cells hd).2.2.1, hv2.2.look k hk⟩
  rw [<- i3]
  exact World.cell?_of_block (w := W) (Below.heap_setCell _ _ _ _ (by show w.heap.size ≠ b; omega))
 go_region_held3 (fun X => X.cell? ⟨w.heap.size, 3, none⟩ = some (.int .u32 k) /\ X.cell? ⟨b, 11, none⟩ = some (.map (some m)) /\ (Instr.lookup 237 (.map (some m)) (.int .u32 k) false).run Tryz.prog X = .ok (.int .u32 (s.c k)) X) (first | assumption | go_keep) (fail)
 all_goals
  go_wp2
  go_end0
  exact ⟨rfl, ((VV.out.1.drew).setA hd hne _).mono (Nat.le_succ _), (((But.refl _ _ _).trans (But.of VV.out.2)).drew).set _ _⟩
theorem do_97 (t f k : Int) (s : St) (d : Da) (b m n : Nat) (w : World) (hk : U32 k) (hd : d.ok) (hne : m ≠ b) (hv : Vm w b m n d s) :
  Calls Tryz.prog 189 #[.pointer (some ⟨b, 0, none⟩), .agg #[.int .u16 97, .int .u8 t, .int .u8 f, .int .u32 k]] w fun e w' => DoTold w w' e b m n d { s with x := s.c k } := by
 have hV : Hid (Vm w b m n d s) := hv
 have h11 : ∀ o, (w.alloc o).cell? ⟨b, 11, none⟩ = some (.map (some m)) := fun o => ((hv.over (below_new w o)).cells hd).2.2.1
 have h9 : ∀ o, (w.alloc o).cell? ⟨b, 10, none⟩ = some (.int .u32 s.x) := fun o => ((hv.over (below_new w o)).cells hd).2.1
 have f9 : ∀ o, (w.alloc o).frozen? ⟨b, 10, none⟩ = false := fun o => (hv.over (below_new w o)).f 10
 have hL : ∀ o, (Instr.lookup 237 (.map (some m)) (.int .u32 k) false).run Tryz.prog (w.alloc o).drew = .ok (.int .u32 (s.c k)) (w.alloc o).drew := fun o => (hv.over (below_new w o)).drew.2.look k hk
 clear hv
 go_enter Tryz.func189, Tryz.ntmps189
 go_wp2
 have i3 : (w.alloc (Obj.cells #[.int .u16 97, .int .u8 t, .int .u8 f, .int .u32 k] 156)).cell? ⟨w.heap.size, 3, none⟩ = some (.int .u32 k) := by simp
 have i11 := h11 (Obj.cells #[.int .u16 97, .int .u8 t, .int .u8 f, .int .u32 k] 156)
 have i9 := h9 (Obj.cells #[.int .u16 97, .int .u8 t, .int .u8 f, .int .u32 k] 156)
 have g9 := f9 (Obj.cells #[.int .u16 97, .int .u8 t, .int .u8 f, .int .u32 k] 156)
 have gL := hL (Obj.cells #[.int .u16 97, .int .u8 t, .int .u8 f, .int .u32 k] 156)
 have VV : Hid (Vm (w.alloc (Obj.cells #[.int .u16 97, .int .u8 t, .int .u8 f, .int .u32 k] 156)) b m n d s /\ Below w.heap.size w (w.alloc (Obj.cells #[.int .u16 97, .int .u8 t, .int .u8 f, .int .u32 k] 156))) := ⟨hV.out.over (below_new _ _), below_new _ _⟩
 have hlt := hV.out.1.lt
 clear h11 h9 f9 hL hV
 generalize (w.alloc (Obj.cells #[.int .u16 97, .int .u8 t, .int .u8 f, .int .u32 k] 156)) = W at *
 have kS : (W.setCell ⟨b, 10, none⟩ (.int .u32 (s.c k))).drew.cell? ⟨w.heap.size, 3, none⟩ = some (.int .u32 k) /\ (W.setCell ⟨b, 10, none⟩ (.int .u32 (s.c k))).drew.cell? ⟨b, 11, none⟩ = some (.map (some m)) /\ (Instr.lookup 237 (.map (some m)) (.int .u32 k) false).run Tryz.prog (W.setCell ⟨b, 10, none⟩ (.int .u32 (s.c k))).drew = .ok (.int .u32 (s.c k)) (W.setCell ⟨b, 10, none⟩ (.int .u32 (s.c k))).drew := by
  have hv2 := (VV.out.1.setX hd hne (s.c k)).drew
  refine ⟨?_, (hv2.cells hd).2.2.1, hv2.2.look k hk⟩
  rw [<- i3]
  exact World.cell?_of_block (w := W) (Below.heap_setCell _ _ _ _ (by show w.heap.size ≠ b; omega))
 go_region_held3 (fun X => X.cell? ⟨w.heap.size, 3, none⟩ = some (.int .u32 k) /\ X.cell? ⟨b, 11, none⟩ = some (.map (some m)) /\ (Instr.lookup 237 (.map (some m)) (.int .u32 k) false).run Tryz.prog X = .ok (.int .u32 (s.c k)) X) (first | assumption | go_keep) (fail)
 all_goals
  go_wp2
  go_end0
  exact ⟨rfl, ((VV.out.1.drew).setX hd hne _).mono (Nat.le_succ _), (((But.refl _ _ _).trans (But.of VV.out.2)).drew).set _ _⟩
theorem do_2 (t f k : Int) (s : St) (d : Da) (b m n : Nat) (w : World) (hk : U32 k) (hs : U32 s.a) (hn : n <= 1000000) (hd : d.ok) (hne : m ≠ b) (hv : Vm w b m n d s) :
  Calls Tryz.prog 189 #[.pointer (some ⟨b, 0, none⟩), .agg #[.int .u16 2, .int .u8 t, .int .u8 f, .int .u32 k]] w fun e w' => DoTold w w' e b m n d { s with c := putC s.c k s.a } := by
 have hV : Hid (Vm w b m n d s) := hv
 have h11 : ∀ o, (w.alloc o).cell? ⟨b, 11, none⟩ = some (.map (some m)) := fun o => ((hv.over (below_new w o)).cells hd).2.2.1
 have h9 : ∀ o, (w.alloc o).cell? ⟨b, 9, none⟩ = some (.int .u32 s.a) := fun o => ((hv.over (below_new w o)).cells hd).1
 have hP : ∀ o, ∃ w', (Instr.mapUpdate 237 (.map (some m)) (.int .u32 k) (.int .u32 s.a)).run Tryz.prog (w.alloc o).drew = .ok () w' /\ Cel w' m (n + 1) (putC s.c k s.a) /\ (w.alloc o).drew.grownBy w' (some m) := fun o => (hv.over (below_new w o)).drew.2.put k _ hk hs hn
 clear hv
 go_enter Tryz.func189, Tryz.ntmps189
 go_wp2
 have i3 : (w.alloc (Obj.cells #[.int .u16 2, .int .u8 t, .int .u8 f, .int .u32 k] 156)).cell? ⟨w.heap.size, 3, none⟩ = some (.int .u32 k) := by simp
 have i11 := h11 (Obj.cells #[.int .u16 2, .int .u8 t, .int .u8 f, .int .u32 k] 156)
 have i9 := h9 (Obj.cells #[.int .u16 2, .int .u8 t, .int .u8 f, .int .u32 k] 156)
 obtain ⟨w1, hrun, hc1, hg1⟩ := hP (Obj.cells #[.int .u16 2, .int .u8 t, .int .u8 f, .int .u32 k] 156)
 have VV : Hid (Vm (w.alloc (Obj.cells #[.int .u16 2, .int .u8 t, .int .u8 f, .int .u32 k] 156)) b m n d s /\ Below w.heap.size w (w.alloc (Obj.cells #[.int .u16 2, .int .u8 t, .int .u8 f, .int .u32 k] 156))) := ⟨hV.out.over (below_new _ _), below_new _ _⟩
 have hlt := hV.out.2.lt
 clear h11 h9 hP hV
 generalize (w.alloc (Obj.cells #[.int .u16 2, .int .u8 t, .int .u8 f, .int .u32 k] 156)) = W at *
 have HC : Hid (Cel w1 m (n + 1) (putC s.c k s.a) /\ W.drew.grownBy w1 (some m)) := ⟨hc1, hg1⟩
 have kS : w1.cell? ⟨w.heap.size, 3, none⟩ = some (.int .u32 k) /\ w1.cell? ⟨b, 11, none⟩ = some (.map (some m)) /\ w1.cell? ⟨b, 9, none⟩ = some (.int .u32 s.a) := by
  have hv2 := VV.out.1.drew.put hne _ hg1 hc1
  refine ⟨?_, (hv2.cells hd).2.2.1, (hv2.cells hd).1⟩
  rw [<- i3]
  exact World.cell?_of_block (w := W) (hg1.block _ (World.block_lt_of_cell? W _ i3) (fun e => by injection e with e; dsimp only at e; omega))
 clear hc1 hg1
 go_region_held3 (fun X => X.cell? ⟨w.heap.size, 3, none⟩ = some (.int .u32 k) /\ X.cell? ⟨b, 11, none⟩ = some (.map (some m)) /\ X.cell? ⟨b, 9, none⟩ = some (.int .u32 s.a)) (first | assumption | go_keep) (fail)
 all_goals
  go_wp2
  go_end0
  exact ⟨rfl, VV.out.1.drew.put hne _ HC.out.2 HC.out.1, (((But.refl _ _ _).trans (But.of VV.out.2)).drew).grown HC.out.2⟩
theorem do_3 (t f k : Int) (s : St) (d : Da) (b m n : Nat) (w : World) (hk : U32 k) (hs : U32 s.x) (hn : n <= 1000000) (hd : d.ok) (hne : m ≠ b) (hv : Vm w b m n d s) :
  Calls Tryz.prog 189 #[.pointer (some ⟨b, 0, none⟩), .agg #[.int .u16 3, .int .u8 t, .int .u8 f, .int .u32 k]] w fun e w' => DoTold w w' e b m n d { s with c := putC s.c k s.x } := by
 have hV : Hid (Vm w b m n d s) := hv
 have h11 : ∀ o, (w.alloc o).cell? ⟨b, 11, none⟩ = some (.map (some m)) := fun o => ((hv.over (below_new w o)).cells hd).2.2.1
 have h9 : ∀ o, (w.alloc o).cell? ⟨b, 10, none⟩ = some (.int .u32 s.x) := fun o => ((hv.over (below_new w o)).cells hd).2.1
 have hP : ∀ o, ∃ w', (Instr.mapUpdate 237 (.map (some m)) (.int .u32 k) (.int .u32 s.x)).run Tryz.prog (w.alloc o).drew = .ok () w' /\ Cel w' m (n + 1) (putC s.c k s.x) /\ (w.alloc o).drew.grownBy w' (some m) := fun o => (hv.over (below_new w o)).drew.2.put k _ hk hs hn
 clear hv
 go_enter Tryz.func189, Tryz.ntmps189
 go_wp2
 have i3 : (w.alloc (Obj.cells #[.int .u16 3, .int .u8 t, .int .u8 f, .int .u32 k] 156)).cell? ⟨w.heap.size, 3, none⟩ = some (.int .u32 k) := by simp
 have i11 := h11 (Obj.cells #[.int .u16 3, .int .u8 t, .int .u8 f, .int .u32 k] 156)
 have i9 := h9 (Obj.cells #[.int .u16 3, .int .u8 t, .int .u8 f, .int .u32 k] 156)
 obtain ⟨w1, hrun, hc1, hg1⟩ := hP (Obj.cells #[.int .u16 3, .int .u8 t, .int .u8 f, .int .u32 k] 156)
 have VV : Hid (Vm (w.alloc (Obj.cells #[.int .u16 3, .int .u8 t, .int .u8 f, .int .u32 k] 156)) b m n d s /\ Below w.heap.size w (w.alloc (Obj.cells #[.int .u16 3, .int .u8 t, .int .u8 f, .int .u32 k] 156))) := ⟨hV.out.over (below_new _ _), below_new _ _⟩
 have hlt := hV.out.2.lt
 clear h11 h9 hP hV
 generalize (w.alloc (Obj.cells #[.int .u16 3, .int .u8 t, .int .u8 f, .int .u32 k] 156)) = W at *
 have HC : Hid (Cel w1 m (n + 1) (putC s.c k s.x) /\ W.drew.grownBy w1 (some m)) := ⟨hc1, hg1⟩
 have kS : w1.cell? ⟨w.heap.size, 3, none⟩ = some (.int .u32 k) /\ w1.cell? ⟨b, 11, none⟩ = some (.map (some m)) /\ w1.cell? ⟨b, 10, none⟩ = some (.int .u32 s.x) := by
  have hv2 := VV.out.1.drew.put hne _ hg1 hc1
  refine ⟨?_, (hv2.cells hd).2.2.1, (hv2.cells hd).2.1⟩
  rw [<- i3]
  exact World.cell?_of_block (w := W) (hg1.block _ (World.block_lt_of_cell? W _ i3) (fun e => by injection e with e; dsimp only at e; omega))
 clear hc1 hg1
 go_region_held3 (fun X => X.cell? ⟨w.heap.size, 3, none⟩ = some (.int .u32 k) /\ X.cell? ⟨b, 11, none⟩ = some (.map (some m)) /\ X.cell? ⟨b, 10, none⟩ = some (.int .u32 s.x)) (first | assumption | go_keep) (fail)
 all_goals
  go_wp2
  go_end0
  exact ⟨rfl, VV.out.1.drew.put hne _ HC.out.2 HC.out.1, (((But.refl _ _ _).trans (But.of VV.out.2)).drew).grown HC.out.2⟩
end Go.Proofs.YtmcgcbgblgmmkaaGreatDoor.V
