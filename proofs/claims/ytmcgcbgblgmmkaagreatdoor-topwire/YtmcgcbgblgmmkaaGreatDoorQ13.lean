/-
  MNumb.
-/
import Derived.Test.YtmcgcbgblgmmkaaGreatDoorQ12
import Derived.Sort.OwnSorted
set_option maxRecDepth 100000
set_option maxHeartbeats 2000000
namespace Go.Proofs.YtmcgcbgblgmmkaaGreatDoor.M
open F.D (Blk blk_new)
open Go.RowKit Go.Maps
open Go.Sort (PermIn SortedIn)
theorem Tryz.infoU : (Tryz.prog.info? 31).map (fun i => (i.zero, i.size, i.bytes)) = some (some (.int .u32 0), 1, 4) := by kernel_rfl
def cellsZ (l : List Int) : List Value := l.map (Value.int .u32)
def NbL (w : World) (B r n base : Nat) (acc : List Int) (v : Value) (wr : World) : Prop :=
 ∃ (left : Lit -> Bool) (cnt : Nat) (ss : List Int), wr.ranges Tryz.prog 31 (unitElem (H := Unit)) B r n (setN acc) left cnt /\ ColN acc left ss /\ wr.ownsRow base 31 1 v ss.length (cellsZ ss) /\ Below w.heap.size w wr /\ base <= wr.heap.size
def NmbR (w : World) (l : List Xr) (e : Ending) (w' : World) : Prop :=
 ∃ v' ts, e = .returned v' /\ NzR w' v' ts /\ Rise ts /\ (∀ z, z ∈ ts ↔ z ∈ numsR l) /\ Below w.heap.size w w'
theorem nbl_end {w wr w' : World} {l : List Xr} {g cap : Nat} {ss : List Int} {d' : Array Int} {tl : List Value} (hs : ∀ z, z ∈ ss ↔ z ∈ numsR l) (hn : ss.Nodup) (hp : PermIn 0 ss.length ss.toArray d') (hso : SortedIn ltZ 0 ss.length d') (hsw : Sw wr g tl d' w')
  (hc1 : ss.length <= cap) (hc2 : cap <= maxLen) (hg : w.heap.size <= g) (hb : Below w.heap.size w wr) : NmbR w l (.returned (.slice (some ⟨g, 0, none⟩) ss.length cap)) w' := by
 obtain ⟨h1, h2, h3⟩ := rise_of hn hp hso
 refine ⟨_, d'.toList, rfl, ⟨some ⟨g, 0, none⟩, cap, by rw [Array.length_toList]; exact congrArg (fun n => Value.slice (some ⟨g, 0, none⟩) n cap) h3.symm, by rw [Array.length_toList, h3]; exact hc1, by have := hc2; unfold maxLen at this; omega, fun _ => ⟨g, 0, rfl, fun i x hi => ?_⟩⟩, h1, fun z => (h2.mem_iff).trans (hs z), ?_⟩
 ·have hi2 : i < d'.size := by have := (List.getElem?_eq_some_iff.1 hi).1; simpa using this
  have h4 := hsw.cell i hi2
  rw [Nat.zero_add, h4]
  rw [getElem!_pos d' i hi2]
  have h5 := (List.getElem?_eq_some_iff.1 hi).2
  simp only [Array.getElem_toList] at h5
  rw [h5]
 ·exact hb.grown hsw.grow hb.size (fun j hj => by cases hj; exact hg)
theorem blk_of_row {w : World} {g : Nat} {cur : Array Value} {ss : List Int} (hb : w.heap[g]? = some (.cells cur 31 (0, 0))) (ht : cur.toList.take (ss.length * 1) = cellsZ ss) : Blk w g 31 (cellsA ss.toArray ++ cur.toList.drop (ss.length * 1)) := by
 unfold Blk
 rw [hb]
 have h1 : cellsA ss.toArray = cellsZ ss := rfl
 rw [h1, <- ht, List.take_append_drop]
theorem numbers_any (w : World) (k a : Int) (v : Value) (l : List Xr) (h : RlR w v l) (hl : l.length <= 1000) (hs : ∀ x ∈ l, x.r.names.length <= 9000000) (hN : (numsR l).length <= 9000000) (h12 : (numsR l).length <= 12) :
  Calls Tryz.prog 76 #[.agg #[.int .i64 k, .int .i64 a, v]] w fun e w' => NmbR w l e w' := by
 obtain ⟨p1, c1, rfl⟩ : ∃ p c, v = .slice p l.length c := by obtain ⟨p, c, e, _⟩ := h; exact ⟨p, c, e⟩
 have B0 : Hid (Below w.heap.size w (w.alloc (Obj.cells #[.int .i64 k, .int .i64 a, .slice p1 l.length c1] 58))) := below_new w _
 have HG : Hid (Calls Tryz.prog 116 #[.slice p1 l.length c1] (w.alloc (Obj.cells #[.int .i64 k, .int .i64 a, .slice p1 l.length c1] 58)) fun e w' => GthR (w.alloc (Obj.cells #[.int .i64 k, .int .i64 a, .slice p1 l.length c1] 58)) l e w') := gathered_any _ _ l (h.below (below_new w _)) hl hs hN
 have t2 : (w.alloc (Obj.cells #[.int .i64 k, .int .i64 a, .slice p1 l.length c1] 58)).cell? ⟨w.heap.size, 2, none⟩ = some (.slice p1 l.length c1) := (blk_new w _ _).cell 2
 obtain ⟨i0, hi, hz0, hz1, hz2⟩ := info_parts Tryz.infoU
 have HSrt : Hid (∀ (g n cap : Nat) (tl : List Value) (d : Array Int) (W : World), Blk W g 31 (cellsA d ++ tl) -> d.size = n -> n <= 12 -> Calls Tryz.prog 117 #[.slice (some ⟨g, 0, none⟩) n cap] W fun e w' => Srd W g 0 n tl d e w') := sort_any
 have HSn : Hid (∀ W, Calls Tryz.prog 117 #[.slice none 0 0] W fun e w' => e = .returned (.tuple #[]) /\ w' = W) := sort_nil
 have H12 : Hid ((numsR l).length <= 12) := h12
 clear h hs h12
 go_enter Tryz.func76, Tryz.ntmps76
 go_wp2_with fail
 generalize (w.alloc (Obj.cells #[.int .i64 k, .int .i64 a, .slice p1 l.length c1] 58)) = X at *
 refine HG.out.mono ?_
 rintro e w1 ⟨B, hBX, rfl, hmp, hb1⟩
 have HB1 : Hid (Below w.heap.size w w1) := B0.out.trans (hb1.mono B0.out.size)
 have HBX : Hid (w.heap.size <= B /\ B < w1.heap.size) := ⟨Nat.le_trans B0.out.size hBX, hmp.lt⟩
 clear hb1 HG B0 t2 hBX
 go_wp2_with (first | (at_range; refine wpList_range_own _ rfl _ 196 rfl 31 88 lawU Tryz.underlying196 _ B _ _ rfl hmp ?_; intro w2 hrg0 hg0 hs0) | go_in)
 go_frame
 go_loopw [3] (fun v wr => NbL w B w1.heap.size (numsR l).length w2.heap.size (numsR l) v wr) (fun _ wr => wr.rangeLeft B w1.heap.size)
 case atStart => exact ⟨_, _, [], hrg0, ColN.start _, ⟨rfl, .inl ⟨rfl, rfl⟩⟩, HB1.out.grown hg0 HB1.out.size (fun j hj => by cases hj), Nat.le_refl _⟩
 case round =>
  obtain ⟨left, cnt, ss, hrg, hC, hrow, hnx, hbs⟩ := hrel
  have HC : Hid (ColN (numsR l) left ss) := hC
  have HNX : Hid (Below w.heap.size w wr) := hnx
  have HW2 : Hid (w.heap.size <= w1.heap.size /\ w2.heap.size = w1.heap.size + 1) := ⟨HB1.out.size, hs0⟩
  have hlen : ss.length <= 30 := col_len hC
  clear hC hnx hrg0 hg0 hs0
  go_wp2_with (first
   | (at_next; refine wpList_next_ranges _ rfl _ rfl 31 lawU (unitElem (H := Unit)) (Value.int .u32) (fun _ : Unit => Value.agg #[]) (fun key kl hk => by obtain ⟨x, hx, _⟩ := Maps.keyOf_int_inv Tryz.underlying31 hk; exact ⟨x, hx⟩) (fun v y hv => ⟨(), (unitElem_inv hv).1⟩) B w1.heap.size (numsR l).length _ _ _ rfl hrg ?_ ?_)
   | go_in)
  ·intro hc0 hl0
   have HD : Hid (∀ z, z ∈ ss ↔ z ∈ numsR l) := HC.out.done hl0
   rcases hrow.2 with ⟨rfl, h0⟩ | ⟨g, cap, cur, rfl, hbase, hb, h1, h2, h3, h4⟩
   ·obtain rfl : ss = [] := List.eq_nil_of_length_eq_zero h0
    clear hrow hrg h0 hc0 hl0
    go_wp2_with (first | (go_at_call 117; refine (HSn.out _).mono ?_; rintro e w3 ⟨rfl, hw3⟩; subst w3))
    go_ret
    exact ⟨_, [], rfl, ⟨none, 0, rfl, Nat.le_refl _, by decide, fun h => absurd h (by decide)⟩, List.Pairwise.nil, HD.out, HNX.out⟩
   ·have HQ : Hid (Calls Tryz.prog 117 #[.slice (some ⟨g, 0, none⟩) ss.length cap] wr fun e w' => Srd wr g 0 ss.length (cur.toList.drop (ss.length * 1)) ss.toArray e w') := HSrt.out g ss.length cap _ ss.toArray wr (blk_of_row hb h4) (by simp) (Nat.le_trans (nodup_le ss (numsR l) HC.out.1 fun z hz => (HD.out z).1 hz) H12.out)
    have HE : Hid (ss.length <= cap /\ cap <= maxLen /\ w.heap.size <= g) := ⟨h1, h2, by have := HW2.out; omega⟩
    clear hrow hrg hc0 hl0 hb h1 h2 h3 h4 hbase
    go_wp2_with (first | (go_at_call 117; refine HQ.out.mono ?_; rintro e w3 ⟨rfl, d', hp, hso, hsw⟩))
    go_ret
    exact nbl_end HD.out HC.out.1 hp hso hsw HE.out.1 HE.out.2.1 HE.out.2.2 HNX.out
  ·intro x kl yd yp w3 cnt3 hkey hlk hv hat hrg3 hlt hg3 hs3 hen
   obtain ⟨x', ex, rfl, _⟩ := Maps.keyOf_int_inv Tryz.underlying31 hkey
   cases ex
   have hx : x ∈ numsR l := (has_setN _ _).1 (has_true_of_atKey hat)
   have HC3 : Hid (ColN (numsR l) (fun z => left z && !z.sameKey (litN x)) (ss ++ [x])) := HC.out.step hlk hx
   have hrow3 := hrow.kept hg3 (Or.inr (row_ne_iter hrow hrg).symm)
   have hbs3 : w2.heap.size <= w3.heap.size := Nat.le_trans hbs hg3.size
   have HNX3 : Hid (Below w.heap.size w w3) := HNX.out.grown hg3 HNX.out.size (fun j hj => by cases hj; exact HW2.out.1)
   have HN3 : Hid (wr.rangeLeft B w1.heap.size = cnt) := hrg.left_eq
   clear hs3 hlk hv hat hx hkey hrow hbs hg3
   go_wp2_with (first
    | (at_builtin; refine wpList_append_own _ rfl _ _ 107 rfl w2.heap.size 31 i0 (.int .u32 0) 1 4 Tryz.underlying107 hi hz0 hz1 hz2 rfl (by decide) _ _ _ rfl (hrow3.alloc _) ⟨w3.heap.size, 0, none⟩ 1 1 [.int .u32 x] rfl rfl (cell_one_new _ _ _) (by simp [Value.oneCell']) (by unfold maxLen; omega) (by omega) (by simp; omega) ?_; intro v' w4 hown' hg4 hnil4; go_frame)
    | go_in)
   have hrg4 := (hrg3.alloc (.cells #[.int .u32 x] 31)).kept hg4 (row_ne_low hrow3 (by have := HW2.out; have := HBX.out; omega)) (row_ne_iter hrow3 hrg3)
   go_roundw
   case rel => exact ⟨_, cnt3, ss ++ [x], hrg4, HC3.out, by simpa [cellsZ] using hown', (HNX3.out.alloc HNX3.out.size _).grown hg4 (by have := HNX3.out.size; simp; omega) (fun j hj => by have := (hrow3.lt j hj).1; have := HW2.out; omega), by have := hg4.size; simp at this; omega⟩
   case measure => rw [hrg4.left_eq, HN3.out]; exact hlt
end Go.Proofs.YtmcgcbgblgmmkaaGreatDoor.M
