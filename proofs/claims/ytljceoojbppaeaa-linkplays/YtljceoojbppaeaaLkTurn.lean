/-
  A text as bytes, and a bit of it turned.
-/
import Derived.Test.YtljceoojbppaeaaLkMem
import Derived.Laws.IdiomStrings
namespace Go.Proofs.Ytljceoojbppaeaa
open Go.RowKit D

/-- what the bytes of a text are, once they are made. -/
structure Mk (w w' : World) (f : List Int) : Prop where
  bel : Below w.heap.size w w'
  bs : Bs w' (some ⟨w.heap.size, 0, none⟩) f.length f
  fz : ∀ i, i < f.length → w'.frozen? ⟨w.heap.size, i, none⟩ = false
  lt : w.heap.size < w'.heap.size
theorem Mk.cell {w w' : World} {f : List Int} (h : Mk w w' f) {i : Nat} (hi : i < f.length) : w'.cell? ⟨w.heap.size, i, none⟩ = some (.int .u8 (f.getD i 0)) := by
  obtain ⟨b, off, e, hc⟩ := h.bs.2.2 (by omega)
  cases e
  have := hc i hi
  rwa [Nat.zero_add] at this
theorem Mk.turn {w w' : World} {f : List Int} (h : Mk w w' f) (hf : okF f) (bit : Int) (g : Nat) (hg : w.heap.size = g) (q : Nat) (hq : bitAt f bit / 8 = q) (k : Nat) (hk : bitAt f bit % 8 = k) (y : Int) (hy : bits BinOp.xor IntKind.u8 (f.getD q 0) y = turnB (f.getD q 0) k) (c len : Nat) (hl : f.length = len) :
    (convert 37 9 (.slice (some ⟨g, 0, none⟩) len c)).run Try.prog (w'.setCell ⟨g, q, none⟩ (.int .u8 (bits BinOp.xor IntKind.u8 (f.getD q 0) y))).drew = .ok (.string (strOfNums (turnF f bit))) (w'.setCell ⟨g, q, none⟩ (.int .u8 (bits BinOp.xor IntKind.u8 (f.getD q 0) y))).drew ∧
      Below g w (w'.setCell ⟨g, q, none⟩ (.int .u8 (bits BinOp.xor IntKind.u8 (f.getD q 0) y))).drew := by
  subst hg hl
  refine ⟨run_text ?_ c, (h.bel.setCell (Nat.le_refl _) _).drew⟩
  have hok := turnF_ok hf bit
  refine ⟨turnF_len f bit, hok.1, fun _ => ⟨_, 0, rfl, fun i hi => ?_⟩⟩
  have hqf := byteAt_lt hf.2.1 bit
  rw [hq] at hqf
  unfold turnF
  rw [hq, hk, hy, Nat.zero_add]
  show (w'.setCell _ _).cell? _ = _
  by_cases e : i = q
  · subst e
    rw [World.cell?_setCell_same' _ _ _ (by rw [h.cell hi]; rfl)]
    rw [List.getD_eq_getElem?_getD (l := f.set i _), List.getElem?_set_self hi]
    rfl
  · rw [World.cell?_setCell_other _ _ _ _ (by intro h; apply e; injection h with _ h2; exact h2.symm), h.cell hi, List.getD_eq_getElem?_getD, List.getD_eq_getElem?_getD, List.getElem?_set_ne (Ne.symm e)]
theorem turn_bits (x y : Int) (k : Nat) (hx : 0 ≤ x ∧ x ≤ 255) (hk : k < 8) (hy : y = ((2 ^ k : Nat) : Int)) : bits BinOp.xor IntKind.u8 x y = turnB x k := by
  subst hy
  have h2 : 2 ^ k < 2 ^ 8 := Nat.pow_lt_pow_right (by decide) hk
  have h3 : (2 : Nat) ^ 8 = 256 := rfl
  obtain ⟨n, rfl⟩ := Int.eq_ofNat_of_zero_le hx.1
  exact u8_xor_nat n (2 ^ k) (by omega) (by omega)
theorem u8_back (z : Int) (h : 0 ≤ z ∧ z ≤ 255) : ((UInt8.ofNat z.toNat).toNat : Int) = z := by
  rw [UInt8.toNat_ofNat']
  omega
theorem to_bytes (w : World) (f : List Int) (hf : Byt f) : ∃ c w', (convert 9 37 (.string (strOfNums f))).run Try.prog w = .ok (.slice (some ⟨w.heap.size, 0, none⟩) f.length c) w' ∧ Mk w w' f := by
  have h := run_bytes_of_string (P := Try.prog) w 9 37 5 (strOfNums f) Try.underlying9 Try.underlying37 Try.underlying5
  rw [strOfNums_size] at h
  refine ⟨_, _, h, ⟨(Below.refl _ _).drew.alloc (Nat.le_refl _) _, ⟨rfl, hf, fun _ => ⟨_, _, rfl, fun i hi => ?_⟩⟩, fun i hi => ?_, by rw [size_alloc']; exact Nat.lt_succ_self _⟩⟩
  · have h1 : (w.drew.alloc (.cells (bytesRow (strOfNums f) (grownCap w f.length 0 5)) 5 ((bytesRow (strOfNums f) (grownCap w f.length 0 5)).size, (bytesRow (strOfNums f) (grownCap w f.length 0 5)).size + 1))).heap[w.heap.size]? = some (.cells (bytesRow (strOfNums f) (grownCap w f.length 0 5)) 5 ((bytesRow (strOfNums f) (grownCap w f.length 0 5)).size, (bytesRow (strOfNums f) (grownCap w f.length 0 5)).size + 1)) := heap_alloc_new w.drew _
    unfold World.cell?
    simp only [Nat.zero_add]
    rw [h1]
    simp only [bytesRow]
    have e : (strOfNums f).data.size = f.length := strOfNums_size f
    rw [Array.getElem?_append_left (by rw [Array.size_map, e]; exact hi), Array.getElem?_map]
    have e2 : (strOfNums f).data[i]? = some (UInt8.ofNat (f.getD i 0).toNat) := by
      unfold strOfNums
      rw [List.getElem?_toArray, List.getElem?_map, List.getElem?_eq_getElem hi, List.getD_eq_getElem?_getD, List.getElem?_eq_getElem hi]
      rfl
    rw [e2]
    simp only [Option.map_some]
    rw [u8_back _ (byt_get hf i)]
    rfl
  · have h1 : (w.drew.alloc (.cells (bytesRow (strOfNums f) (grownCap w f.length 0 5)) 5 ((bytesRow (strOfNums f) (grownCap w f.length 0 5)).size, (bytesRow (strOfNums f) (grownCap w f.length 0 5)).size + 1))).heap[w.heap.size]? = some (.cells (bytesRow (strOfNums f) (grownCap w f.length 0 5)) 5 ((bytesRow (strOfNums f) (grownCap w f.length 0 5)).size, (bytesRow (strOfNums f) (grownCap w f.length 0 5)).size + 1)) := heap_alloc_new w.drew _
    have hs : f.length ≤ (bytesRow (strOfNums f) (grownCap w f.length 0 5)).size := by
      have e : (strOfNums f).data.size = f.length := strOfNums_size f
      simp only [bytesRow, Array.size_append, Array.size_map, e]
      omega
    unfold World.frozen?
    rw [h1]
    simp
    omega

set_option maxRecDepth 8000 in
set_option maxHeartbeats 4000000 in
theorem turned_any (w : World) (f : List Int) (hf : okF f) (bit : Int) :
    Calls Try.prog 35 #[.string (strOfNums f), .int .i64 bit] w fun e w' => e = .returned (.string (strOfNums (turnF f bit))) ∧ Below w.heap.size w w' := by
  obtain ⟨c, w1, hrun, hM⟩ := to_bytes w f hf.1
  have HM : Hid (Mk w w1 f) := hM
  have hlen1 : (f.length : Int) ≤ 1024 := by have := hf.2.2; omega
  have hlen0 : (0 : Int) < (f.length : Int) := by have := hf.2.1; omega
  have HF : Hid (okF f) := hf
  have hjlt := bitAt_lt hf.2.1 bit
  have hqlt := byteAt_lt hf.2.1 bit
  clear hM hf
  go_enter Try.func35, Try.ntmps35
  rcases Int.lt_or_le bit 0 with hb | hb
  · have hj0 : bitAt f bit = 0 := by unfold bitAt; rw [show max bit 0 = 0 by omega]; exact Nat.zero_mod _
    have hz : (8 * (f.length : Int) == 0) = false := beq_eq_false_iff_ne.2 (by omega)
    go_upto_region 3 with fail
    have hc0 : w1.cell? ⟨w.heap.size, 0, none⟩ = some (.int .u8 (f.getD 0 0)) := HM.out.cell HF.out.2.1
    have hf0 : w1.frozen? ⟨w.heap.size, 0, none⟩ = false := HM.out.fz 0 HF.out.2.1
    generalize hg : w.heap.size = g at *
    have HT : Hid ((convert 37 9 (.slice (some ⟨g, 0, none⟩) f.length c)).run Try.prog (w1.setCell ⟨g, 0, none⟩ (.int .u8 (bits BinOp.xor IntKind.u8 (f.getD 0 0) 1))).drew = .ok (.string (strOfNums (turnF f bit))) (w1.setCell ⟨g, 0, none⟩ (.int .u8 (bits BinOp.xor IntKind.u8 (f.getD 0 0) 1))).drew ∧
      Below g w (w1.setCell ⟨g, 0, none⟩ (.int .u8 (bits BinOp.xor IntKind.u8 (f.getD 0 0) 1))).drew) :=
      Mk.turn HM.out HF.out bit g hg 0 (by rw [hj0]) 0 (by rw [hj0]) 1 (turn_bits _ _ _ (byt_get HF.out.1 0) (by decide) rfl) c _ rfl
    generalize hx : f.getD 0 0 = x at *
    generalize f.length = len at *
    generalize hfin : strOfNums (turnF f bit) = fin at *
    go_region
    have HT1 := HT.out.1
    have HT2 : Hid (Below g w (w1.setCell ⟨g, 0, none⟩ (.int .u8 (bits BinOp.xor IntKind.u8 x 1))).drew) := HT.out.2
    clear HT hc0 hf0
    generalize (w1.setCell ⟨g, 0, none⟩ (.int .u8 (bits BinOp.xor IntKind.u8 x 1))).drew = w2 at *
    go_wp2
    go_ret
    exact ⟨by rw [hfin]; rfl, by rw [hg]; exact HT2.out⟩
  · obtain ⟨m, rfl⟩ : ∃ m : Nat, bit = (m : Int) := ⟨bit.toNat, by omega⟩
    have hm : (m : Int) % (8 * (f.length : Int)) = (bitAt f m : Int) := by unfold bitAt; rw [show max (m : Int) 0 = (m : Int) by omega]; simp
    have hz : (8 * (f.length : Int) == 0) = false := beq_eq_false_iff_ne.2 (by omega)
    go_upto_region 3 with fail
    rw [hm]
    have hc0 := HM.out.cell hqlt
    have hf0 := HM.out.fz _ hqlt
    generalize hg : w.heap.size = g at *
    obtain ⟨q, hq⟩ : ∃ q, q = bitAt f m / 8 := ⟨_, rfl⟩
    obtain ⟨r, hr⟩ : ∃ r, r = bitAt f m % 8 := ⟨_, rfl⟩
    have hr8 : r < 8 := by omega
    rw [← hq] at hc0 hf0 hqlt
    have HT : Hid (∀ y : Int, y = ((2 ^ r : Nat) : Int) → (convert 37 9 (.slice (some ⟨g, 0, none⟩) f.length c)).run Try.prog (w1.setCell ⟨g, q, none⟩ (.int .u8 (bits BinOp.xor IntKind.u8 (f.getD q 0) y))).drew = .ok (.string (strOfNums (turnF f m))) (w1.setCell ⟨g, q, none⟩ (.int .u8 (bits BinOp.xor IntKind.u8 (f.getD q 0) y))).drew ∧
      Below g w (w1.setCell ⟨g, q, none⟩ (.int .u8 (bits BinOp.xor IntKind.u8 (f.getD q 0) y))).drew) := fun y hy =>
      Mk.turn HM.out HF.out m g hg q hq.symm r hr.symm y (turn_bits _ _ _ (byt_get HF.out.1 q) hr8 hy) c _ rfl
    generalize hx : f.getD q 0 = x at *
    generalize hfin : strOfNums (turnF f m) = fin at *
    have hq1 : ((bitAt f m : Nat) : Int) / 8 = (q : Int) := by omega
    have hr1 : ((bitAt f m : Nat) : Int) % 8 = (r : Int) := by omega
    generalize bitAt f m = j at *
    have hj0 : (0 : Int) ≤ (j : Int) := by omega
    have hqi : (q : Int) < (f.length : Int) := by omega
    generalize f.length = len at *
    clear hq hr
    rcases (show r = 0 ∨ r = 1 ∨ r = 2 ∨ r = 3 ∨ r = 4 ∨ r = 5 ∨ r = 6 ∨ r = 7 by omega) with rfl | rfl | rfl | rfl | rfl | rfl | rfl | rfl
    all_goals
      go_region
      first
        | have HT1 := HT.out 1 (by decide)
        | have HT1 := HT.out 2 (by decide)
        | have HT1 := HT.out 4 (by decide)
        | have HT1 := HT.out 8 (by decide)
        | have HT1 := HT.out 16 (by decide)
        | have HT1 := HT.out 32 (by decide)
        | have HT1 := HT.out 64 (by decide)
        | have HT1 := HT.out 128 (by decide)
      have HT2 : Hid (Below g w _) := HT1.2
      replace HT1 := HT1.1
      clear HT hc0 hf0
      go_wp2
      go_ret
      exact ⟨by rw [hfin]; rfl, by rw [hg]; exact HT2.out⟩

end Go.Proofs.Ytljceoojbppaeaa
