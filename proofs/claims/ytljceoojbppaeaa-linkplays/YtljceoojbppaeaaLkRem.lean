/-
  A row's method remove.
-/
import Derived.Test.YtljceoojbppaeaaLkAdd
import Derived.Deep.RegionLaw
namespace Go.Proofs.Ytljceoojbppaeaa
open Go.RowKit D

theorem split_at {l : List (List Int)} {n : Nat} (h : n < l.length) : ∃ p x q, l = p ++ x :: q ∧ p.length = n ∧ l.eraseIdx n = p ++ q ∧ l.drop (n + 1) = q := by
  refine ⟨l.take n, l[n], l.drop (n + 1), ?_, by rw [List.length_take]; omega, List.eraseIdx_eq_take_drop_succ l n, rfl⟩
  rw [List.getElem_cons_drop, List.take_append_drop]
theorem last_cell (x : Value) (q : List Value) (T : List Value) : ∃ y, (x :: (q ++ T)).drop q.length = y :: T := by
  induction q generalizing x with
  | nil => exact ⟨x, rfl⟩
  | cons a q ih =>
    obtain ⟨y, hy⟩ := ih a
    exact ⟨y, hy⟩
theorem set_past (X Y : List Value) (i : Nat) (v : Value) : (X ++ Y).set (X.length + i) v = X ++ Y.set i v := by
  rw [List.set_append_right _ _ (by omega), Nat.add_sub_cancel_left]
theorem drop_past (X Y : List Value) (i : Nat) : (X ++ Y).drop (X.length + i) = Y.drop i := by
  rw [List.drop_append, List.drop_eq_nil_of_le (by omega), Nat.add_sub_cancel_left, List.nil_append]
theorem rem_cells (A Z : List Value) (l : List (List Int)) (n : Nat) (hl : l.length ≤ 64) (hn : n < l.length) :
    ((splice (A ++ (rowC l ++ Z)) (A.length + n) (strC (l.drop (n + 1)))).set (A.length + 64) (.int .i64 ((l.length : Int) - 1))).set (A.length + (l.length - 1)) (.string (strOfNums [])) = A ++ (rowC (l.eraseIdx n) ++ Z) := by
  obtain ⟨p, x, q, rfl, hp, he, hd⟩ := split_at hn
  rw [he, hd]
  subst hp
  have e0 : (p ++ x :: q).length = p.length + q.length + 1 := by simp; omega
  rw [e0] at hl
  obtain ⟨r, hr⟩ : ∃ r, (64 : Nat) = p.length + (q.length + (r + 1)) := ⟨63 - p.length - q.length, by omega⟩
  have hr1 : 64 - (p.length + q.length + 1) = r := by omega
  obtain ⟨y, hy⟩ := last_cell (.string (strOfNums x)) (strC q) (List.replicate r (.string (strOfNums [])) ++ (.int .i64 ((p.length + q.length + 1 : Nat) : Int)) :: Z)
  have e1 : rowC (p ++ x :: q) ++ Z = strC p ++ (.string (strOfNums x) :: (strC q ++ (List.replicate r (.string (strOfNums [])) ++ (.int .i64 ((p.length + q.length + 1 : Nat) : Int)) :: Z))) := by
    unfold rowC
    rw [e0, hr1]
    simp [strC]
  have e2 : splice (A ++ (rowC (p ++ x :: q) ++ Z)) (A.length + p.length) (strC q) = A ++ (strC p ++ (strC q ++ y :: (List.replicate r (.string (strOfNums [])) ++ (.int .i64 ((p.length + q.length + 1 : Nat) : Int)) :: Z))) := by
    unfold splice
    rw [e1, List.take_append, List.take_of_length_le (by omega), Nat.add_sub_cancel_left, List.take_append, List.take_of_length_le (by rw [strC_len]; omega), strC_len, Nat.sub_self, List.take_zero, List.append_nil]
    rw [strC_len, show A.length + p.length + q.length = A.length + ((strC p).length + (strC q).length) by rw [strC_len, strC_len]; omega, drop_past, drop_past, hy]
    simp
  have e3 := set_past (List.replicate r (.string (strOfNums []))) ((.int .i64 ((p.length + q.length + 1 : Nat) : Int)) :: Z) 0 (.int .i64 (((p.length + q.length + 1 : Nat) : Int) - 1))
  simp only [List.length_replicate, Nat.add_zero, List.set_cons_zero] at e3
  rw [e2, e0, show (64 : Nat) = (strC p).length + ((strC q).length + (r + 1)) by rw [strC_len, strC_len]; exact hr, show A.length + (p.length + q.length + 1 - 1) = A.length + ((strC p).length + ((strC q).length + 0)) by rw [strC_len, strC_len]; omega]
  simp only [set_past, List.set_cons_succ]
  rw [e3]
  simp only [List.set_cons_zero]
  have e4 : (((p.length + q.length + 1 : Nat) : Int) - 1) = ((p.length + q.length : Nat) : Int) := by omega
  have e5 : 64 - (p.length + q.length) = r + 1 := by omega
  unfold rowC
  rw [List.length_append, e4, e5, List.replicate_succ]
  simp [strC]

theorem step_copy_b {ops : Array Oper} {o : Oper} {a : Act} {w : World} {K : Act → World → Prop} {Q : Exit → Act → World → Prop} {E : Prop} (hgd : o.guard = none) (d s : Operand)
    (ho : o.op = .call { callee := .builtin .copy, args := #[d, s], argTypes := #[69, 69] })
    (sp : Option Addr) (dLen dCap sLen sCap : Nat) (g off : Nat) (hd : a.eval d = .slice (some ⟨g, off, none⟩) dLen dCap) (hs : a.eval s = .slice sp sLen sCap)
    (cur : List Value) (hg : Blk w g 30 cur) (cs : List Value) (hn : cs.length = Nat.min sLen dLen)
    (hpos : 0 < cs.length → ∃ ad, sp = some ad ∧ ∀ (j : Nat) v, cs[j]? = some v → w.cell? (ad.add j) = some v)
    (hfit : off + cs.length ≤ cur.length) (h1 : ∀ v ∈ cs, v.oneCell' = true)
    (h : ∀ w', Hid (Blk w' g 30 (splice cur off cs)) → Kb g w w' → K (a.put o.dst (goInt cs.length)) w') :
    if Region.wanted o (yielded ops a.tmps) = true then Oper.wp Try.prog o a w K Q else E := by
  have hsz : (Try.prog.info? 9).map (·.size) = some 1 := by kernel_rfl
  rw [if_pos (by simp [Region.wanted, hgd])]
  by_cases h0 : cs.length = 0
  · obtain rfl : cs = [] := List.eq_nil_of_length_eq_zero h0
    have hrun := run_copy_none (P := Try.prog) w 69 69 o.type 9 (some ⟨g, off, none⟩) sp dLen dCap sLen sCap Try.underlying69 hsz (by simpa using hn.symm)
    unfold Oper.wp
    simp [execOp, ho, resolve, invoke, builtin, hd, hs, hrun, Result.andThen]
    exact h w (show Blk _ _ _ _ by simpa [splice] using hg) (Kb.refl _ _)
  · obtain ⟨ad, rfl, hsrc⟩ := hpos (by omega)
    have hrun := run_copy_row (P := Try.prog) w 69 69 o.type 9 g off dLen dCap ad sLen sCap cur.toArray 30 cs Try.underlying69 hsz hg hn hsrc (by simpa using hfit) h1
    unfold Oper.wp
    simp [execOp, ho, resolve, invoke, builtin, hd, hs, hrun, Result.andThen]
    exact h _ (show Blk _ _ _ _ by unfold Blk; simpa [splice] using setRow_heap w g _ _ 30 _ hg) ⟨rfl, rfl, rfl, by simp [World.setRow], fun k hk hne => setRow_other w g k _ hne⟩

theorem splice_out (L cs : List Value) (off i : Nat) (h : off + cs.length ≤ i) (h1 : off ≤ L.length) : (splice L off cs)[i]? = L[i]? := by
  unfold splice
  rw [List.getElem?_append_right (by rw [List.length_take]; omega), List.length_take, Nat.min_eq_left h1, List.getElem?_append_right (by omega), List.getElem?_drop]
  congr 1
  omega
theorem sl_lo (w : World) (b o n : Nat) (hn : n < 64) : (Instr.sliceAt 26 (.pointer (some ⟨b, o, none⟩)) (some (.int .i64 n)) none none).run Try.prog w = .ok (.slice (some ⟨b, o + n, none⟩) (64 - n) (64 - n)) w := by
  have hal : Try.prog.arrayLen 26 = 64 := by kernel_rfl
  have hu : Try.prog.underlying 26 = some (.array (Try.prog.arrayLen 26) (Try.prog.elem 26)) := by kernel_rfl
  have hsz : (sizeOf (Try.prog.elem 26)).run Try.prog w = .ok 1 w := by kernel_rfl
  rw [run_sliceAt_array_l w 26 ⟨b, o, none⟩ hu .i64 n (by omega) (by rw [hal]; omega), hsz, hal]
  simp only [Result.andThen_ok, slicedAt, Int.toNat_natCast]
  rw [if_neg (by omega), Nat.mul_one, Addr.add_lit]
theorem sl_hi (b o n k : Nat) (hn : n ≤ k) (hk : k ≤ 64) : ∃ sp sc, (∀ W, (Instr.sliceAt 26 (.pointer (some ⟨b, o, none⟩)) (some (.int .i64 n)) (some (.int .i64 k)) none).run Try.prog W = .ok (.slice (some sp) (k - n) sc) W) ∧ (0 < k - n → sp = ⟨b, o + n, none⟩) := by
  have hal : Try.prog.arrayLen 26 = 64 := by kernel_rfl
  have hu : Try.prog.underlying 26 = some (.array (Try.prog.arrayLen 26) (Try.prog.elem 26)) := by kernel_rfl
  refine ⟨if 64 = n then ⟨b, o, none⟩ else ⟨b, o + n, none⟩, 64 - n, fun W => ?_, fun h => if_neg (by omega)⟩
  have hsz : (sizeOf (Try.prog.elem 26)).run Try.prog W = .ok 1 W := by kernel_rfl
  rw [run_sliceAt_array_lh W 26 ⟨b, o, none⟩ hu .i64 .i64 n k (by omega) (by omega) (by rw [hal]; omega), hsz, hal]
  simp only [Result.andThen_ok, slicedAt, Int.toNat_natCast, Nat.mul_one, Addr.add_lit]

set_option maxRecDepth 8000 in
set_option maxHeartbeats 4000000 in
theorem remove_any (w : World) (b : Nat) (A Z : List Value) (l : List (List Int)) (h : Row w b A l Z) (n : Nat) (hn : n < l.length) :
    Calls Try.prog 29 #[.pointer (some ⟨b, A.length, none⟩), .int .i64 n] w fun e w' => e = .returned (.tuple #[]) ∧ Row w' b A (l.eraseIdx n) Z ∧ Kb b w w' := by
  have hm := h.many
  have hm0 := h.drew.many
  have HR : Hid (Row w b A l Z) := h
  have HL : Hid (n < l.length ∧ l.length ≤ 64) := ⟨hn, h.le⟩
  have hle := h.le
  have HS := rem_cells A Z l n h.le hn
  have HSS : Hid (((splice (A ++ (rowC l ++ Z)) (A.length + n) (strC (l.drop (n + 1)))).set (A.length + 64) (.int .i64 ((l.length : Int) - 1))).set (A.length + (l.length - 1)) (.string (strOfNums [])) = A ++ (rowC (l.eraseIdx n) ++ Z)) := HS
  have hfr := fun i => h.f i
  have hf0 := h.f (A.length + 64)
  have hs1 := fun W => sl_lo W b A.length n (by omega)
  obtain ⟨sp, sc, hs2, hsp⟩ := sl_hi b A.length (n + 1) l.length (by omega) h.le
  rw [show ((n + 1 : Nat) : Int) = IntKind.i64.wrap ((n : Int) + 1) by rw [IntKind.wrap_i64]; omega] at hs2
  have HSP : Hid (0 < l.length - (n + 1) → sp = ⟨b, A.length + (n + 1), none⟩) := hsp
  have hn2 : (n : Int) + 1 ≤ 64 := by omega
  have HQ : Hid ((strC (l.drop (n + 1))).length = Nat.min (l.length - (n + 1)) (64 - n) ∧ A.length + n + (strC (l.drop (n + 1))).length ≤ (A ++ (rowC l ++ Z)).length) := by
    refine ⟨by rw [strC_len, List.length_drop]; exact (Nat.min_eq_left (by omega)).symm, ?_⟩
    rw [List.length_append, List.length_append, rowC_len h.le, strC_len, List.length_drop]
    omega
  have HQ3 : Hid ((strC (l.drop (n + 1))).length = l.length - (n + 1)) := by unfold Hid; rw [strC_len, List.length_drop]
  have HQ2 : Hid (∀ (j : Nat) v, (strC (l.drop (n + 1)))[j]? = some v → w.drew.cell? ((⟨b, A.length + (n + 1), none⟩ : Addr).add j) = some v) := fun j v hj => by
    have hjl := (List.getElem?_eq_some_iff.1 hj).1
    rw [strC_len, List.length_drop] at hjl
    rw [Addr.add_lit, Nat.add_assoc, h.drew.frame (by omega)]
    unfold strC at hj
    rw [List.getElem?_map, List.getElem?_drop, List.getElem?_eq_getElem (by omega)] at hj
    cases hj
    rw [List.getD_eq_getElem?_getD, List.getElem?_eq_getElem (by omega)]
    rfl
  clear h HS hsp hn
  generalize hk : l.length = k at *
  generalize ho : A.length = o at *
  generalize hD : l.drop (n + 1) = q at *
  go_enter Try.func29, Try.ntmps29
  go_upto_region 0 with fail
  go_region_law (refine step_copy_b rfl _ _ rfl (some sp) (64 - n) (64 - n) (k - (n + 1)) sc b (o + n) rfl rfl (A ++ (rowC l ++ Z)) HR.out.blk.drew (strC q) HQ.out.1 (fun h0 => ⟨sp, rfl, by rw [HSP.out (by have := HQ.out.1; rw [this] at h0; exact Nat.lt_of_lt_of_le h0 (Nat.min_le_left _ _))]; exact HQ2.out⟩) HQ.out.2 (fun v hv => by unfold strC at hv; obtain ⟨f, _, rfl⟩ := List.mem_map.1 hv; rfl) ?_; intro w1 HB1 hk1)
  have hm1 : w1.cell? ⟨b, o + 64, none⟩ = some (.int .i64 (k : Int)) := by
    rw [Blk.cell HB1.out, splice_out _ _ _ _ (by have := HL.out; have := HQ3.out; omega) (by have := HQ.out.2; omega), ← HR.out.blk.cell]
    exact hm
  have hf1 := Blk.f HB1.out (o + 64)
  clear hm hm0 hf0 hs1 hs2
  have hlen : (splice (A ++ (rowC l ++ Z)) (o + n) (strC q)).length = (A ++ (rowC l ++ Z)).length := length_splice _ _ _ HQ.out.2
  have HLen : Hid (o + 65 ≤ (splice (A ++ (rowC l ++ Z)) (o + n) (strC q)).length) := by
    unfold Hid
    rw [hlen, List.length_append, List.length_append, rowC_len HR.out.le]
    omega
  clear hlen
  obtain ⟨j, hj⟩ : ∃ j, k = j + 1 := ⟨k - 1, by have := HL.out; omega⟩
  have hj1 : (k : Int) - 1 = (j : Int) := by omega
  have HB2 : Hid (Blk (w1.setCell ⟨b, o + 64, none⟩ (.int .i64 ((k : Int) - 1))) b 30 ((splice (A ++ (rowC l ++ Z)) (o + n) (strC q)).set (o + 64) (.int .i64 ((k : Int) - 1)))) := HB1.out.set _ _
  have HK2 : Hid (Kb b w (w1.setCell ⟨b, o + 64, none⟩ (.int .i64 ((k : Int) - 1)))) := ((kb_below (Below.refl _ _).drew).trans hk1).trans (kb_set _ _ _ _)
  go_upto_region 2 with fail
  have HSK : Hid (((splice (A ++ (rowC l ++ Z)) (o + n) (strC q)).set (o + 64) (.int .i64 ((k : Int) - 1))).set (o + (k - 1)) (.string (strOfNums [])) = A ++ (rowC (l.eraseIdx n) ++ Z)) := HSS.out
  rw [hj1] at HB2 HK2 HSK
  have hm2 : (w1.setCell ⟨b, o + 64, none⟩ (.int .i64 (j : Int))).cell? ⟨b, o + 64, none⟩ = some (.int .i64 (j : Int)) := by
    rw [HB2.out.cell, List.getElem?_set_self (by have := HLen.out; omega)]
  have hf2 := HB2.out.f (o + j)
  obtain ⟨v3, hv3⟩ : ∃ v, (w1.setCell ⟨b, o + 64, none⟩ (.int .i64 (j : Int))).cell? ⟨b, o + j, none⟩ = some v := by
    rw [HB2.out.cell, List.getElem?_eq_getElem (by rw [List.length_set]; have := HLen.out; have := HL.out; omega)]
    exact ⟨_, rfl⟩
  clear hm1 hf1 hk1
  generalize w1.setCell ⟨b, o + 64, none⟩ (.int .i64 (j : Int)) = w2 at *
  have hj64 : (j : Int) < 64 := by have := HL.out; omega
  go_region
  go_wp2
  go_end0
  have e0 : (Value.string { data := #[] }) = .string (strOfNums []) := rfl
  refine ⟨rfl, ⟨?_, Nat.le_trans (List.length_eraseIdx_le ..) HR.out.le⟩, (HK2.out.trans (kb_set _ _ _ _)).trans (kb_below (Below.refl _ _).drew)⟩
  have h1 := (HB2.out.set (o + j) (.string (strOfNums []))).drew
  rw [show o + (k - 1) = o + j by omega] at HSK
  rw [HSK.out] at h1
  rw [e0]
  exact h1

end Go.Proofs.Ytljceoojbppaeaa
