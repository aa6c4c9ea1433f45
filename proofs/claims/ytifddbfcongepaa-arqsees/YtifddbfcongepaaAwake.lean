/-
  What every law of this layer does ahead: a timer of two ticks, and what comes twice.
-/
import Derived.Test.YtifddbfcongepaaTick
import Derived.Test.YtifddbfcongepaaSeen
namespace Go.Proofs.Ytifddbfcongepaa
open Go.RowKit Go.Maps

theorem fr_lift {X : List Nat} {C : Nat} {w w' : World} (h : Fr [] X 0 w w') (hx : ∀ x ∈ X, C ≤ x) (hC : C ≤ w.heap.size) : Fr [] X C w w' :=
  ⟨⟨h.bel.os, h.bel.tape, h.bel.output, h.bel.size, fun k hk => by
    have hk2 : k < w.heap.size := by omega
    have e : w.heap[k]? = some w.heap[k] := Array.getElem?_eq_getElem hk2
    rw [e]
    exact h.blk k _ e (fun _ _ _ _ => by simp) fun hm => by have := hx k hm; omega⟩, h.blk⟩
theorem nil_of {ts : List Int} (h : ∀ z, z ∈ ts ↔ z ∈ ([] : List Int)) : ts = [] := by
  cases ts with
  | nil => rfl
  | cons a l => have := (h a).1 (List.mem_cons_self ..); cases this
theorem one_of {ts : List Int} {a : Int} (hr : Rise ts) (h : ∀ z, z ∈ ts ↔ z ∈ [a]) : ts = [a] := rise_ext hr (List.pairwise_singleton _ _) h

set_option maxHeartbeats 4000000 in
set_option maxRecDepth 8000 in
theorem awake_any (w : World) : Calls Try.prog 8 #[] w fun e w' => e = .returned (.bool true) ∧ Below w.heap.size w w' := by
  have HN : Hid (Calls Try.prog 9 #[.int .i64 2] w fun e w' => NewT w 2 e w') := new_any 2 w (by omega) (by omega)
  go_enter Try.func8, Try.ntmps8
  go_wp2_with fail
  refine HN.out.mono ?_
  rintro e w1 ⟨b, B, hb, hB, rfl, h1, hw1⟩
  have HC : Hid (w.heap.size ≤ b ∧ w.heap.size ≤ B) := ⟨hb, hB⟩
  have B1 : Hid (Below w.heap.size w w1) := hw1
  have H1 : Hid (Calls Try.prog 11 #[.pointer (some ⟨b, 0, none⟩), .int .u64 7] w1 fun e w' => SetE w1 b B 2 (setT [] 7 2) e w') := set_any b B 2 7 [] w1 h1 List.nodup_nil (by simp) (by omega) (by omega) ⟨by omega, by omega⟩
  clear hb hB h1 hw1 HN
  go_wp2_with fail
  refine H1.out.mono ?_
  rintro e w2 ⟨rfl, h2, hg2⟩
  have B2 : Hid (Below w.heap.size w w2) := B1.out.grown hg2 B1.out.size (fun j hj => by cases hj; exact HC.out.2)
  have O2 : Okt (setT [] 7 2) 2 1 := (Okt.nil (by omega) (by omega) 0).set ⟨by omega, by omega⟩
  have H2 : Hid (Calls Try.prog 16 #[.pointer (some ⟨b, 0, none⟩)] w2 fun e w' => TickE w2 b B 2 (setT [] 7 2) e w') := tick_any b B 2 _ w2 h2 O2 (by omega)
  clear h2 hg2 H1 B1
  go_wp2_with fail
  refine H2.out.mono ?_
  rintro e w3 ⟨v1, ts1, rfl, hr1, hri1, hm1, h3, hg3⟩
  have e1 : ts1 = [] := nil_of fun z => by rw [hm1 z]; exact Iff.rfl
  subst e1
  obtain ⟨p1, cap1, rfl⟩ := row_slice hr1
  have B3 : Hid (Below w.heap.size w w3) := B2.out.grown hg3 B2.out.size (fun j hj => by cases hj; exact HC.out.2)
  have H3 : Hid (Calls Try.prog 16 #[.pointer (some ⟨b, 0, none⟩)] w3 fun e w' => TickE w3 b B 2 (tickT (setT [] 7 2) 2) e w') := tick_any b B 2 _ w3 h3 O2.tick (by omega)
  clear h3 hg3 H2 B2 hr1 hri1 hm1
  go_wp2_with fail
  refine H3.out.mono ?_
  rintro e w4 ⟨v2, ts2, rfl, hr2, hri2, hm2, h4, hg4⟩
  have e2 : ts2 = [7] := one_of hri2 fun z => by rw [hm2 z]; exact Iff.rfl
  subst e2
  obtain ⟨p2, cap2, rfl⟩ := row_slice hr2
  obtain ⟨g, rfl, hg, hc7⟩ := row_at hr2 (k := 0) (by simp)
  have B4 : Hid (Below w.heap.size w w4) := B3.out.grown hg4 B3.out.size (fun j hj => by cases hj; exact HC.out.2)
  have S4 : Hid (SnV (w4.alloc (Obj.cells #[.map none] 46)) w4.heap.size none []) := ⟨blk_new w4 _ _, by simp, fun _ => rfl, fun B e => by cases e⟩
  have B5 : Hid (Below w.heap.size w (w4.alloc (Obj.cells #[.map none] 46))) := B4.out.alloc B4.out.size _
  have HS : Hid (w.heap.size ≤ w4.heap.size) := B4.out.size
  have C5 : Hid ((w4.alloc (Obj.cells #[.map none] 46)).cell? ⟨g, 0, none⟩ = some (.int .u64 7)) := by
    show _ = _
    rw [World.cell?_of_block (a := ⟨g, 0, none⟩) ((below_new w4 (Obj.cells #[.map none] 46)).block g (World.block_lt_of_cell? w4 _ hc7))]
    exact hc7
  have G5 : Hid (g < w4.heap.size ∧ w3.heap.size ≤ g ∧ w.heap.size ≤ w3.heap.size) := ⟨World.block_lt_of_cell? w4 _ hc7, hg, B3.out.size⟩
  have T1 : Hid (∀ W m S, SnV W w4.heap.size m S → S.length ≤ 100000 → Calls Try.prog 20 #[.pointer (some ⟨w4.heap.size, 0, none⟩), .int .u64 5] W fun e w' => TakeE W w4.heap.size m S 5 e w') := fun W m S h hn => take_any w4.heap.size m S 5 W h hn ⟨by omega, by omega⟩
  clear h4 hg4 H3 B3 hr2 hri2 hm2 hc7 hg B4
  go_upto_region 8 with fail
  generalize (w4.alloc (Obj.cells #[.map none] 46)) = w5 at *
  go_wp2_with fail
  refine (T1.out w5 none [] S4.out (by simp)).mono ?_
  rintro e w6 ⟨B', rfl, hs6, hor, hf6⟩
  have hB' : w5.heap.size ≤ B' := by
    rcases hor with h | ⟨_, h⟩
    · cases h
    · exact h
  have hg5 : g < w5.heap.size := World.block_lt_of_cell? w5 _ C5.out
  have F6 : Hid (Fr [] [w4.heap.size] w.heap.size w5 w6) := fr_lift hf6 (by simp; exact HS.out) B5.out.size
  have S6 : Hid (SnV w6 w4.heap.size (some B') (takeS [] 5)) := hs6
  have C6 : Hid (w6.cell? ⟨g, 0, none⟩ = some (.int .u64 7) ∧ g ≠ B') := by
    refine ⟨?_, by omega⟩
    have ho : w5.heap[g]? = some w5.heap[g] := Array.getElem?_eq_getElem hg5
    rw [World.cell?_of_block (a := ⟨g, 0, none⟩) ((F6.out.blk g _ ho (fun _ _ _ _ => by simp) (by simp; have := G5.out.1; omega)).trans ho.symm)]
    exact C5.out
  have HQ5 : Hid (w5.heap.size ≤ B' ∧ w.heap.size ≤ w5.heap.size) := ⟨hB', B5.out.size⟩
  clear hs6 hor hf6 hB' C5 S4 hg5
  go_wp2_with fail
  refine (T1.out w6 (some B') _ S6.out (by decide)).mono ?_
  rintro e w7 ⟨B2, rfl, hs7, hor, hf7⟩
  have hB2 : B2 = B' := by
    rcases hor with h | ⟨h, _⟩
    · cases h; rfl
    · cases h
  subst hB2
  have F7 : Hid (Fr [] [w4.heap.size, B2] w.heap.size w6 w7) := fr_lift hf7 (by simp; exact ⟨HS.out, by have := HQ5.out; omega⟩) (Nat.le_trans HQ5.out.2 F6.out.bel.size)
  have hg6 : g < w6.heap.size := World.block_lt_of_cell? w6 _ C6.out.1
  have c7 : w7.cell? ⟨g, 0, none⟩ = some (.int .u64 7) := by
    have ho : w6.heap[g]? = some w6.heap[g] := Array.getElem?_eq_getElem hg6
    rw [World.cell?_of_block (a := ⟨g, 0, none⟩) ((F7.out.blk g _ ho (fun _ _ _ _ => by simp) (by simp; exact ⟨by have := G5.out.1; omega, C6.out.2⟩)).trans ho.symm)]
    exact C6.out.1
  have HMN : Hid (Calls Try.prog 21 #[.pointer (some ⟨w4.heap.size, 0, none⟩)] w7 fun e w' => e = .returned (.int .i64 1) ∧ w' = w7) := many_any _ _ _ w7 hs7
  have HE : Hid (Below w.heap.size w w7) := B5.out.trans (F6.out.bel.trans F7.out.bel)
  have HD2 : decide ((5 : Int) ∉ takeS [] 5) = false := by decide
  rw [HD2]
  clear hs7 hor hf7 F7 F6 S6 C6 T1 B5 HD2 hg6
  go_wp2_with (first | (go_at_call 21; refine HMN.out.mono ?_; rintro e w8 ⟨rfl, hw8⟩; subst hw8))
  go_ret
  exact ⟨by simp, HE.out⟩

end Go.Proofs.Ytifddbfcongepaa
