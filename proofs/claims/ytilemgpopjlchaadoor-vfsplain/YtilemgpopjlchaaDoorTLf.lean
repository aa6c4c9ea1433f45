/-
  The program's clean names: names that are ranged over, kept in a box.
-/
import Derived.Test.YtilemgpopjlchaaDoorTWl
namespace Go.Proofs.YtilemgpopjlchaaDoor
open Go.RowKit Go.Shelf

attribute [local go_sem] Oper.semAt_some

/-- a row of one's own, cut from above. -/
theorem own_cut {w : World} {base n m c : Nat} {e : TypeId} {p : Option Addr} {xs : List Value} (h : w.ownsRow base e 1 (.slice p n c) n xs) (hm : m ≤ n) (hn : 0 < n) :
    ∃ g, p = some ⟨g, 0, none⟩ ∧ n ≤ c ∧ w.ownsRow base e 1 (.slice (some ⟨g, 0, none⟩) m c) m (xs.take m) := by
  rcases h.2 with ⟨e', h0⟩ | ⟨g, cap, cur, e', h1, h2, h3, h4, h5, h6⟩
  · omega
  · cases e'
    refine ⟨g, rfl, h3, ⟨by rw [List.length_take, h.1]; omega, .inr ⟨g, c, cur, rfl, h1, h2, by omega, h4, h5, ?_⟩⟩⟩
    rw [← h6, List.take_take]
    congr 1
    omega
theorem KeepC.trans {c : Nat} {s : ByteArray} {A B C : World} (h : KeepC c s A B) (k : KeepC c s B C) : KeepC c s A C := fun x => k (h x)
theorem KeepC.b {c : Nat} {s : ByteArray} (W : World) (l : Nat) (o o' : Obj) (h : W.heap[l]? = some o) (hc : o.isCells = false) : KeepC c s W (W.putObj l o') := fun x =>
  cell_kept x (grownBy_putObj' W l o') (fun r e => by cases e; exact ⟨o, h, hc⟩)
theorem KeepC.below {c : Nat} {s : ByteArray} {A B : World} {n : Nat} (h : Below n A B) (hc : c < n) : KeepC c s A B := fun x => (h.cell (p := ⟨c, 0, none⟩) hc).trans x
theorem KeepC.grown {c : Nat} {s : ByteArray} {A B : World} {row : Option Nat} (h : A.grownBy B row) (hc : some c ≠ row) : KeepC c s A B := fun x => by
  rw [World.cell?_of_block (h.block c (World.block_lt_of_cell? A _ x) hc)]
  exact x
theorem KeepC.box {c b : Nat} {s : ByteArray} {A : World} {v : Value} (hb : c ≠ b) : KeepC c s A (A.setCell ⟨b, 0, none⟩ v) := fun x => by
  rw [World.cell?_of_block (heap_setCell_other A ⟨b, 0, none⟩ c v (fun e => hb e))]
  exact x

/-- what is left so far lies in the box. -/
def LfJ (w : World) (b base : Nat) (pre : List (List UInt8)) (X : World) : Prop :=
  (∃ v, Boxed X b 52 v ∧ X.ownsRow base 9 1 v (pre.foldl stepL []).length (cellsT (pre.foldl stepL [])) ∧ True) ∧ Below w.heap.size w X ∧ base ≤ X.heap.size
theorem LfJ.own (w : World) (b base B : Nat) (hB : w.heap.size ≤ B) : OwnFrom B (LfJ w b base) :=
  OwnFrom.and (Own.from (holdsRow_own base b 52 9 1 (fun pre : List (List UInt8) => (pre.foldl stepL []).length) (fun pre : List (List UInt8) => cellsT (pre.foldl stepL [])) (fun _ _ => True)) B) fun _ _ _ _ hs hg hr => ⟨hs.1.grown hg hs.1.size (fun j e => Nat.le_trans hB (hr j e).1), Nat.le_trans hs.2 hg.size⟩

set_option maxRecDepth 100000 in
set_option maxHeartbeats 16000000 in
theorem tleft_in (s : ByteArray) (w : World) (hs : s.size ≤ 5000) : CallsIn Fence.wide 3 Tryd.prog 33 #[.string s] w fun e w' => RowR w (leftP (lst s)) e w' := by
  have HS : Hid (s.size ≤ 5000) := hs
  have HG : Hid (Boxed (w.alloc (.cells #[.slice none 0 0] 52)) w.heap.size 52 (.slice none 0 0)) := Boxed.new w _ _
  have HC : Hid (Boxed ((w.alloc (.cells #[.slice none 0 0] 52)).alloc (.cells #[.string s] 9)) (w.heap.size + 1) 9 (.string s)) := by
    have := Boxed.new (w.alloc (.cells #[.slice none 0 0] 52)) 9 (.string s)
    rw [World.size_alloc] at this
    exact this
  have HG2 : Hid (Boxed ((w.alloc (.cells #[.slice none 0 0] 52)).alloc (.cells #[.string s] 9)) w.heap.size 52 (.slice none 0 0)) := HG.out.alloc _
  have HB2 : Hid (Below w.heap.size w ((w.alloc (.cells #[.slice none 0 0] 52)).alloc (.cells #[.string s] 9)) ∧ ((w.alloc (.cells #[.slice none 0 0] 52)).alloc (.cells #[.string s] 9)).heap.size = w.heap.size + 2) := ⟨(below_new w _).alloc (below_new w _).size _, by rw [World.size_alloc, World.size_alloc]⟩
  have HL : Hid ((namesP (lst s)).length ≤ 5000) := by
    have h1 := names_len (lst s)
    have h2 := len_joinF (namesP (lst s))
    rw [lst_length] at h1
    show _ ≤ _
    omega
  refine callsIn_of_wp_marks Tryd.func33 rfl trivial ?_ rfl
  simp only [Tryd.ntmps33, List.size_toArray, List.length_cons, List.length_nil, Nat.reduceAdd, Nat.reduceSub, Array.replicate_succ, Array.replicate_zero, List.push_toArray, List.append_toArray, List.nil_append, List.cons_append]
  gi_wp2_with fail
  refine ⟨trivial, (names_in s _ _).mono ?_⟩
  rintro e w2 ⟨rfl, hw2⟩
  rw [World.size_alloc]
  rw [← hw2] at HC HG2 HB2
  clear hw2
  gi_wp2_with fail
  refine' wpIn_rangeFunc_ownG (F := Fence.wide) rfl (by decide) (gf := 34) (lb := #[.pointer (some ⟨w.heap.size + 1, 0, none⟩)]) rfl trivial (enters_of Tryd.func34 (by kernel_rfl) rfl) (names_stops s HS.out (w.heap.size + 1) w2 HC.out.cell) KeepC.trans (fun W l o o' _ h hc _ => KeepC.b W l o o' h hc) (Below.refl _ _) (fun _ => rfl)
    (LfJ w w.heap.size w2.heap.size) (fun _ _ _ => False) (LfJ.own w _ _ _ HB2.out.1.size) (fun _ _ _ _ _ h _ _ => h) ⟨⟨_, HG2.out, ⟨rfl, .inl ⟨rfl, rfl⟩⟩, trivial⟩, HB2.out.1, Nat.le_refl _⟩ _ ?assign ?body ?done ?stop
  case assign =>
    intro l' x W K hK
    simp only [encT]
    gi_wp2
    exact hK
  case body =>
    rintro l' pre x W ⟨⟨v, hv, hrow, -⟩, hbw, hsz⟩ hlt
    obtain ⟨p, c, rfl⟩ := row_form hrow
    obtain ⟨O, hO⟩ : ∃ O, pre.foldl stepL [] = O := ⟨_, rfl⟩
    rw [hO] at hrow hv
    have HO2 : Hid ((pre ++ [x]).foldl stepL [] = stepL O x) := by show _ = _; rw [List.foldl_append, hO]; rfl
    have HI : Hid (Boxed W w.heap.size 52 (.slice p O.length c) ∧ W.ownsRow w2.heap.size 9 1 (.slice p O.length c) O.length (cellsT O) ∧ Below w.heap.size w W ∧ w2.heap.size ≤ W.heap.size) := ⟨hv, hrow, hbw, hsz⟩
    have HOL : Hid (O.length ≤ 5000) := by
      have h1 := left_len pre []
      have h2 := HL.out
      rw [hO] at h1
      simp at h1
      show O.length ≤ _
      omega
    have HNC : Hid (∀ g, (Value.slice p O.length c).ownBlock = some g → w.heap.size + 1 ≠ g) := fun g hg => by
      have h1 := owns_block hrow g hg
      have h2 := HB2.out.2
      omega
    have cv := hv.cell
    have fv := hv.frozen
    clear hv hrow hbw hsz hlt hO
    by_cases hx : x = [46, 46]
    · have hcm : ((bar x).toList == [46, 46]) = true := by rw [toList_bar, hx]; rfl
      have HS2 : Hid (stepL O x = O.dropLast) := if_pos hx
      clear hx
      by_cases h0 : O.length = 0
      · have HS3 : Hid (stepL O x = O) := by
          show _ = _
          rw [HS2.out, List.eq_nil_of_length_eq_zero h0]
          rfl
        have HWL : Hid (∀ (V : World) (m : Nat), CallsIn (Fence.wide.inRound l') m Tryd.prog 51 #[.slice p 0 c] V fun e w' => e = .returned (.slice p 0 c) ∧ w' = V) := by
          intro V m
          rcases HI.out.2.1.2 with ⟨e, _⟩ | ⟨g, cap, cur, e, _⟩
          · injection e with e1 e2 e3
            subst e1 e3
            exact CallsIn.inRound _ (callsIn_wide.2 (twol_none V))
          · injection e with e1 e2 e3
            subst e1
            exact CallsIn.inRound _ (callsIn_wide.2 (twol_empty g c V))
        have hrow0 := HI.out.2.1
        rw [h0] at hrow0 cv
        have HZ : Hid (O.length = 0 ∧ W.ownsRow w2.heap.size 9 1 (.slice p 0 c) 0 (cellsT O)) := ⟨h0, hrow0⟩
        clear h0 hrow0
        gi_wp2_with fail
        refine ⟨trivial, (HWL.out _ _).mono ?_⟩
        rintro e w3 ⟨rfl, hw3⟩; subst w3
        gi_wp2_with fail
        have hrow2 := HZ.out.2.kept (grownBy_setCell' W w.heap.size (.slice p 0 c)) (.inr (HI.out.1.not_row (by decide) HZ.out.2).symm)
        refine ⟨(KeepsOthers.setCell _ _ _).from _, KeepC.box (by omega), ⟨_, HI.out.1.set _, ?_, trivial⟩, HI.out.2.2.1.trans (below_set' (Nat.le_refl _)), by simp; exact HI.out.2.2.2⟩
        rw [HO2.out, HS3.out, HZ.out.1]
        exact hrow2
      · obtain ⟨m, hm⟩ : ∃ m, O.length = m + 1 := ⟨O.length - 1, by omega⟩
        obtain ⟨g, hp, hnc, hcut⟩ := own_cut HI.out.2.1 (m := m) (by omega) (by omega)
        subst hp
        have e1 : (cellsT O).take m = cellsT O.dropLast := by
          unfold cellsT
          rw [← List.map_take, List.dropLast_eq_take, hm]
          rfl
        rw [e1] at hcut
        have HCT : Hid (W.ownsRow w2.heap.size 9 1 (.slice (some ⟨g, 0, none⟩) m c) m (cellsT O.dropLast) ∧ O.dropLast.length = m) := ⟨hcut, by rw [List.length_dropLast]; omega⟩
        obtain ⟨k, hk⟩ : ∃ k, O.length = k := ⟨_, rfl⟩
        have hk0 : m + 1 = k := by omega
        have HWL : Hid (∀ (V : World) (q : Nat), CallsIn (Fence.wide.inRound l') q Tryd.prog 51 #[.slice (some ⟨g, 0, none⟩) k c] V fun e w' => e = .returned (.slice (some ⟨g, 0, none⟩) m c) ∧ w' = V) := by
          intro V q
          have h := twol_some g m c V (by omega) (by have := HOL.out; omega)
          rw [hk0] at h
          exact CallsIn.inRound _ (callsIn_wide.2 h)
        rw [hk] at cv
        clear h0 hcut e1 hm hk0 hk hnc
        gi_wp2_with fail
        refine ⟨trivial, (HWL.out _ _).mono ?_⟩
        rintro e w3 ⟨rfl, hw3⟩; subst w3
        gi_wp2_with fail
        have hrow2 := HCT.out.1.kept (grownBy_setCell' W w.heap.size (.slice (some ⟨g, 0, none⟩) m c)) (.inr (HI.out.1.not_row (by decide) HCT.out.1).symm)
        refine ⟨(KeepsOthers.setCell _ _ _).from _, KeepC.box (by omega), ⟨_, HI.out.1.set _, ?_, trivial⟩, HI.out.2.2.1.trans (below_set' (Nat.le_refl _)), by simp; exact HI.out.2.2.2⟩
        rw [HO2.out, HS2.out, HCT.out.2]
        exact hrow2
    · have hcm : ((bar x).toList == [46, 46]) = false := by rw [toList_bar]; exact beq_eq_false_iff_ne.2 hx
      have HS2 : Hid (stepL O x = O ++ [x]) := if_neg hx
      clear hx
      obtain ⟨i0, hi, hz0, hz1, hz2⟩ := info_parts ety_s.info
      have hol := HOL.out
      have hal := HI.out.2.1.alloc (.cells #[.string (bar x)] 9)
      have hsz : w2.heap.size ≤ (W.alloc (.cells #[.string (bar x)] 9)).heap.size := Nat.le_trans HI.out.2.2.2 (below_new W _).size
      gi_wp2_with (first
        | (gi_at_builtin; refine wpListIn_append_own _ rfl _ _ 52 rfl w2.heap.size 9 i0 (.string ⟨#[]⟩) 1 16 ety_s.ht hi hz0 hz1 hz2 rfl (by decide) _ _ _ rfl hal ⟨W.heap.size, 0, none⟩ 1 1 [.string (bar x)] rfl rfl (cell_one_new _ _ _) (by intro u hu; rw [List.mem_singleton.1 hu]; rfl) (by unfold maxLen; omega) (by omega) hsz ?_; intro v' w5 hown' hg5 hnil5; clear hnil5; obtain ⟨p5, c5, hv5⟩ := row_form hown'; subst hv5; obtain ⟨hv1, hv2, _, hk2, hb2⟩ := Boxed.appended HI.out.1 (by decide) (owns_lower HI.out.2.1 (Nat.le_trans (by omega) HB2.out.1.size)) HI.out.2.2.1.size (Nat.le_refl _) (owns_lower hown' (Nat.le_trans (by omega) HB2.out.1.size)) hg5; have hc1 := hv1.cell; have hf1 := hv1.frozen)
        | gi_in)
      have e1 : cellsT O ++ [.string (bar x)] = cellsT (O ++ [x]) := by rw [cellsT_app]; rfl
      rw [e1] at hown'
      have hrow2 := hown'.kept (grownBy_setCell' w5 w.heap.size (.slice p5 (O.length + 1) c5)) (.inr (hv1.not_row (by decide) hown').symm)
      have hkc : KeepC (w.heap.size + 1) s W w5 := (KeepC.below (below_new W _) (by have := HB2.out.2; have := HI.out.2.2.2; omega)).trans (KeepC.grown hg5 fun e => HNC.out _ e.symm rfl)
      refine ⟨hk2.from _, hkc.trans (KeepC.box (by omega)), ⟨_, hv2, ?_, trivial⟩, HI.out.2.2.1.trans hb2, by have h1 := hg5.size; simp at h1 ⊢; have := HI.out.2.2.2; omega⟩
      rw [HO2.out, HS2.out, List.length_append]
      exact hrow2
  case done =>
    rintro D ys W hD rfl ⟨⟨v, hv, hrow, -⟩, hbw, hsz⟩ hK
    have HI : Hid (Boxed W w.heap.size 52 v ∧ W.ownsRow w2.heap.size 9 1 v (leftP (lst s)).length (cellsT (leftP (lst s))) ∧ Below w.heap.size w W) := ⟨hv, hrow, hbw⟩
    obtain ⟨p, c, rfl⟩ := row_form hrow
    have cv := hv.cell
    have hDD : w.heap.size ≤ D := Nat.le_trans HB2.out.1.size hD
    have hend := HI.out.2.2.trans (belowK_b (w := w) (Nat.le_refl _) _ D _ (.deferred none) hDD hK rfl rfl)
    have hro : (W.putObj D (.deferred none)).ownsRow w.heap.size 9 1 (.slice p (leftP (lst s)).length c) (leftP (lst s)).length (cellsT (leftP (lst s))) := owns_lower (HI.out.2.1.kept (grownBy_putObj' W D (.deferred none)) (by
      rcases HI.out.2.1.2 with ⟨e, _⟩ | ⟨g, cap, cur, e, _, hgb, _⟩
      · exact .inl (by rw [e]; rfl)
      · refine .inr ?_
        rw [e]
        intro e2
        have e3 : g = D := Option.some.inj e2
        rw [e3, hK] at hgb
        cases hgb)) HB2.out.1.size
    clear hv hrow hbw hsz
    gi_wp2
    refine ⟨by simp, .inl ⟨_, _, rfl, run_takeDeferred hK, ?_⟩⟩
    exact ⟨_, results_tmp (show Tryd.f33.results = #[.tmp 2] from rfl) _ _ _, _, rfl, hro, hend⟩
  case stop =>
    rintro D c pre W _ _ h _
    exact h.elim

theorem tleft_any (s : ByteArray) (w : World) (hs : s.size ≤ 5000) : Calls Tryd.prog 33 #[.string s] w fun e w' => RowR w (leftP (lst s)) e w' := callsIn_wide.1 (tleft_in s w hs)

end Go.Proofs.YtilemgpopjlchaaDoor
