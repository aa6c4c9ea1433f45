/-
  The library's AppendSeq and Collect of texts: names that are ranged over, kept in a box.
-/
import Derived.Test.YtilemgpopjlchaaDoorDPt
import Derived.Test.YtilemgpopjlchaaDoorDMem
import Derived.Test.YtilemgpopjlchaaDoorPIfc
namespace Go.Proofs.YtilemgpopjlchaaDoor
open Go.RowKit Go.Shelf

attribute [local go_sem] Oper.semAt_some

/-- what has come so far lies in the box. -/
def AsJ (w : World) (b base : Nat) (pre : List (List UInt8)) (X : World) : Prop :=
  (∃ v, Boxed X b 52 v ∧ X.ownsRow base 9 1 v pre.length (cellsT pre) ∧ True) ∧ Below w.heap.size w X ∧ base ≤ X.heap.size
theorem AsJ.own (w : World) (b base B : Nat) (hB : w.heap.size ≤ B) : OwnFrom B (AsJ w b base) :=
  OwnFrom.and (Own.from (holdsRow_own base b 52 9 1 (fun pre : List (List UInt8) => pre.length) (fun pre : List (List UInt8) => cellsT pre) (fun _ _ => True)) B) fun _ _ _ _ hs hg hr => ⟨hs.1.grown hg hs.1.size (fun j e => Nat.le_trans hB (hr j e).1), Nat.le_trans hs.2 hg.size⟩

set_option maxRecDepth 100000 in
set_option maxHeartbeats 16000000 in
theorem tappseq_in (gf : Nat) (lb : Array Value) (l : Nm) (w : World) (hsq : SeqN w l gf lb) (hlen : (namesP l).length ≤ 5000) : CallsIn Fence.wide 3 Tryd.prog 47 #[.slice none 0 0, .func (.func gf) #[] lb] w fun e w' => ∃ v, e = .returned v ∧ TxN w' v (namesP l) ∧ Below w.heap.size w w' := by
  have HL : Hid ((namesP l).length ≤ 5000) := hlen
  have HB2 : Hid (Below w.heap.size w (w.alloc (.cells #[.slice none 0 0] 52)) ∧ (w.alloc (.cells #[.slice none 0 0] 52)).heap.size = w.heap.size + 1) := ⟨below_new w _, World.size_alloc ..⟩
  have HG2 : Hid (Boxed (w.alloc (.cells #[.slice none 0 0] 52)) w.heap.size 52 (.slice none 0 0)) := Boxed.new w _ _
  clear hlen
  refine callsIn_of_wp_marks Tryd.func47 rfl trivial ?_ rfl
  simp only [Tryd.ntmps47, List.size_toArray, List.length_cons, List.length_nil, Nat.reduceAdd, Nat.reduceSub, Array.replicate_succ, Array.replicate_zero, List.push_toArray, List.append_toArray, List.nil_append, List.cons_append]
  gi_wp2_with fail
  generalize hw2 : (w.alloc (.cells #[.slice none 0 0] 52)) = w2 at *
  clear hw2
  refine' wpIn_rangeFunc_ownG (F := Fence.wide) rfl (by decide) (gf := gf) (lb := lb) rfl trivial hsq.ent hsq.stops belowK_t (belowK_b HB2.out.1.size) HB2.out.1 (fun _ => rfl)
    (AsJ w w.heap.size w2.heap.size) (fun _ _ _ => False) (AsJ.own w _ _ _ HB2.out.1.size) (fun _ _ _ _ _ h _ _ => h) ⟨⟨_, HG2.out, ⟨rfl, .inl ⟨rfl, rfl⟩⟩, trivial⟩, HB2.out.1, Nat.le_refl _⟩ _ ?assign ?body ?done ?stop
  case assign =>
    intro l' x W K hK
    simp only [encT]
    gi_wp2
    exact hK
  case body =>
    rintro l' O x W ⟨⟨v, hv, hrow, -⟩, hbw, hsz⟩ hlt
    obtain ⟨p, c, rfl⟩ := row_form hrow
    have HI : Hid (Boxed W w.heap.size 52 (.slice p O.length c) ∧ W.ownsRow w2.heap.size 9 1 (.slice p O.length c) O.length (cellsT O) ∧ Below w.heap.size w W ∧ w2.heap.size ≤ W.heap.size) := ⟨hv, hrow, hbw, hsz⟩
    have hol : O.length ≤ 5000 := by have := HL.out; omega
    have cv := hv.cell
    have fv := hv.frozen
    clear hv hrow hbw hsz hlt
    obtain ⟨i0, hi, hz0, hz1, hz2⟩ := info_parts ety_s.info
    have hal := HI.out.2.1.alloc (.cells #[.string (bar x)] 9)
    have hsz : w2.heap.size ≤ (W.alloc (.cells #[.string (bar x)] 9)).heap.size := Nat.le_trans HI.out.2.2.2 (below_new W _).size
    gi_wp2_with (first
      | (gi_at_builtin; refine wpListIn_append_own _ rfl _ _ 52 rfl w2.heap.size 9 i0 (.string ⟨#[]⟩) 1 16 ety_s.ht hi hz0 hz1 hz2 rfl (by decide) _ _ _ rfl hal ⟨W.heap.size, 0, none⟩ 1 1 [.string (bar x)] rfl rfl (cell_one_new _ _ _) (by intro u hu; rw [List.mem_singleton.1 hu]; rfl) (by unfold maxLen; omega) (by omega) hsz ?_; intro v' w5 hown' hg5 hnil5; clear hnil5; obtain ⟨p5, c5, hv5⟩ := row_form hown'; subst hv5; obtain ⟨hv1, hv2, _, hk2, hb2⟩ := Boxed.appended HI.out.1 (by decide) (owns_lower HI.out.2.1 (Nat.le_trans (by omega) HB2.out.1.size)) HI.out.2.2.1.size (Nat.le_refl _) (owns_lower hown' (Nat.le_trans (by omega) HB2.out.1.size)) hg5; have hc1 := hv1.cell; have hf1 := hv1.frozen)
      | gi_in)
    have e1 : cellsT O ++ [.string (bar x)] = cellsT (O ++ [x]) := by rw [cellsT_app]; rfl
    rw [e1] at hown'
    have hrow2 := hown'.kept (grownBy_setCell' w5 w.heap.size (.slice p5 (O.length + 1) c5)) (.inr (hv1.not_row (by decide) hown').symm)
    refine ⟨hk2.from _, hb2, ⟨_, hv2, ?_, trivial⟩, HI.out.2.2.1.trans hb2, by have h1 := hg5.size; simp at h1 ⊢; have := HI.out.2.2.2; omega⟩
    rw [List.length_append]
    exact hrow2
  case done =>
    rintro D ys W hD rfl ⟨⟨v, hv, hrow, -⟩, hbw, hsz⟩ hK
    have HI : Hid (Boxed W w.heap.size 52 v ∧ W.ownsRow w2.heap.size 9 1 v (namesP l).length (cellsT (namesP l)) ∧ Below w.heap.size w W) := ⟨hv, hrow, hbw⟩
    obtain ⟨p, c, rfl⟩ := row_form hrow
    have cv := hv.cell
    have hDD : w.heap.size ≤ D := Nat.le_trans HB2.out.1.size hD
    have hend := HI.out.2.2.trans (belowK_b (w := w) (Nat.le_refl _) _ D _ (.deferred none) hDD hK rfl rfl)
    have hro : (W.putObj D (.deferred none)).ownsRow w.heap.size 9 1 (.slice p (namesP l).length c) (namesP l).length (cellsT (namesP l)) := owns_lower (HI.out.2.1.kept (grownBy_putObj' W D (.deferred none)) (by
      rcases HI.out.2.1.2 with ⟨e, _⟩ | ⟨g, cap, cur, e, _, hgb, _⟩
      · exact .inl (by rw [e]; rfl)
      · refine .inr ?_
        rw [e]
        intro e2
        have e3 : g = D := Option.some.inj e2
        rw [e3, hK] at hgb
        cases hgb)) HB2.out.1.size
    clear hv hrow hbw hsz
    gi_wp2
    refine ⟨by simp, .inl ⟨_, _, rfl, run_takeDeferred hK, ?_⟩⟩
    exact ⟨_, results_tmp (show Tryd.f47.results = #[.tmp 4] from rfl) _ _ _, _, rfl, tx_own hro, hend⟩
  case stop =>
    rintro D c pre W _ _ h _
    exact h.elim

set_option maxHeartbeats 4000000 in
theorem tcollect_any (gf : Nat) (lb : Array Value) (l : Nm) (w : World) (hsq : SeqN w l gf lb) (hlen : (namesP l).length ≤ 5000) : Calls Tryd.prog 28 #[.func (.func gf) #[] lb] w fun e w' => ∃ v, e = .returned v ∧ TxN w' v (namesP l) ∧ Below w.heap.size w w' := by
  have HA : Hid (Calls Tryd.prog 47 #[.slice none 0 0, .func (.func gf) #[] lb] w fun e w' => ∃ v, e = .returned v ∧ TxN w' v (namesP l) ∧ Below w.heap.size w w') := callsIn_wide.1 (tappseq_in gf lb l w hsq hlen)
  clear hsq hlen
  go_enter Tryd.func28, Tryd.ntmps28
  go_wp2_with fail
  refine HA.out.mono ?_
  rintro e w2 ⟨v, rfl, h1, h2⟩
  have H2 : Hid (TxN w2 v (namesP l) ∧ Below w.heap.size w w2) := ⟨h1, h2⟩
  clear h1 h2
  go_wp2_with fail
  go_ret
  exact ⟨_, rfl, H2.out.1, H2.out.2⟩

end Go.Proofs.YtilemgpopjlchaaDoor
