/-
  The program's table, as it lies: a box of five cells, and a map; what a call leaves.
-/
import Derived.Test.YtlckconhhhllkaaMapL
import Derived.Test.YtlckconhhhllkaaRSend
import Derived.Test.YtlckconhhhllkaaIfc
import Derived.Test.YtlckconhhhllkaaMath4
import Derived.BigRegion
namespace Go.Proofs.Ytlckconhhhllkaa
open Go.RowKit Go.Maps

/-- a table as it lies. -/
structure TaV (w : World) (b B : Nat) (s : Nt) : Prop where
  blk : Blk w b 62 [.int .i64 s.size, .int .i64 s.wait, .int .u64 s.next, .int .u64 s.ep, .map (some B)]
  m : MpE w B s.L
  ne : b ≠ B
theorem TaV.over {w w' : World} {b B : Nat} {s : Nt} (h : TaV w b B s) (hb : Below w.heap.size w w') : TaV w' b B s := ⟨h.blk.over hb, h.m.over hb, h.ne⟩
theorem TaV.fr {K X : List Nat} {C : Nat} {w w' : World} {b B : Nat} {s : Nt} (h : TaV w b B s) (hs : Fr K X C w w') (ht : 62 ∉ K) (hb : b ∉ X) (hB : B ∉ X) : TaV w' b B s := ⟨h.blk.fr hs ht hb, h.m.fr hs hB, h.ne⟩
/-- what a call leaves: nothing that was there has turned but the box and the map. -/
structure Rs (w w' : World) (b B : Nat) (s : Nt) : Prop where
  ta : TaV w' b B s
  fr : Fr [] [b, B] 0 w w'
theorem Rs.below {w w' : World} {b B : Nat} {s : Nt} (h : TaV w b B s) (hb : Below w.heap.size w w') : Rs w w' b B s := ⟨h.over hb, fr_below hb (Nat.zero_le _)⟩
theorem fr_turn {w w' : World} {B : Nat} {X : List Nat} (h : w.grownBy w' (some B)) (hX : B ∈ X) : Fr [] X 0 w w' := fr_grown h (Nat.zero_le _) (Nat.zero_le _) hX
theorem ranges_but {X : List Nat} {K : List Nat} {C : Nat} {w w' : World} {B r n cnt : Nat} {D : De} {left : Lit → Bool} (h : w.ranges Try.prog 23 readE B r n D left cnt) (hs : Fr K X C w w') (hB : B ∉ X) (hr : r ∉ X) : w'.ranges Try.prog 23 readE B r n D left cnt := by
  obtain ⟨es, clock, since, seen, c0, h1, h2, h3, h4, h5, h6⟩ := h
  exact ⟨es, clock, since, seen, c0, hs.blk B _ h1 (fun _ _ _ e => by cases e) hB, h2, h3, h4, hs.blk r _ h5 (fun _ _ _ e => by cases e) hr, h6⟩

/-- the interface's: a table of the law's own. -/
def TaF (w W : World) (p : Nat) (s : Nt) : Prop := ∃ B, TaV W p B s ∧ Ok s ∧ w.heap.size ≤ p ∧ w.heap.size ≤ B ∧ Below w.heap.size w W
theorem tld {w W w' : World} {p B : Nat} {s s' : Nt} {v : Value} {e : Ending} (h : TaV W p B s) (hp : w.heap.size ≤ p) (hB : w.heap.size ≤ B) (hW : Below w.heap.size w W) (he : e = .returned v) (hr : Rs W w' p B s') (ho : Ok s') : Tld TaF w W p s' v e w' := by
  have hf := fr_lift (C := w.heap.size) hr.fr (fun x hx => by simp at hx; rcases hx with rfl | rfl <;> assumption) hW.size
  refine ⟨he, ⟨B, hr.ta, ho, hp, hB, hW.trans hf.bel⟩, ⟨hf.bel, fun k cs t fr hk ht => hf.blk k _ hk (fun _ _ _ _ => by simp) fun hm => ?_⟩⟩
  simp at hm
  rcases hm with rfl | rfl
  · have := h.blk
    unfold Blk at this
    rw [this] at hk
    cases hk
    exact ht (by simp)
  · obtain ⟨D, ⟨es, c, h1, _⟩, _⟩ := h.m
    rw [h1] at hk
    cases hk

theorem waits_any (x : En) (w : World) : Calls Try.prog 36 #[x.v] w fun e w' => e = .returned (.bool x.waits) ∧ Below w.heap.size w w' := by
  obtain ⟨a, b, c, d, k, v⟩ := x
  have HB : Hid (Below w.heap.size w (w.alloc (.cells #[.int .u64 a, .int .i64 b, .int .i64 c, .int .i64 d, .int .i64 k, .int .i64 v] 44))) := below_new w _
  unfold En.v En.waits
  dsimp only
  by_cases h1 : c = 1
  · have r1 : (c == 1) = true := by simp [h1]
    rw [r1]
    clear h1
    go_enter Try.func36, Try.ntmps36
    go_wp2_with fail
    go_ret
    exact ⟨rfl, HB.out⟩
  · have r1 : (c == 1) = false := by simp [h1]
    rw [r1]
    clear h1
    obtain ⟨q, hq⟩ : ∃ q, (c == 2) = q := ⟨_, rfl⟩
    rw [hq]
    go_enter Try.func36, Try.ntmps36
    go_wp2_with fail
    go_ret
    exact ⟨rfl, HB.out⟩

/-- the one of a task. -/
def ofO (L : List En) (t : Int) : Option En := L.find? fun x => x.ta == t
theorem ofO_none {L : List En} {t : Int} (h : ∀ x ∈ L, x.ta ≠ t) : ofO L t = none := List.find?_eq_none.2 fun x hx => by simpa using h x hx
theorem ofO_some {L : List En} {t : Int} (h : L.Pairwise fun x y => x.ta ≠ y.ta) {x : En} (hx : x ∈ L) (ht : x.ta = t) : ofO L t = some x := by
  induction L with
  | nil => cases hx
  | cons y L ih =>
    have hp := List.pairwise_cons.1 h
    unfold ofO
    rcases List.mem_cons.1 hx with rfl | hx
    · rw [List.find?_cons_of_pos (by simpa using ht)]
    · rw [List.find?_cons_of_neg (by have := hp.1 x hx; simp; rw [← ht]; exact this)]
      exact ih hp.2 hx

theorem same_litU (x y : Int) : (litU x).sameKey (litU y) = decide (x = y) := by simp [litU, Lit.sameKey]

set_option maxHeartbeats 8000000 in
theorem of_any (w : World) (b B : Nat) (s : Nt) (t : Int) (h : TaV w b B s) (ho : s.L.Pairwise fun x y => x.ta ≠ y.ta) (hu : s.L.Pairwise fun x y => x.id < y.id) :
    Calls Try.prog 35 #[.pointer (some ⟨b, 0, none⟩), .int .i64 t] w fun e w' => e = .returned (optV (ofO s.L t)) ∧ Below w.heap.size w w' := by
  have HR : Hid (TaV (w.alloc (.cells #[.int .u64 0, .int .i64 0, .int .i64 0, .int .i64 0, .int .i64 0, .int .i64 0] 44)) b B s ∧ Below w.heap.size w (w.alloc (.cells #[.int .u64 0, .int .i64 0, .int .i64 0, .int .i64 0, .int .i64 0, .int .i64 0] 44))) := ⟨h.over (below_new w _), below_new w _⟩
  have HBE : Hid (Blk (w.alloc (.cells #[.int .u64 0, .int .i64 0, .int .i64 0, .int .i64 0, .int .i64 0, .int .i64 0] 44)) w.heap.size 44 [.int .u64 0, .int .i64 0, .int .i64 0, .int .i64 0, .int .i64 0, .int .i64 0]) := blk_new w _ _
  have HO : Hid ((s.L.Pairwise fun x y => x.ta ≠ y.ta) ∧ s.L.Pairwise fun x y => x.id < y.id) := ⟨ho, hu⟩
  clear h ho hu
  go_enter Try.func35, Try.ntmps35
  go_upto_region 1 with fail
  obtain ⟨be, hbe⟩ : ∃ k, w.heap.size = k := ⟨_, rfl⟩
  rw [hbe] at HBE ⊢
  have HE : Hid (w.heap.size = be) := hbe
  clear hbe
  generalize (w.alloc (.cells #[.int .u64 0, .int .i64 0, .int .i64 0, .int .i64 0, .int .i64 0, .int .i64 0] 44)) = w1 at *
  have c4 := HR.out.1.blk.cell 4
  go_wp2_with (first | (at_range; refine list_rangeE rfl _ rfl rfl HR.out.1.m ?_; intro D w2 hv0 hrg0 hg0 hs0) | go_in)
  go_frame
  clear c4
  obtain ⟨r, hr⟩ : ∃ k, w1.heap.size = k := ⟨_, rfl⟩
  rw [hr] at hrg0 hs0 ⊢
  have HV : Hid (VwE D s.L) := hv0
  have HBEr : Hid (be < r ∧ w1.heap.size = r) := ⟨by rw [← hr]; exact HBE.out.lt, hr⟩
  have HW2 : Hid (Below r w1 w2) := by rw [← hr]; exact (Below.refl _ _).grown hg0 (Nat.le_refl _) (fun _ e => by cases e)
  clear hv0 hr hg0 hs0
  go_loopw [7] (fun _ wr => ∃ left cnt, wr.ranges Try.prog 23 readE B r s.L.length D left cnt ∧ (∀ x ∈ s.L, left (litU x.id) = false → x.ta ≠ t) ∧ Below r w1 wr) (fun _ wr => wr.rangeLeft B r)
  case atStart => exact ⟨_, _, hrg0, fun x hx e => (by rw [(HV.out.has x.id).2 ⟨x, hx, rfl⟩] at e; cases e), HW2.out⟩
  case round =>
    obtain ⟨left, cnt, hrg, hno, hb1⟩ := hrel
    have HNO : Hid (∀ x ∈ s.L, left (litU x.id) = false → x.ta ≠ t) := hno
    have HB1 : Hid (Below r w1 wr) := hb1
    have HM : Hid (wr.rangeLeft B r = cnt) := hrg.left_eq
    clear hno hb1 hrg0
    go_wp2_with (first | (at_next; refine list_nextE rfl _ rfl rfl hrg HV.out ?_ ?_) | go_in)
    · intro hc0 hl0
      have HN : Hid (ofO s.L t = none) := ofO_none fun x hx => HNO.out x hx (hl0 _)
      have HBw : Hid (Blk wr be 44 [.int .u64 0, .int .i64 0, .int .i64 0, .int .i64 0, .int .i64 0, .int .i64 0]) := HBE.out.below HB1.out HBEr.out.1
      have k0 := HBw.out.cell 0
      have k1 := HBw.out.cell 1
      have k2 := HBw.out.cell 2
      have k3 := HBw.out.cell 3
      have k4 := HBw.out.cell 4
      have k5 := HBw.out.cell 5
      have f0 := HBw.out.f 0
      have f1 := HBw.out.f 1
      have f2 := HBw.out.f 2
      have f3 := HBw.out.f 3
      have f4 := HBw.out.f 4
      have f5 := HBw.out.f 5
      clear hrg hc0 hl0
      go_wp2_with fail
      have HP : Blk (put6 wr be En.zero) be 44 En.zero.cells := put6_blk (y := En.zero) HBw.out
      refine bodyPost_ret (v := optV none) (res_en Try.results35 _ _ be En.zero false rfl HP rfl) rfl ?_
      refine ⟨by rw [HN.out], ?_⟩
      have h1 := (put6_fr (x := En.zero) (y := En.zero) HBw.out (Nat.le_refl be)).bel
      have h2 := (HR.out.2.trans (HB1.out.mono (by have := HBEr.out; have := HE.out; omega))).trans (by rw [HE.out]; exact h1)
      exact h2
    · intro x w3 cnt3 hxL hlx hrg3 hlt hg3 hs3 hen
      have hb3 : Below r w1 w3 := HB1.out.grown hg3 (by have := HB1.out.size; have := HBEr.out.2; omega) (fun j hj => by cases hj; exact Nat.le_refl _)
      obtain ⟨q1, q2, q3, q4, q5, q6⟩ := x
      dsimp only [En.v] at hen ⊢
      have H4 : Hid (Below r w1 (w3.alloc (.cells #[.int .u64 q1, .int .i64 q2, .int .i64 q3, .int .i64 q4, .int .i64 q5, .int .i64 q6] 44)) ∧ (w3.alloc (.cells #[.int .u64 q1, .int .i64 q2, .int .i64 q3, .int .i64 q4, .int .i64 q5, .int .i64 q6] 44)).ranges Try.prog 23 readE B r s.L.length D (fun z => left z && !z.sameKey (litU q1)) cnt3 ∧ Blk (w3.alloc (.cells #[.int .u64 q1, .int .i64 q2, .int .i64 q3, .int .i64 q4, .int .i64 q5, .int .i64 q6] 44)) w3.heap.size 44 [.int .u64 q1, .int .i64 q2, .int .i64 q3, .int .i64 q4, .int .i64 q5, .int .i64 q6]) := ⟨hb3.alloc (by have := hb3.size; have := HBEr.out.2; omega) _, hrg3.alloc _, blk_new _ _ _⟩
      have HX : Hid ((⟨q1, q2, q3, q4, q5, q6⟩ : En) ∈ s.L) := hxL
      have HLT : Hid (cnt3 < cnt) := hlt
      clear hrg hxL hlx hrg3 hlt hg3 hs3 hb3
      by_cases hq2 : q2 = t
      · have hyd : (q2 == t) = true := by simp [hq2]
        have HF : Hid (ofO s.L t = some ⟨q1, q2, q3, q4, q5, q6⟩) := ofO_some HO.out.1 HX.out hq2
        clear hq2
        go_upto_region 4 with fail
        generalize (w3.alloc (.cells #[.int .u64 q1, .int .i64 q2, .int .i64 q3, .int .i64 q4, .int .i64 q5, .int .i64 q6] 44)) = w4 at *
        generalize w3.heap.size = bx at *
        have HBw : Hid (Blk w4 be 44 [.int .u64 0, .int .i64 0, .int .i64 0, .int .i64 0, .int .i64 0, .int .i64 0]) := HBE.out.below H4.out.1 HBEr.out.1
        have m0 := H4.out.2.2.cell 0
        have m1 := H4.out.2.2.cell 1
        have m2 := H4.out.2.2.cell 2
        have m3 := H4.out.2.2.cell 3
        have m4 := H4.out.2.2.cell 4
        have m5 := H4.out.2.2.cell 5
        have k0 := HBw.out.cell 0
        have k1 := HBw.out.cell 1
        have k2 := HBw.out.cell 2
        have k3 := HBw.out.cell 3
        have k4 := HBw.out.cell 4
        have k5 := HBw.out.cell 5
        have f0 := HBw.out.f 0
        have f1 := HBw.out.f 1
        have f2 := HBw.out.f 2
        have f3 := HBw.out.f 3
        have f4 := HBw.out.f 4
        have f5 := HBw.out.f 5
        go_wp2_with fail
        have HP : Blk (put6 w4 be ⟨q1, q2, q3, q4, q5, q6⟩) be 44 (⟨q1, q2, q3, q4, q5, q6⟩ : En).cells := put6_blk (y := En.zero) HBw.out
        refine bodyPost_ret (v := optV (some ⟨q1, q2, q3, q4, q5, q6⟩)) (res_en Try.results35 _ _ be ⟨q1, q2, q3, q4, q5, q6⟩ true rfl HP rfl) rfl ?_
        refine ⟨by rw [HF.out], ?_⟩
        have h1 := (put6_fr (x := ⟨q1, q2, q3, q4, q5, q6⟩) (y := En.zero) HBw.out (Nat.le_refl be)).bel
        exact (HR.out.2.trans (H4.out.1.mono (by have := HBEr.out; have := HE.out; omega))).trans (by rw [HE.out]; exact h1)
      · have hyd : (q2 == t) = false := by simp [hq2]
        have HNX : Hid (∀ x ∈ s.L, (left (litU x.id) && !(litU x.id).sameKey (litU q1)) = false → x.ta ≠ t) := fun x hx e => by
          rw [same_litU] at e
          by_cases e2 : x.id = q1
          · have e3 := findI_of HO.out.2 hx
            have e4 := findI_of HO.out.2 HX.out
            have e5 : x.id = (⟨q1, q2, q3, q4, q5, q6⟩ : En).id := e2
            rw [e5, e4] at e3
            cases e3
            exact hq2
          · simp [e2] at e
            exact HNO.out x hx e
        clear hq2
        go_wp2_with fail
        go_roundw
        case rel => exact ⟨_, cnt3, H4.out.2.1, HNX.out, H4.out.1⟩
        case measure => rw [H4.out.2.1.left_eq, HM.out]; exact HLT.out

end Go.Proofs.Ytlckconhhhllkaa
