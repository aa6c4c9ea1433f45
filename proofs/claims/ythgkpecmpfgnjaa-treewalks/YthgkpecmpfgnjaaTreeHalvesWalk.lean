/-
  The law TreeHalves, walked: true for every size.
-/
import Derived.Test.YthgkpecmpfgnjaaAwake
import Derived.OpenShut
namespace Go.Proofs.Ythgkpecmpfgnjaa
open Go.RowKit Go.Shelf

attribute [local go_sem] Oper.semAt_some

/-- of a beginning of all parts the parts of one place stand one behind the other. -/
theorem runH_pre {m : Nat} {q : List (Nat × Nat)} (h : q <+: parts 0 m) (hq : q ≠ []) : runH q (some 0) ≠ none := by
  intro e
  obtain ⟨r, hr⟩ := h
  by_cases h0 : 0 < m
  · have h1 := runH_parts h0
    rw [← hr, runH_app, e, runH_none] at h1
    cases h1
  · rw [parts_none (by omega)] at hr
    exact hq (List.append_eq_nil_iff.1 hr).1
theorem runH_all (m : Nat) : runH (parts 0 m) (some 0) = some m := by
  by_cases h0 : 0 < m
  · exact runH_parts h0
  · obtain rfl : m = 0 := by omega
    rw [parts_none (Nat.le_refl _)]
    rfl
theorem runH_snoc (q : List (Nat × Nat)) (p : Nat × Nat) (s : Option Nat) : runH (q ++ [p]) s = stepH (runH q s) p := by
  rw [runH_app]
  rfl
theorem pre_in {m : Nat} {q : List (Nat × Nat)} {p : Nat × Nat} (h : q ++ [p] <+: parts 0 m) : p.2 ≤ m := by
  have : p ∈ parts 0 m := h.subset (List.mem_append_right _ (List.mem_singleton.2 rfl))
  exact (parts_in this).2.2

theorem boxed_over {W W' : World} {B : Nat} {t : TypeId} {v : Value} (h : Boxed W B t v) (hb : Below W.heap.size W W') : Boxed W' B t v := (hb.block B h.lt).trans h

/-- what Walk hands back is a function. -/
theorem walk_nil (b : Nat) (W : World) : (binOp .eql 37 (.func (.func 24) #[] #[.pointer (some ⟨b, 0, none⟩)]) .nilFunc).run Try.prog W = .ok (.bool false) W := by kernel_rfl

set_option maxRecDepth 100000 in
set_option maxHeartbeats 4000000 in
theorem halves_far (s : Int) (w : World) (h : 3000 < s) :
    Calls Try.prog 8 #[.int .i64 s] w fun e w' => e = .returned (.bool true) ∧ Below w.heap.size w w' := by
  have k0 := Boxed.new (w.alloc (.cells #[.int .i64 s] 3)) 4 (.bool false)
  have k1 := (Boxed.new w 3 (.int .i64 s)).alloc (.cells #[.bool false] 4)
  rw [World.size_alloc] at k0
  have hb0 : Below w.heap.size w ((w.alloc (.cells #[.int .i64 s] 3)).alloc (.cells #[.bool false] 4)) := (below_new w _).alloc (below_new w _).size _
  go_enter Try.func8, Try.ntmps8
  go_wp2_with (go_at_call 9; refine (awake_any _).mono ?_; rintro e w1 ⟨rfl, hb1⟩; have c0 := (boxed_over k0 hb1).cell; have f0 := (boxed_over k0 hb1).frozen; have c1 := (boxed_over k1 hb1).cell)
  refine bodyPost_ret (v := .bool true) (by simp [results, Try.results8, go_sem, c0]) rfl ⟨rfl, (hb0.trans (hb1.mono hb0.size)).setCell (p := ⟨w.heap.size + 1, 0, none⟩) (Nat.le_succ _) _⟩

/-- between two rounds. -/
def HvI (w1 : World) (pre : List Pt) (W : World) : Prop :=
  ∃ k : Nat, runH (prs pre) (some 0) = some k ∧ Boxed W (w1.heap.size + 1) 3 (.int .i64 (k : Nat)) ∧ Boxed W (w1.heap.size + 1 + 1) 3 (.int .i64 (pre.length : Nat)) ∧ Below w1.heap.size w1 W
theorem HvI.own (w1 : World) (B : Nat) (hB : w1.heap.size + 3 ≤ B) : OwnFrom B (HvI w1) := by
  rintro pre W W' row ⟨k, h1, b1, b2, hb⟩ hg hr
  exact ⟨k, h1, b1.kept hg (fun e => by have := (hr _ e.symm).1; omega), b2.kept hg (fun e => by have := (hr _ e.symm).1; omega), hb.grown hg hb.size (fun j e => by have := (hr j e).1; omega)⟩
theorem prs_one (pre : List Pt) (x : Pt) : prs (pre ++ [x]) = prs pre ++ [(x.a, x.b)] := prs_app pre [x]
theorem stepH_leaf {k a b : Nat} (h : b - a = 1) (e : a = k) : stepH (some k) (a, b) = some b := by
  show (if b - a = 1 then (if a = k then some b else none) else some k) = _
  rw [if_pos h, if_pos e]
theorem stepH_bad {k a b : Nat} (h : b - a = 1) (e : a ≠ k) : stepH (some k) (a, b) = none := by
  show (if b - a = 1 then (if a = k then some b else none) else some k) = _
  rw [if_pos h, if_neg e]
theorem stepH_on {k a b : Nat} (h : b - a ≠ 1) : stepH (some k) (a, b) = some k := by
  show (if b - a = 1 then (if a = k then some b else none) else some k) = _
  rw [if_neg h]

set_option maxRecDepth 100000 in
set_option maxHeartbeats 4000000 in
theorem halves_near (s : Int) (w : World) (h : s ≤ 3000) (h0 : -9223372036854775808 ≤ s) :
    CallsIn Fence.wide 3 Try.prog 8 #[.int .i64 s] w fun e w' => e = .returned (.bool true) ∧ Below w.heap.size w w' := by
  have k0 := Boxed.new (w.alloc (.cells #[.int .i64 s] 3)) 4 (.bool false)
  have k1 := (Boxed.new w 3 (.int .i64 s)).alloc (.cells #[.bool false] 4)
  rw [World.size_alloc] at k0
  have hb0 : Below w.heap.size w ((w.alloc (.cells #[.int .i64 s] 3)).alloc (.cells #[.bool false] 4)) := (below_new w _).alloc (below_new w _).size _
  have H0 : Hid (-9223372036854775808 ≤ s) := h0
  have hnil := walk_nil
  have hd : decide ((3000 : Int) < s) = false := decide_eq_false (by omega)
  clear h0
  refine callsIn_of_wp_marks Try.func8 rfl trivial ?_ rfl
  simp only [Try.ntmps8, List.size_toArray, List.length_cons, List.length_nil, Nat.reduceAdd, Nat.reduceSub, Array.replicate_succ, Array.replicate_zero, List.push_toArray, List.append_toArray, List.nil_append, List.cons_append]
  gi_wp2_with (first
    | (refine ⟨trivial, ?_⟩; gi_at_call 9; refine (callsIn_wide.2 (awake_any _)).mono ?_; rintro e w1 ⟨rfl, hb1⟩; have K0 := boxed_over k0 hb1; have K1 := boxed_over k1 hb1; have c1 := K1.cell)
    | (refine ⟨trivial, ?_⟩; gi_at_call 18; refine (walk_in Fence.wide 2 trivial rfl _ _).mono ?_; rintro e w2 ⟨rfl, rfl⟩))
  have hs1 := hb1.size
  rw [World.size_alloc, World.size_alloc] at hs1
  have hB1 := hb0.trans (hb1.mono hb0.size)
  have bS := (((Boxed.new w1 3 (.int .i64 s)).alloc (.cells #[.int .i64 0] 3)).alloc (.cells #[.int .i64 0] 3))
  have bX := (Boxed.new (w1.alloc (.cells #[.int .i64 s] 3)) 3 (.int .i64 0)).alloc (.cells #[.int .i64 0] 3)
  have bN := Boxed.new ((w1.alloc (.cells #[.int .i64 s] 3)).alloc (.cells #[.int .i64 0] 3)) 3 (.int .i64 0)
  rw [World.size_alloc] at bX
  rw [World.size_alloc, World.size_alloc] at bN
  have hb3 : Below w1.heap.size w1 (((w1.alloc (.cells #[.int .i64 s] 3)).alloc (.cells #[.int .i64 0] 3)).alloc (.cells #[.int .i64 0] 3)) := (((below_new w1 _).alloc (below_new w1 _).size _).alloc (((below_new w1 _).alloc (below_new w1 _).size _).size) _)
  have hpl : (parts 0 s.toNat).length ≤ 6000 := by have := parts_le 0 s.toNat; omega
  refine wpIn_rangeFunc_ownG (F := Fence.wide) rfl (by decide) (gf := 24) (lb := #[.pointer (some ⟨w1.heap.size, 0, none⟩)]) rfl trivial (enters_of Try.func24 (by kernel_rfl) rfl)
    (walk_stops Fence.wide rfl 2 trivial trivial trivial trivial rfl w1.heap.size s (by omega) _ bS.cell) KeepF.trans hKb (Below.refl _ _) (fun _ => rfl)
    (HvI w1) (fun _ pre _ => ¬ prs pre <+: parts 0 s.toNat) (HvI.own w1 _ (by simp)) (fun _ _ _ _ _ hs _ _ => hs)
    ⟨0, rfl, bX, bN, hb3⟩
    (fun x => { tmps := #[.int .i64 s, .pointer (some ⟨w.heap.size, 0, none⟩), .pointer (some ⟨w.heap.size + 1, 0, none⟩), .bool true, .func (.func 24) #[] #[.pointer (some ⟨w1.heap.size, 0, none⟩)], .pointer (some ⟨w1.heap.size + 1, 0, none⟩), .pointer (some ⟨w1.heap.size + 1 + 1, 0, none⟩), .int .i64 x.a, .int .i64 x.b, .bool true, .int .i64 s, .bool false, undef, .int .i64 s, .func (.func 24) #[] #[.pointer (some ⟨w1.heap.size, 0, none⟩)], .func (.func 24) #[] #[.pointer (some ⟨w1.heap.size, 0, none⟩)], .bool false, .func (.func 24) #[] #[.pointer (some ⟨w1.heap.size, 0, none⟩)], .int .i64 x.a, .int .i64 x.b, undef, undef, undef, undef, undef, undef, undef, undef, undef, undef, undef, undef, undef, undef, undef, undef, undef, undef, undef, undef, undef, undef, undef, undef, undef, undef, undef, undef, undef, undef, undef, undef, undef, undef, undef, undef, undef, undef], defers := [] }) ?assign ?body ?done ?stop
  case assign =>
    intro l' x W K hK
    simp only [Pt.encs]
    gi_wp2
    exact hK
  case body =>
    rintro l' pre ⟨xa, xb, hxa, hxb⟩ W ⟨k, hrun, bx, bn, hbw⟩ hlt
    have hl6 : (pre.length : Int) ≤ 6000 := by omega
    have bs : Boxed W w.heap.size 3 (.int .i64 s) := boxed_over K1 hbw
    have br : Boxed W (w.heap.size + 1) 4 (.bool false) := boxed_over K0 hbw
    have hg1 := grownBy_setCell' W (w1.heap.size + 1 + 1) (.int .i64 ((pre.length : Int) + 1))
    have bn1 := bn.set (.int .i64 ((pre.length : Int) + 1))
    have bx1 := bx.kept hg1 (fun e => by injection e with e; omega)
    have bs1 := bs.kept hg1 (fun e => by injection e with e; omega)
    have br1 := br.kept hg1 (fun e => by injection e with e; omega)
    have cn := bn.cell
    have fn := bn.frozen
    have cx1 := bx1.cell
    have fx1 := bx1.frozen
    have cs1 := bs1.cell
    have cr1 := br1.cell
    have fr1 := br1.frozen
    have kf1 := KeepF.set bn (by decide) (.int .i64 ((pre.length : Int) + 1))
    have ko1 := KeepsOthers.setCell W ⟨w1.heap.size + 1 + 1, 0, none⟩ (.int .i64 ((pre.length : Int) + 1))
    have hb5 := hbw.setCell (p := ⟨w1.heap.size + 1 + 1, 0, none⟩) (by show w1.heap.size ≤ w1.heap.size + 1 + 1; omega) (.int .i64 ((pre.length : Int) + 1))
    have hna : ¬ (xa : Int) < 0 := by omega
    have hab : ¬ (xb : Int) ≤ (xa : Int) := by omega
    have hx6 : (xb : Int) ≤ 1000000 := by omega
    dsimp only
    by_cases hbig : s < (xb : Int)
    · have HX : Hid (¬ prs (pre ++ [⟨xa, xb, hxa, hxb⟩]) <+: parts 0 s.toNat) := by
        intro hp
        rw [prs_one] at hp
        have := pre_in hp
        dsimp only at this
        omega
      gi_wp2
      exact ⟨(ko1.trans (KeepsOthers.setCell _ _ _)).from _, HX.out⟩
    · have hbig' : (xb : Int) ≤ s := by omega
      by_cases h1 : xb - xa = 1
      · have h1' : (((xb : Int) - (xa : Int)) == 1) = true := by simp; omega
        by_cases hk : xa = k
        · have e1 : runH (prs (pre ++ [⟨xa, xb, hxa, hxb⟩])) (some 0) = some xb := by
            rw [prs_one, runH_snoc, hrun]
            exact stepH_leaf h1 hk
          have HE : Hid (runH (prs (pre ++ [⟨xa, xb, hxa, hxb⟩])) (some 0) = some xb) := e1
          subst hk
          clear hrun e1 hbig h1
          gi_wp2
          have hg2 := grownBy_setCell' (W.setCell ⟨w1.heap.size + 1 + 1, 0, none⟩ (.int .i64 ((pre.length : Int) + 1))) (w1.heap.size + 1) (.int .i64 (xb : Int))
          exact ⟨(ko1.trans (KeepsOthers.setCell _ _ _)).from _, kf1.trans (KeepF.set bx1 (by decide) _), xb, HE.out, bx1.set _, by rw [List.length_append]; exact bn1.kept hg2 (fun e => by injection e with e; omega), hb5.setCell (p := ⟨w1.heap.size + 1, 0, none⟩) (by show w1.heap.size ≤ w1.heap.size + 1; omega) _⟩
        · have HX : Hid (¬ prs (pre ++ [⟨xa, xb, hxa, hxb⟩]) <+: parts 0 s.toNat) := by
            intro hp
            refine runH_pre hp (by rw [prs_one]; simp) ?_
            rw [prs_one, runH_snoc, hrun]
            exact stepH_bad h1 hk
          have hk1 : ((xa : Int) == (k : Int)) = false := by simp; omega
          have hk2 : ¬ (xa : Int) = (k : Int) := by omega
          clear hrun hbig h1 hk
          gi_wp2
          exact ⟨(ko1.trans (KeepsOthers.setCell _ _ _)).from _, HX.out⟩
      · have h1' : (((xb : Int) - (xa : Int)) == 1) = false := by simp; omega
        have HE : Hid (runH (prs (pre ++ [⟨xa, xb, hxa, hxb⟩])) (some 0) = some k) := by
          unfold Hid
          rw [prs_one, runH_snoc, hrun]
          exact stepH_on h1
        clear hrun hbig h1
        gi_wp2
        exact ⟨ko1.from _, kf1, k, HE.out, bx1, by rw [List.length_append]; exact bn1, hb5⟩
  case done =>
    rintro D ys W hD hS ⟨k, hrun, bx, bn, hbw⟩ hK
    have bs : Boxed W w.heap.size 3 (.int .i64 s) := boxed_over K1 hbw
    have br : Boxed W (w.heap.size + 1) 4 (.bool false) := boxed_over K0 hbw
    rw [hS, runH_all] at hrun
    have hl : ys.length = (parts 0 s.toNat).length := by rw [← hS]; simp [prs]
    have cr := br.cell
    have fr := br.frozen
    have cs := bs.cell
    have br2 := br.set (.bool true)
    have hK2 := (KeepsOthers.setCell W ⟨w.heap.size + 1, 0, none⟩ (.bool true)).same D _ hK rfl
    have hfin : Below w.heap.size w (W.setCell ⟨w.heap.size + 1, 0, none⟩ (.bool true)) := (hB1.trans (hbw.mono hB1.size)).setCell (p := ⟨w.heap.size + 1, 0, none⟩) (Nat.le_succ _) _
    have hDD : w.heap.size ≤ D := by simp at hD; omega
    have hce := cell_kept br2.cell (grownBy_putObj' _ D (.deferred none)) (fun r e => by cases e; exact ⟨_, hK2, rfl⟩)
    have hend := hfin.trans (belowK_b (w := w) (Nat.le_refl _) _ D _ (.deferred none) hDD hK2 rfl rfl)
    by_cases hp : 1 ≤ s
    · have ek : (k : Int) = s := by injection hrun with e; omega
      have el : (ys.length : Int) = 2 * s - 1 := by rw [parts_len (by omega)] at hl; omega
      rw [ek] at bx
      rw [el] at bn
      have cx := bx.cell
      have cn := bn.cell
      clear ek el hl hrun hS
      gi_wp2
      all_goals exact ⟨by simp, .inl ⟨_, _, rfl, run_takeDeferred hK2, _, by simp [results, Try.results8, go_sem, hce], rfl, hend⟩⟩
    · have ek : (k : Int) = 0 := by injection hrun with e; omega
      have el : (ys.length : Int) = 0 := by rw [parts_none (by omega)] at hl; rw [hl]; rfl
      have hp' : s ≤ 0 := by omega
      rw [ek] at bx
      rw [el] at bn
      have cx := bx.cell
      have cn := bn.cell
      clear ek el hl hrun hS hp
      gi_wp2
      all_goals exact ⟨by simp, .inl ⟨_, _, rfl, run_takeDeferred hK2, _, by simp [results, Try.results8, go_sem, hce], rfl, hend⟩⟩
  case stop =>
    rintro D c pre W _ hS hX _
    exact absurd hS hX

theorem treeHalves_walk (s : Int) (w : World) (hs : (Lit.int .i64 s).wf = true) :
    Calls Try.prog 8 #[.int .i64 s] w fun e w' => e = .returned (.bool true) ∧ Below w.heap.size w w' := by
  have hs2 := Go.bounds_i64 hs
  by_cases h : 3000 < s
  · exact halves_far s w h
  · exact callsIn_wide.1 (halves_near s w (by omega) hs2.1)

end Go.Proofs.Ythgkpecmpfgnjaa
