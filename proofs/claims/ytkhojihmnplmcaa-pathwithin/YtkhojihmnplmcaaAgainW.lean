/-
  PathAgain, walked over any interface.
-/
import Derived.Test.YtkhojihmnplmcaaIfn
namespace Go.Proofs.Ytkhojihmnplmcaa
open Go.RowKit Go.Shelf

attribute [local go_sem] Oper.semAt_some

theorem below_set' {C : Nat} {w : World} {b i : Nat} {v : Value} (h : C ≤ b) : Below C w (w.setCell ⟨b, i, none⟩ v) :=
  ⟨by simp [World.setCell], by simp [World.setCell], by simp [World.setCell], by simp, fun k hk => heap_setCell_other w ⟨b, i, none⟩ k v (fun e => by have : k = b := e; omega)⟩

set_option maxHeartbeats 4000000 in
theorem again_far (J : Ifp) (w : World) (s : ByteArray) (hs : 2000 < s.size) : Calls Try.prog 6 #[.string s] w (Tells w (.bool true)) := by
  have HB0 : Hid (Below w.heap.size w (w.alloc (.cells #[.bool false] 4))) := below_new w _
  have HC0 : Hid (Boxed (w.alloc (.cells #[.bool false] 4)) w.heap.size 4 (.bool false)) := Boxed.new w _ _
  have r1 : (2000 : Int) < (s.size : Int) := by omega
  have r1' : decide ((2000 : Int) < (s.size : Int)) = true := decide_eq_true r1
  go_enter Try.func6, Try.ntmps6
  go_wp2_with fail
  refine (awake_any J _).mono ?_
  rintro e w1 ⟨rfl, hb1⟩
  have HB1 : Hid (Below w.heap.size w w1) := HB0.out.trans (hb1.mono HB0.out.size)
  have HC1 : Hid (Boxed w1 w.heap.size 4 (.bool false)) := boxed_over HC0.out hb1
  clear hb1
  have c9 := HC1.out.cell
  have f9 := HC1.out.frozen
  go_wp2_with fail
  refine bodyPost_ret (v := .bool true) (by simp [results, Try.results6, go_sem, c9]) rfl ⟨rfl, HB1.out.trans (below_set' (Nat.le_refl _))⟩

set_option maxHeartbeats 4000000 in
theorem again_no (J : Ifp) (w : World) (s : ByteArray) (hs : ¬ 2000 < s.size) (hr : rightP (lst s) = false) : Calls Try.prog 6 #[.string s] w (Tells w (.bool true)) := by
  have HB0 : Hid (Below w.heap.size w (w.alloc (.cells #[.bool false] 4))) := below_new w _
  have HC0 : Hid (Boxed (w.alloc (.cells #[.bool false] 4)) w.heap.size 4 (.bool false)) := Boxed.new w _ _
  have r1 : ¬ (2000 : Int) < (s.size : Int) := by omega
  have r1' : decide ((2000 : Int) < (s.size : Int)) = false := decide_eq_false r1
  have HE : Hid (∀ W, Calls Try.prog 10 #[.string s] W (Tells W (.tuple #[.string ⟨#[]⟩, .int .i64 1]))) := fun W => by
    have := J.clean s W (by omega)
    rw [err_no hr, show cleanP (lst s) = [] by unfold cleanP; rw [hr]; rfl] at this
    exact this
  have HR : Hid (∀ W, Calls Try.prog 14 #[.string s] W (Tells W (.bool false))) := fun W => by
    have := J.right s W (by omega)
    rw [hr] at this
    exact this
  clear hs hr
  go_enter Try.func6, Try.ntmps6
  go_wp2_with fail
  refine (awake_any J _).mono ?_
  rintro e w1 ⟨rfl, hb1⟩
  have HB1 : Hid (Below w.heap.size w w1) := HB0.out.trans (hb1.mono HB0.out.size)
  have HC1 : Hid (Boxed w1 w.heap.size 4 (.bool false)) := boxed_over HC0.out hb1
  clear hb1
  go_wp2_with fail
  refine (HE.out _).mono ?_
  rintro e w2 ⟨rfl, hb2⟩
  have HB2 : Hid (Below w.heap.size w w2) := HB1.out.trans (hb2.mono HB1.out.size)
  have HC2 : Hid (Boxed w2 w.heap.size 4 (.bool false)) := boxed_over HC1.out hb2
  clear hb2
  go_wp2_with fail
  refine (HR.out _).mono ?_
  rintro e w3 ⟨rfl, hb3⟩
  have HB3 : Hid (Below w.heap.size w w3) := HB2.out.trans (hb3.mono HB2.out.size)
  have HC3 : Hid (Boxed w3 w.heap.size 4 (.bool false)) := boxed_over HC2.out hb3
  clear hb3
  have c9 := HC3.out.cell
  have f9 := HC3.out.frozen
  go_wp2_with fail
  refine bodyPost_ret (v := .bool true) (by simp [results, Try.results6, go_sem, c9]) rfl ⟨rfl, HB3.out.trans (below_set' (Nat.le_refl _))⟩

/-- what has come so far is as it should be; something is not. -/
def GdN (x : List UInt8) : Prop := x ≠ [] ∧ x ≠ [46] ∧ x ≠ [46, 46]

set_option maxRecDepth 100000 in
set_option maxHeartbeats 16000000 in
theorem again_near (J : Ifn) (w : World) (s : ByteArray) (hs : ¬ 2000 < s.size) (hr : rightP (lst s) = true) : CallsIn Fence.wide 3 Try.prog 6 #[.string s] w (Tells w (.bool true)) := by
  have HB0 : Hid (Below w.heap.size w (w.alloc (.cells #[.bool false] 4))) := below_new w _
  have HC0 : Hid (Boxed (w.alloc (.cells #[.bool false] 4)) w.heap.size 4 (.bool false)) := Boxed.new w _ _
  have r1 : ¬ (2000 : Int) < (s.size : Int) := by omega
  have r1' : decide ((2000 : Int) < (s.size : Int)) = false := decide_eq_false r1
  obtain ⟨c1, c2, c3, _⟩ := clean_again hr
  obtain ⟨d1, d2⟩ := clean_form hr
  have d3 := clean_names hr
  obtain ⟨a, ha⟩ : ∃ a, bar (cleanP (lst s)) = a := ⟨_, rfl⟩
  have hla : cleanP (lst s) = lst a := by rw [← ha, lst_bar]
  rw [hla] at c1 c2 c3 d1 d2 d3
  rw [lst_length, lst_length] at c3
  have HS : Hid (a.size ≤ 2000) := by show _ ≤ _; omega
  have HE : Hid (∀ W, Calls Try.prog 10 #[.string s] W (Tells W (.tuple #[.string a, .int .i64 0]))) := fun W => by
    have := J.base.clean s W (by omega)
    rw [err_ok hr, ha] at this
    exact this
  have HE2 : Hid (∀ W, Calls Try.prog 10 #[.string a] W (Tells W (.tuple #[.string a, .int .i64 0]))) := fun W => by
    have := J.base.clean a W (by have := HS.out; omega)
    rw [err_ok c1, c2, bar_lst] at this
    exact this
  have HR : Hid (∀ W, Calls Try.prog 14 #[.string s] W (Tells W (.bool true))) := fun W => by
    have := J.base.right s W (by omega)
    rw [hr] at this
    exact this
  have HNM : Hid (∀ W, Calls Try.prog 16 #[.string a] W fun e w' => ∃ gf lb, e = .returned (.func (.func gf) #[] lb) ∧ Below W.heap.size W w' ∧ SeqN w' (lst a) gf lb) := fun W => J.names a W (by have := HS.out; omega)
  have HGD : Hid (∀ n ∈ namesP (lst a), GdN n) := d3
  have ha0 : 0 < a.size := by
    have := (List.getElem?_eq_some_iff.1 d1).1
    rw [lst_length] at this
    exact this
  have hat0 := lst_at a 0 ha0
  have q0 : (((a[0]'ha0).toNat : Int) != 47) = false := by
    rw [d1] at hat0
    have := Option.some.inj hat0
    rw [← this]
    rfl
  have q1 : ((a.size : Int) == 0) = false := beq_eq_false_iff_ne.2 (by omega)
  have q2 : ¬ (s.size : Int) < (a.size : Int) := by omega
  have q2' : decide ((s.size : Int) < (a.size : Int)) = false := decide_eq_false q2
  have q3 : (0 : Int) < (a.size : Int) := by omega
  have HSL : Hid (∀ i : Nat, (lst a)[i]? = some 47 → (i = 0 ∧ a.size = 1) ∨ ∃ c, (lst a)[i + 1]? = some c ∧ c ≠ 47) := fun i hi => by
    have := d2 i hi
    rw [lst_length] at this
    exact this
  have hz2 : a.size ≤ 2000 := HS.out
  have HPRE : Hid (∀ W, Below w.heap.size w W → Boxed W w.heap.size 4 (.bool false) → True) := fun _ _ _ => trivial
  clear hs hr c1 c2 c3 d1 d2 d3 ha hla hat0 HPRE
  by_cases hk : 1 < a.size
  · have k1 : (1 : Int) < (a.size : Int) := by omega
    have k1' : decide ((1 : Int) < (a.size : Int)) = true := decide_eq_true k1
    obtain ⟨k, hkk⟩ : ∃ k, a.size = k + 1 := ⟨a.size - 1, by omega⟩
    have hkl : k < a.size := by omega
    have k2 : (a.size : Int) - 1 = (k : Int) := by omega
    have k3 : (((a[k]'hkl).toNat : Int) == 47) = false := u8_ne (d := 47) fun e => by
      have h1 := lst_at a k hkl
      rw [e] at h1
      rcases HSL.out k h1 with ⟨_, h2⟩ | ⟨c, h2, _⟩
      · omega
      · have := (List.getElem?_eq_some_iff.1 h2).1
        rw [lst_length] at this
        omega
    have k4 : IntKind.i64.wrap (k : Int) = (k : Int) := by rw [IntKind.wrap_i64]; omega
    have k5 : (k : Int) < (a.size : Int) := by omega
    clear hkk
    refine callsIn_of_wp_marks Try.func6 rfl trivial ?_ rfl
    simp only [Try.ntmps6, List.size_toArray, List.length_cons, List.length_nil, Nat.reduceAdd, Nat.reduceSub, Array.replicate_succ, Array.replicate_zero, List.push_toArray, List.append_toArray, List.nil_append, List.cons_append]
    gi_wp2_with fail
    refine ⟨trivial, (callsIn_wide.2 (awake_any J.base _)).mono ?_⟩
    rintro e w1 ⟨rfl, hb1⟩
    have HB1 : Hid (Below w.heap.size w w1) := HB0.out.trans (hb1.mono HB0.out.size)
    have HC1 : Hid (Boxed w1 w.heap.size 4 (.bool false)) := boxed_over HC0.out hb1
    clear hb1
    gi_wp2_with fail
    refine ⟨trivial, (callsIn_wide.2 (HE.out _)).mono ?_⟩
    rintro e w2 ⟨rfl, hb2⟩
    have HB2 : Hid (Below w.heap.size w w2) := HB1.out.trans (hb2.mono HB1.out.size)
    have HC2 : Hid (Boxed w2 w.heap.size 4 (.bool false)) := boxed_over HC1.out hb2
    clear hb2
    gi_wp2_with fail
    refine ⟨trivial, (callsIn_wide.2 (HR.out _)).mono ?_⟩
    rintro e w3 ⟨rfl, hb3⟩
    have HB3 : Hid (Below w.heap.size w w3) := HB2.out.trans (hb3.mono HB2.out.size)
    have HC3 : Hid (Boxed w3 w.heap.size 4 (.bool false)) := boxed_over HC2.out hb3
    clear hb3
    gi_wp2_with fail
    refine ⟨trivial, (callsIn_wide.2 (HE2.out _)).mono ?_⟩
    rintro e w4 ⟨rfl, hb4⟩
    have HB4 : Hid (Below w.heap.size w w4) := HB3.out.trans (hb4.mono HB3.out.size)
    have HC4 : Hid (Boxed w4 w.heap.size 4 (.bool false)) := boxed_over HC3.out hb4
    clear hb4
    gi_wp2_with fail
    gi_loopw [9] (fun v9 wr => ∃ i : Nat, v9 = .int .i64 i ∧ 1 ≤ i ∧ i ≤ a.size ∧ wr = w4) (fun v9 _ => a.size - (intOf v9).toNat)
    case atStart => exact ⟨1, rfl, Nat.le_refl _, ha0, rfl⟩
    case round =>
      obtain ⟨i, rfl, hi1, hi, hw⟩ := hrel
      subst hw
      by_cases hlt : i < a.size
      · have hi2 : (i : Int) < (a.size : Int) := by omega
        by_cases hz : a[i]'hlt = 47
        · have hz1 : (((a[i]'hlt).toNat : Int) == 47) = true := by rw [hz]; rfl
          obtain ⟨j, hj⟩ : ∃ j, i = j + 1 := ⟨i - 1, by omega⟩
          have hjl : j < a.size := by omega
          have hj2 : (i : Int) - 1 = (j : Int) := by omega
          have hj3 : IntKind.i64.wrap (j : Int) = (j : Int) := by rw [IntKind.wrap_i64]; omega
          have hj4 : (j : Int) < (a.size : Int) := by omega
          have hz3 : (((a[j]'hjl).toNat : Int) == 47) = false := u8_ne (d := 47) fun e => by
            have h1 := lst_at a j hjl
            rw [e] at h1
            rcases HSL.out j h1 with ⟨_, h2⟩ | ⟨c, h2, h3⟩
            · omega
            · rw [← hj, lst_at a i hlt] at h2
              exact h3 ((Option.some.inj h2).symm.trans hz)
          clear hz hj
          gi_wp2_with fail
          go_roundw
          case rel => exact ⟨i + 1, by go_num, by omega, hlt, by trivial⟩
          case measure => simp [intOf]; omega
        · have hz1 : (((a[i]'hlt).toNat : Int) == 47) = false := u8_ne (d := 47) hz
          clear hz
          gi_wp2_with fail
          go_roundw
          case rel => exact ⟨i + 1, by go_num, by omega, hlt, by trivial⟩
          case measure => simp [intOf]; omega
      · have hi2 : ¬ (i : Int) < (a.size : Int) := by omega
        gi_wp2_with fail
        refine ⟨trivial, (callsIn_wide.2 (HNM.out _)).mono ?_⟩
        rintro e w5 ⟨gf, lb, rfl, hb5, hsq⟩
        have HB5 : Hid (Below w.heap.size w w5) := HB4.out.trans (hb5.mono HB4.out.size)
        have HC5 : Hid (Boxed w5 w.heap.size 4 (.bool false)) := boxed_over HC4.out hb5
        clear hb5
        gi_wp2_with fail
        refine' wpIn_rangeFunc_ownG (F := Fence.wide) rfl (by decide) (gf := gf) (lb := lb) rfl trivial hsq.ent hsq.stops belowK_t (belowK_b (Nat.le_refl _)) (Below.refl _ _) (fun _ => rfl)
          (fun pre W => Below w5.heap.size w5 W ∧ ∀ y ∈ pre, GdN y) (fun _ pre _ => ∃ x ∈ pre, ¬ GdN x)
          (fun pre W W' row h hg hr => ⟨h.1.grown hg h.1.size (fun j e => (hr j e).1), h.2⟩) (fun _ _ _ _ _ h _ _ => h) ⟨Below.refl _ _, fun y hy => (by cases hy)⟩ _ ?assign ?body ?done ?stop
        case assign =>
          intro l' x W K hK
          simp only [encT]
          gi_wp2
          exact hK
        case body =>
          rintro l' pre x W ⟨hB, hG⟩ hlt
          have br : Boxed W w.heap.size 4 (.bool false) := boxed_over HC5.out hB
          have cr := br.cell
          have frr := br.frozen
          have e1 : ((bar x).toList.isEmpty) = x.isEmpty := by rw [toList_bar]
          have e2 : ((bar x).toList == [46]) = (x == [46]) := by rw [toList_bar]
          have e3 : ((bar x).toList == [46, 46]) = (x == [46, 46]) := by rw [toList_bar]
          have HXM : Hid (x ∈ pre ++ [x]) := List.mem_append_right _ (List.mem_singleton.2 rfl)
          have HG2 : Hid (GdN x → ∀ y ∈ pre ++ [x], GdN y) := fun hx y hy => by
            rcases List.mem_append.1 hy with hy | hy
            · exact hG y hy
            · rw [List.mem_singleton.1 hy]; exact hx
          have HBW : Hid (Below w5.heap.size w5 W) := hB
          clear hB hG hlt
          by_cases h1 : x = []
          · have e1' : x.isEmpty = true := by rw [h1]; rfl
            have HBD : Hid (¬ GdN x) := fun h => h.1 h1
            clear h1
            rw [e1'] at e1
            clear e2 e3
            gi_wp2
            exact ⟨(KeepsOthers.setCell _ _ _).from _, x, HXM.out, HBD.out⟩
          · have e1' : x.isEmpty = false := by cases x; exact absurd rfl h1; rfl
            rw [e1'] at e1
            by_cases h2 : x = [46]
            · have HBD : Hid (¬ GdN x) := fun h => h.2.1 h2
              rw [beq_iff_eq.2 h2] at e2
              clear h1 h2 e3
              gi_wp2
              exact ⟨(KeepsOthers.setCell _ _ _).from _, x, HXM.out, HBD.out⟩
            · rw [beq_eq_false_iff_ne.2 h2] at e2
              by_cases h3 : x = [46, 46]
              · have HBD : Hid (¬ GdN x) := fun h => h.2.2 h3
                rw [beq_iff_eq.2 h3] at e3
                clear h1 h2 h3
                gi_wp2
                exact ⟨(KeepsOthers.setCell _ _ _).from _, x, HXM.out, HBD.out⟩
              · rw [beq_eq_false_iff_ne.2 h3] at e3
                have HGX := HG2.out ⟨h1, h2, h3⟩
                have HGX' : Hid (∀ y ∈ pre ++ [x], GdN y) := HGX
                clear h1 h2 h3 HGX
                gi_wp2
                exact ⟨KeepsFrom.refl _ _, Below.refl _ _, HBW.out, HGX'.out⟩
        case done =>
          rintro D ys W hD hS ⟨hB, hG⟩ hK
          have br : Boxed W w.heap.size 4 (.bool false) := boxed_over HC5.out hB
          have cr := br.cell
          have frr := br.frozen
          have br2 := br.set (.bool true)
          have hK2 := (KeepsOthers.setCell W ⟨w.heap.size, 0, none⟩ (.bool true)).same D _ hK rfl
          have hfin : Below w.heap.size w (W.setCell ⟨w.heap.size, 0, none⟩ (.bool true)) := (HB5.out.trans (hB.mono HB5.out.size)).trans (below_set' (Nat.le_refl _))
          have hDD : w.heap.size ≤ D := Nat.le_trans HB5.out.size hD
          have hce := cell_kept br2.cell (grownBy_putObj' _ D (.deferred none)) (fun r e => by cases e; exact ⟨_, hK2, rfl⟩)
          have hend := hfin.trans (belowK_b (w := w) (Nat.le_refl _) _ D _ (.deferred none) hDD hK2 rfl rfl)
          clear hB hG hS
          gi_wp2
          exact ⟨by simp, .inl ⟨_, _, rfl, run_takeDeferred hK2, _, by simp [results, Try.results6, go_sem, hce], rfl, hend⟩⟩
        case stop =>
          rintro D c pre W hD hS ⟨x, hx, hb⟩ hK
          obtain ⟨z, hz⟩ := hS
          exact absurd (HGD.out x (hz ▸ List.mem_append_left _ hx)) hb
  · have k1 : ¬ (1 : Int) < (a.size : Int) := by omega
    have k1' : decide ((1 : Int) < (a.size : Int)) = false := decide_eq_false k1
    refine callsIn_of_wp_marks Try.func6 rfl trivial ?_ rfl
    simp only [Try.ntmps6, List.size_toArray, List.length_cons, List.length_nil, Nat.reduceAdd, Nat.reduceSub, Array.replicate_succ, Array.replicate_zero, List.push_toArray, List.append_toArray, List.nil_append, List.cons_append]
    gi_wp2_with fail
    refine ⟨trivial, (callsIn_wide.2 (awake_any J.base _)).mono ?_⟩
    rintro e w1 ⟨rfl, hb1⟩
    have HB1 : Hid (Below w.heap.size w w1) := HB0.out.trans (hb1.mono HB0.out.size)
    have HC1 : Hid (Boxed w1 w.heap.size 4 (.bool false)) := boxed_over HC0.out hb1
    clear hb1
    gi_wp2_with fail
    refine ⟨trivial, (callsIn_wide.2 (HE.out _)).mono ?_⟩
    rintro e w2 ⟨rfl, hb2⟩
    have HB2 : Hid (Below w.heap.size w w2) := HB1.out.trans (hb2.mono HB1.out.size)
    have HC2 : Hid (Boxed w2 w.heap.size 4 (.bool false)) := boxed_over HC1.out hb2
    clear hb2
    gi_wp2_with fail
    refine ⟨trivial, (callsIn_wide.2 (HR.out _)).mono ?_⟩
    rintro e w3 ⟨rfl, hb3⟩
    have HB3 : Hid (Below w.heap.size w w3) := HB2.out.trans (hb3.mono HB2.out.size)
    have HC3 : Hid (Boxed w3 w.heap.size 4 (.bool false)) := boxed_over HC2.out hb3
    clear hb3
    gi_wp2_with fail
    refine ⟨trivial, (callsIn_wide.2 (HE2.out _)).mono ?_⟩
    rintro e w4 ⟨rfl, hb4⟩
    have HB4 : Hid (Below w.heap.size w w4) := HB3.out.trans (hb4.mono HB3.out.size)
    have HC4 : Hid (Boxed w4 w.heap.size 4 (.bool false)) := boxed_over HC3.out hb4
    clear hb4
    gi_wp2_with fail
    gi_loopw [9] (fun v9 wr => ∃ i : Nat, v9 = .int .i64 i ∧ 1 ≤ i ∧ i ≤ a.size ∧ wr = w4) (fun v9 _ => a.size - (intOf v9).toNat)
    case atStart => exact ⟨1, rfl, Nat.le_refl _, ha0, rfl⟩
    case round =>
      obtain ⟨i, rfl, hi1, hi, hw⟩ := hrel
      subst hw
      by_cases hlt : i < a.size
      · have hi2 : (i : Int) < (a.size : Int) := by omega
        by_cases hz : a[i]'hlt = 47
        · have hz1 : (((a[i]'hlt).toNat : Int) == 47) = true := by rw [hz]; rfl
          obtain ⟨j, hj⟩ : ∃ j, i = j + 1 := ⟨i - 1, by omega⟩
          have hjl : j < a.size := by omega
          have hj2 : (i : Int) - 1 = (j : Int) := by omega
          have hj3 : IntKind.i64.wrap (j : Int) = (j : Int) := by rw [IntKind.wrap_i64]; omega
          have hj4 : (j : Int) < (a.size : Int) := by omega
          have hz3 : (((a[j]'hjl).toNat : Int) == 47) = false := u8_ne (d := 47) fun e => by
            have h1 := lst_at a j hjl
            rw [e] at h1
            rcases HSL.out j h1 with ⟨_, h2⟩ | ⟨c, h2, h3⟩
            · omega
            · rw [← hj, lst_at a i hlt] at h2
              exact h3 ((Option.some.inj h2).symm.trans hz)
          clear hz hj
          gi_wp2_with fail
          go_roundw
          case rel => exact ⟨i + 1, by go_num, by omega, hlt, by trivial⟩
          case measure => simp [intOf]; omega
        · have hz1 : (((a[i]'hlt).toNat : Int) == 47) = false := u8_ne (d := 47) hz
          clear hz
          gi_wp2_with fail
          go_roundw
          case rel => exact ⟨i + 1, by go_num, by omega, hlt, by trivial⟩
          case measure => simp [intOf]; omega
      · have hi2 : ¬ (i : Int) < (a.size : Int) := by omega
        gi_wp2_with fail
        refine ⟨trivial, (callsIn_wide.2 (HNM.out _)).mono ?_⟩
        rintro e w5 ⟨gf, lb, rfl, hb5, hsq⟩
        have HB5 : Hid (Below w.heap.size w w5) := HB4.out.trans (hb5.mono HB4.out.size)
        have HC5 : Hid (Boxed w5 w.heap.size 4 (.bool false)) := boxed_over HC4.out hb5
        clear hb5
        gi_wp2_with fail
        refine' wpIn_rangeFunc_ownG (F := Fence.wide) rfl (by decide) (gf := gf) (lb := lb) rfl trivial hsq.ent hsq.stops belowK_t (belowK_b (Nat.le_refl _)) (Below.refl _ _) (fun _ => rfl)
          (fun pre W => Below w5.heap.size w5 W ∧ ∀ y ∈ pre, GdN y) (fun _ pre _ => ∃ x ∈ pre, ¬ GdN x)
          (fun pre W W' row h hg hr => ⟨h.1.grown hg h.1.size (fun j e => (hr j e).1), h.2⟩) (fun _ _ _ _ _ h _ _ => h) ⟨Below.refl _ _, fun y hy => (by cases hy)⟩ _ ?assign ?body ?done ?stop
        case assign =>
          intro l' x W K hK
          simp only [encT]
          gi_wp2
          exact hK
        case body =>
          rintro l' pre x W ⟨hB, hG⟩ hlt
          have br : Boxed W w.heap.size 4 (.bool false) := boxed_over HC5.out hB
          have cr := br.cell
          have frr := br.frozen
          have e1 : ((bar x).toList.isEmpty) = x.isEmpty := by rw [toList_bar]
          have e2 : ((bar x).toList == [46]) = (x == [46]) := by rw [toList_bar]
          have e3 : ((bar x).toList == [46, 46]) = (x == [46, 46]) := by rw [toList_bar]
          have HXM : Hid (x ∈ pre ++ [x]) := List.mem_append_right _ (List.mem_singleton.2 rfl)
          have HG2 : Hid (GdN x → ∀ y ∈ pre ++ [x], GdN y) := fun hx y hy => by
            rcases List.mem_append.1 hy with hy | hy
            · exact hG y hy
            · rw [List.mem_singleton.1 hy]; exact hx
          have HBW : Hid (Below w5.heap.size w5 W) := hB
          clear hB hG hlt
          by_cases h1 : x = []
          · have e1' : x.isEmpty = true := by rw [h1]; rfl
            have HBD : Hid (¬ GdN x) := fun h => h.1 h1
            clear h1
            rw [e1'] at e1
            clear e2 e3
            gi_wp2
            exact ⟨(KeepsOthers.setCell _ _ _).from _, x, HXM.out, HBD.out⟩
          · have e1' : x.isEmpty = false := by cases x; exact absurd rfl h1; rfl
            rw [e1'] at e1
            by_cases h2 : x = [46]
            · have HBD : Hid (¬ GdN x) := fun h => h.2.1 h2
              rw [beq_iff_eq.2 h2] at e2
              clear h1 h2 e3
              gi_wp2
              exact ⟨(KeepsOthers.setCell _ _ _).from _, x, HXM.out, HBD.out⟩
            · rw [beq_eq_false_iff_ne.2 h2] at e2
              by_cases h3 : x = [46, 46]
              · have HBD : Hid (¬ GdN x) := fun h => h.2.2 h3
                rw [beq_iff_eq.2 h3] at e3
                clear h1 h2 h3
                gi_wp2
                exact ⟨(KeepsOthers.setCell _ _ _).from _, x, HXM.out, HBD.out⟩
              · rw [beq_eq_false_iff_ne.2 h3] at e3
                have HGX := HG2.out ⟨h1, h2, h3⟩
                have HGX' : Hid (∀ y ∈ pre ++ [x], GdN y) := HGX
                clear h1 h2 h3 HGX
                gi_wp2
                exact ⟨KeepsFrom.refl _ _, Below.refl _ _, HBW.out, HGX'.out⟩
        case done =>
          rintro D ys W hD hS ⟨hB, hG⟩ hK
          have br : Boxed W w.heap.size 4 (.bool false) := boxed_over HC5.out hB
          have cr := br.cell
          have frr := br.frozen
          have br2 := br.set (.bool true)
          have hK2 := (KeepsOthers.setCell W ⟨w.heap.size, 0, none⟩ (.bool true)).same D _ hK rfl
          have hfin : Below w.heap.size w (W.setCell ⟨w.heap.size, 0, none⟩ (.bool true)) := (HB5.out.trans (hB.mono HB5.out.size)).trans (below_set' (Nat.le_refl _))
          have hDD : w.heap.size ≤ D := Nat.le_trans HB5.out.size hD
          have hce := cell_kept br2.cell (grownBy_putObj' _ D (.deferred none)) (fun r e => by cases e; exact ⟨_, hK2, rfl⟩)
          have hend := hfin.trans (belowK_b (w := w) (Nat.le_refl _) _ D _ (.deferred none) hDD hK2 rfl rfl)
          clear hB hG hS
          gi_wp2
          exact ⟨by simp, .inl ⟨_, _, rfl, run_takeDeferred hK2, _, by simp [results, Try.results6, go_sem, hce], rfl, hend⟩⟩
        case stop =>
          rintro D c pre W hD hS ⟨x, hx, hb⟩ hK
          obtain ⟨z, hz⟩ := hS
          exact absurd (HGD.out x (hz ▸ List.mem_append_left _ hx)) hb

theorem again_walk (J : Ifn) (w : World) (s : ByteArray) : Calls Try.prog 6 #[.string s] w (Tells w (.bool true)) := by
  by_cases hs : 2000 < s.size
  · exact again_far J.base w s hs
  · cases hr : rightP (lst s) with
    | false => exact again_no J.base w s hs hr
    | true => exact callsIn_wide.1 (again_near J w s hs hr)

end Go.Proofs.Ytkhojihmnplmcaa
