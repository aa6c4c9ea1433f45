/-
  VfsPlain, walked over any interface.
-/
import Derived.Test.YtilemgpopjlchaaDoorVIfc
import Derived.Test.YtilemgpopjlchaaDoorVMath2
namespace Go.Proofs.YtilemgpopjlchaaDoor
open Go.RowKit Go.Shelf

attribute [local go_sem] Oper.semAt_some

set_option maxHeartbeats 8000000 in
theorem plain_far (J : Ifv) (w : World) (v : Value) (L : List Nd) (s : ByteArray) (h : NdR w v L) (hc : ltB L = false ∨ 256 < s.size ∨ (chkN L).1 ≠ 0 ∨ rightP (lst s) = false) : Calls Tryd.prog 6 #[v, .string s] w (Tells w (.bool true)) := by
  have HB0 : Hid (Below w.heap.size w (w.alloc (.cells #[.bool false] 4)) ∧ Boxed (w.alloc (.cells #[.bool false] 4)) w.heap.size 4 (.bool false) ∧ NdR (w.alloc (.cells #[.bool false] 4)) v L) := ⟨below_new w _, Boxed.new w _ _, h.over (below_new w _)⟩
  have HLT : Hid (∀ W, NdR W v L → Calls Tryd.prog 10 #[v] W fun e w' => e = .returned (.bool (ltB L)) ∧ w' = W) := fun W h => light_any v L W h
  have HCH : Hid (∀ W, NdR W v L → Calls Tryd.prog 11 #[v] W (Tells W (.tuple #[.int .i64 (chkN L).1, .int .i64 (chkN L).2]))) := fun W h => J.check v L W h
  have HCL : Hid (∀ W, Calls Tryd.prog 17 #[.string s] W (Tells W (.tuple #[.string (bar (cleanP (lst s))), .int .i64 (errP (lst s))]))) := fun W => J.clean s W
  clear h
  cases hlt : ltB L with
  | false =>
    rw [hlt] at HLT
    clear hlt hc
    go_enter Tryd.func6, Tryd.ntmps6
    go_wp2_with fail
    refine (awake_any J _).mono ?_
    rintro e w1 ⟨rfl, hb1⟩
    have H1 : Hid (Below w.heap.size w (w1.alloc (.cells #[.bool true] 4)) ∧ Boxed (w1.alloc (.cells #[.bool true] 4)) w.heap.size 4 (.bool false) ∧ NdR (w1.alloc (.cells #[.bool true] 4)) v L ∧ Boxed (w1.alloc (.cells #[.bool true] 4)) w1.heap.size 4 (.bool true) ∧ w.heap.size < w1.heap.size) := by
      have hb0 := hb1.trans ((below_new w1 (.cells #[.bool true] 4)).mono hb1.size)
      refine ⟨HB0.out.1.trans (hb0.mono HB0.out.1.size), boxed_over HB0.out.2.1 hb0, HB0.out.2.2.over hb0, Boxed.new w1 _ _, ?_⟩
      have := hb1.size
      rw [World.size_alloc] at this
      omega
    clear hb1
    have cu := H1.out.2.2.2.1.cell
    go_wp2_with fail
    refine (HLT.out _ H1.out.2.2.1).mono ?_
    rintro e w9 ⟨rfl, hw9⟩; subst w9
    go_wp2_with fail
    refine (HCH.out _ H1.out.2.2.1).mono ?_
    rintro e w2 ⟨rfl, hb2⟩
    have H2 : Hid (Below w.heap.size w w2 ∧ Boxed w2 w.heap.size 4 (.bool false) ∧ NdR w2 v L ∧ Boxed w2 w1.heap.size 4 (.bool true) ∧ w.heap.size < w1.heap.size) := ⟨H1.out.1.trans (hb2.mono H1.out.1.size), boxed_over H1.out.2.1 hb2, H1.out.2.2.1.over hb2, boxed_over H1.out.2.2.2.1 hb2, H1.out.2.2.2.2⟩
    clear hb2 cu
    go_wp2_with fail
    refine (HCL.out _).mono ?_
    rintro e w3 ⟨rfl, hb3⟩
    have H3 : Hid (Below w.heap.size w w3 ∧ Boxed w3 w.heap.size 4 (.bool false) ∧ NdR w3 v L ∧ Boxed w3 w1.heap.size 4 (.bool true) ∧ w.heap.size < w1.heap.size) := ⟨H2.out.1.trans (hb3.mono H2.out.1.size), boxed_over H2.out.2.1 hb3, H2.out.2.2.1.over hb3, boxed_over H2.out.2.2.2.1 hb3, H2.out.2.2.2.2⟩
    clear hb3
    have cu := H3.out.2.2.2.1.cell
    have c9 := H3.out.2.1.cell
    have f9 := H3.out.2.1.frozen
    go_wp2_with fail
    refine bodyPost_ret (v := .bool true) (by simp [results, Tryd.results6, go_sem, c9]) rfl ⟨rfl, H3.out.1.trans (below_set' (Nat.le_refl _))⟩
  | true =>
    rw [hlt] at HLT
    by_cases hs : 256 < s.size
    · have r1 : (256 : Int) < (s.size : Int) := by omega
      have r1' : decide ((256 : Int) < (s.size : Int)) = true := decide_eq_true r1
      clear hc hlt hs
      go_enter Tryd.func6, Tryd.ntmps6
      go_wp2_with fail
      refine (awake_any J _).mono ?_
      rintro e w1 ⟨rfl, hb1⟩
      have H1 : Hid (Below w.heap.size w (w1.alloc (.cells #[.bool true] 4)) ∧ Boxed (w1.alloc (.cells #[.bool true] 4)) w.heap.size 4 (.bool false) ∧ NdR (w1.alloc (.cells #[.bool true] 4)) v L ∧ Boxed (w1.alloc (.cells #[.bool true] 4)) w1.heap.size 4 (.bool true) ∧ w.heap.size < w1.heap.size) := by
        have hb0 := hb1.trans ((below_new w1 (.cells #[.bool true] 4)).mono hb1.size)
        refine ⟨HB0.out.1.trans (hb0.mono HB0.out.1.size), boxed_over HB0.out.2.1 hb0, HB0.out.2.2.over hb0, Boxed.new w1 _ _, ?_⟩
        have := hb1.size
        rw [World.size_alloc] at this
        omega
      clear hb1
      have cu := H1.out.2.2.2.1.cell
      go_wp2_with fail
      refine (HLT.out _ H1.out.2.2.1).mono ?_
      rintro e w9 ⟨rfl, hw9⟩; subst w9
      go_wp2_with fail
      refine (HCH.out _ H1.out.2.2.1).mono ?_
      rintro e w2 ⟨rfl, hb2⟩
      have H2 : Hid (Below w.heap.size w w2 ∧ Boxed w2 w.heap.size 4 (.bool false) ∧ NdR w2 v L ∧ Boxed w2 w1.heap.size 4 (.bool true) ∧ w.heap.size < w1.heap.size) := ⟨H1.out.1.trans (hb2.mono H1.out.1.size), boxed_over H1.out.2.1 hb2, H1.out.2.2.1.over hb2, boxed_over H1.out.2.2.2.1 hb2, H1.out.2.2.2.2⟩
      clear hb2 cu
      go_wp2_with fail
      refine (HCL.out _).mono ?_
      rintro e w3 ⟨rfl, hb3⟩
      have H3 : Hid (Below w.heap.size w w3 ∧ Boxed w3 w.heap.size 4 (.bool false) ∧ NdR w3 v L ∧ Boxed w3 w1.heap.size 4 (.bool true) ∧ w.heap.size < w1.heap.size) := ⟨H2.out.1.trans (hb3.mono H2.out.1.size), boxed_over H2.out.2.1 hb3, H2.out.2.2.1.over hb3, boxed_over H2.out.2.2.2.1 hb3, H2.out.2.2.2.2⟩
      clear hb3
      have cu := H3.out.2.2.2.1.cell
      have c9 := H3.out.2.1.cell
      have f9 := H3.out.2.1.frozen
      go_wp2_with fail
      refine bodyPost_ret (v := .bool true) (by simp [results, Tryd.results6, go_sem, c9]) rfl ⟨rfl, H3.out.1.trans (below_set' (Nat.le_refl _))⟩
    · have r1 : ¬ (256 : Int) < (s.size : Int) := by omega
      have r1' : decide ((256 : Int) < (s.size : Int)) = false := decide_eq_false r1
      by_cases he : (chkN L).1 = 0
      · have hr : rightP (lst s) = false := by
          rcases hc with hc | hc | hc | hc
          · rw [hlt] at hc; cases hc
          · exact absurd hc hs
          · exact absurd he hc
          · exact hc
        rw [he] at HCH
        have hq : errP (lst s) = 1 := err_no hr
        rw [hq] at HCL
        clear hc hlt hs he hr hq
        generalize (chkN L).2 = cn at *
        go_enter Tryd.func6, Tryd.ntmps6
        go_wp2_with fail
        refine (awake_any J _).mono ?_
        rintro e w1 ⟨rfl, hb1⟩
        have H1 : Hid (Below w.heap.size w (w1.alloc (.cells #[.bool true] 4)) ∧ Boxed (w1.alloc (.cells #[.bool true] 4)) w.heap.size 4 (.bool false) ∧ NdR (w1.alloc (.cells #[.bool true] 4)) v L ∧ Boxed (w1.alloc (.cells #[.bool true] 4)) w1.heap.size 4 (.bool true) ∧ w.heap.size < w1.heap.size) := by
          have hb0 := hb1.trans ((below_new w1 (.cells #[.bool true] 4)).mono hb1.size)
          refine ⟨HB0.out.1.trans (hb0.mono HB0.out.1.size), boxed_over HB0.out.2.1 hb0, HB0.out.2.2.over hb0, Boxed.new w1 _ _, ?_⟩
          have := hb1.size
          rw [World.size_alloc] at this
          omega
        clear hb1
        have cu := H1.out.2.2.2.1.cell
        go_wp2_with fail
        refine (HLT.out _ H1.out.2.2.1).mono ?_
        rintro e w9 ⟨rfl, hw9⟩; subst w9
        go_wp2_with fail
        refine (HCH.out _ H1.out.2.2.1).mono ?_
        rintro e w2 ⟨rfl, hb2⟩
        have H2 : Hid (Below w.heap.size w w2 ∧ Boxed w2 w.heap.size 4 (.bool false) ∧ NdR w2 v L ∧ Boxed w2 w1.heap.size 4 (.bool true) ∧ w.heap.size < w1.heap.size) := ⟨H1.out.1.trans (hb2.mono H1.out.1.size), boxed_over H1.out.2.1 hb2, H1.out.2.2.1.over hb2, boxed_over H1.out.2.2.2.1 hb2, H1.out.2.2.2.2⟩
        clear hb2 cu
        go_wp2_with fail
        refine (HCL.out _).mono ?_
        rintro e w3 ⟨rfl, hb3⟩
        have H3 : Hid (Below w.heap.size w w3 ∧ Boxed w3 w.heap.size 4 (.bool false) ∧ NdR w3 v L ∧ Boxed w3 w1.heap.size 4 (.bool true) ∧ w.heap.size < w1.heap.size) := ⟨H2.out.1.trans (hb3.mono H2.out.1.size), boxed_over H2.out.2.1 hb3, H2.out.2.2.1.over hb3, boxed_over H2.out.2.2.2.1 hb3, H2.out.2.2.2.2⟩
        clear hb3
        have cu := H3.out.2.2.2.1.cell
        have c9 := H3.out.2.1.cell
        have f9 := H3.out.2.1.frozen
        go_wp2_with fail
        refine bodyPost_ret (v := .bool true) (by simp [results, Tryd.results6, go_sem, c9]) rfl ⟨rfl, H3.out.1.trans (below_set' (Nat.le_refl _))⟩
      · generalize (chkN L).1 = ce at *
        have g1 : (ce == 0) = false := beq_eq_false_iff_ne.2 he
        have g2 : (ce != 0) = true := by simp [bne, g1]
        clear hc hlt hs
        generalize (chkN L).2 = cn at *
        go_enter Tryd.func6, Tryd.ntmps6
        go_wp2_with fail
        refine (awake_any J _).mono ?_
        rintro e w1 ⟨rfl, hb1⟩
        have H1 : Hid (Below w.heap.size w (w1.alloc (.cells #[.bool true] 4)) ∧ Boxed (w1.alloc (.cells #[.bool true] 4)) w.heap.size 4 (.bool false) ∧ NdR (w1.alloc (.cells #[.bool true] 4)) v L ∧ Boxed (w1.alloc (.cells #[.bool true] 4)) w1.heap.size 4 (.bool true) ∧ w.heap.size < w1.heap.size) := by
          have hb0 := hb1.trans ((below_new w1 (.cells #[.bool true] 4)).mono hb1.size)
          refine ⟨HB0.out.1.trans (hb0.mono HB0.out.1.size), boxed_over HB0.out.2.1 hb0, HB0.out.2.2.over hb0, Boxed.new w1 _ _, ?_⟩
          have := hb1.size
          rw [World.size_alloc] at this
          omega
        clear hb1
        have cu := H1.out.2.2.2.1.cell
        go_wp2_with fail
        refine (HLT.out _ H1.out.2.2.1).mono ?_
        rintro e w9 ⟨rfl, hw9⟩; subst w9
        go_wp2_with fail
        refine (HCH.out _ H1.out.2.2.1).mono ?_
        rintro e w2 ⟨rfl, hb2⟩
        have H2 : Hid (Below w.heap.size w w2 ∧ Boxed w2 w.heap.size 4 (.bool false) ∧ NdR w2 v L ∧ Boxed w2 w1.heap.size 4 (.bool true) ∧ w.heap.size < w1.heap.size) := ⟨H1.out.1.trans (hb2.mono H1.out.1.size), boxed_over H1.out.2.1 hb2, H1.out.2.2.1.over hb2, boxed_over H1.out.2.2.2.1 hb2, H1.out.2.2.2.2⟩
        clear hb2 cu
        go_wp2_with fail
        refine (HCL.out _).mono ?_
        rintro e w3 ⟨rfl, hb3⟩
        have H3 : Hid (Below w.heap.size w w3 ∧ Boxed w3 w.heap.size 4 (.bool false) ∧ NdR w3 v L ∧ Boxed w3 w1.heap.size 4 (.bool true) ∧ w.heap.size < w1.heap.size) := ⟨H2.out.1.trans (hb3.mono H2.out.1.size), boxed_over H2.out.2.1 hb3, H2.out.2.2.1.over hb3, boxed_over H2.out.2.2.2.1 hb3, H2.out.2.2.2.2⟩
        clear hb3
        have cu := H3.out.2.2.2.1.cell
        have c9 := H3.out.2.1.cell
        have f9 := H3.out.2.1.frozen
        go_wp2_with fail
        refine bodyPost_ret (v := .bool true) (by simp [results, Tryd.results6, go_sem, c9]) rfl ⟨rfl, H3.out.1.trans (below_set' (Nat.le_refl _))⟩

/-- at the end: what is told lies in a cell; nothing is deferred. -/
theorem fin_cell {w W : World} {D : Nat} (hB : Below w.heap.size w W) (hbx : Boxed W w.heap.size 4 (.bool true)) (hK : W.heap[D]? = some (.deferred (some []))) (hD : w.heap.size ≤ D) :
    (W.putObj D (.deferred none)).cell? ⟨w.heap.size, 0, none⟩ = some (.bool true) ∧ Below w.heap.size w (W.putObj D (.deferred none)) :=
  ⟨cell_kept hbx.cell (grownBy_putObj' _ D (.deferred none)) (fun r e => by cases e; exact ⟨_, hK, rfl⟩), hB.trans (belowK_b (w := w) (Nat.le_refl _) _ D _ (.deferred none) hD hK rfl rfl)⟩

/-- .. is among the names: what is told lies in its cell. -/
def PlX (w : World) (cd : Code) (W : World) : Prop := cd = .ret ∧ Boxed W w.heap.size 4 (.bool true) ∧ Below w.heap.size w W
theorem PlX.grown {w w5 : World} {cd : Code} {W W' : World} {row : Option Nat} (h : PlX w cd W) (hlt : w.heap.size < w5.heap.size) (hg : W.grownBy W' row) (hr : ∀ j, row = some j → w5.heap.size ≤ j) : PlX w cd W' :=
  ⟨h.1, (hg.block _ h.2.1.lt (fun e => by have := hr _ e.symm; omega)).trans h.2.1, h.2.2.grown hg h.2.2.size (fun j e => by have := hr j e; omega)⟩

set_option maxRecDepth 100000 in
set_option maxHeartbeats 16000000 in
theorem plain_near (J : Ifv) (w : World) (v : Value) (L : List Nd) (s : ByteArray) (h : NdR w v L) (hl : ltB L = true) (hs : s.size ≤ 256) (hc : (chkN L).1 = 0) (hr : rightP (lst s) = true) : CallsIn Fence.wide 3 Tryd.prog 6 #[v, .string s] w (Tells w (.bool true)) := by
  have HB0 : Hid (Below w.heap.size w (w.alloc (.cells #[.bool false] 4)) ∧ Boxed (w.alloc (.cells #[.bool false] 4)) w.heap.size 4 (.bool false) ∧ NdR (w.alloc (.cells #[.bool false] 4)) v L) := ⟨below_new w _, Boxed.new w _ _, h.over (below_new w _)⟩
  have HLT : Hid (∀ W, NdR W v L → Calls Tryd.prog 10 #[v] W fun e w' => e = .returned (.bool (ltB L)) ∧ w' = W) := fun W h => light_any v L W h
  have HCH : Hid (∀ W, NdR W v L → Calls Tryd.prog 11 #[v] W (Tells W (.tuple #[.int .i64 (chkN L).1, .int .i64 (chkN L).2]))) := fun W h => J.check v L W h
  have HCL : Hid (∀ W, Calls Tryd.prog 17 #[.string s] W (Tells W (.tuple #[.string (bar (cleanP (lst s))), .int .i64 (errP (lst s))]))) := fun W => J.clean s W
  have HX : Hid (Lt L) := lt_iff.1 hl
  rw [hl] at HLT
  rw [hc] at HCH
  rw [err_ok hr] at HCL
  have r1 : ¬ (256 : Int) < (s.size : Int) := by omega
  have r1' : decide ((256 : Int) < (s.size : Int)) = false := decide_eq_false r1
  have HP : Hid ((∀ x ∈ L, x.k ≠ 3) → (∀ n ∈ namesP (lst s), n ≠ [46, 46]) → (∀ y, findN L (cleanP (lst s)) = some y → resV L (lst s) = (cleanP (lst s), y.k, 0)) ∧ (findN L (cleanP (lst s)) = none → (resV L (lst s)).2.2 = 17 ∨ (resV L (lst s)).2.2 = 20)) := fun h1 h2 => plain_res hc hr h1 h2
  have HR : Hid (∀ W, NdR W v L → Calls Tryd.prog 15 #[v, .string s] W (Tells W (.tuple #[.string (bar (resV L (lst s)).1), .int .i64 (resV L (lst s)).2.1, .int .i64 (resV L (lst s)).2.2]))) := fun W h => J.resolve v L s W h HX.out (by omega)
  obtain ⟨a, ha⟩ : ∃ a, bar (cleanP (lst s)) = a := ⟨_, rfl⟩
  have hla : cleanP (lst s) = lst a := by rw [← ha, lst_bar]
  have HF : Hid (∀ W, NdR W v L → Calls Tryd.prog 13 #[v, .string a] W (Tells W (.tuple #[(fndN (findN L (lst a))).v, .bool (findN L (lst a)).isSome]))) := fun W h => J.find v L a W h HX.out (by
    have h1 := (clean_again hr).2.2.1
    rw [hla, lst_length, lst_length] at h1
    omega)
  rw [ha] at HCL
  rw [hla] at HP
  have HNM : Hid (∀ W, Calls Tryd.prog 18 #[.string s] W fun e w' => ∃ gf lb, e = .returned (.func (.func gf) #[] lb) ∧ Below W.heap.size W w' ∧ SeqN w' (lst s) gf lb) := fun W => J.names s W (by omega)
  have HLA : Hid (bar (lst a) = a) := bar_lst a
  generalize (chkN L).2 = cn at *
  generalize resV L (lst s) = R at *
  obtain ⟨ra, rk, re⟩ := R
  simp only at HP HR
  clear hl hs hc hr ha hla
  obtain ⟨p, c, rfl⟩ := h.form
  clear h
  obtain ⟨n, hn⟩ : ∃ n, L.length = n := ⟨_, rfl⟩
  have HN : Hid (L.length = n ∧ n ≤ 70) := ⟨hn, hn ▸ HX.out.n⟩
  rw [hn] at HB0 HLT HCH HR HF ⊢
  clear hn
  refine callsIn_of_wp_marks Tryd.func6 rfl trivial ?_ rfl
  simp only [Tryd.ntmps6, List.size_toArray, List.length_cons, List.length_nil, Nat.reduceAdd, Nat.reduceSub, Array.replicate_succ, Array.replicate_zero, List.push_toArray, List.append_toArray, List.nil_append, List.cons_append]
  gi_wp2_with fail
  refine ⟨trivial, (callsIn_wide.2 (awake_any J _)).mono ?_⟩
  rintro e w1 ⟨rfl, hb1⟩
  have H1 : Hid (Below w.heap.size w (w1.alloc (.cells #[.bool true] 4)) ∧ Boxed (w1.alloc (.cells #[.bool true] 4)) w.heap.size 4 (.bool false) ∧ NdR (w1.alloc (.cells #[.bool true] 4)) (.slice p n c) L ∧ Boxed (w1.alloc (.cells #[.bool true] 4)) w1.heap.size 4 (.bool true) ∧ w.heap.size < w1.heap.size) := by
    have hb0 := hb1.trans ((below_new w1 (.cells #[.bool true] 4)).mono hb1.size)
    refine ⟨HB0.out.1.trans (hb0.mono HB0.out.1.size), boxed_over HB0.out.2.1 hb0, HB0.out.2.2.over hb0, Boxed.new w1 _ _, ?_⟩
    have := hb1.size
    rw [World.size_alloc] at this
    omega
  clear hb1
  have cu := H1.out.2.2.2.1.cell
  gi_wp2_with fail
  refine ⟨trivial, (callsIn_wide.2 (HLT.out _ H1.out.2.2.1)).mono ?_⟩
  rintro e w9 ⟨rfl, hw9⟩; subst w9
  gi_wp2_with fail
  refine ⟨trivial, (callsIn_wide.2 (HCH.out _ H1.out.2.2.1)).mono ?_⟩
  rintro e w2 ⟨rfl, hb2⟩
  have H2 : Hid (Below w.heap.size w w2 ∧ Boxed w2 w.heap.size 4 (.bool false) ∧ NdR w2 (.slice p n c) L ∧ Boxed w2 w1.heap.size 4 (.bool true) ∧ w.heap.size < w1.heap.size) := ⟨H1.out.1.trans (hb2.mono H1.out.1.size), boxed_over H1.out.2.1 hb2, H1.out.2.2.1.over hb2, boxed_over H1.out.2.2.2.1 hb2, H1.out.2.2.2.2⟩
  clear hb2 cu
  gi_wp2_with fail
  refine ⟨trivial, (callsIn_wide.2 (HCL.out _)).mono ?_⟩
  rintro e w3 ⟨rfl, hb3⟩
  have H3 : Hid (Below w.heap.size w w3 ∧ Boxed w3 w.heap.size 4 (.bool false) ∧ NdR w3 (.slice p n c) L ∧ Boxed w3 w1.heap.size 4 (.bool true) ∧ w.heap.size < w1.heap.size) := ⟨H2.out.1.trans (hb3.mono H2.out.1.size), boxed_over H2.out.2.1 hb3, H2.out.2.2.1.over hb3, boxed_over H2.out.2.2.2.1 hb3, H2.out.2.2.2.2⟩
  clear hb3
  have cu := H3.out.2.2.2.1.cell
  have c9 := H3.out.2.1.cell
  have f9 := H3.out.2.1.frozen
  gi_wp2_with fail
  gi_loopw [11] (fun v11 wr => ∃ i : Nat, v11 = .int .i64 i ∧ i ≤ n ∧ (∀ x ∈ L.take i, x.k ≠ 3) ∧ wr = w3) (fun v11 _ => n - (intOf v11).toNat)
  case atStart => exact ⟨0, rfl, Nat.zero_le _, fun x hx => by simp at hx, rfl⟩
  case round =>
    obtain ⟨i, rfl, hi, hno, hw⟩ := hrel
    subst hw
    have HNO : Hid (∀ x ∈ L.take i, x.k ≠ 3) := hno
    have hi70 : i ≤ 70 := by have := HN.out; omega
    clear hno
    by_cases hlt : i < n
    · have hi1 : (i : Int) < (n : Int) := by omega
      have hiL : i < L.length := by rw [HN.out.1]; exact hlt
      obtain ⟨b, o, e1, t0, t1, t2⟩ := H3.out.2.2.1.at hiL
      subst e1
      by_cases hk : L[i].k = 3
      · rw [hk] at t1
        clear t0 t2
        gi_wp2_with fail
        exact ⟨.bool true, by simp [results, Tryd.results6, go_sem, c9], rfl, H3.out.1.trans (below_set' (Nat.le_refl _))⟩
      · have g1 : (L[i].k == 3) = false := beq_eq_false_iff_ne.2 hk
        have HX2 : Hid (∀ x ∈ L.take (i + 1), x.k ≠ 3) := fun x hx => by
          rw [List.take_add_one, List.getElem?_eq_getElem hiL] at hx
          rcases List.mem_append.1 hx with hx | hx
          · exact HNO.out x hx
          · rw [Option.toList_some, List.mem_singleton] at hx
            subst hx
            exact hk
        clear t0 t2 hk
        generalize L[i].k = kk at *
        gi_wp2_with fail
        go_roundw
        case rel => exact ⟨i + 1, by go_num, hlt, HX2.out, by trivial⟩
        case measure => simp [intOf]; omega
    · have hi1 : ¬ (i : Int) < (n : Int) := by omega
      have HNK : Hid (∀ x ∈ L, x.k ≠ 3) := by
        have h9 := HNO.out
        rw [List.take_of_length_le (by have := HN.out.1; omega)] at h9
        exact h9
      gi_wp2_with fail
      refine ⟨trivial, (callsIn_wide.2 (HNM.out _)).mono ?_⟩
      rintro e w5 ⟨gf, lb, rfl, hb5, hsq⟩
      have H5 : Hid (Below w.heap.size w w5 ∧ Boxed w5 w.heap.size 4 (.bool false) ∧ NdR w5 (.slice p n c) L ∧ Boxed w5 w1.heap.size 4 (.bool true) ∧ w.heap.size < w1.heap.size ∧ w.heap.size ≤ w5.heap.size) := ⟨H3.out.1.trans (hb5.mono H3.out.1.size), boxed_over H3.out.2.1 hb5, H3.out.2.2.1.over hb5, boxed_over H3.out.2.2.2.1 hb5, H3.out.2.2.2.2, Nat.le_trans H3.out.1.size hb5.size⟩
      clear hb5 cu c9 f9
      gi_wp2_with fail
      refine' wpIn_rangeFunc_ownG (F := Fence.wide) rfl (by decide) (gf := gf) (lb := lb) rfl trivial hsq.ent hsq.stops belowK_t (belowK_b (Nat.le_refl _)) (Below.refl _ _) (fun _ => rfl)
        (fun pre W => Below w5.heap.size w5 W ∧ ∀ y ∈ pre, y ≠ [46, 46]) (fun cd _ W => PlX w cd W)
        (fun pre W W' row h hg hr => ⟨h.1.grown hg h.1.size (fun j e => (hr j e).1), h.2⟩) (fun cd pre W W' row h hg hr => h.grown H5.out.2.1.lt hg (fun j e => (hr j e).1)) ⟨Below.refl _ _, fun y hy => (by cases hy)⟩ _ ?assign ?body ?done ?stop
      case assign =>
        intro l' x W K hK
        simp only [encT]
        gi_wp2
        exact hK
      case body =>
        rintro l' pre x W ⟨hB, hG⟩ hlt
        have br : Boxed W w.heap.size 4 (.bool false) := boxed_over H5.out.2.1 hB
        have bu : Boxed W w1.heap.size 4 (.bool true) := boxed_over H5.out.2.2.2.1 hB
        have cr := br.cell
        have frr := br.frozen
        have cu := bu.cell
        have e3 : ((bar x).toList == [46, 46]) = (x == [46, 46]) := by rw [toList_bar]
        have HBW : Hid (Below w5.heap.size w5 W ∧ ∀ y ∈ pre, y ≠ [46, 46]) := ⟨hB, hG⟩
        have HBR : Hid (Boxed (W.setCell ⟨w.heap.size, 0, none⟩ (.bool true)) w.heap.size 4 (.bool true) ∧ Below w.heap.size w (W.setCell ⟨w.heap.size, 0, none⟩ (.bool true))) := ⟨br.set (.bool true), (H5.out.1.trans (hB.mono H5.out.2.2.2.2.2)).trans (below_set' (Nat.le_refl _))⟩
        clear hB hG hlt br bu
        by_cases h3 : x = [46, 46]
        · rw [beq_iff_eq.2 h3] at e3
          clear h3
          gi_wp2
          exact ⟨(KeepsOthers.setCell _ _ _).from _, rfl, HBR.out⟩
        · rw [beq_eq_false_iff_ne.2 h3] at e3
          have HGX : Hid (∀ y ∈ pre ++ [x], y ≠ [46, 46]) := fun y hy => by
            rcases List.mem_append.1 hy with hy | hy
            · exact HBW.out.2 y hy
            · rw [List.mem_singleton.1 hy]; exact h3
          clear h3
          gi_wp2
          exact ⟨KeepsFrom.refl _ _, Below.refl _ _, HBW.out.1, HGX.out⟩
      case done =>
        rintro D ys W hD hS ⟨hB, hG⟩ hK
        rw [hS] at hG
        have hP := HP.out HNK.out hG
        have hDD : w.heap.size ≤ D := Nat.le_trans H5.out.2.2.2.2.2 hD
        have H6 : Hid (Below w.heap.size w W ∧ Boxed W w.heap.size 4 (.bool false) ∧ NdR W (.slice p n c) L ∧ Boxed W w1.heap.size 4 (.bool true) ∧ W.heap[D]? = some (.deferred (some [])) ∧ w.heap.size ≤ D) := ⟨H5.out.1.trans (hB.mono H5.out.2.2.2.2.2), boxed_over H5.out.2.1 hB, H5.out.2.2.1.over hB, boxed_over H5.out.2.2.2.1 hB, hK, hDD⟩
        clear hB hG hK hS hsq hD hDD
        have HFX : Hid ((∃ y, findN L (lst a) = some y) ∨ findN L (lst a) = none) := by
          cases hf : findN L (lst a) with
          | none => exact .inr rfl
          | some y => exact .inl ⟨y, rfl⟩
        rcases HFX.out with ⟨y, hy⟩ | hy
        · have hR := hP.1 y hy
          cases hR
          rw [hy] at HF
          have HF2 : Hid (∀ W, NdR W (.slice p n c) L → Calls Tryd.prog 13 #[.slice p n c, .string a] W (Tells W (.tuple #[.agg #[.string (bar y.p), .int .i64 y.k, .string (bar y.t)], .bool true]))) := HF.out
          rw [HLA.out] at HR
          clear hP hy HF HFX
          generalize bar y.p = yp at *
          generalize bar y.t = yt at *
          generalize y.k = yk at *
          gi_wp2_with fail
          refine ⟨trivial, (callsIn_wide.2 (HR.out _ H6.out.2.2.1)).mono ?_⟩
          rintro e w6 ⟨rfl, hb6⟩
          have H7 : Hid (Below w.heap.size w w6 ∧ Boxed w6 w.heap.size 4 (.bool false) ∧ NdR w6 (.slice p n c) L ∧ Boxed w6 w1.heap.size 4 (.bool true) ∧ w6.heap[D]? = some (.deferred (some []))) := ⟨H6.out.1.trans (hb6.mono H6.out.1.size), boxed_over H6.out.2.1 hb6, H6.out.2.2.1.over hb6, boxed_over H6.out.2.2.2.1 hb6, (hb6.block D (Array.getElem?_eq_some_iff.1 H6.out.2.2.2.2.1).1).trans H6.out.2.2.2.2.1⟩
          clear hb6
          gi_wp2_with fail
          refine ⟨trivial, (callsIn_wide.2 (HF2.out _ H7.out.2.2.1)).mono ?_⟩
          rintro e w7 ⟨rfl, hb7⟩
          have hb8 := hb7.trans ((below_new w7 (.cells #[.string yp, .int .i64 yk, .string yt] 29)).mono hb7.size)
          have H8 : Hid (Below w.heap.size w (w7.alloc (.cells #[.string yp, .int .i64 yk, .string yt] 29)) ∧ Boxed (w7.alloc (.cells #[.string yp, .int .i64 yk, .string yt] 29)) w.heap.size 4 (.bool false) ∧ Boxed (w7.alloc (.cells #[.string yp, .int .i64 yk, .string yt] 29)) w1.heap.size 4 (.bool true) ∧ (w7.alloc (.cells #[.string yp, .int .i64 yk, .string yt] 29)).heap[D]? = some (.deferred (some [])) ∧ Blk (w7.alloc (.cells #[.string yp, .int .i64 yk, .string yt] 29)) w7.heap.size 29 [.string yp, .int .i64 yk, .string yt]) := ⟨H7.out.1.trans (hb8.mono H7.out.1.size), boxed_over H7.out.2.1 hb8, boxed_over H7.out.2.2.2.1 hb8, (hb8.block D (Array.getElem?_eq_some_iff.1 H7.out.2.2.2.2).1).trans H7.out.2.2.2.2, heap_alloc_new w7 _⟩
          clear hb7 hb8
          have c9 := H8.out.2.1.cell
          have f9 := H8.out.2.1.frozen
          have cu := H8.out.2.2.1.cell
          have d1 := H8.out.2.2.2.2.cell 1
          simp only [List.getElem?_cons_zero, List.getElem?_cons_succ] at d1
          have hK8 := (KeepsOthers.setCell (w7.alloc (.cells #[.string yp, .int .i64 yk, .string yt] 29)) ⟨w.heap.size, 0, none⟩ (.bool true)).same D _ H8.out.2.2.2.1 rfl
          have fin := fin_cell (H8.out.1.trans (below_set' (Nat.le_refl _))) (H8.out.2.1.set (.bool true)) hK8 H6.out.2.2.2.2.2
          have HK8 : Hid _ := hK8
          have HFN : Hid _ := fin
          clear hK8 fin
          gi_wp2_with fail
          exact ⟨by simp, .inl ⟨_, _, rfl, run_takeDeferred HK8.out, _, by simp [results, Tryd.results6, go_sem, HFN.out.1], rfl, HFN.out.2⟩⟩
        · have hR := hP.2 hy
          rw [hy] at HF
          have HF2 : Hid (∀ W, NdR W (.slice p n c) L → Calls Tryd.prog 13 #[.slice p n c, .string a] W (Tells W (.tuple #[.agg #[.string ⟨#[]⟩, .int .i64 0, .string ⟨#[]⟩], .bool false]))) := HF.out
          clear hP hy HF HFX
          generalize bar ra = rb at *
          rcases hR with rfl | rfl
          all_goals
            gi_wp2_with fail
            refine ⟨trivial, (callsIn_wide.2 (HR.out _ H6.out.2.2.1)).mono ?_⟩
            rintro e w6 ⟨rfl, hb6⟩
            have H7 : Hid (Below w.heap.size w w6 ∧ Boxed w6 w.heap.size 4 (.bool false) ∧ NdR w6 (.slice p n c) L ∧ Boxed w6 w1.heap.size 4 (.bool true) ∧ w6.heap[D]? = some (.deferred (some []))) := ⟨H6.out.1.trans (hb6.mono H6.out.1.size), boxed_over H6.out.2.1 hb6, H6.out.2.2.1.over hb6, boxed_over H6.out.2.2.2.1 hb6, (hb6.block D (Array.getElem?_eq_some_iff.1 H6.out.2.2.2.2.1).1).trans H6.out.2.2.2.2.1⟩
            clear hb6
            gi_wp2_with fail
            refine ⟨trivial, (callsIn_wide.2 (HF2.out _ H7.out.2.2.1)).mono ?_⟩
            rintro e w7 ⟨rfl, hb7⟩
            have hb8 := hb7.trans ((below_new w7 (.cells #[.string ⟨#[]⟩, .int .i64 0, .string ⟨#[]⟩] 29)).mono hb7.size)
            have H8 : Hid (Below w.heap.size w (w7.alloc (.cells #[.string ⟨#[]⟩, .int .i64 0, .string ⟨#[]⟩] 29)) ∧ Boxed (w7.alloc (.cells #[.string ⟨#[]⟩, .int .i64 0, .string ⟨#[]⟩] 29)) w.heap.size 4 (.bool false) ∧ Boxed (w7.alloc (.cells #[.string ⟨#[]⟩, .int .i64 0, .string ⟨#[]⟩] 29)) w1.heap.size 4 (.bool true) ∧ (w7.alloc (.cells #[.string ⟨#[]⟩, .int .i64 0, .string ⟨#[]⟩] 29)).heap[D]? = some (.deferred (some [])) ∧ Blk (w7.alloc (.cells #[.string ⟨#[]⟩, .int .i64 0, .string ⟨#[]⟩] 29)) w7.heap.size 29 [.string ⟨#[]⟩, .int .i64 0, .string ⟨#[]⟩]) := ⟨H7.out.1.trans (hb8.mono H7.out.1.size), boxed_over H7.out.2.1 hb8, boxed_over H7.out.2.2.2.1 hb8, (hb8.block D (Array.getElem?_eq_some_iff.1 H7.out.2.2.2.2).1).trans H7.out.2.2.2.2, heap_alloc_new w7 _⟩
            clear hb7 hb8
            have c9 := H8.out.2.1.cell
            have f9 := H8.out.2.1.frozen
            have cu := H8.out.2.2.1.cell
            have d1 := H8.out.2.2.2.2.cell 1
            simp only [List.getElem?_cons_zero, List.getElem?_cons_succ] at d1
            have hK8 := (KeepsOthers.setCell (w7.alloc (.cells #[.string ⟨#[]⟩, .int .i64 0, .string ⟨#[]⟩] 29)) ⟨w.heap.size, 0, none⟩ (.bool true)).same D _ H8.out.2.2.2.1 rfl
            have fin := fin_cell (H8.out.1.trans (below_set' (Nat.le_refl _))) (H8.out.2.1.set (.bool true)) hK8 H6.out.2.2.2.2.2
            have HK8 : Hid _ := hK8
            have HFN : Hid _ := fin
            clear hK8 fin
            gi_wp2_with fail
            exact ⟨by simp, .inl ⟨_, _, rfl, run_takeDeferred HK8.out, _, by simp [results, Tryd.results6, go_sem, HFN.out.1], rfl, HFN.out.2⟩⟩
      case stop =>
        rintro D cd pre W hD hS ⟨rfl, hbx, hbw⟩ hK
        have hDD : w.heap.size ≤ D := Nat.le_trans H5.out.2.2.2.2.2 hD
        have fin := fin_cell hbw hbx hK hDD
        gi_wp2
        exact ⟨by simp, .inl ⟨_, _, rfl, run_takeDeferred hK, _, by simp [results, Tryd.results6, go_sem, fin.1], rfl, fin.2⟩⟩

theorem plain_walk (J : Ifv) (w : World) (v : Value) (L : List Nd) (s : ByteArray) (h : NdR w v L) : Calls Tryd.prog 6 #[v, .string s] w (Tells w (.bool true)) := by
  by_cases hc : ltB L = false ∨ 256 < s.size ∨ (chkN L).1 ≠ 0 ∨ rightP (lst s) = false
  · exact plain_far J w v L s h hc
  · simp only [not_or, Bool.not_eq_false, Decidable.not_not] at hc
    exact callsIn_wide.1 (plain_near J w v L s h hc.1 (by omega) hc.2.2.1 hc.2.2.2)

end Go.Proofs.YtilemgpopjlchaaDoor
