/-
  A tree's nodes by their paths, as the program lays them; its Check.
-/
import Derived.Test.YtilemgpopjlchaaDoorTFa
import Derived.Test.YtilemgpopjlchaaDoorDCk
import Derived.WideMake
namespace Go.Proofs.YtilemgpopjlchaaDoor
open Go.RowKit Go.Shelf Go.Maps

theorem below_turned {w w1 w2 : World} {B : Nat} (h : Below w.heap.size w w1) (hB : w.heap.size ≤ B) (ht : w1.mapTurned w2 B) : Below w.heap.size w w2 :=
  h.grown ht.grown h.size fun j hj => by cases hj; exact hB
/-- what is told of a tree: a map, or what is wrong. -/
def ByE (L : List Nd) (w : World) (e : Ending) (w' : World) : Prop :=
  Below w.heap.size w w' ∧ ((chkN L).1 = 0 → ∃ B, e = .returned (.tuple #[.map (some B), .int .i64 0, .int .i64 (-1)]) ∧ w.heap.size ≤ B ∧ MpN w' B (rootN :: L)) ∧
    ((chkN L).1 ≠ 0 → e = .returned (.tuple #[.map none, .int .i64 (chkN L).1, .int .i64 (chkN L).2]))
theorem byE_bad {L : List Nd} {w w' : World} {a b : Int} (hb : Below w.heap.size w w') (hc : chkN L = (a, b)) (ha : a ≠ 0) : ByE L w (.returned (.tuple #[.map none, .int .i64 a, .int .i64 b])) w' :=
  ⟨hb, fun h => absurd (by rw [hc] at h; exact h) ha, fun _ => by rw [hc]⟩
theorem byE_ok {L : List Nd} {w w' : World} {B : Nat} (hb : Below w.heap.size w w') (hc : chkN L = (0, -1)) (hB : w.heap.size ≤ B) (hm : MpN w' B (rootN :: L)) : ByE L w (.returned (.tuple #[.map (some B), .int .i64 0, .int .i64 (-1)])) w' :=
  ⟨hb, fun _ => ⟨B, rfl, hB, hm⟩, fun h => absurd (by rw [hc]) h⟩

set_option maxHeartbeats 16000000 in
theorem tby_any (v : Value) (L : List Nd) (w : World) (h : NdR w v L) : Calls Tryd.prog 20 #[v] w (ByE L w) := by
  obtain ⟨p, c, rfl⟩ := h.form
  obtain ⟨n, hn⟩ : ∃ n, L.length = n := ⟨_, rfl⟩
  have HN : Hid (L.length = n) := hn
  have H0 : Hid (NdR w (.slice p n c) L) := by rw [← hn]; exact h
  rw [hn]
  clear h hn
  by_cases h64 : 64 < n
  · have r1 : (64 : Int) < (n : Int) := by omega
    have r1' : decide ((64 : Int) < (n : Int)) = true := decide_eq_true r1
    have HC : Hid (chkN L = (4, 64)) := by show _ = _; unfold chkN; rw [if_pos (by rw [HN.out]; exact h64)]
    clear h64
    go_enter Tryd.func20, Tryd.ntmps20
    go_wp2
    go_ret3
    exact byE_bad (Below.refl _ _) HC.out (by decide)
  · have r1 : ¬ (64 : Int) < (n : Int) := by omega
    have r1' : decide ((64 : Int) < (n : Int)) = false := decide_eq_false r1
    have HS : Hid (chkA (L.take 0) (L.drop 0) = chkN L ∧ n ≤ 64) := ⟨chk_start (by rw [HN.out]; exact h64), by omega⟩
    clear h64
    have hmm : ∀ W : World, (Instr.makeMap 42 none).run Tryd.prog W = .ok (.map (some W.heap.size)) (W.alloc (.map #[] 0)) := fun W => run_makeMap_plain W _
    have HM0 : Hid (MpN (w.alloc (.map #[] 0)) w.heap.size [] ∧ Below w.heap.size w (w.alloc (.map #[] 0))) := ⟨MpN.made w, below_new w _⟩
    go_enter Tryd.func20, Tryd.ntmps20
    go_wp2_with fail
    clear hmm
    refine (ttop_any _).mono ?_
    rintro e w1 ⟨rfl, hb1⟩
    have H1 : Hid (MpN w1 w.heap.size [] ∧ Below w.heap.size w w1) := ⟨HM0.out.1.over hb1, HM0.out.2.trans (hb1.mono HM0.out.2.size)⟩
    clear hb1
    have hrv : rootN.v = .agg #[.string ⟨#[47]⟩, .int .i64 2, .string ⟨#[]⟩] := rfl
    rw [hrv]
    obtain ⟨w2, hput, hm2, ht2⟩ := run_putN (x := rootN) H1.out.1 (Nat.zero_le _) (fun y hy => by cases hy) (show 1 ≤ 100000 by omega)
    have hput' : (Instr.mapUpdate 42 (.map (some w.heap.size)) (.string ⟨#[47]⟩) (.agg #[.string ⟨#[47]⟩, .int .i64 2, .string ⟨#[]⟩])).run Tryd.prog w1 = .ok () w2 := hput
    have H2 : Hid (MpN w2 w.heap.size [rootN] ∧ Below w.heap.size w w2) := ⟨hm2, below_turned H1.out.2 (Nat.le_refl _) ht2⟩
    clear hm2 ht2 hput
    go_wp2_with fail
    clear hput'
    go_loopw [6, 7, 8, 17] (fun _ _ _ v17 wr => ∃ i : Nat, v17 = .int .i64 i ∧ i ≤ n ∧ chkA (L.take i) (L.drop i) = chkN L ∧ MpN wr w.heap.size (rootN :: L.take i) ∧ Below w.heap.size w wr) (fun _ _ _ v17 _ => n - (intOf v17).toNat)
    case atStart => exact ⟨0, rfl, Nat.zero_le _, HS.out.1, H2.out.1, H2.out.2⟩
    case round =>
      obtain ⟨i, rfl, hi, heq, hmp, hbw⟩ := hrel
      have HB : Hid (Below w.heap.size w wr ∧ NdR wr (.slice p n c) L ∧ chkA (L.take i) (L.drop i) = chkN L ∧ MpN wr w.heap.size (rootN :: L.take i)) := ⟨hbw, H0.out.over hbw, heq, hmp⟩
      have hi64 : i ≤ 64 := by have := HS.out.2; omega
      clear heq hbw hmp
      by_cases hlt : i < n
      · have hi1 : (i : Int) < (n : Int) := by omega
        have hiL : i < L.length := by rw [HN.out]; exact hlt
        obtain ⟨b, o, e1, t0, t1, t2⟩ := HB.out.2.1.at hiL
        subst e1
        have HST := HB.out.2.2.1
        rw [chk_step hiL] at HST
        obtain ⟨x, hx⟩ : ∃ x, L[i] = x := ⟨_, rfl⟩
        have HX : Hid (L.take (i + 1) = L.take i ++ [x]) := by
          show _ = _
          rw [List.take_add_one, List.getElem?_eq_getElem hiL, hx]
          rfl
        rw [hx] at t0 t1 t2 HST
        obtain ⟨xp, hxp⟩ : ∃ s, bar x.p = s := ⟨_, rfl⟩
        obtain ⟨xt, hxt⟩ : ∃ s, bar x.t = s := ⟨_, rfl⟩
        have hxx : (⟨lst xp, x.k, lst xt⟩ : Nd) = x := by rw [← hxp, ← hxt, lst_bar, lst_bar]
        have HXV : Hid (x.v = .agg #[.string xp, .int .i64 x.k, .string xt] ∧ bar x.p = xp) := ⟨by rw [← hxp, ← hxt]; rfl, hxp⟩
        have HFL : Hid (∀ W, MpN W w.heap.size (rootN :: L.take i) → Calls Tryd.prog 36 #[.map (some w.heap.size), .agg #[.string xp, .int .i64 x.k, .string xt]] W (Tells W (.int .i64 (wrongN (L.take i) x)))) := fun W h => by
          have := tfault_any w.heap.size (L.take i) xp xt x.k W h
          rw [hxx] at this
          exact this
        rw [hxp] at t0
        rw [hxt] at t2
        have HST' : Hid _ := HST
        have HWZ : Hid (wrongN (L.take i) x = 0 → (∀ y ∈ rootN :: L.take i, y.p ≠ x.p) ∧ x.p.length ≤ 100000) := fun hz => by
          obtain ⟨h1, h2, _, h4, _⟩ := wrong_zero hz
          refine ⟨fun y hy => ?_, ?_⟩
          · rcases List.mem_cons.1 hy with rfl | hy
            · exact fun e => h2 e.symm
            · exact findL_none.1 h4 y hy
          · have := (right_iff.1 (clean_ok h1).1).1
            omega
        clear HST hxp hxt hxx hx
        generalize hwe : wrongN (L.take i) x = e at *
        have HWE : Hid (wrongN (L.take i) x = e) := hwe
        clear hwe
        generalize hxk : x.k = xk at *
        clear hxk
        have hbz := below_new wr (.cells #[.string xp, .int .i64 xk, .string xt] 29)
        have HMZ : Hid (MpN (wr.alloc (.cells #[.string xp, .int .i64 xk, .string xt] 29)) w.heap.size (rootN :: L.take i) ∧ Below w.heap.size w (wr.alloc (.cells #[.string xp, .int .i64 xk, .string xt] 29)) ∧ Blk (wr.alloc (.cells #[.string xp, .int .i64 xk, .string xt] 29)) wr.heap.size 29 [.string xp, .int .i64 xk, .string xt]) := ⟨HB.out.2.2.2.over hbz, HB.out.1.trans (hbz.mono HB.out.1.size), heap_alloc_new wr _⟩
        clear hbz
        obtain ⟨d0, d1, d2⟩ := nd_cells wr (.string xp) (.int .i64 xk) (.string xt)
        go_wp2_with fail
        refine (HFL.out _ HMZ.out.1).mono ?_
        rintro e' w3 ⟨rfl, hb3⟩
        have H3 : Hid (MpN w3 w.heap.size (rootN :: L.take i) ∧ Below w.heap.size w w3 ∧ Blk w3 wr.heap.size 29 [.string xp, .int .i64 xk, .string xt]) := ⟨HMZ.out.1.over hb3, HMZ.out.2.1.trans (hb3.mono HMZ.out.2.1.size), HMZ.out.2.2.over hb3⟩
        clear hb3 d0 d1 d2
        have d0 := H3.out.2.2.cell 0
        have d1 := H3.out.2.2.cell 1
        have d2 := H3.out.2.2.cell 2
        simp only [List.getElem?_cons_zero, List.getElem?_cons_succ] at d0 d1 d2
        by_cases he : e = 0
        · subst he
          obtain ⟨hnw, hpl⟩ := HWZ.out rfl
          have HNW : Hid ((∀ y ∈ rootN :: L.take i, y.p ≠ x.p) ∧ x.p.length ≤ 100000 ∧ (rootN :: L.take i).length ≤ 100000) := ⟨hnw, hpl, by rw [List.length_cons, List.length_take]; omega⟩
          clear hnw hpl
          obtain ⟨w4, hput, hm4, ht4⟩ := run_putN (x := x) H3.out.1 HNW.out.2.2 HNW.out.1 HNW.out.2.1
          rw [HXV.out.1, HXV.out.2] at hput
          have H4 : Hid (MpN w4 w.heap.size (rootN :: L.take (i + 1)) ∧ Below w.heap.size w w4) := ⟨by rw [HX.out]; exact hm4, below_turned H3.out.2.1 (Nat.le_refl _) ht4⟩
          clear hm4 ht4
          go_wp2_with fail
          go_roundw
          case rel => exact ⟨i + 1, by go_num, hlt, by have h9 := HST'.out; simpa using h9, H4.out.1, H4.out.2⟩
          case measure => simp [intOf]; omega
        · have g1 : (e == 0) = false := beq_eq_false_iff_ne.2 he
          have g2 : (e != 0) = true := by simp [bne, g1]
          go_wp2_with fail
          go_ret3
          exact byE_bad H3.out.2.1 (HST'.out.symm.trans (if_neg he)) he
      · have hi1 : ¬ (i : Int) < (n : Int) := by omega
        have HE : Hid (chkN L = (0, -1) ∧ L.take i = L) := by
          have := HB.out.2.2.1
          rw [chk_end (by rw [HN.out]; omega)] at this
          exact ⟨this.symm, List.take_of_length_le (by rw [HN.out]; omega)⟩
        go_wp2
        go_ret3
        exact byE_ok HB.out.1 HE.out.1 (Nat.le_refl _) (by have := HB.out.2.2.2; rwa [HE.out.2] at this)

set_option maxHeartbeats 4000000 in
theorem tcheck_any (v : Value) (L : List Nd) (w : World) (h : NdR w v L) : Calls Tryd.prog 11 #[v] w (Tells w (tellC (chkN L))) := by
  have HBY : Hid (Calls Tryd.prog 20 #[v] w (ByE L w)) := tby_any v L w h
  clear h
  by_cases hc : (chkN L).1 = 0
  · have hcc : chkN L = (0, -1) := by
      unfold chkN at hc ⊢
      split at hc
      · cases hc
      · rename_i h64
        rw [if_neg h64]
        clear h64 HBY
        have : ∀ (A R : List Nd), (chkA A R).1 = 0 → chkA A R = (0, -1) := fun A R => by
          induction R generalizing A with
          | nil => intro _; rfl
          | cons x R ih =>
            intro h
            rw [chkA_cons] at h ⊢
            split at h
            · rename_i hz
              rw [if_pos hz]
              exact ih _ h
            · rename_i hz
              exact absurd h hz
        exact this _ _ hc
    have HC : Hid (chkN L = (0, -1)) := hcc
    go_enter Tryd.func11, Tryd.ntmps11
    go_wp2_with fail
    refine HBY.out.mono ?_
    rintro e w1 ⟨hb1, h1, _⟩
    obtain ⟨B, rfl, _, _⟩ := h1 hc
    clear h1
    go_wp2_with fail
    go_ret2
    exact ⟨by rw [HC.out]; rfl, hb1⟩
  · obtain ⟨⟨ce, cn⟩, hC⟩ : ∃ C, chkN L = C := ⟨_, rfl⟩
    have HC : Hid (chkN L = (ce, cn)) := hC
    go_enter Tryd.func11, Tryd.ntmps11
    go_wp2_with fail
    refine HBY.out.mono ?_
    rintro e w1 ⟨hb1, _, h2⟩
    have he := h2 hc
    rw [hC] at he
    subst he
    clear h2
    go_wp2_with fail
    go_ret2
    exact ⟨by rw [HC.out]; rfl, hb1⟩

end Go.Proofs.YtilemgpopjlchaaDoor
