/-
  The document's Send and Reply.
-/
import Derived.Test.YtlckconhhhllkaaROps
namespace Go.Proofs.Ytlckconhhhllkaa
open Go.RowKit

theorem RfC.other {w : World} {base b be i : Nat} {v u : Value} {s : Nt} (h : RfC w base b v s) (hb : b ≠ be) (hg : ∀ g, v.ownBlock = some g → g ≠ be) : RfC (w.setCell ⟨be, i, none⟩ u) base b v s := by
  refine ⟨h.bb, h.blk.other _ _ hb, h.row.1, ?_⟩
  rcases h.row.2 with hn | ⟨g, cap, cur, hv, hg2, hh, r⟩
  · exact .inl hn
  · exact .inr ⟨g, cap, cur, hv, hg2, by rw [heap_setCell_other w ⟨be, i, none⟩ g u (hg g (by rw [hv]; rfl))]; exact hh, r⟩
/-- a notification put into a box. -/
def put6 (w : World) (be : Nat) (x : En) : World := (((((w.setCell ⟨be, 0, none⟩ (.int .u64 x.id)).setCell ⟨be, 1, none⟩ (.int .i64 x.ta)).setCell ⟨be, 2, none⟩ (.int .i64 x.st)).setCell ⟨be, 3, none⟩ (.int .i64 x.le)).setCell ⟨be, 4, none⟩ (.int .i64 x.kd)).setCell ⟨be, 5, none⟩ (.int .i64 x.vl)
theorem put6_blk {w : World} {be : Nat} {x y : En} (h : Blk w be 44 y.cells) : Blk (put6 w be x) be 44 x.cells := (((((h.set 0 _).set 1 _).set 2 _).set 3 _).set 4 _).set 5 _
theorem put6_fr {w : World} {be base : Nat} {x y : En} (h : Blk w be 44 y.cells) (hb : base ≤ be) : Fr [44] [] base w (put6 w be x) := by
  have h1 := h.set 0 (.int .u64 x.id)
  have h2 := h1.set 1 (.int .i64 x.ta)
  have h3 := h2.set 2 (.int .i64 x.st)
  have h4 := h3.set 3 (.int .i64 x.le)
  have h5 := h4.set 4 (.int .i64 x.kd)
  exact (fr_set h (by simp) hb).trans ((fr_set h1 (by simp) hb).trans ((fr_set h2 (by simp) hb).trans ((fr_set h3 (by simp) hb).trans ((fr_set h4 (by simp) hb).trans (fr_set h5 (by simp) hb)))))
theorem put6_rfc {w : World} {base b be : Nat} {v : Value} {s : Nt} {x : En} (h : RfC w base b v s) (hb : b ≠ be) (hg : ∀ g, v.ownBlock = some g → g ≠ be) : RfC (put6 w be x) base b v s := (((((h.other hb hg).other hb hg).other hb hg).other hb hg).other hb hg).other hb hg
theorem size_en : (Try.prog.info? 44).map (·.size) = some 6 := by kernel_rfl
/-- a result in a box, and a second one. -/
theorem res_en {fn : Func} {p u : Tmp} (h : fn.results = #[.cell p 44, .tmp u]) (tmps : Array Value) (w : World) (g : Nat) (x : En) (q : Bool) (hp : tmps.getD p undef = .pointer (some ⟨g, 0, none⟩)) (hg : Blk w g 44 x.cells) (hy : tmps.getD u undef = .bool q) :
    (results fn tmps).run Try.prog w = .ok (.tuple #[x.v, .bool q]) w := by
  rw [results_cell_tmp h, hp, hy]
  have hl : (Try.prog.info? 44).map (·.size) = some x.cells.toArray.size := size_en
  simp [asAddr, run_loadVar_row w g 44 44 x.cells.toArray (0, 0) _ hg Try.underlying44 rfl hl]
  rfl
theorem own_lt {w : World} {base sz : Nat} {t : TypeId} {v : Value} {n : Nat} {xs : List Value} (h : w.ownsRow base t sz v n xs) : ∀ g, v.ownBlock = some g → g < w.heap.size := by
  intro g hg
  rcases h.2 with ⟨rfl, _⟩ | ⟨k, cap, cur, rfl, _, hh, _⟩
  · cases hg
  · cases hg
    exact lt_of_block hh

/-- all blocks of cells stand but the box, and the row's. -/
def Kp (v : Value) (b : Nat) (w w' : World) : Prop := ∀ k t cs, Blk w k t cs → v.ownBlock ≠ some k → k ≠ b → Blk w' k t cs
theorem put6_keep {w : World} {be k : Nat} {x : En} {t : TypeId} {cs : List Value} (h : Blk w k t cs) (hk : k ≠ be) : Blk (put6 w be x) k t cs := (((((h.other _ _ hk).other _ _ hk).other _ _ hk).other _ _ hk).other _ _ hk).other _ _ hk

set_option maxHeartbeats 8000000 in
theorem rsend_kp (w : World) (base b : Nat) (v : Value) (s : Nt) (h : RfC w base b v s) (ho : Ok s) (hB : base ≤ w.heap.size) :
    Calls Try.prog 24 #[.pointer (some ⟨b, 0, none⟩)] w fun e w' => RE w base b (sendS s) (optV (sendO s.L)) e w' ∧ Kp v b w w' := by
  obtain ⟨pv, cv, rfl⟩ := rowS_slice h.row
  obtain ⟨n, hnn⟩ : ∃ n, s.L.length = n := ⟨_, rfl⟩
  have hn8 : n ≤ 8 := by have := ho.len; have := ho.z1; omega
  rw [hnn] at h
  have HR : Hid (RfC (w.alloc (.cells #[.int .u64 0, .int .i64 0, .int .i64 0, .int .i64 0, .int .i64 0, .int .i64 0] 44)) base b (.slice pv n cv) s ∧ base ≤ w.heap.size ∧ Below w.heap.size w (w.alloc (.cells #[.int .u64 0, .int .i64 0, .int .i64 0, .int .i64 0, .int .i64 0, .int .i64 0] 44)) ∧ b ≠ w.heap.size ∧ ∀ g, (Value.slice pv n cv).ownBlock = some g → g ≠ w.heap.size) := ⟨h.over (below_new w _), hB, below_new w _, by have := h.blk.lt; omega, fun g hg => by have := own_lt h.row g hg; omega⟩
  have HBE : Hid (Blk (w.alloc (.cells #[.int .u64 0, .int .i64 0, .int .i64 0, .int .i64 0, .int .i64 0, .int .i64 0] 44)) w.heap.size 44 [.int .u64 0, .int .i64 0, .int .i64 0, .int .i64 0, .int .i64 0, .int .i64 0]) := blk_new w _ _
  have HNN : Hid (s.L.length = n) := hnn
  clear h hnn hB ho
  go_enter Try.func24, Try.ntmps24
  go_upto_region 1 with fail
  obtain ⟨be, hbe⟩ : ∃ k, w.heap.size = k := ⟨_, rfl⟩
  rw [hbe] at HBE ⊢
  have HE : Hid (w.heap.size = be) := hbe
  clear hbe
  generalize (w.alloc (.cells #[.int .u64 0, .int .i64 0, .int .i64 0, .int .i64 0, .int .i64 0, .int .i64 0] 44)) = w1 at *
  have c0 : w1.cell? ⟨b, 0, none⟩ = some (.slice pv n cv) := HR.out.1.blk.cell 0
  go_wp2_with fail
  go_loopw [4] (fun v4 wr => ∃ i : Nat, v4 = .int .i64 i ∧ i ≤ n ∧ (∀ (k : Nat) (hk : k < s.L.length), k < i → (s.L[k]).st ≠ 1) ∧ wr = w1) (fun v4 _ => n - (intOf v4).toNat)
  case atStart => exact ⟨0, rfl, Nat.zero_le _, fun k _ hk => absurd hk (Nat.not_lt_zero _), rfl⟩
  case round =>
    obtain ⟨i, rfl, hi, hno, hw⟩ := hrel
    subst hw
    have HNO : Hid (∀ (k : Nat) (hk : k < s.L.length), k < i → (s.L[k]).st ≠ 1) := hno
    clear hno
    by_cases hlt : i < n
    · have hi1 : (i : Int) < (n : Int) := by omega
      have hil : i < s.L.length := by rw [HNN.out]; exact hlt
      have hrow := HR.out.1.row
      rw [HNN.out] at hrow
      obtain ⟨g, rfl, _, hce⟩ := rowE_at hrow hil
      have x2 := hce 2 _ rfl
      have HX : Hid ((s.L[i]).st ≠ 1 → ∀ (k : Nat) (hk : k < s.L.length), k < i + 1 → (s.L[k]).st ≠ 1) := fun e k hk hk1 => by
        by_cases e2 : k = i
        · subst e2; exact e
        · exact HNO.out k hk (by omega)
      have HQ : Hid ((s.L[i]).st = 1 → sendL s.L = s.L.set i (s.L[i]).sent ∧ sendO s.L = some (s.L[i]).sent) := fun e => send_first hil HNO.out e
      have HGI : Hid (s.L[i]? = some s.L[i]) := List.getElem?_eq_getElem hil
      clear hce hrow
      generalize s.L[i] = q at *
      clear hil
      obtain ⟨q1, q2, q3, q4, q5, q6⟩ := q
      dsimp only at x2
      by_cases hq3 : q3 = 1
      · have hyd : (q3 == 1) = true := by simp [hq3]
        have HS := HQ.out hq3
        have HS2 : Hid (sendL s.L = s.L.set i ⟨q1, q2, 2, q4, q5, q6⟩ ∧ sendO s.L = some ⟨q1, q2, 2, q4, q5, q6⟩) := HS
        have HC := HR.out.1.cell (j := 2) (u := .int .i64 2) (x := ⟨q1, q2, q3, q4, q5, q6⟩) (y := ⟨q1, q2, 2, q4, q5, q6⟩) HNN.out HGI.out (by decide) rfl
        have hf2 := own_free HR.out.1.row (i * 6 + 2)
        have hgb : g ≠ be := by have := HR.out.2.2.2.2 g rfl; rw [HE.out] at this; exact this
        have HCC : Hid (RfC (wr.setCell ⟨g, i * 6 + 2, none⟩ (.int .i64 2)) base b (.slice (some ⟨g, 0, none⟩) n cv) { s with L := s.L.set i ⟨q1, q2, 2, q4, q5, q6⟩ } ∧ Fr [44] [] base wr (wr.setCell ⟨g, i * 6 + 2, none⟩ (.int .i64 2)) ∧ Blk (wr.setCell ⟨g, i * 6 + 2, none⟩ (.int .i64 2)) be 44 [.int .u64 0, .int .i64 0, .int .i64 0, .int .i64 0, .int .i64 0, .int .i64 0] ∧ ∀ k t cs, Blk w k t cs → k ≠ g → Blk (wr.setCell ⟨g, i * 6 + 2, none⟩ (.int .i64 2)) k t cs) := ⟨HC.1, HC.2, HBE.out.other _ _ (fun e => hgb e.symm), fun k t cs hb hk => (hb.over HR.out.2.2.1).other _ _ hk⟩
        have e0 : (wr.setCell ⟨g, i * 6 + 2, none⟩ (.int .i64 2)).cell? ⟨b, 0, none⟩ = some (.slice (some ⟨g, 0, none⟩) n cv) := HC.1.blk.cell 0
        have hy : ∀ j u, (⟨q1, q2, 2, q4, q5, q6⟩ : En).cells[j]? = some u → (wr.setCell ⟨g, i * 6 + 2, none⟩ (.int .i64 2)).cell? ⟨g, i * 6 + j, none⟩ = some u := by
          have hr := HC.1.row
          have hl : (s.L.set i (⟨q1, q2, 2, q4, q5, q6⟩ : En)).length = n := by rw [List.length_set]; exact HNN.out
          replace hr : World.ownsRow _ base 44 6 _ (s.L.set i (⟨q1, q2, 2, q4, q5, q6⟩ : En)).length (cellsE (s.L.set i ⟨q1, q2, 2, q4, q5, q6⟩)) := hr
          rw [hl] at hr
          have hil : i < (s.L.set i (⟨q1, q2, 2, q4, q5, q6⟩ : En)).length := by rw [hl]; exact hlt
          obtain ⟨g', e', _, hc⟩ := rowE_at hr hil
          cases e'
          intro j u hu
          refine hc j u ?_
          rw [List.getElem_set_self]
          exact hu
        have y0 := hy 0 _ rfl
        simp only [Nat.add_zero] at y0
        have y1 := hy 1 _ rfl
        have y2 := hy 2 _ rfl
        have y3 := hy 3 _ rfl
        have y4 := hy 4 _ rfl
        have y5 := hy 5 _ rfl
        have k0 := HCC.out.2.2.1.cell 0
        have k1 := HCC.out.2.2.1.cell 1
        have k2 := HCC.out.2.2.1.cell 2
        have k3 := HCC.out.2.2.1.cell 3
        have k4 := HCC.out.2.2.1.cell 4
        have k5 := HCC.out.2.2.1.cell 5
        have f0 := HCC.out.2.2.1.f 0
        have f1 := HCC.out.2.2.1.f 1
        have f2 := HCC.out.2.2.1.f 2
        have f3 := HCC.out.2.2.1.f 3
        have f4 := HCC.out.2.2.1.f 4
        have f5 := HCC.out.2.2.1.f 5
        dsimp only at y0 y1 y2 y3 y4 y5
        clear hy HC HS HQ HX hq3
        go_upto_region 6 with fail
        generalize (wr.setCell ⟨g, i * 6 + 2, none⟩ (.int .i64 2)) = w2 at *
        go_wp2_with fail
        have HP : Blk (put6 w2 be ⟨q1, q2, 2, q4, q5, q6⟩) be 44 (⟨q1, q2, 2, q4, q5, q6⟩ : En).cells := put6_blk (y := En.zero) HCC.out.2.2.1
        refine bodyPost_ret (v := optV (some ⟨q1, q2, 2, q4, q5, q6⟩)) (res_en Try.results24 _ _ be ⟨q1, q2, 2, q4, q5, q6⟩ true rfl HP rfl) rfl ?_
        refine ⟨⟨by rw [HS2.out.2], ⟨.slice (some ⟨g, 0, none⟩) n cv, ?_⟩, ?_⟩, fun k t cs hb hv hk => put6_keep (be := be) (x := ⟨q1, q2, 2, q4, q5, q6⟩) (HCC.out.2.2.2 k t cs hb (fun e => hv (by rw [e]; rfl))) (by have := hb.lt; have := HE.out; omega)⟩
        · have h9 := put6_rfc (x := ⟨q1, q2, 2, q4, q5, q6⟩) (be := be) HCC.out.1 (by have := HR.out.2.2.2.1; rw [HE.out] at this; exact this) (fun g' hg' => by have := HR.out.2.2.2.2 g' hg'; rw [HE.out] at this; exact this)
          unfold sendS
          rw [HS2.out.1]
          exact h9
        · exact (fr_below HR.out.2.2.1 HR.out.2.1).trans ((HCC.out.2.1.mono (by simp) (by simp)).trans ((put6_fr (x := ⟨q1, q2, 2, q4, q5, q6⟩) (y := En.zero) HCC.out.2.2.1 (by rw [← HE.out]; exact HR.out.2.1)).mono (by simp) (by simp)))
      · have hyd : (q3 == 1) = false := by simp [hq3]
        have HX2 := HX.out hq3
        have HX3 : Hid (∀ (k : Nat) (hk : k < s.L.length), k < i + 1 → (s.L[k]).st ≠ 1) := HX2
        clear hq3 HQ HX HX2
        go_wp2_with fail
        go_roundw
        case rel => exact ⟨i + 1, by go_num, hlt, HX3.out, by trivial⟩
        case measure => simp [intOf]; omega
    · have hi1 : ¬ (i : Int) < (n : Int) := by omega
      have hK := send_none (L := s.L) fun k hk => HNO.out k hk (by have := HNN.out; omega)
      have HK : Hid (sendS s = s ∧ sendO s.L = none) := by
        refine ⟨?_, hK.2⟩
        unfold sendS
        rw [hK.1]
      have k0 := HBE.out.cell 0
      have k1 := HBE.out.cell 1
      have k2 := HBE.out.cell 2
      have k3 := HBE.out.cell 3
      have k4 := HBE.out.cell 4
      have k5 := HBE.out.cell 5
      have f0 := HBE.out.f 0
      have f1 := HBE.out.f 1
      have f2 := HBE.out.f 2
      have f3 := HBE.out.f 3
      have f4 := HBE.out.f 4
      have f5 := HBE.out.f 5
      clear hK
      go_wp2_with fail
      have HP : Blk (put6 wr be En.zero) be 44 En.zero.cells := put6_blk (y := En.zero) HBE.out
      refine bodyPost_ret (v := optV none) (res_en Try.results24 _ _ be En.zero false rfl HP rfl) rfl ?_
      refine ⟨⟨by rw [HK.out.2], ⟨.slice pv n cv, ?_⟩, ?_⟩, fun k t cs hb hv hk => put6_keep (be := be) (x := En.zero) (hb.over HR.out.2.2.1) (by have := hb.lt; have := HE.out; omega)⟩
      · rw [HK.out.1]
        exact put6_rfc (x := En.zero) (be := be) HR.out.1 (by have := HR.out.2.2.2.1; rw [HE.out] at this; exact this) (fun g' hg' => by have := HR.out.2.2.2.2 g' hg'; rw [HE.out] at this; exact this)
      · exact (fr_below HR.out.2.2.1 HR.out.2.1).trans ((put6_fr (x := En.zero) (y := En.zero) HBE.out (by rw [← HE.out]; exact HR.out.2.1)).mono (by simp) (by simp))

theorem rsend_any (w : World) (base b : Nat) (s : Nt) (h : RfT w base b s) (ho : Ok s) (hB : base ≤ w.heap.size) :
    Calls Try.prog 24 #[.pointer (some ⟨b, 0, none⟩)] w fun e w' => RE w base b (sendS s) (optV (sendO s.L)) e w' := by
  obtain ⟨v, h⟩ := h
  exact (rsend_kp w base b v s h ho hB).mono fun _ _ h => h.1

end Go.Proofs.Ytlckconhhhllkaa
