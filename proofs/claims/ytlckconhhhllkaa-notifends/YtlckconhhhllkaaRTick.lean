/-
  The document's Tick.
-/
import Derived.Test.YtlckconhhhllkaaRReply
namespace Go.Proofs.Ytlckconhhhllkaa
open Go.RowKit

theorem fr_grow {L : List Nat} {B : Nat} {W X X' : World} {row : Option Nat} (h : Fr L [] B W X) (hg : X.grownBy X' row) (hr : ∀ k, row = some k → W.heap.size ≤ k) (hB : B ≤ W.heap.size) : Fr L [] B W X' :=
  ⟨h.bel.grown hg (Nat.le_trans hB h.bel.size) (fun j hj => Nat.le_trans hB (hr j hj)), fun k o hk ht hx => by
    have h1 := h.blk k o hk ht hx
    have hkW : k < W.heap.size := (Array.getElem?_eq_some_iff.1 hk).1
    have hkX : k < X.heap.size := (Array.getElem?_eq_some_iff.1 h1).1
    rw [hg.block k hkX fun e => by have := hr k e.symm; omega]
    exact h1⟩
def lateL (L : List En) (k : Nat) : List Int := ((L.take k).filter late1).map (·.id)
theorem lateL_len (L : List En) (k : Nat) : (lateL L k).length ≤ L.length := by
  unfold lateL
  rw [List.length_map]
  refine Nat.le_trans (List.length_filter_le _ _) ?_
  rw [List.length_take]
  omega
/-- in the middle of a tick. -/
structure TkS (w X : World) (base b : Nat) (pv : Option Addr) (n cv : Nat) (s : Nt) (i : Nat) (v : Value) : Prop where
  r : RfC X base b (.slice pv n cv) { s with L := half tick1 s.L i }
  row : X.ownsRow w.heap.size 23 1 v (lateL s.L i).length (cellsU (lateL s.L i))
  fr : Fr [44, 41] [] base w X
/-- what the document's Tick leaves. -/
def RTickE (w : World) (base b : Nat) (s : Nt) (e : Ending) (w' : World) : Prop := ∃ v, e = .returned v ∧ w'.ownsRow w.heap.size 23 1 v (tickO s).length (cellsU (tickO s)) ∧ RfT w' base b (tickS s) ∧ Fr [44, 41] [] base w w'

set_option maxHeartbeats 8000000 in
set_option maxRecDepth 8000 in
theorem rtick_any (w : World) (base b : Nat) (s : Nt) (h : RfT w base b s) (ho : Ok s) (hB : base ≤ w.heap.size) :
    Calls Try.prog 29 #[.pointer (some ⟨b, 0, none⟩)] w fun e w' => RTickE w base b s e w' := by
  obtain ⟨vv, h⟩ := h
  obtain ⟨pv, cv, rfl⟩ := rowS_slice h.row
  obtain ⟨n, hnn⟩ : ∃ n, s.L.length = n := ⟨_, rfl⟩
  have hn8 : n ≤ 8 := by have := ho.len; have := ho.z1; omega
  rw [hnn] at h
  have HT0 : Hid (TkS w w base b pv n cv s 0 (.slice none 0 0)) := ⟨h, ⟨rfl, .inl ⟨rfl, rfl⟩⟩, Fr.refl _ _ _ _⟩
  have HNN : Hid (s.L.length = n ∧ Ok s ∧ base ≤ w.heap.size) := ⟨hnn, ho, hB⟩
  clear h hnn ho hB
  go_enter Try.func29, Try.ntmps29
  go_wp2_with fail
  go_loopw [3, 4] (fun v3 v4 wr => ∃ (i : Nat) (v : Value), v4 = .int .i64 i ∧ v = v3 ∧ i ≤ n ∧ TkS w wr base b pv n cv s i v) (fun _ v4 _ => n - (intOf v4).toNat)
  case atStart => exact ⟨0, _, rfl, rfl, Nat.zero_le _, HT0.out⟩
  case round =>
    obtain ⟨i, vo, rfl, hvv, hi, ht⟩ := hrel
    subst hvv
    obtain ⟨po, co, hvo⟩ := rowU_slice ht.row
    subst hvo
    have HT : Hid (TkS w wr base b pv n cv s i (.slice po (lateL s.L i).length co)) := ht
    have c0 : wr.cell? ⟨b, 0, none⟩ = some (.slice pv n cv) := ht.r.blk.cell 0
    clear ht HT0
    by_cases hlt : i < n
    · have hi1 : (i : Int) < (n : Int) := by omega
      have hil : i < s.L.length := by rw [HNN.out.1]; exact hlt
      have hhl : (half tick1 s.L i).length = n := by rw [half_len]; exact HNN.out.1
      have hrow : wr.ownsRow base 44 6 (.slice pv n cv) n (cellsE (half tick1 s.L i)) := by
        have := HT.out.r.row
        replace this : wr.ownsRow base 44 6 (.slice pv n cv) (half tick1 s.L i).length (cellsE (half tick1 s.L i)) := this
        rw [hhl] at this
        exact this
      have hih : i < (half tick1 s.L i).length := by rw [hhl]; exact hlt
      obtain ⟨g, rfl, _, hce⟩ := rowE_at hrow hih
      rw [half_at tick1 s.L i hil] at hce
      have x0 := hce 0 _ rfl
      simp only [Nat.add_zero] at x0
      have x1 := hce 1 _ rfl
      have x2 := hce 2 _ rfl
      have x3 := hce 3 _ rfl
      have x4 := hce 4 _ rfl
      have x5 := hce 5 _ rfl
      have HGI : Hid ((half tick1 s.L i)[i]? = some s.L[i]) := by
        show _ = _
        rw [List.getElem?_eq_getElem hih, half_at tick1 s.L i hil]
      have HHS : Hid ((half tick1 s.L i).set i (tick1 s.L[i]) = half tick1 s.L (i + 1) ∧ (half tick1 s.L i).length = n) := ⟨half_set tick1 s.L i hil, hhl⟩
      have HLM : Hid (lateL s.L (i + 1) = lateL s.L i ++ (if late1 s.L[i] = true then [(s.L[i]).id] else [])) := late_more hil
      have HOK : Hid (OkE s s.L[i]) := HNN.out.2.1.all _ (List.getElem_mem hil)
      have HWA : Hid (∀ X, Calls Try.prog 42 #[(s.L[i]).v] X fun e w' => e = .returned (.bool (s.L[i]).waits) ∧ Below X.heap.size X w') := fun X => rwaits_any _ X
      have HLN : Hid ((lateL s.L i).length ≤ 8) := by have := lateL_len s.L i; have := HNN.out.1; show _ ≤ _; omega
      clear hrow hih hce hhl
      generalize s.L[i] = q at *
      clear hil
      have hwait : s.wait ≤ 1000 := HNN.out.2.1.w1
      cases hw : q.waits with
      | false =>
        have HQ : Hid (tick1 q = q ∧ late1 q = false) := ⟨tick_ended hw, by unfold late1; rw [hw]; rfl⟩
        rw [hw] at HWA
        obtain ⟨q1, q2, q3, q4, q5, q6⟩ := q
        dsimp only at x0 x1 x2 x3 x4 x5
        replace HWA : Hid (∀ X, Calls Try.prog 42 #[.agg #[.int .u64 q1, .int .i64 q2, .int .i64 q3, .int .i64 q4, .int .i64 q5, .int .i64 q6]] X fun e w' => e = .returned (.bool false) ∧ Below X.heap.size X w') := HWA
        clear hw hwait
        go_wp2_with fail
        refine (HWA.out wr).mono ?_
        rintro e w1 ⟨rfl, hb1⟩
        have H1 : Hid (TkS w w1 base b (some ⟨g, 0, none⟩) n cv s (i + 1) (.slice po (lateL s.L i).length co) ∧ lateL s.L (i + 1) = lateL s.L i) := by
          have hl : lateL s.L (i + 1) = lateL s.L i := by rw [HLM.out, HQ.out.2]; simp
          refine ⟨⟨?_, by rw [hl]; exact owns_below HT.out.row hb1 (Nat.le_refl _), HT.out.fr.trans (fr_below hb1 (Nat.le_trans HNN.out.2.2 HT.out.fr.bel.size))⟩, hl⟩
          have h2 := HHS.out.1
          rw [HQ.out.1, set_same HGI.out] at h2
          rw [← h2]
          exact HT.out.r.over hb1
        clear hb1 HWA HLM HHS HQ HGI
        go_wp2_with fail
        go_roundw
        case rel => exact ⟨i + 1, _, by go_num, rfl, hlt, H1.out.1⟩
        case measure => simp [intOf]; omega
      | true =>
        have hl0 := HOK.out.l0 hw
        have hl1 := HOK.out.l1
        rw [hw] at HWA
        have hw2 := (waits_iff q).1 hw
        obtain ⟨q1, q2, q3, q4, q5, q6⟩ := q
        dsimp only at x0 x1 x2 x3 x4 x5 hl0 hl1 hw2
        have hq4 : 1 ≤ q4 ∧ q4 ≤ 1000 := ⟨hl0, by omega⟩
        have HLE : Hid (IntKind.i64.wrap (q4 - 1) = q4 - 1) := by show _ = _; rw [IntKind.wrap_i64]; omega
        have hle := HLE.out
        replace HWA : Hid (∀ X, Calls Try.prog 42 #[.agg #[.int .u64 q1, .int .i64 q2, .int .i64 q3, .int .i64 q4, .int .i64 q5, .int .i64 q6]] X fun e w' => e = .returned (.bool true) ∧ Below X.heap.size X w') := HWA
        have HCE : Hid (∀ X, Below wr.heap.size wr X → X.cell? ⟨g, i * 6 + 3, none⟩ = some (.int .i64 q4)) := fun X hX => by
          rw [hX.cell (p := ⟨g, i * 6 + 3, none⟩) (World.block_lt_of_cell? wr _ x3)]
          exact x3
        have HW2 : Hid (q3 = 1 ∨ q3 = 2) := hw2
        clear hw hwait hl0 hl1 hw2
        go_wp2_with fail
        refine (HWA.out wr).mono ?_
        rintro e w1 ⟨rfl, hb1⟩
        have y3 := HCE.out w1 hb1
        have HR1 := HT.out.r.over hb1
        have d0 : w1.cell? ⟨b, 0, none⟩ = some (.slice (some ⟨g, 0, none⟩) n cv) := HR1.blk.cell 0
        have f3 := own_free HR1.row (i * 6 + 3)
        have HC := HR1.cell (j := 3) (u := .int .i64 (q4 - 1)) (x := ⟨q1, q2, q3, q4, q5, q6⟩) (y := ⟨q1, q2, q3, q4 - 1, q5, q6⟩) HHS.out.2 HGI.out (by decide) rfl
        have HIH : Hid (i < (half tick1 s.L i).length) := by show i < _; rw [HHS.out.2]; exact hlt
        have HC2 : Hid (RfC (w1.setCell ⟨g, i * 6 + 3, none⟩ (.int .i64 (q4 - 1))) base b (.slice (some ⟨g, 0, none⟩) n cv) { s with L := (half tick1 s.L i).set i ⟨q1, q2, q3, q4 - 1, q5, q6⟩ } ∧ Fr [44, 41] [] base w (w1.setCell ⟨g, i * 6 + 3, none⟩ (.int .i64 (q4 - 1))) ∧ (w1.setCell ⟨g, i * 6 + 3, none⟩ (.int .i64 (q4 - 1))).ownsRow w.heap.size 23 1 (.slice po (lateL s.L i).length co) (lateL s.L i).length (cellsU (lateL s.L i)) ∧ (w1.setCell ⟨g, i * 6 + 3, none⟩ (.int .i64 (q4 - 1))).cell? ⟨g, i * 6 + 3, none⟩ = some (.int .i64 (q4 - 1))) := by
          have hb := Nat.le_trans HNN.out.2.2 HT.out.fr.bel.size
          refine ⟨HC.1, HT.out.fr.trans ((fr_below hb1 hb).trans (HC.2.mono (by simp) (by simp))), owns_fr (owns_below HT.out.row hb1 (Nat.le_refl _)) HC.2 (by simp) (fun _ _ => by simp), ?_⟩
          have hr := HC.1.row
          have hl : ((half tick1 s.L i).set i (⟨q1, q2, q3, q4 - 1, q5, q6⟩ : En)).length = n := by rw [List.length_set]; exact HHS.out.2
          replace hr : World.ownsRow _ base 44 6 _ ((half tick1 s.L i).set i (⟨q1, q2, q3, q4 - 1, q5, q6⟩ : En)).length (cellsE ((half tick1 s.L i).set i ⟨q1, q2, q3, q4 - 1, q5, q6⟩)) := hr
          rw [hl] at hr
          obtain ⟨g', e', _, hc⟩ := rowE_at hr (show i < ((half tick1 s.L i).set i (⟨q1, q2, q3, q4 - 1, q5, q6⟩ : En)).length by rw [List.length_set]; exact HIH.out)
          cases e'
          exact hc 3 _ (by rw [List.getElem_set_self]; rfl)
        clear hb1 HWA HC HR1 HCE
        go_upto_region 7 with fail
        generalize (w1.setCell ⟨g, i * 6 + 3, none⟩ (.int .i64 (q4 - 1))) = w2 at *
        have e0 : w2.cell? ⟨b, 0, none⟩ = some (.slice (some ⟨g, 0, none⟩) n cv) := HC2.out.1.blk.cell 0
        have e3 := HC2.out.2.2.2
        by_cases h0 : q4 - 1 = 0
        · have r1 : (q4 - 1 == 0) = true := by simp [h0]
          have HQ : Hid (tick1 ⟨q1, q2, q3, q4, q5, q6⟩ = (⟨q1, q2, 4, q4 - 1, 6, 0⟩ : En) ∧ late1 ⟨q1, q2, q3, q4, q5, q6⟩ = true ∧ goneW 6 ⟨q1, q2, q3, q4 - 1, q5, q6⟩ = (⟨q1, q2, 4, q4 - 1, 6, 0⟩ : En)) := by
            have hwt : ∀ l : Int, (⟨q1, q2, q3, l, q5, q6⟩ : En).waits = true := fun l => (waits_iff _).2 HW2.out
            refine ⟨?_, ?_, ?_⟩
            · unfold tick1
              rw [if_pos (hwt q4), if_pos (show (⟨q1, q2, q3, q4, q5, q6⟩ : En).less.le = 0 from h0)]
              rfl
            · unfold late1
              rw [hwt q4]
              show (true && (q4 - 1 == 0)) = true
              rw [r1]
              rfl
            · unfold goneW
              rw [if_pos (hwt (q4 - 1))]
              rfl
          have HGO : Hid (Calls Try.prog 41 #[.pointer (some ⟨b, 0, none⟩), .int .i64 i, .int .i64 6] w2 fun e w' => ∃ qq, e = .returned (.bool qq) ∧ RfC w' base b (.slice (some ⟨g, 0, none⟩) n cv) { s with L := half tick1 s.L (i + 1) } ∧ Fr [44] [] base w2 w') := by
            refine (rgone_any w2 base b _ _ i ⟨q1, q2, q3, q4 - 1, q5, q6⟩ 6 HC2.out.1 (by show ((half tick1 s.L i).set i _).length ≤ 8; rw [List.length_set, HHS.out.2]; exact hn8) (by show ((half tick1 s.L i).set i _)[i]? = _; exact List.getElem?_set_self HIH.out) (Nat.le_trans HNN.out.2.2 HC2.out.2.1.bel.size)).mono ?_
            rintro e' w' ⟨rfl, h2, h3⟩
            refine ⟨_, rfl, ?_, h3⟩
            have h4 : RfC w' base b (.slice (some ⟨g, 0, none⟩) n cv) { s with L := ((half tick1 s.L i).set i ⟨q1, q2, q3, q4 - 1, q5, q6⟩).set i (goneW 6 ⟨q1, q2, q3, q4 - 1, q5, q6⟩) } := h2
            rw [List.set_set, HQ.out.2.2, ← HQ.out.1, HHS.out.1] at h4
            exact h4
          clear h0
          go_wp2_with fail
          refine HGO.out.mono ?_
          rintro e w4 ⟨qq, rfl, h4, f4⟩
          have HCE : ∀ X, RfC X base b (.slice (some ⟨g, 0, none⟩) n cv) { s with L := half tick1 s.L (i + 1) } → X.cell? ⟨g, i * 6, none⟩ = some (.int .u64 q1) := fun X hX => by
            have hr := hX.row
            have hl : (half tick1 s.L (i + 1)).length = n := by rw [half_len]; exact HNN.out.1
            replace hr : World.ownsRow _ base 44 6 _ (half tick1 s.L (i + 1)).length (cellsE (half tick1 s.L (i + 1))) := hr
            rw [hl] at hr
            obtain ⟨g', e', _, hc⟩ := rowE_at hr (show i < (half tick1 s.L (i + 1)).length by rw [hl]; exact hlt)
            cases e'
            have h9 := hc 0 (.int .u64 q1) (by
              have e9 : (half tick1 s.L (i + 1))[i]? = some (⟨q1, q2, 4, q4 - 1, 6, 0⟩ : En) := by
                rw [← HHS.out.1, HQ.out.1]
                exact List.getElem?_set_self HIH.out
              rw [(List.getElem?_eq_some_iff.1 e9).2]
              rfl)
            simp only [Nat.add_zero] at h9
            exact h9
          have g0 : w4.cell? ⟨b, 0, none⟩ = some (.slice (some ⟨g, 0, none⟩) n cv) := h4.blk.cell 0
          have g1 := HCE w4 h4
          have H4 : Hid (RfC w4 base b (.slice (some ⟨g, 0, none⟩) n cv) { s with L := half tick1 s.L (i + 1) } ∧ Fr [44, 41] [] base w w4 ∧ w4.ownsRow w.heap.size 23 1 (.slice po (lateL s.L i).length co) (lateL s.L i).length (cellsU (lateL s.L i))) := ⟨h4, HC2.out.2.1.trans (f4.mono (by simp) (by simp)), owns_fr HC2.out.2.2.1 f4 (by simp) (fun _ _ => by simp)⟩
          have HLM2 : Hid (lateL s.L (i + 1) = lateL s.L i ++ [q1]) := by
            show _ = _
            rw [HLM.out, HQ.out.2.1]
            rfl
          clear h4 f4 HGO HCE HC2 HLM HQ HHS HGI HOK e0 e3
          generalize lateL s.L i = r1x at *
          go_wp2_with (first
            | (at_builtin; refine list_app (ys := cellsU [q1]) ety_u rfl _ _ rfl rfl rfl (owns_below H4.out.2.2 (below_new _ (.cells #[.int .u64 q1] 23)) (Nat.le_refl _)) (sc_one _ _ _) (one_u _) (by have := HLN.out; simp [cellsU]; omega) (Nat.le_trans H4.out.2.1.bel.size (below_new w4 (.cells #[.int .u64 q1] 23)).size) ?_; intro v7 w7 ha7; have HA7 : Hid (App 23 w.heap.size (w4.alloc (.cells #[.int .u64 q1] 23)) w7 (.slice po r1x.length co) v7 (cellsU r1x ++ cellsU [q1])) := ha7; clear ha7; go_frame)
            | go_in)
          have H7 : Hid (TkS w w7 base b (some ⟨g, 0, none⟩) n cv s (i + 1) v7) := by
            have hb := below_new w4 (.cells #[.int .u64 q1] 23)
            have hr := owns_below H4.out.2.2 hb (Nat.le_refl _)
            have hfr : Fr [23] [] w.heap.size (w4.alloc (.cells #[.int .u64 q1] 23)) w7 := app_fr hr HA7.out (Nat.le_trans H4.out.2.1.bel.size hb.size)
            refine ⟨(H4.out.1.over hb).fc hfr.fc (by simp) (by simp), ?_, fr_grow (H4.out.2.1.trans (fr_below hb (Nat.le_trans HNN.out.2.2 H4.out.2.1.bel.size))) HA7.out.grow (fun k hk => owns_block hr k hk) HNN.out.2.2⟩
            have := HA7.out.own
            have e : cellsU r1x ++ cellsU [q1] = cellsU (lateL s.L (i + 1)) := by rw [HLM2.out]; simp [cellsU]
            rw [e, cellsU_len] at this
            exact this
          go_roundw
          case rel => exact ⟨i + 1, v7, by go_num, rfl, hlt, H7.out⟩
          case measure => simp [intOf]; omega
        · have r1 : (q4 - 1 == 0) = false := by simp; exact h0
          have HQ : Hid (tick1 ⟨q1, q2, q3, q4, q5, q6⟩ = (⟨q1, q2, q3, q4 - 1, q5, q6⟩ : En) ∧ late1 ⟨q1, q2, q3, q4, q5, q6⟩ = false) := by
            have hwt : ∀ l : Int, (⟨q1, q2, q3, l, q5, q6⟩ : En).waits = true := fun l => (waits_iff _).2 HW2.out
            refine ⟨?_, ?_⟩
            · unfold tick1
              rw [if_pos (hwt q4), if_neg (show ¬ (⟨q1, q2, q3, q4, q5, q6⟩ : En).less.le = 0 from h0)]
              rfl
            · unfold late1
              rw [hwt q4]
              show (true && (q4 - 1 == 0)) = false
              rw [r1]
              rfl
          have H7 : Hid (TkS w w2 base b (some ⟨g, 0, none⟩) n cv s (i + 1) (.slice po (lateL s.L i).length co)) := by
            have hl : lateL s.L (i + 1) = lateL s.L i := by rw [HLM.out, HQ.out.2]; simp
            refine ⟨?_, by rw [hl]; exact HC2.out.2.2.1, HC2.out.2.1⟩
            have h2 := HHS.out.1
            rw [HQ.out.1] at h2
            rw [← h2]
            exact HC2.out.1
          clear h0
          go_wp2_with fail
          go_roundw
          case rel => exact ⟨i + 1, _, by go_num, rfl, hlt, H7.out⟩
          case measure => simp [intOf]; omega
    · have hi1 : ¬ (i : Int) < (n : Int) := by omega
      obtain rfl : i = n := by omega
      have HD : Hid (RfT wr base b (tickS s) ∧ wr.ownsRow w.heap.size 23 1 (.slice po (lateL s.L i).length co) (tickO s).length (cellsU (tickO s))) := by
        have h1 := HT.out.r
        have h2 := half_all tick1 s.L
        rw [HNN.out.1] at h2
        rw [h2] at h1
        have h3 : lateL s.L i = tickO s := by
          unfold lateL tickO
          rw [← HNN.out.1, List.take_length]
        have h4 := HT.out.row
        rw [h3] at h4 ⊢
        exact ⟨⟨_, h1⟩, h4⟩
      go_wp2_with fail
      go_ret
      exact ⟨_, rfl, HD.out.2, HD.out.1, HT.out.fr⟩

end Go.Proofs.Ytlckconhhhllkaa
