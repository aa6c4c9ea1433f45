/-
  Behind a new epoch all that waited is gone, and no reply of an older one does anything: the law's walk, over any interface.
-/
import Derived.Test.YtlckconhhhllkaaRisesW
import Derived.Test.YtlckconhhhllkaaEq
namespace Go.Proofs.Ytlckconhhhllkaa
open Go.RowKit

theorem owns_grown {w w' : World} {base sz : Nat} {t : TypeId} {v : Value} {n : Nat} {xs : List Value} {row : Option Nat} (h : w.ownsRow base t sz v n xs) (hg : w.grownBy w' row) (hne : ∀ g, v.ownBlock = some g → row ≠ some g) : w'.ownsRow base t sz v n xs := by
  refine ⟨h.1, ?_⟩
  rcases h.2 with hn | ⟨g, cap, cur, hv, hg2, hh, r⟩
  · exact .inl hn
  · exact .inr ⟨g, cap, cur, hv, hg2, by rw [hg.block g (lt_of_block hh) (fun e => hne g (by rw [hv]; rfl) e.symm)]; exact hh, r⟩
theorem own_lt {w : World} {base sz : Nat} {t : TypeId} {v : Value} {n : Nat} {xs : List Value} (h : w.ownsRow base t sz v n xs) : ∀ g, v.ownBlock = some g → g < w.heap.size := by
  intro g hg
  rcases h.2 with ⟨rfl, _⟩ | ⟨k, cap, cur, rfl, _, hh, _⟩
  · cases hg
  · cases hg
    exact lt_of_block hh
/-- does one of this ID wait? -/
def isW (L : List En) (z : Int) : Bool := match findI L z with
  | none => false
  | some x => x.waits
def wtL (L : List En) (ids : List Int) : List Int := ids.filter (isW L)
theorem wt_take {L : List En} {ids : List Int} {j : Nat} (h : j < ids.length) : (isW L ids[j] = true → wtL L (ids.take (j + 1)) = wtL L (ids.take j) ++ [ids[j]]) ∧ (isW L ids[j] = false → wtL L (ids.take (j + 1)) = wtL L (ids.take j)) := by
  unfold wtL
  rw [List.take_succ_eq_append_getElem h, List.filter_append]
  constructor
  · intro hw
    rw [List.filter_cons_of_pos hw]
    rfl
  · intro hw
    rw [List.filter_cons_of_neg (by rw [hw]; simp)]
    simp
/-- a table, the IDs that were told, and those of them that wait. -/
structure Od (F : World → World → Nat → Nt → Prop) (w X : World) (p : Nat) (s : Nt) (po : Option Addr) (co : Nat) (ids : List Int) (base : Nat) (v : Value) (ws : List Int) (B2 : Nat) : Prop where
  f : F w X p s
  row : X.ownsRow base 23 1 (.slice po ids.length co) ids.length (cellsU ids)
  lt : ∀ g, (Value.slice po ids.length co).ownBlock = some g → g < B2
  wr : X.ownsRow B2 23 1 v ws.length (cellsU ws)
  b2 : w.heap.size ≤ B2
  sz : B2 ≤ X.heap.size
section
variable {F : World → World → Nat → Nt → Prop} {w X X' : World} {p base co B2 : Nat} {s s' : Nt} {v v' : Value} {po : Option Addr} {ids ws : List Int} {z : Int}
theorem Od.step (h : Od F w X p s po co ids base v ws B2) (hf : F w X' p s') (hc : Fc [62] w.heap.size X X') : Od F w X' p s' po co ids base v ws B2 := ⟨hf, owns_fc h.row hc (by simp), h.lt, owns_fc h.wr hc (by simp), h.b2, Nat.le_trans h.sz hc.bel.size⟩
theorem Od.over (I : Ifc F) (h : Od F w X p s po co ids base v ws B2) (hb : Below X.heap.size X X') : Od F w X' p s po co ids base v ws B2 := ⟨I.over h.f hb, owns_below h.row hb (Nat.le_refl _), h.lt, owns_below h.wr hb (Nat.le_refl _), h.b2, Nat.le_trans h.sz hb.size⟩
theorem Od.app (I : Ifc F) (h : Od F w X p s po co ids base v ws B2) (ha : App 23 B2 (X.alloc (.cells #[.int .u64 z] 23)) X' v v' (cellsU ws ++ cellsU [z])) : Od F w X' p s po co ids base v' (ws ++ [z]) B2 := by
  have h1 := h.over I (below_new X (.cells #[.int .u64 z] 23))
  have hfr : Fr [23] [] B2 (X.alloc (.cells #[.int .u64 z] 23)) X' := app_fr h1.wr ha h1.sz
  refine ⟨I.frr h1.f ⟨hfr.bel.mono h.b2, hfr.blk⟩ (by simp), owns_grown h1.row ha.grow (fun g hg e => ?_), h.lt, ?_, h.b2, Nat.le_trans h1.sz hfr.bel.size⟩
  · have q1 := h.lt g hg
    have q2 := owns_block h1.wr g e
    omega
  · have := ha.own
    have e : cellsU ws ++ cellsU [z] = cellsU (ws ++ [z]) := by simp [cellsU]
    rw [e, cellsU_len] at this
    exact this
end

set_option maxHeartbeats 16000000 in
set_option maxRecDepth 8000 in
theorem old_walk {F : World → World → Nat → Nt → Prop} (I : Ifc F) (w : World) (x Y : Int) (a : Option Addr) (len cap : Nat) (l : List Do) (ep : Int) (h : OpsR w a len l) (hep : U64 ep) :
    Calls Try.prog 7 #[.agg #[.int .i64 x, .int .i64 Y], .slice a len cap, .int .u64 ep] w fun e w' => e = .returned (.bool true) ∧ Below w.heap.size w w' := by
  have HB0 : Hid (Below w.heap.size w (w.alloc (.cells #[.int .i64 x, .int .i64 Y] 22))) := below_new w _
  have HX : Hid (Blk (w.alloc (.cells #[.int .i64 x, .int .i64 Y] 22)) w.heap.size 22 [.int .i64 x, .int .i64 Y]) := blk_new w _ _
  have HR : Hid (OpsR w a len l) := h
  have HEP : Hid (U64 ep) := hep
  clear h hep
  go_enter Try.func7, Try.ntmps7
  go_upto_region 1 with fail
  obtain ⟨b0, hb0⟩ : ∃ k, w.heap.size = k := ⟨_, rfl⟩
  rw [hb0] at HX ⊢
  have HS0 : Hid (w.heap.size = b0) := hb0
  clear hb0
  generalize w.alloc (.cells #[.int .i64 x, .int .i64 Y] 22) = w0 at *
  go_wp2_with fail
  refine (awake_any I w0).mono ?_
  rintro e w1 ⟨rfl, hb1⟩
  have H1 : Hid (Below w.heap.size w w1 ∧ Blk w1 b0 22 [.int .i64 x, .int .i64 Y]) := ⟨HB0.out.trans (hb1.mono HB0.out.size), HX.out.over hb1⟩
  have c0 := H1.out.2.cell 0
  have c1 := H1.out.2.cell 1
  clear hb1 HX
  cases hn : newE x Y with
  | true =>
    have HN : Hid (newE x Y = true) := hn
    clear hn
    go_wp2_with fail
    refine (I.newNot HN.out).mono ?_
    rintro e w2 ⟨rfl, hb2⟩
    have H2 : Hid (Below w.heap.size w w2) := H1.out.1.trans (hb2.mono H1.out.1.size)
    clear hb2
    go_wp2_with fail
    go_ret
    exact ⟨rfl, H2.out⟩
  | false =>
    have HN : Hid (newE x Y = false) := hn
    clear hn
    go_wp2_with fail
    refine (I.new H1.out.1 HN.out ⟨by decide, by decide⟩).mono ?_
    rintro e w2 ⟨p, rfl, h2, hb2⟩
    have H2 : Hid (F w w2 p (newS x Y 1)) := h2
    clear h2 hb2 c0 c1 H1
    go_wp2_with fail
    refine (play_any I w w2 p _ a len cap l H2.out (fun X hX => HR.out.below ((I.bel H2.out).trans hX.bel))).mono ?_
    rintro e w3 ⟨v3, rfl, h3⟩
    obtain ⟨ids, hids⟩ : ∃ t, playI (newS x Y 1) (l.take 200) = t := ⟨_, rfl⟩
    obtain ⟨s0, hs0⟩ : ∃ t, playS (newS x Y 1) (l.take 200) = t := ⟨_, rfl⟩
    obtain ⟨base, hbase⟩ : ∃ k, w2.heap.size = k := ⟨_, rfl⟩
    obtain ⟨po, co, rfl⟩ := rowU_slice h3.row
    have H3 : Hid (F w w3 p s0 ∧ w3.ownsRow base 23 1 (.slice po ids.length co) ids.length (cellsU ids)) := by
      have hr := h3.row
      rw [hids, hbase] at hr
      have hf := h3.f
      rw [hs0] at hf
      exact ⟨hf, hr⟩
    have HIU : Hid (∀ z ∈ ids, U64 z) := by
      rw [← hids]
      exact play_ids (Ok.new HN.out ⟨by decide, by decide⟩) (take_u HR.out 200)
    have hln : ids.length ≤ 200 := by
      have h4 := playI_len (newS x Y 1) (l.take 200)
      rw [hids, List.length_take] at h4
      omega
    rw [hids]
    clear h3 H2 hids hs0 hbase
    go_wp2_with fail
    refine (I.epoch H3.out.1).mono ?_
    rintro e w4 ⟨rfl, h4, f4⟩
    have HEO : Hid (U64 s0.ep) := (I.ok h4).e0
    obtain ⟨B2, hB2⟩ : ∃ k, w4.heap.size = k := ⟨_, rfl⟩
    have H4 : Hid (Od F w w4 p s0 po co ids base (.slice none 0 0) (wtL s0.L (ids.take 0)) B2) := by
      have hr := owns_fc H3.out.2 f4 (by simp)
      exact ⟨h4, hr, fun g hg => by rw [← hB2]; exact own_lt hr g hg, ⟨rfl, .inl ⟨rfl, rfl⟩⟩, by rw [← hB2]; exact (I.bel h4).size, by omega⟩
    clear h4 f4 H3 hB2
    go_wp2_with fail
    go_loopw [12, 13] (fun v12 v13 wz => ∃ (j : Nat) (v : Value), v13 = .int .i64 j ∧ v = v12 ∧ j ≤ ids.length ∧ Od F w wz p s0 po co ids base v (wtL s0.L (ids.take j)) B2) (fun _ v13 _ => ids.length - (intOf v13).toNat)
    case atStart => exact ⟨0, _, rfl, rfl, Nat.zero_le _, H4.out⟩
    case round =>
      obtain ⟨j, vw, rfl, hvv, hj, ht⟩ := hrel
      subst hvv
      obtain ⟨pw, cw, hvw⟩ := rowU_slice ht.wr
      subst hvw
      have HT : Hid (Od F w wr p s0 po co ids base (.slice pw (wtL s0.L (ids.take j)).length cw) (wtL s0.L (ids.take j)) B2) := ht
      have HLN : Hid ((wtL s0.L (ids.take j)).length ≤ 200) := by
        have h1 := List.length_filter_le (isW s0.L) (ids.take j)
        rw [List.length_take] at h1
        show (List.filter _ _).length ≤ _
        omega
      clear ht H4
      by_cases hjl : j < ids.length
      · have hj1 : (j : Int) < (ids.length : Int) := by omega
        obtain ⟨g, rfl, _, cj⟩ := rowU_at HT.out.row hjl
        have HUZ : Hid (U64 ids[j]) := HIU.out _ (List.getElem_mem hjl)
        have HTK : Hid ((isW s0.L ids[j] = true → wtL s0.L (ids.take (j + 1)) = wtL s0.L (ids.take j) ++ [ids[j]]) ∧ (isW s0.L ids[j] = false → wtL s0.L (ids.take (j + 1)) = wtL s0.L (ids.take j))) := wt_take hjl
        obtain ⟨z, hz⟩ : ∃ z, ids[j] = z := ⟨_, rfl⟩
        rw [hz] at cj HUZ HTK
        have HZJ : Hid (ids[j] = z) := hz
        clear hz
        cases hfz : findI s0.L z with
        | none =>
          have HWT : Hid (isW s0.L z = false) := by
            show isW s0.L z = false
            unfold isW
            rw [hfz]
          have HC : Hid (Calls Try.prog 14 #[.pointer (some ⟨p, 0, none⟩), .int .u64 z] wr fun e w' => Tld F w wr p s0 (.tuple #[.agg #[.int .u64 0, .int .i64 0, .int .i64 0, .int .i64 0, .int .i64 0, .int .i64 0], .bool false]) e w') := by
            have := I.get HUZ.out HT.out.f
            rw [hfz] at this
            exact this
          clear hfz
          go_wp2_with fail
          refine HC.out.mono ?_
          rintro e w5 ⟨rfl, h5, f5⟩
          have H5 : Hid (∀ X, Below w5.heap.size w5 X → Od F w X p s0 (some ⟨g, 0, none⟩) co ids base (.slice pw (wtL s0.L (ids.take j)).length cw) (wtL s0.L (ids.take j)) B2) := fun X hX => (HT.out.step h5 f5).over I hX
          have HTW : Hid (wtL s0.L (ids.take (j + 1)) = wtL s0.L (ids.take j)) := HTK.out.2 HWT.out
          clear h5 f5 HC cj HTK HWT
          generalize wtL s0.L (ids.take j) = ws at *
          go_wp2_with fail
          go_roundw
          case rel => exact ⟨j + 1, .slice pw ws.length cw, by go_num, rfl, hjl, by rw [HTW.out]; exact H5.out _ (below_new _ _)⟩
          case measure => simp [intOf]; omega
        | some q =>
          have HWQ : Hid (isW s0.L z = q.waits) := by
            show isW s0.L z = q.waits
            unfold isW
            rw [hfz]
          obtain ⟨q1, q2, q3, q4, q5, q6⟩ := q
          have HC : Hid (Calls Try.prog 14 #[.pointer (some ⟨p, 0, none⟩), .int .u64 z] wr fun e w' => Tld F w wr p s0 (.tuple #[.agg #[.int .u64 q1, .int .i64 q2, .int .i64 q3, .int .i64 q4, .int .i64 q5, .int .i64 q6], .bool true]) e w') := by
            have := I.get HUZ.out HT.out.f
            rw [hfz] at this
            exact this
          clear hfz
          by_cases hs1 : q3 = 1
          · have r1 : (q3 == 1) = true := by simp [hs1]
            have HWT : Hid (isW s0.L z = true) := HWQ.out.trans ((waits_iff _).2 (.inl hs1))
            clear hs1 HWQ
            go_wp2_with fail
            refine HC.out.mono ?_
            rintro e w5 ⟨rfl, h5, f5⟩
            have H5 : Hid (Od F w (w5.alloc (.cells #[.int .u64 q1, .int .i64 q2, .int .i64 q3, .int .i64 q4, .int .i64 q5, .int .i64 q6] 44)) p s0 (some ⟨g, 0, none⟩) co ids base (.slice pw (wtL s0.L (ids.take j)).length cw) (wtL s0.L (ids.take j)) B2) := (HT.out.step h5 f5).over I (below_new _ _)
            have cj5 := (rowU_at H5.out.row hjl).choose_spec.2.2
            clear h5 f5 HC cj
            go_upto_region 12 with fail
            have e2 : (w5.alloc (.cells #[.int .u64 q1, .int .i64 q2, .int .i64 q3, .int .i64 q4, .int .i64 q5, .int .i64 q6] 44)).cell? ⟨w5.heap.size, 2, none⟩ = some (.int .i64 q3) := (blk_new w5 _ _).cell 2
            have cj6 : (w5.alloc (.cells #[.int .u64 q1, .int .i64 q2, .int .i64 q3, .int .i64 q4, .int .i64 q5, .int .i64 q6] 44)).cell? ⟨g, j, none⟩ = some (.int .u64 z) := by
              obtain ⟨g', e', _, hc⟩ := rowU_at H5.out.row hjl
              cases e'
              rw [HZJ.out] at hc
              exact hc
            clear cj5
            generalize (w5.alloc (.cells #[.int .u64 q1, .int .i64 q2, .int .i64 q3, .int .i64 q4, .int .i64 q5, .int .i64 q6] 44)) = w6 at *
            generalize w5.heap.size = be at *
            have HTW : Hid (wtL s0.L (ids.take (j + 1)) = wtL s0.L (ids.take j) ++ [z]) := HTK.out.1 HWT.out
            clear HTK HWT
            generalize wtL s0.L (ids.take j) = ws at *
            go_wp2_with (first
              | (at_builtin; refine list_app (ys := cellsU [z]) ety_u rfl _ _ rfl rfl rfl (owns_below H5.out.wr (below_new _ (.cells #[.int .u64 z] 23)) (Nat.le_refl _)) (sc_one _ _ _) (one_u _) (by have := HLN.out; simp [cellsU]; omega) (Nat.le_trans H5.out.sz (below_new w6 (.cells #[.int .u64 z] 23)).size) ?_; intro v7 w7 ha7; have HA7 : Hid (App 23 B2 (w6.alloc (.cells #[.int .u64 z] 23)) w7 (.slice pw ws.length cw) v7 (cellsU ws ++ cellsU [z])) := ha7; clear ha7; go_frame)
              | go_in)
            have H7 : Hid (Od F w w7 p s0 (some ⟨g, 0, none⟩) co ids base v7 (ws ++ [z]) B2) := H5.out.app I HA7.out
            go_roundw
            case rel => exact ⟨j + 1, v7, by go_num, rfl, hjl, by rw [HTW.out]; exact H7.out⟩
            case measure => simp [intOf]; omega
          · have r1 : (q3 == 1) = false := by simp [hs1]
            by_cases hs2 : q3 = 2
            · have r2 : (q3 == 2) = true := by simp [hs2]
              have HWT : Hid (isW s0.L z = true) := HWQ.out.trans ((waits_iff _).2 (.inr hs2))
              clear hs1 hs2 HWQ
              go_wp2_with fail
              refine HC.out.mono ?_
              rintro e w5 ⟨rfl, h5, f5⟩
              have H5 : Hid (Od F w (w5.alloc (.cells #[.int .u64 q1, .int .i64 q2, .int .i64 q3, .int .i64 q4, .int .i64 q5, .int .i64 q6] 44)) p s0 (some ⟨g, 0, none⟩) co ids base (.slice pw (wtL s0.L (ids.take j)).length cw) (wtL s0.L (ids.take j)) B2) := (HT.out.step h5 f5).over I (below_new _ _)
              have cj5 := (rowU_at H5.out.row hjl).choose_spec.2.2
              clear h5 f5 HC cj
              go_upto_region 12 with fail
              have e2 : (w5.alloc (.cells #[.int .u64 q1, .int .i64 q2, .int .i64 q3, .int .i64 q4, .int .i64 q5, .int .i64 q6] 44)).cell? ⟨w5.heap.size, 2, none⟩ = some (.int .i64 q3) := (blk_new w5 _ _).cell 2
              have cj6 : (w5.alloc (.cells #[.int .u64 q1, .int .i64 q2, .int .i64 q3, .int .i64 q4, .int .i64 q5, .int .i64 q6] 44)).cell? ⟨g, j, none⟩ = some (.int .u64 z) := by
                obtain ⟨g', e', _, hc⟩ := rowU_at H5.out.row hjl
                cases e'
                rw [HZJ.out] at hc
                exact hc
              clear cj5
              generalize (w5.alloc (.cells #[.int .u64 q1, .int .i64 q2, .int .i64 q3, .int .i64 q4, .int .i64 q5, .int .i64 q6] 44)) = w6 at *
              generalize w5.heap.size = be at *
              have HTW : Hid (wtL s0.L (ids.take (j + 1)) = wtL s0.L (ids.take j) ++ [z]) := HTK.out.1 HWT.out
              clear HTK HWT
              generalize wtL s0.L (ids.take j) = ws at *
              go_wp2_with (first
                | (at_builtin; refine list_app (ys := cellsU [z]) ety_u rfl _ _ rfl rfl rfl (owns_below H5.out.wr (below_new _ (.cells #[.int .u64 z] 23)) (Nat.le_refl _)) (sc_one _ _ _) (one_u _) (by have := HLN.out; simp [cellsU]; omega) (Nat.le_trans H5.out.sz (below_new w6 (.cells #[.int .u64 z] 23)).size) ?_; intro v7 w7 ha7; have HA7 : Hid (App 23 B2 (w6.alloc (.cells #[.int .u64 z] 23)) w7 (.slice pw ws.length cw) v7 (cellsU ws ++ cellsU [z])) := ha7; clear ha7; go_frame)
                | go_in)
              have H7 : Hid (Od F w w7 p s0 (some ⟨g, 0, none⟩) co ids base v7 (ws ++ [z]) B2) := H5.out.app I HA7.out
              go_roundw
              case rel => exact ⟨j + 1, v7, by go_num, rfl, hjl, by rw [HTW.out]; exact H7.out⟩
              case measure => simp [intOf]; omega
            · have r2 : (q3 == 2) = false := by simp [hs2]
              have HWT : Hid (isW s0.L z = false) := HWQ.out.trans ((not_waits _).2 ⟨hs1, hs2⟩)
              clear hs1 hs2 HWQ
              go_wp2_with fail
              refine HC.out.mono ?_
              rintro e w5 ⟨rfl, h5, f5⟩
              have H5 : Hid (∀ X, Below w5.heap.size w5 X → Od F w X p s0 (some ⟨g, 0, none⟩) co ids base (.slice pw (wtL s0.L (ids.take j)).length cw) (wtL s0.L (ids.take j)) B2) := fun X hX => (HT.out.step h5 f5).over I hX
              have HTW : Hid (wtL s0.L (ids.take (j + 1)) = wtL s0.L (ids.take j)) := HTK.out.2 HWT.out
              clear h5 f5 HC cj HTK HWT
              generalize wtL s0.L (ids.take j) = ws at *
              go_wp2_with fail
              go_roundw
              case rel => exact ⟨j + 1, .slice pw ws.length cw, by go_num, rfl, hjl, by rw [HTW.out]; exact H5.out _ (below_new _ _)⟩
              case measure => simp [intOf]; omega
      · have hj1 : ¬ (j : Int) < (ids.length : Int) := by omega
        obtain ⟨WS, hWS⟩ : ∃ t, wtL s0.L (ids.take j) = t := ⟨_, rfl⟩
        have HWS : Hid (∀ z ∈ WS, U64 z ∧ ∃ q, findI s0.L z = some q ∧ q.waits = true) := by
          rw [← hWS]
          intro z hz
          have h1 := List.mem_filter.1 hz
          refine ⟨HIU.out z (List.mem_of_mem_take h1.1), ?_⟩
          have h2 := h1.2
          unfold isW at h2
          split at h2
          · cases h2
          · rename_i q hq
            exact ⟨q, hq, h2⟩
        rw [hWS] at HT HLN ⊢
        clear hWS
        go_wp2_with fail
        refine (I.rise HEP.out HT.out.f).mono ?_
        rintro e w5 ⟨he, h5, f5⟩
        by_cases hle : ep ≤ s0.ep
        · have hd : decide (ep ≤ s0.ep) = true := decide_eq_true hle
          have he2 : e = .returned (.int .i64 22) := by rw [he]; unfold riseE; rw [if_pos hle]
          subst he2
          have hrs : riseS s0 ep = s0 := if_pos hle
          rw [hrs] at h5
          have H5 : Hid (F w w5 p s0) := h5
          have r1 : (s0.ep == s0.ep) = true := by simp
          have HC : Hid (Calls Try.prog 13 #[.pointer (some ⟨p, 0, none⟩)] w5 fun e w' => e = .returned (.int .u64 s0.ep) ∧ Below w.heap.size w w') := (I.epoch H5.out).mono fun e w' ⟨h1, h2, _⟩ => ⟨h1, I.bel h2⟩
          clear he h5 f5 hrs HT H5
          generalize s0.ep = ep0 at *
          go_wp2_with fail
          refine HC.out.mono ?_
          rintro e w6 ⟨rfl, hb6⟩
          have H6 : Hid (Below w.heap.size w w6) := hb6
          clear hb6 HC
          go_wp2_with fail
          go_ret
          exact ⟨rfl, H6.out⟩
        · have hd : decide (ep ≤ s0.ep) = false := decide_eq_false hle
          have he2 : e = .returned (.int .i64 0) := by rw [he]; unfold riseE; rw [if_neg hle]
          subst he2
          have HRI : Hid ((riseS s0 ep).ep = ep ∧ s0.ep ≠ ep ∧ ∀ z ∈ WS, U64 z ∧ ∃ q : En, findI (riseS s0 ep).L z = some (q.gone 7)) := by
            refine ⟨by unfold riseS; rw [if_neg hle], by omega, fun z hz => ?_⟩
            obtain ⟨h1, q, h2, h3⟩ := HWS.out z hz
            exact ⟨h1, q, rise_gone hle h2 h3⟩
          have H5 : Hid (Od F w w5 p (riseS s0 ep) po co ids base (.slice pw WS.length cw) WS B2) := HT.out.step h5 f5
          clear he h5 f5 HT HWS
          generalize riseS s0 ep = s1 at *
          have HEO2 := HEO.out
          generalize s0.ep = ep0 at *
          have r1 : (ep == ep) = true := by simp
          have r2 : (ep != ep) = false := by simp
          have HC : Hid (Calls Try.prog 13 #[.pointer (some ⟨p, 0, none⟩)] w5 fun e w' => Tld F w w5 p s1 (.int .u64 ep) e w') := by
            have := I.epoch H5.out.f
            rw [HRI.out.1] at this
            exact this
          go_wp2_with fail
          refine HC.out.mono ?_
          rintro e w6 ⟨rfl, h6, f6⟩
          have H6 : Hid (Od F w w6 p s1 po co ids base (.slice pw WS.length cw) WS B2) := H5.out.step h6 f6
          clear h6 f6 HC H5
          have hwl : WS.length ≤ 200 := HLN.out
          go_wp2_with fail
          go_loopw [17] (fun v17 wz => ∃ j : Nat, v17 = .int .i64 j ∧ j ≤ WS.length ∧ Od F w wz p s1 po co ids base (.slice pw WS.length cw) WS B2) (fun v17 _ => WS.length - (intOf v17).toNat)
          case atStart => exact ⟨0, rfl, Nat.zero_le _, H6.out⟩
          case round =>
            obtain ⟨k, rfl, hk, hq⟩ := hrel
            have HQ : Hid (Od F w wr p s1 po co ids base (.slice pw WS.length cw) WS B2) := hq
            clear hq H6
            by_cases hkl : k < WS.length
            · have hk1 : (k : Int) < (WS.length : Int) := by omega
              obtain ⟨gw, rfl, _, ck⟩ := rowU_at HQ.out.wr hkl
              obtain ⟨huz, q, hfq⟩ := HRI.out.2.2 _ (List.getElem_mem hkl)
              have HCK : Hid (∀ X, Od F w X p s1 po co ids base (.slice (some ⟨gw, 0, none⟩) WS.length cw) WS B2 → X.cell? ⟨gw, k, none⟩ = some (.int .u64 WS[k])) := fun X hX => by
                obtain ⟨g', e', _, hc⟩ := rowU_at hX.wr hkl
                cases e'
                exact hc
              have HUZ : Hid (U64 WS[k]) := huz
              generalize WS[k] = z at *
              obtain ⟨q1, q2, q3, q4, q5, q6⟩ := q
              have HF1 : Hid (findI s1.L z = some (⟨q1, q2, 4, q4, 7, 0⟩ : En)) := hfq
              have HG1 : Hid (∀ X, F w X p s1 → Calls Try.prog 14 #[.pointer (some ⟨p, 0, none⟩), .int .u64 z] X fun e w' => Tld F w X p s1 (.tuple #[.agg #[.int .u64 q1, .int .i64 q2, .int .i64 4, .int .i64 q4, .int .i64 7, .int .i64 0], .bool true]) e w') := fun X hX => by
                have := I.get HUZ.out hX
                rw [HF1.out] at this
                exact this
              have HR1 : Hid (∀ X, F w X p s1 → Calls Try.prog 19 #[.pointer (some ⟨p, 0, none⟩), .int .u64 ep0, .int .u64 z, .agg #[.int .i64 1, .int .i64 0]] X fun e w' => Tld F w X p s1 (.int .i64 22) e w') := fun X hX => by
                have h1 := I.reply (k := 1) (v := 0) HEO2 HUZ.out hX
                have h2 := reply_old (s := s1) (ep := ep0) (id := z) (k := 1) (v := 0) (by rw [HRI.out.1]; exact HRI.out.2.1)
                rw [h2.1, h2.2] at h1
                exact h1
              have HR2 : Hid (∀ X, F w X p s1 → Calls Try.prog 19 #[.pointer (some ⟨p, 0, none⟩), .int .u64 ep, .int .u64 z, .agg #[.int .i64 1, .int .i64 0]] X fun e w' => Tld F w X p s1 (.int .i64 18) e w') := fun X hX => by
                have h1 := I.reply (k := 1) (v := 0) HEP.out HUZ.out hX
                have h2 := reply_state (s := s1) (id := z) (k := 1) (v := 0) HF1.out (by show (4 : Int) ≠ 2; omega)
                rw [HRI.out.1] at h2
                rw [h2.1, h2.2] at h1
                exact h1
              have HV : Hid (∀ X, F w X p s1 → Calls Try.prog 20 #[.pointer (some ⟨p, 0, none⟩), .int .u64 z] X fun e w' => Tld F w X p s1 (.bool false) e w') := fun X hX => by
                have h1 := I.valid HUZ.out hX
                have h2 : valid s1 z = false := by
                  unfold valid
                  rw [HF1.out]
                  rfl
                rw [h2] at h1
                exact h1
              clear hfq huz
              go_wp2_with fail
              refine (HG1.out wr HQ.out.f).mono ?_
              rintro e w7 ⟨rfl, h7, f7⟩
              have H7 : Hid (Od F w (w7.alloc (.cells #[.int .u64 q1, .int .i64 q2, .int .i64 4, .int .i64 q4, .int .i64 7, .int .i64 0] 44)) p s1 po co ids base (.slice (some ⟨gw, 0, none⟩) WS.length cw) WS B2) := (HQ.out.step h7 f7).over I (below_new _ _)
              have B7 : Hid (Blk (w7.alloc (.cells #[.int .u64 q1, .int .i64 q2, .int .i64 4, .int .i64 q4, .int .i64 7, .int .i64 0] 44)) w7.heap.size 44 [.int .u64 q1, .int .i64 q2, .int .i64 4, .int .i64 q4, .int .i64 7, .int .i64 0]) := blk_new _ _ _
              clear h7 f7 ck HQ
              go_upto_region 23 with fail
              generalize (w7.alloc (.cells #[.int .u64 q1, .int .i64 q2, .int .i64 4, .int .i64 q4, .int .i64 7, .int .i64 0] 44)) = w8 at *
              generalize w7.heap.size = be at *
              have ck8 := HCK.out w8 H7.out
              go_wp2_with fail
              refine (HR1.out w8 H7.out.f).mono ?_
              rintro e w9 ⟨rfl, h9, f9⟩
              have H9 : Hid (Od F w w9 p s1 po co ids base (.slice (some ⟨gw, 0, none⟩) WS.length cw) WS B2 ∧ Blk w9 be 44 [.int .u64 q1, .int .i64 q2, .int .i64 4, .int .i64 q4, .int .i64 7, .int .i64 0]) := ⟨H7.out.step h9 f9, B7.out.fc f9 (by simp)⟩
              clear h9 f9 ck8 H7 B7
              have ck9 := HCK.out w9 H9.out.1
              go_wp2_with fail
              refine (HR2.out w9 H9.out.1.f).mono ?_
              rintro e w10 ⟨rfl, h10, f10⟩
              have H10 : Hid (Od F w w10 p s1 po co ids base (.slice (some ⟨gw, 0, none⟩) WS.length cw) WS B2 ∧ Blk w10 be 44 [.int .u64 q1, .int .i64 q2, .int .i64 4, .int .i64 q4, .int .i64 7, .int .i64 0]) := ⟨H9.out.1.step h10 f10, H9.out.2.fc f10 (by simp)⟩
              clear h10 f10 ck9 H9
              have ck10 := HCK.out w10 H10.out.1
              go_wp2_with fail
              refine (HG1.out w10 H10.out.1.f).mono ?_
              rintro e w11 ⟨rfl, h11, f11⟩
              have H11 : Hid (Od F w (w11.alloc (.cells #[.int .u64 q1, .int .i64 q2, .int .i64 4, .int .i64 q4, .int .i64 7, .int .i64 0] 44)) p s1 po co ids base (.slice (some ⟨gw, 0, none⟩) WS.length cw) WS B2 ∧ Blk (w11.alloc (.cells #[.int .u64 q1, .int .i64 q2, .int .i64 4, .int .i64 q4, .int .i64 7, .int .i64 0] 44)) be 44 [.int .u64 q1, .int .i64 q2, .int .i64 4, .int .i64 q4, .int .i64 7, .int .i64 0]) := ⟨(H10.out.1.step h11 f11).over I (below_new _ _), (H10.out.2.fc f11 (by simp)).alloc _⟩
              have B11 : Hid (Blk (w11.alloc (.cells #[.int .u64 q1, .int .i64 q2, .int .i64 4, .int .i64 q4, .int .i64 7, .int .i64 0] 44)) w11.heap.size 44 [.int .u64 q1, .int .i64 q2, .int .i64 4, .int .i64 q4, .int .i64 7, .int .i64 0]) := blk_new _ _ _
              clear h11 f11 ck10 H10
              go_upto_region 26 with fail
              generalize (w11.alloc (.cells #[.int .u64 q1, .int .i64 q2, .int .i64 4, .int .i64 q4, .int .i64 7, .int .i64 0] 44)) = w12 at *
              generalize w11.heap.size = bf at *
              have ck12 := HCK.out w12 H11.out.1
              have m0 := H11.out.2.cell 0
              have m1 := H11.out.2.cell 1
              have m2 := H11.out.2.cell 2
              have m3 := H11.out.2.cell 3
              have m4 := H11.out.2.cell 4
              have m5 := H11.out.2.cell 5
              have n0 := B11.out.cell 0
              have n1 := B11.out.cell 1
              have n2 := B11.out.cell 2
              have n3 := B11.out.cell 3
              have n4 := B11.out.cell 4
              have n5 := B11.out.cell 5
              have q1e : ∀ X, (binOp .neq 35 (.agg #[.int .i64 7, .int .i64 0]) (.agg #[.int .i64 7, .int .i64 0])).run Try.prog X = .ok (.bool false) X := fun X => neq_out 7 0 7 0 X
              have q2e : ∀ X, (binOp .neq 44 (.agg #[.int .u64 q1, .int .i64 q2, .int .i64 4, .int .i64 q4, .int .i64 7, .int .i64 0]) (.agg #[.int .u64 q1, .int .i64 q2, .int .i64 4, .int .i64 q4, .int .i64 7, .int .i64 0])).run Try.prog X = .ok (.bool false) X := fun X => by
                have := neq_en ⟨q1, q2, 4, q4, 7, 0⟩ ⟨q1, q2, 4, q4, 7, 0⟩ X
                rw [En.same_self] at this
                exact this
              have g1e : ∀ X, (eqGuard .neq 35 (.tmp 152) (.tmp 153) (.agg #[.int .i64 7, .int .i64 0]) (.agg #[.int .i64 7, .int .i64 0])).run Try.prog X = .ok () X := fun X => guard_out .neq _ _ _ _ X (.inr rfl)
              have g2e : ∀ X, (eqGuard .neq 44 (.tmp 165) (.tmp 166) (.agg #[.int .u64 q1, .int .i64 q2, .int .i64 4, .int .i64 q4, .int .i64 7, .int .i64 0]) (.agg #[.int .u64 q1, .int .i64 q2, .int .i64 4, .int .i64 q4, .int .i64 7, .int .i64 0])).run Try.prog X = .ok () X := fun X => guard_en .neq _ _ _ _ X (.inr rfl)
              go_wp2_with fail
              refine (HV.out w12 H11.out.1.f).mono ?_
              rintro e w13 ⟨rfl, h13, f13⟩
              have H13 : Hid (Od F w w13 p s1 po co ids base (.slice (some ⟨gw, 0, none⟩) WS.length cw) WS B2) := H11.out.1.step h13 f13
              clear h13 f13 ck12 m0 m1 m2 m3 m4 m5 n0 n1 n2 n3 n4 n5 q1e q2e g1e g2e H11 B11
              go_wp2_with fail
              go_roundw
              case rel => exact ⟨k + 1, by go_num, hkl, H13.out⟩
              case measure => simp [intOf]; omega
            · have hk1 : ¬ (k : Int) < (WS.length : Int) := by omega
              go_wp2_with fail
              go_ret
              exact ⟨rfl, I.bel HQ.out.f⟩

end Go.Proofs.Ytlckconhhhllkaa
