/-
  How one ended never changes, till it is taken out: the law's walk, over any interface.
-/
import Derived.Test.YtlckconhhhllkaaOldW
import Derived.Test.YtlckconhhhllkaaSrow
import Derived.BigQuiet
namespace Go.Proofs.Ytlckconhhhllkaa
open Go.RowKit

/-- a table, and those of it that ended, in a row of the call's own. -/
structure Wa (F : World → World → Nat → Nt → Prop) (w X : World) (p : Nat) (s : Nt) (v : Value) (ws : List En) (B2 : Nat) (base : Nat) : Prop where
  f : F w X p s
  row : X.ownsRow B2 44 6 v ws.length (cellsE ws)
  b2 : w.heap.size ≤ B2
  sz : B2 ≤ X.heap.size
section
variable {F : World → World → Nat → Nt → Prop} {w X X' : World} {p B2 base : Nat} {s s' : Nt} {v v' : Value} {ws : List En} {x : En}
theorem Wa.step (h : Wa F w X p s v ws B2 base) (hf : F w X' p s') (hc : Fc [62] w.heap.size X X') : Wa F w X' p s' v ws B2 base := ⟨hf, owns_fc h.row hc (by simp), h.b2, Nat.le_trans h.sz hc.bel.size⟩
theorem Wa.over (I : Ifc F) (h : Wa F w X p s v ws B2 base) (hb : Below X.heap.size X X') : Wa F w X' p s v ws B2 base := ⟨I.over h.f hb, owns_below h.row hb (Nat.le_refl _), h.b2, Nat.le_trans h.sz hb.size⟩
theorem Wa.app (I : Ifc F) (h : Wa F w X p s v ws B2 base) (ha : ApS 44 6 B2 X X' v v' (ws.length + 1) (cellsE ws ++ x.cells)) : Wa F w X' p s v' (ws ++ [x]) B2 base := by
  have hfr := aps_fr h.row ha h.sz
  refine ⟨I.frr h.f ⟨hfr.bel.mono h.b2, hfr.blk⟩ (by simp), ?_, h.b2, Nat.le_trans h.sz hfr.bel.size⟩
  have := ha.own
  rw [← cellsE_one x, ← cellsE_app] at this
  rw [List.length_append]
  exact this
end

set_option maxHeartbeats 16000000 in
set_option maxRecDepth 8000 in
theorem ends_walk {F : World → World → Nat → Nt → Prop} (I : Ifc F) (w : World) (x Y : Int) (a a2 : Option Addr) (len cap len2 cap2 : Nat) (l m : List Do) (h : OpsR w a len l) (h2 : OpsR w a2 len2 m) (hsz : len2 * 40 ≤ 140737488355328) :
    Calls Try.prog 5 #[.agg #[.int .i64 x, .int .i64 Y], .slice a len cap, .slice a2 len2 cap2] w fun e w' => e = .returned (.bool true) ∧ Below w.heap.size w w' := by
  obtain rfl : len2 = m.length := h2.1.symm
  have hmax : m.length ≤ 9223372036854775807 := by have := h2.2.1; unfold maxLen at this; omega
  have HB0 : Hid (Below w.heap.size w (w.alloc (.cells #[.int .i64 x, .int .i64 Y] 22))) := below_new w _
  have HX : Hid (Blk (w.alloc (.cells #[.int .i64 x, .int .i64 Y] 22)) w.heap.size 22 [.int .i64 x, .int .i64 Y]) := blk_new w _ _
  have HR : Hid (OpsR w a len l ∧ OpsR w a2 m.length m ∧ m.length * 40 ≤ 140737488355328) := ⟨h, h2, hsz⟩
  clear h h2 hsz
  go_enter Try.func5, Try.ntmps5
  go_upto_region 1 with fail
  obtain ⟨b0, hb0⟩ : ∃ k, w.heap.size = k := ⟨_, rfl⟩
  rw [hb0] at HX ⊢
  have HS0 : Hid (w.heap.size = b0) := hb0
  clear hb0
  generalize w.alloc (.cells #[.int .i64 x, .int .i64 Y] 22) = w0 at *
  go_wp2_with fail
  refine (awake_any I w0).mono ?_
  rintro e w1 ⟨rfl, hb1⟩
  have H1 : Hid (Below w.heap.size w w1 ∧ Blk w1 b0 22 [.int .i64 x, .int .i64 Y]) := ⟨HB0.out.trans (hb1.mono HB0.out.size), HX.out.over hb1⟩
  have c0 := H1.out.2.cell 0
  have c1 := H1.out.2.cell 1
  clear hb1 HX
  cases hn : newE x Y with
  | true =>
    have HN : Hid (newE x Y = true) := hn
    clear hn
    go_wp2_with fail
    refine (I.newNot HN.out).mono ?_
    rintro e w2 ⟨rfl, hb2⟩
    have H2 : Hid (Below w.heap.size w w2) := H1.out.1.trans (hb2.mono H1.out.1.size)
    clear hb2
    go_wp2_with fail
    go_ret
    exact ⟨rfl, H2.out⟩
  | false =>
    have HN : Hid (newE x Y = false) := hn
    clear hn
    go_wp2_with fail
    refine (I.new H1.out.1 HN.out ⟨by decide, by decide⟩).mono ?_
    rintro e w2 ⟨p, rfl, h2, hb2⟩
    have H2 : Hid (F w w2 p (newS x Y 1)) := h2
    clear h2 hb2 c0 c1 H1
    go_wp2_with fail
    refine (play_any I w w2 p _ a len cap l H2.out (fun X hX => HR.out.1.below ((I.bel H2.out).trans hX.bel))).mono ?_
    rintro e w3 ⟨v3, rfl, h3⟩
    obtain ⟨s0, hs0⟩ : ∃ t, playS (newS x Y 1) (l.take 200) = t := ⟨_, rfl⟩
    obtain ⟨B2, hB2⟩ : ∃ k, w3.heap.size = k := ⟨_, rfl⟩
    obtain ⟨c1x, hc1x⟩ : ∃ k : Nat, k = 0 := ⟨_, rfl⟩
    obtain ⟨po, co, rfl⟩ := rowU_slice h3.row
    have H3 : Hid (Wa F w w3 p s0 (.slice none 0 0) [] B2 c1x) := by
      have hf := h3.f
      rw [hs0] at hf
      exact ⟨hf, ⟨rfl, .inl ⟨rfl, rfl⟩⟩, by rw [← hB2]; exact (I.bel hf).size, by omega⟩
    clear h3 H2 hs0 hB2 hc1x
    go_wp2_with fail
    go_loopw [10, 11] (fun v10 v11 wz => ∃ (id : Nat) (WL : List En) (v : Value), v11 = .int .u64 id ∧ v = v10 ∧ 1 ≤ id ∧ id ≤ 201 ∧ WL.length ≤ id - 1 ∧ (∀ q ∈ WL, (q ∈ s0.L ∧ q.waits = false) ∧ (∃ k : Nat, WL[k]? = some q ∧ ∀ (j : Nat) (r : En), WL[j]? = some r → r.id = q.id → j = k) ∧ q.id < id) ∧ Wa F w wz p s0 v WL B2 c1x) (fun _ v11 _ => 201 - (intOf v11).toNat)
    case atStart => exact ⟨1, [], _, rfl, rfl, by omega, by omega, by simp, fun q hq => (by cases hq), H3.out⟩
    case round =>
      obtain ⟨id, WL, vw, rfl, hvv, hid1, hid2, hln, hwl, ht⟩ := hrel
      subst hvv
      obtain ⟨pw, cw, hvw⟩ := rowS_slice ht.row
      subst hvw
      have HT : Hid (Wa F w wr p s0 (.slice pw WL.length cw) WL B2 c1x) := ht
      have HLN : Hid (WL.length ≤ id - 1 ∧ WL.length ≤ 200) := ⟨hln, by omega⟩
      have HWL : Hid (∀ q ∈ WL, (q ∈ s0.L ∧ q.waits = false) ∧ (∃ k : Nat, WL[k]? = some q ∧ ∀ (j : Nat) (r : En), WL[j]? = some r → r.id = q.id → j = k) ∧ q.id < id) := hwl
      clear ht hwl H3 hln
      by_cases hlt : id < 201
      · have hi1 : (id : Int) < 201 := by omega
        have HUZ : Hid (U64 (id : Int)) := ⟨by omega, by omega⟩
        have HWI : Hid (IntKind.u64.wrap ((id : Int) + 1) = (id : Int) + 1) := wrap_u ⟨by omega, by omega⟩
        have hwi := HWI.out
        cases hfz : findI s0.L (id : Int) with
        | none =>
          have HC : Hid (Calls Try.prog 14 #[.pointer (some ⟨p, 0, none⟩), .int .u64 id] wr fun e w' => Tld F w wr p s0 (.tuple #[.agg #[.int .u64 0, .int .i64 0, .int .i64 0, .int .i64 0, .int .i64 0, .int .i64 0], .bool false]) e w') := by
            have := I.get HUZ.out HT.out.f
            rw [hfz] at this
            exact this
          clear hfz
          go_wp2_with fail
          refine HC.out.mono ?_
          rintro e w5 ⟨rfl, h5, f5⟩
          have H5 : Hid (∀ X, Below w5.heap.size w5 X → Wa F w X p s0 (.slice pw WL.length cw) WL B2 c1x) := fun X hX => (HT.out.step h5 f5).over I hX
          clear h5 f5 HC
          go_wp2_with fail
          go_roundw
          case rel => exact ⟨id + 1, WL, .slice pw WL.length cw, by rw [Int.natCast_add]; rfl, rfl, by omega, by omega, by have := HLN.out; omega, fun q hq => ⟨(HWL.out q hq).1, (HWL.out q hq).2.1, by have := (HWL.out q hq).2.2; omega⟩, H5.out _ (below_new _ _)⟩
          case measure => simp [intOf]; omega
        | some q =>
          have hq := findI_some hfz
          have hst := (I.ok HT.out.f).all q hq.1
          have HQ : Hid (q ∈ s0.L ∧ q.id = id) := hq
          have HNX : Hid (q.waits = false → ∀ r ∈ WL ++ [q], (r ∈ s0.L ∧ r.waits = false) ∧ (∃ k : Nat, (WL ++ [q])[k]? = some r ∧ ∀ (j : Nat) (t : En), (WL ++ [q])[j]? = some t → t.id = r.id → j = k) ∧ r.id < ((id + 1 : Nat) : Int)) := fun hw r hr => by
            rcases List.mem_append.1 hr with hr | hr
            · obtain ⟨h1, ⟨k, hk1, hk2⟩, h3⟩ := HWL.out r hr
              have hkl : k < WL.length := (List.getElem?_eq_some_iff.1 hk1).1
              refine ⟨h1, ⟨k, by rw [List.getElem?_append_left hkl]; exact hk1, fun j t ht hid => ?_⟩, by omega⟩
              by_cases hj : j < WL.length
              · rw [List.getElem?_append_left hj] at ht
                exact hk2 j t ht hid
              · rw [List.getElem?_append_right (by omega)] at ht
                cases hjk : j - WL.length with
                | zero =>
                  rw [hjk] at ht
                  cases ht
                  have := HQ.out.2
                  omega
                | succ n => rw [hjk] at ht; cases ht
            · rw [List.mem_singleton] at hr
              subst hr
              refine ⟨⟨HQ.out.1, hw⟩, ⟨WL.length, by rw [List.getElem?_append_right (Nat.le_refl _), Nat.sub_self]; rfl, fun j t ht hid => ?_⟩, by have := HQ.out.2; omega⟩
              by_cases hj : j < WL.length
              · rw [List.getElem?_append_left hj] at ht
                have h5 := (HWL.out t (List.mem_of_getElem? ht)).2.2
                have := HQ.out.2
                omega
              · rw [List.getElem?_append_right (by omega)] at ht
                cases hjk : j - WL.length with
                | zero => omega
                | succ n => rw [hjk] at ht; cases ht
          obtain ⟨q1, q2, q3, q4, q5, q6⟩ := q
          have hst1 : 1 ≤ q3 := hst.s0
          have hst2 : q3 ≤ 4 := hst.s1
          have HC : Hid (Calls Try.prog 14 #[.pointer (some ⟨p, 0, none⟩), .int .u64 id] wr fun e w' => Tld F w wr p s0 (.tuple #[.agg #[.int .u64 q1, .int .i64 q2, .int .i64 q3, .int .i64 q4, .int .i64 q5, .int .i64 q6], .bool true]) e w') := by
            have := I.get HUZ.out HT.out.f
            rw [hfz] at this
            exact this
          clear hfz hq hst HQ
          by_cases hs3 : q3 = 3
          · have r1 : (q3 == 3) = true := by simp [hs3]
            have HNX2 : Hid (∀ r ∈ WL ++ [(⟨q1, q2, q3, q4, q5, q6⟩ : En)], (r ∈ s0.L ∧ r.waits = false) ∧ (∃ k : Nat, (WL ++ [(⟨q1, q2, q3, q4, q5, q6⟩ : En)])[k]? = some r ∧ ∀ (j : Nat) (t : En), (WL ++ [(⟨q1, q2, q3, q4, q5, q6⟩ : En)])[j]? = some t → t.id = r.id → j = k) ∧ r.id < ((id + 1 : Nat) : Int)) := HNX.out ((not_waits _).2 ⟨by show q3 ≠ 1; omega, by show q3 ≠ 2; omega⟩)
            clear hs3 hst1 hst2 HNX
            go_wp2_with fail
            refine HC.out.mono ?_
            rintro e w5 ⟨rfl, h5, f5⟩
            have H5 : Hid (Wa F w (w5.alloc (.cells #[.int .u64 q1, .int .i64 q2, .int .i64 q3, .int .i64 q4, .int .i64 q5, .int .i64 q6] 44)) p s0 (.slice pw WL.length cw) WL B2 c1x) := (HT.out.step h5 f5).over I (below_new _ _)
            have B5 : Hid (Blk (w5.alloc (.cells #[.int .u64 q1, .int .i64 q2, .int .i64 q3, .int .i64 q4, .int .i64 q5, .int .i64 q6] 44)) w5.heap.size 44 [.int .u64 q1, .int .i64 q2, .int .i64 q3, .int .i64 q4, .int .i64 q5, .int .i64 q6]) := blk_new _ _ _
            clear h5 f5 HC HT
            go_upto_region 11 with fail
            generalize (w5.alloc (.cells #[.int .u64 q1, .int .i64 q2, .int .i64 q3, .int .i64 q4, .int .i64 q5, .int .i64 q6] 44)) = w6 at *
            generalize w5.heap.size = be at *
            have m0 := B5.out.cell 0
            have m1 := B5.out.cell 1
            have m2 := B5.out.cell 2
            have m3 := B5.out.cell 3
            have m4 := B5.out.cell 4
            have m5 := B5.out.cell 5
            clear B5
            go_wp2_with (first
              | (at_builtin; refine list_aps (n := WL.length) (g := w6.heap.size) sty_e rfl _ _ rfl rfl rfl (owns_below H5.out.row (below_new _ (.cells #[.int .u64 q1, .int .i64 q2, .int .i64 q3, .int .i64 q4, .int .i64 q5, .int .i64 q6] 44)) (Nat.le_refl _)) (by rw [heap_alloc_new]; rfl) rfl (one_en ⟨q1, q2, q3, q4, q5, q6⟩) (by have := HLN.out; unfold maxLen; omega) (by have := HLN.out; omega) (Nat.le_trans H5.out.sz (below_new w6 (.cells #[.int .u64 q1, .int .i64 q2, .int .i64 q3, .int .i64 q4, .int .i64 q5, .int .i64 q6] 44)).size) ?_; intro v7 w7 ha7; have HA7 : Hid (ApS 44 6 B2 (w6.alloc (.cells #[.int .u64 q1, .int .i64 q2, .int .i64 q3, .int .i64 q4, .int .i64 q5, .int .i64 q6] 44)) w7 (.slice pw WL.length cw) v7 (WL.length + 1) (cellsE WL ++ (⟨q1, q2, q3, q4, q5, q6⟩ : En).cells)) := ha7; clear ha7; go_frame)
              | go_in)
            have H7 : Hid (Wa F w w7 p s0 v7 (WL ++ [⟨q1, q2, q3, q4, q5, q6⟩]) B2 c1x) := (H5.out.over I (below_new _ _)).app I HA7.out
            go_roundw
            case rel => exact ⟨id + 1, WL ++ [⟨q1, q2, q3, q4, q5, q6⟩], v7, by rw [Int.natCast_add]; rfl, rfl, by omega, by omega, by rw [List.length_append]; show WL.length + 1 ≤ id + 1 - 1; have := HLN.out; omega, HNX2.out, H7.out⟩
            case measure => simp [intOf]; omega
          · have r1 : (q3 == 3) = false := by simp [hs3]
            by_cases hs4 : q3 = 4
            · have r2 : (q3 == 4) = true := by simp [hs4]
              have HNX2 : Hid (∀ r ∈ WL ++ [(⟨q1, q2, q3, q4, q5, q6⟩ : En)], (r ∈ s0.L ∧ r.waits = false) ∧ (∃ k : Nat, (WL ++ [(⟨q1, q2, q3, q4, q5, q6⟩ : En)])[k]? = some r ∧ ∀ (j : Nat) (t : En), (WL ++ [(⟨q1, q2, q3, q4, q5, q6⟩ : En)])[j]? = some t → t.id = r.id → j = k) ∧ r.id < ((id + 1 : Nat) : Int)) := HNX.out ((not_waits _).2 ⟨by show q3 ≠ 1; omega, by show q3 ≠ 2; omega⟩)
              clear hs3 hs4 hst1 hst2 HNX
              go_wp2_with fail
              refine HC.out.mono ?_
              rintro e w5 ⟨rfl, h5, f5⟩
              have H5 : Hid (Wa F w (w5.alloc (.cells #[.int .u64 q1, .int .i64 q2, .int .i64 q3, .int .i64 q4, .int .i64 q5, .int .i64 q6] 44)) p s0 (.slice pw WL.length cw) WL B2 c1x) := (HT.out.step h5 f5).over I (below_new _ _)
              have B5 : Hid (Blk (w5.alloc (.cells #[.int .u64 q1, .int .i64 q2, .int .i64 q3, .int .i64 q4, .int .i64 q5, .int .i64 q6] 44)) w5.heap.size 44 [.int .u64 q1, .int .i64 q2, .int .i64 q3, .int .i64 q4, .int .i64 q5, .int .i64 q6]) := blk_new _ _ _
              clear h5 f5 HC HT
              go_upto_region 11 with fail
              generalize (w5.alloc (.cells #[.int .u64 q1, .int .i64 q2, .int .i64 q3, .int .i64 q4, .int .i64 q5, .int .i64 q6] 44)) = w6 at *
              generalize w5.heap.size = be at *
              have m0 := B5.out.cell 0
              have m1 := B5.out.cell 1
              have m2 := B5.out.cell 2
              have m3 := B5.out.cell 3
              have m4 := B5.out.cell 4
              have m5 := B5.out.cell 5
              clear B5
              go_wp2_with (first
                | (at_builtin; refine list_aps (n := WL.length) (g := w6.heap.size) sty_e rfl _ _ rfl rfl rfl (owns_below H5.out.row (below_new _ (.cells #[.int .u64 q1, .int .i64 q2, .int .i64 q3, .int .i64 q4, .int .i64 q5, .int .i64 q6] 44)) (Nat.le_refl _)) (by rw [heap_alloc_new]; rfl) rfl (one_en ⟨q1, q2, q3, q4, q5, q6⟩) (by have := HLN.out; unfold maxLen; omega) (by have := HLN.out; omega) (Nat.le_trans H5.out.sz (below_new w6 (.cells #[.int .u64 q1, .int .i64 q2, .int .i64 q3, .int .i64 q4, .int .i64 q5, .int .i64 q6] 44)).size) ?_; intro v7 w7 ha7; have HA7 : Hid (ApS 44 6 B2 (w6.alloc (.cells #[.int .u64 q1, .int .i64 q2, .int .i64 q3, .int .i64 q4, .int .i64 q5, .int .i64 q6] 44)) w7 (.slice pw WL.length cw) v7 (WL.length + 1) (cellsE WL ++ (⟨q1, q2, q3, q4, q5, q6⟩ : En).cells)) := ha7; clear ha7; go_frame)
                | go_in)
              have H7 : Hid (Wa F w w7 p s0 v7 (WL ++ [⟨q1, q2, q3, q4, q5, q6⟩]) B2 c1x) := (H5.out.over I (below_new _ _)).app I HA7.out
              go_roundw
              case rel => exact ⟨id + 1, WL ++ [⟨q1, q2, q3, q4, q5, q6⟩], v7, by rw [Int.natCast_add]; rfl, rfl, by omega, by omega, by rw [List.length_append]; show WL.length + 1 ≤ id + 1 - 1; have := HLN.out; omega, HNX2.out, H7.out⟩
              case measure => simp [intOf]; omega
            · have r2 : (q3 == 4) = false := by simp [hs4]
              clear hs3 hs4 hst1 hst2 HNX
              go_wp2_with fail
              refine HC.out.mono ?_
              rintro e w5 ⟨rfl, h5, f5⟩
              have H5 : Hid (∀ X, Below w5.heap.size w5 X → Wa F w X p s0 (.slice pw WL.length cw) WL B2 c1x) := fun X hX => (HT.out.step h5 f5).over I hX
              clear h5 f5 HC
              go_wp2_with fail
              go_roundw
              case rel => exact ⟨id + 1, WL, .slice pw WL.length cw, by rw [Int.natCast_add]; rfl, rfl, by omega, by omega, by have := HLN.out; omega, fun q hq => ⟨(HWL.out q hq).1, (HWL.out q hq).2.1, by have := (HWL.out q hq).2.2; omega⟩, H5.out _ (below_new _ _)⟩
              case measure => simp [intOf]; omega
      · have hi1 : ¬ (id : Int) < 201 := by omega
        have HWI : Hid (∀ q ∈ WL, (q ∈ s0.L ∧ q.waits = false) ∧ (∃ k : Nat, WL[k]? = some q ∧ ∀ (j : Nat) (r : En), WL[j]? = some r → r.id = q.id → j = k)) := fun q hq => ⟨(HWL.out q hq).1, (HWL.out q hq).2.1⟩
        clear HWL
        obtain ⟨B3, hB3⟩ : ∃ k, wr.heap.size = k := ⟨_, rfl⟩
        have HR0 : Hid (Wa F w wr p s0 (.slice pw WL.length cw) WL B2 c1x ∧ wr.ownsRow B3 37 5 (.slice none 0 0) ([] : List Do).length (cellsD []) ∧ B3 ≤ wr.heap.size ∧ w.heap.size ≤ B3) := ⟨HT.out, ⟨rfl, .inl ⟨rfl, rfl⟩⟩, by omega, by rw [← hB3]; exact (I.bel HT.out.f).size⟩
        clear HT hB3
        go_wp2_with fail
        go_loopw [14, 15] (fun v14 v15 wz => ∃ (k : Nat) (RL : List Do) (v : Value), v15 = .int .i64 k ∧ v = v14 ∧ k ≤ m.length ∧ RL.length ≤ k ∧ (∀ o ∈ RL, U64 o.i ∧ o.d ≠ 9) ∧ (Wa F w wz p s0 (.slice pw WL.length cw) WL B2 c1x ∧ wz.ownsRow B3 37 5 v RL.length (cellsD RL) ∧ B3 ≤ wz.heap.size ∧ w.heap.size ≤ B3)) (fun _ v15 _ => m.length - (intOf v15).toNat)
        case atStart => exact ⟨0, [], _, rfl, rfl, Nat.zero_le _, Nat.le_refl _, fun o ho => (by cases ho), HR0.out⟩
        case round =>
          obtain ⟨k, RL, vr, rfl, hvv, hk, hrl, hro, hw2⟩ := hrel
          subst hvv
          obtain ⟨pr, cr, hvr⟩ := rowS_slice hw2.2.1
          subst hvr
          have HW2 : Hid (Wa F w wr p s0 (.slice pw WL.length cw) WL B2 c1x ∧ wr.ownsRow B3 37 5 (.slice pr RL.length cr) RL.length (cellsD RL) ∧ B3 ≤ wr.heap.size ∧ w.heap.size ≤ B3) := hw2
          have HRO : Hid (∀ o ∈ RL, U64 o.i ∧ o.d ≠ 9) := hro
          have HM : Hid (OpsR wr a2 m.length m) := HR.out.2.1.below (I.bel hw2.1.f)
          clear hw2 hro HR0
          by_cases hkl : k < m.length
          · have hk1 : (k : Int) < (m.length : Int) := by omega
            obtain ⟨bb, oo, ea, x0, x1, x2, x3, x4⟩ := HM.out.at hkl
            subst ea
            have HU : Hid (U64 (m[k]).i) := HM.out.u64 hkl
            obtain ⟨o, ho⟩ : ∃ q, m[k] = q := ⟨_, rfl⟩
            rw [ho] at x0 x1 x2 x3 x4 HU
            obtain ⟨d, n, z, kk, v⟩ := o
            dsimp only at x0 x1 x2 x3 x4
            have HLB : Hid (RL.length + 1 ≤ maxLen ∧ (RL.length + 1) * 40 ≤ 140737488355328) := by
              have h1 := HR.out.2.2
              refine ⟨by unfold maxLen; omega, ?_⟩
              omega
            clear HM ho
            by_cases h9 : d = 9
            · have h92 : (d != 9) = false := by simp [h9]
              have h93 : (d == 9) = true := by simp [h9]
              clear h9
              go_wp2_with fail
              go_roundw
              case rel => exact ⟨k + 1, RL, .slice pr RL.length cr, by go_num, rfl, hkl, by omega, HRO.out, HW2.out⟩
              case measure => simp [intOf]; omega
            · have h92 : (d != 9) = true := by simp [h9]
              have h93 : (d == 9) = false := by simp [h9]
              have HD9 : Hid (d ≠ 9) := h9
              clear h9
              go_wp2_with (first
                | (at_builtin; refine list_aps (n := RL.length) (g := wr.heap.size) sty_o rfl _ _ rfl rfl rfl (owns_below HW2.out.2.1 (below_new _ (.cells #[.int .i64 d, .int .i64 n, .int .u64 z, .int .i64 kk, .int .i64 v] 37)) (Nat.le_refl _)) (by rw [heap_alloc_new]; rfl) rfl (one_do ⟨d, n, z, kk, v⟩) HLB.out.1 HLB.out.2 (Nat.le_trans HW2.out.2.2.1 (below_new wr (.cells #[.int .i64 d, .int .i64 n, .int .u64 z, .int .i64 kk, .int .i64 v] 37)).size) ?_; intro v7 w7 ha7; have HA7 : Hid (ApS 37 5 B3 (wr.alloc (.cells #[.int .i64 d, .int .i64 n, .int .u64 z, .int .i64 kk, .int .i64 v] 37)) w7 (.slice pr RL.length cr) v7 (RL.length + 1) (cellsD RL ++ (⟨d, n, z, kk, v⟩ : Do).cells)) := ha7; clear ha7; go_frame)
                | go_in)
              have H7 : Hid (Wa F w w7 p s0 (.slice pw WL.length cw) WL B2 c1x ∧ w7.ownsRow B3 37 5 v7 (RL ++ [(⟨d, n, z, kk, v⟩ : Do)]).length (cellsD (RL ++ [(⟨d, n, z, kk, v⟩ : Do)])) ∧ B3 ≤ w7.heap.size ∧ w.heap.size ≤ B3) := by
                have hb := below_new wr (.cells #[.int .i64 d, .int .i64 n, .int .u64 z, .int .i64 kk, .int .i64 v] 37)
                have h1 := HW2.out.1.over I hb
                have h2 := owns_below HW2.out.2.1 hb (Nat.le_refl _)
                have hfr := aps_fr h2 HA7.out (Nat.le_trans HW2.out.2.2.1 hb.size)
                refine ⟨⟨I.frr h1.f ⟨hfr.bel.mono HW2.out.2.2.2, hfr.blk⟩ (by simp), owns_fr h1.row hfr (by simp) (fun _ _ => by simp), h1.b2, Nat.le_trans h1.sz hfr.bel.size⟩, ?_, Nat.le_trans HW2.out.2.2.1 (Nat.le_trans hb.size hfr.bel.size), HW2.out.2.2.2⟩
                have := HA7.out.own
                rw [← cellsD_one, ← cellsD_app] at this
                rw [List.length_append]
                exact this
              go_roundw
              case rel => exact ⟨k + 1, RL ++ [(⟨d, n, z, kk, v⟩ : Do)], v7, by go_num, rfl, hkl, by rw [List.length_append]; show RL.length + 1 ≤ k + 1; omega, fun o ho => (List.mem_append.1 ho).elim (fun h => HRO.out o h) (fun h => by rw [List.mem_singleton] at h; subst h; exact ⟨HU.out, HD9.out⟩), H7.out⟩
              case measure => simp [intOf]; omega
          · have hk1 : ¬ (k : Int) < (m.length : Int) := by omega
            have HPL : Hid (∀ X, Fc [62] w.heap.size wr X → OpsR X pr RL.length RL) := fun X hX => opsR_row (owns_fc HW2.out.2.1 hX (by simp)) rfl (by have := HR.out.2.1.2.1; omega) (fun o ho => (HRO.out o ho).1)
            clear HM
            go_wp2_with fail
            refine (play_any I w wr p s0 pr RL.length cr RL HW2.out.1.f HPL.out).mono ?_
            rintro e w8 ⟨v8, rfl, h8⟩
            obtain ⟨s1, hs1⟩ : ∃ t, playS s0 (RL.take 200) = t := ⟨_, rfl⟩
            obtain ⟨p8, c8, rfl⟩ := rowU_slice h8.row
            have H8 : Hid (Wa F w w8 p s1 (.slice pw WL.length cw) WL B2 c1x ∧ (∀ (j : Nat) (q : En), 0 ≤ j → WL[j]? = some q → q ∈ s1.L)) := by
              have hf := h8.f
              rw [hs1] at hf
              refine ⟨HW2.out.1.step hf h8.fc, fun j q _ hj => ?_⟩
              have h1 := (HWI.out q (List.mem_of_getElem? hj)).1
              rw [← hs1]
              exact ended_play (I.ok HW2.out.1.f) (fun o ho => HRO.out o (List.mem_of_mem_take ho)) h1.1 h1.2
            have hwl2 : WL.length ≤ 200 := HLN.out.2
            clear h8 hs1 HW2 HPL
            go_wp2_with fail
            go_loopw [16] (fun v16 wz => ∃ (i : Nat) (s2 : Nt), v16 = .int .i64 i ∧ i ≤ WL.length ∧ Wa F w wz p s2 (.slice pw WL.length cw) WL B2 c1x ∧ (∀ (j : Nat) (q : En), i ≤ j → WL[j]? = some q → q ∈ s2.L)) (fun v16 _ => WL.length - (intOf v16).toNat)
            case atStart => exact ⟨0, s1, rfl, Nat.zero_le _, H8.out.1, H8.out.2⟩
            case round =>
              obtain ⟨i, s2, rfl, hi, hwa, hin⟩ := hrel
              have HWA : Hid (Wa F w wr p s2 (.slice pw WL.length cw) WL B2 c1x) := hwa
              have HIN : Hid (∀ (j : Nat) (q : En), i ≤ j → WL[j]? = some q → q ∈ s2.L) := hin
              clear hwa hin H8
              by_cases hil : i < WL.length
              · have hi2 : (i : Int) < (WL.length : Int) := by omega
                obtain ⟨gw, rfl, _, hce⟩ := rowE_at HWA.out.row hil
                have HWC : Hid (∀ X, Wa F w X p s2 (.slice (some ⟨gw, 0, none⟩) WL.length cw) WL B2 c1x → ∀ j u, (WL[i]).cells[j]? = some u → X.cell? ⟨gw, i * 6 + j, none⟩ = some u) := fun X hX => by
                  obtain ⟨g', e', _, hc⟩ := rowE_at hX.row hil
                  cases e'
                  exact hc
                have HWC2 : Hid (∀ X s3, Wa F w X p s3 (.slice (some ⟨gw, 0, none⟩) WL.length cw) WL B2 c1x → ∀ j u, (WL[i]).cells[j]? = some u → X.cell? ⟨gw, i * 6 + j, none⟩ = some u) := fun X s3 hX => by
                  obtain ⟨g', e', _, hc⟩ := rowE_at hX.row hil
                  cases e'
                  exact hc
                have hgi : WL[i]? = some WL[i] := List.getElem?_eq_getElem hil
                have hmem := HIN.out i _ (Nat.le_refl _) hgi
                obtain ⟨hwi1, kq, hkq1, hkq2⟩ := HWI.out _ (List.getElem_mem hil)
                have hok := (I.ok HWA.out.f).all _ hmem
                have HUQ : Hid (U64 (WL[i]).id) := ⟨hok.i0, by have := hok.i1; have := (I.ok HWA.out.f).n1; omega⟩
                have HFI : Hid (findI s2.L (WL[i]).id = some WL[i]) := findI_of (I.ok HWA.out.f).up hmem
                have HEO : Hid (endO s2.L (WL[i]).ta = some WL[i]) := endO_of (I.ok HWA.out.f).one hmem hwi1.2
                have HNO : Hid (findI (endS s2 (WL[i]).ta).L (WL[i]).id = none) := end_out (I.ok HWA.out.f) hmem hwi1.2
                have HIN2 : Hid (∀ (j : Nat) (q : En), i + 1 ≤ j → WL[j]? = some q → q ∈ (endS s2 (WL[i]).ta).L) := fun j q hj hq => by
                  refine end_else (I.ok HWA.out.f) hmem (HIN.out j q (by omega) hq) fun e => ?_
                  have h1 := hkq2 j q hq e
                  have h2 := hkq2 i _ hgi rfl
                  omega
                clear hgi hmem hwi1 hkq1 hkq2 hok HIN
                obtain ⟨q, hq⟩ : ∃ q, WL[i] = q := ⟨_, rfl⟩
                rw [hq] at hce HWC HWC2 HUQ HFI HEO HNO HIN2
                clear hq
                obtain ⟨q1, q2, q3, q4, q5, q6⟩ := q
                have a0 := hce 0 _ rfl
                rw [Nat.add_zero] at a0
                have HC1 : Hid (Calls Try.prog 14 #[.pointer (some ⟨p, 0, none⟩), .int .u64 q1] wr fun e w' => Tld F w wr p s2 (.tuple #[.agg #[.int .u64 q1, .int .i64 q2, .int .i64 q3, .int .i64 q4, .int .i64 q5, .int .i64 q6], .bool true]) e w') := by
                  have := I.get HUQ.out HWA.out.f
                  rw [HFI.out] at this
                  exact this
                clear hce HFI
                go_wp2_with fail
                refine HC1.out.mono ?_
                rintro e w9 ⟨rfl, h9, f9⟩
                have H9 : Hid (Wa F w (w9.alloc (.cells #[.int .u64 q1, .int .i64 q2, .int .i64 q3, .int .i64 q4, .int .i64 q5, .int .i64 q6] 44)) p s2 (.slice (some ⟨gw, 0, none⟩) WL.length cw) WL B2 c1x) := (HWA.out.step h9 f9).over I (below_new _ _)
                have B9 : Hid (Blk (w9.alloc (.cells #[.int .u64 q1, .int .i64 q2, .int .i64 q3, .int .i64 q4, .int .i64 q5, .int .i64 q6] 44)) w9.heap.size 44 [.int .u64 q1, .int .i64 q2, .int .i64 q3, .int .i64 q4, .int .i64 q5, .int .i64 q6]) := blk_new _ _ _
                clear h9 f9 HC1 a0 HWA
                go_upto_region 24 with fail
                generalize (w9.alloc (.cells #[.int .u64 q1, .int .i64 q2, .int .i64 q3, .int .i64 q4, .int .i64 q5, .int .i64 q6] 44)) = w10 at *
                generalize w9.heap.size = be at *
                have a1 := HWC.out w10 H9.out 1 _ rfl
                have HC2 : Hid (Calls Try.prog 16 #[.pointer (some ⟨p, 0, none⟩), .int .i64 q2] w10 fun e w' => Tld F w w10 p (endS s2 q2) (.tuple #[.agg #[.int .u64 q1, .int .i64 q2, .int .i64 q3, .int .i64 q4, .int .i64 q5, .int .i64 q6], .bool true]) e w') := by
                  have := I.ended (t := q2) H9.out.f
                  rw [HEO.out] at this
                  exact this
                go_wp2_with fail
                refine HC2.out.mono ?_
                rintro e w11 ⟨rfl, h11, f11⟩
                have H11 : Hid (Wa F w (w11.alloc (.cells #[.int .u64 q1, .int .i64 q2, .int .i64 q3, .int .i64 q4, .int .i64 q5, .int .i64 q6] 44)) p (endS s2 q2) (.slice (some ⟨gw, 0, none⟩) WL.length cw) WL B2 c1x ∧ Blk (w11.alloc (.cells #[.int .u64 q1, .int .i64 q2, .int .i64 q3, .int .i64 q4, .int .i64 q5, .int .i64 q6] 44)) be 44 [.int .u64 q1, .int .i64 q2, .int .i64 q3, .int .i64 q4, .int .i64 q5, .int .i64 q6]) := ⟨(H9.out.step h11 f11).over I (below_new _ _), (B9.out.fc f11 (by simp)).alloc _⟩
                have B11 : Hid (Blk (w11.alloc (.cells #[.int .u64 q1, .int .i64 q2, .int .i64 q3, .int .i64 q4, .int .i64 q5, .int .i64 q6] 44)) w11.heap.size 44 [.int .u64 q1, .int .i64 q2, .int .i64 q3, .int .i64 q4, .int .i64 q5, .int .i64 q6]) := blk_new _ _ _
                clear h11 f11 HC2 a1 H9 B9
                go_upto_region 25 with fail
                generalize (w11.alloc (.cells #[.int .u64 q1, .int .i64 q2, .int .i64 q3, .int .i64 q4, .int .i64 q5, .int .i64 q6] 44)) = w12 at *
                generalize w11.heap.size = bf at *
                have a2' := HWC2.out w12 _ H11.out.1 0 _ rfl
                rw [Nat.add_zero] at a2'
                have HC3 : Hid (Calls Try.prog 14 #[.pointer (some ⟨p, 0, none⟩), .int .u64 q1] w12 fun e w' => Tld F w w12 p (endS s2 q2) (.tuple #[.agg #[.int .u64 0, .int .i64 0, .int .i64 0, .int .i64 0, .int .i64 0, .int .i64 0], .bool false]) e w') := by
                  have := I.get HUQ.out H11.out.1.f
                  rw [HNO.out] at this
                  exact this
                go_wp2_with fail
                refine HC3.out.mono ?_
                rintro e w13 ⟨rfl, h13, f13⟩
                have H13 : Hid (Wa F w (w13.alloc (.cells #[.int .u64 0, .int .i64 0, .int .i64 0, .int .i64 0, .int .i64 0, .int .i64 0] 44)) p (endS s2 q2) (.slice (some ⟨gw, 0, none⟩) WL.length cw) WL B2 c1x ∧ Blk (w13.alloc (.cells #[.int .u64 0, .int .i64 0, .int .i64 0, .int .i64 0, .int .i64 0, .int .i64 0] 44)) be 44 [.int .u64 q1, .int .i64 q2, .int .i64 q3, .int .i64 q4, .int .i64 q5, .int .i64 q6] ∧ Blk (w13.alloc (.cells #[.int .u64 0, .int .i64 0, .int .i64 0, .int .i64 0, .int .i64 0, .int .i64 0] 44)) bf 44 [.int .u64 q1, .int .i64 q2, .int .i64 q3, .int .i64 q4, .int .i64 q5, .int .i64 q6]) := ⟨(H11.out.1.step h13 f13).over I (below_new _ _), (H11.out.2.fc f13 (by simp)).alloc _, (B11.out.fc f13 (by simp)).alloc _⟩
                clear h13 f13 HC3 a2' H11 B11
                go_upto_region 26 with fail
                generalize (w13.alloc (.cells #[.int .u64 0, .int .i64 0, .int .i64 0, .int .i64 0, .int .i64 0, .int .i64 0] 44)) = w14 at *
                generalize w13.heap.size = bg at *
                have m0 := H13.out.2.1.cell 0
                have m1 := H13.out.2.1.cell 1
                have m2 := H13.out.2.1.cell 2
                have m3 := H13.out.2.1.cell 3
                have m4 := H13.out.2.1.cell 4
                have m5 := H13.out.2.1.cell 5
                have n0 := H13.out.2.2.cell 0
                have n1 := H13.out.2.2.cell 1
                have n2 := H13.out.2.2.cell 2
                have n3 := H13.out.2.2.cell 3
                have n4 := H13.out.2.2.cell 4
                have n5 := H13.out.2.2.cell 5
                have a0 := HWC2.out w14 _ H13.out.1 0 _ rfl
                rw [Nat.add_zero] at a0
                have a1 := HWC2.out w14 _ H13.out.1 1 _ rfl
                have a2' := HWC2.out w14 _ H13.out.1 2 _ rfl
                have a3 := HWC2.out w14 _ H13.out.1 3 _ rfl
                have a4 := HWC2.out w14 _ H13.out.1 4 _ rfl
                have a5 := HWC2.out w14 _ H13.out.1 5 _ rfl
                have q2e : ∀ X, (binOp .neq 44 (.agg #[.int .u64 q1, .int .i64 q2, .int .i64 q3, .int .i64 q4, .int .i64 q5, .int .i64 q6]) (.agg #[.int .u64 q1, .int .i64 q2, .int .i64 q3, .int .i64 q4, .int .i64 q5, .int .i64 q6])).run Try.prog X = .ok (.bool false) X := fun X => by
                  have := neq_en ⟨q1, q2, q3, q4, q5, q6⟩ ⟨q1, q2, q3, q4, q5, q6⟩ X
                  rw [En.same_self] at this
                  exact this
                have g2e : ∀ (X : World) (s t : Operand), (eqGuard .neq 44 s t (.agg #[.int .u64 q1, .int .i64 q2, .int .i64 q3, .int .i64 q4, .int .i64 q5, .int .i64 q6]) (.agg #[.int .u64 q1, .int .i64 q2, .int .i64 q3, .int .i64 q4, .int .i64 q5, .int .i64 q6])).run Try.prog X = .ok () X := fun X s t => guard_en .neq _ _ _ _ X (.inr rfl)
                have HDN : Hid (∀ mm, Wa F w (w14.drewN mm) p (endS s2 q2) (.slice (some ⟨gw, 0, none⟩) WL.length cw) WL B2 c1x) := fun mm => H13.out.1.over I (below_drewN w14 mm)
                clear H13 HWC HWC2
                go_wp2_with fail
                go_quiet (fail)
                go_wp2_with fail
                go_roundw
                case rel => exact ⟨i + 1, endS s2 q2, by go_num, hil, HDN.out _, HIN2.out⟩
                case measure => simp [intOf]; omega
              · have hi2 : ¬ (i : Int) < (WL.length : Int) := by omega
                go_wp2_with fail
                go_ret
                exact ⟨rfl, I.bel HWA.out.f⟩

end Go.Proofs.Ytlckconhhhllkaa
