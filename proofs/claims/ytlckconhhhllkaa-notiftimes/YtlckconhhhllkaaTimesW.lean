/-
  One that waits has ended behind as many ticks as it has left, whatever else is done: the law's walk, over any interface.
-/
import Derived.Test.YtlckconhhhllkaaRisesW
namespace Go.Proofs.Ytlckconhhhllkaa
open Go.RowKit

/-- a table, the box of its two numbers, the IDs that were told. -/
structure Ti (F : World → World → Nat → Nt → Prop) (w X : World) (p : Nat) (s : Nt) (n : Int) (b0 : Nat) (x y : Int) (po : Option Addr) (co : Nat) (ids : List Int) (base : Nat) : Prop where
  f : F w X p s
  le : Least s n
  box : Blk X b0 22 [.int .i64 x, .int .i64 y]
  row : X.ownsRow base 23 1 (.slice po ids.length co) ids.length (cellsU ids)
section
variable {F : World → World → Nat → Nt → Prop} {w X X' : World} {p b0 base co : Nat} {s s' : Nt} {n x y : Int} {po : Option Addr} {ids : List Int}
theorem Ti.step (h : Ti F w X p s n b0 x y po co ids base) (hf : F w X' p s') (hc : Fc [62] w.heap.size X X') (hl : Least s' n) : Ti F w X' p s' n b0 x y po co ids base := ⟨hf, hl, h.box.fc hc (by simp), owns_fc h.row hc (by simp)⟩
theorem Ti.tick (h : Ti F w X p s n b0 x y po co ids base) (hf : F w X' p (tickS s)) (hc : Fc [62] w.heap.size X X') : Ti F w X' p (tickS s) (n - 1) b0 x y po co ids base := ⟨hf, least_tick h.le, h.box.fc hc (by simp), owns_fc h.row hc (by simp)⟩
end
theorem take_one (o : Do) : ([o] : List Do).take 200 = [o] := rfl

set_option maxHeartbeats 16000000 in
set_option maxRecDepth 8000 in
theorem times_walk {F : World → World → Nat → Nt → Prop} (I : Ifc F) (w : World) (x Y : Int) (a a2 : Option Addr) (len cap len2 cap2 : Nat) (l m : List Do) (h : OpsR w a len l) (h2 : OpsR w a2 len2 m) (hcap : len2 ≤ cap2) :
    Calls Try.prog 6 #[.agg #[.int .i64 x, .int .i64 Y], .slice a len cap, .slice a2 len2 cap2] w fun e w' => e = .returned (.bool true) ∧ Below w.heap.size w w' := by
  obtain rfl : len2 = m.length := h2.1.symm
  have hmax : m.length ≤ 9223372036854775807 := by have := h2.2.1; unfold maxLen at this; omega
  have HB0 : Hid (Below w.heap.size w (w.alloc (.cells #[.int .i64 x, .int .i64 Y] 22))) := below_new w _
  have HX : Hid (Blk (w.alloc (.cells #[.int .i64 x, .int .i64 Y] 22)) w.heap.size 22 [.int .i64 x, .int .i64 Y]) := blk_new w _ _
  have HR : Hid (OpsR w a len l ∧ OpsR w a2 m.length m ∧ m.length ≤ cap2) := ⟨h, h2, hcap⟩
  clear h h2 hcap
  go_enter Try.func6, Try.ntmps6
  go_upto_region 1 with fail
  obtain ⟨b0, hb0⟩ : ∃ k, w.heap.size = k := ⟨_, rfl⟩
  rw [hb0] at HX ⊢
  have HS0 : Hid (w.heap.size = b0) := hb0
  clear hb0
  generalize w.alloc (.cells #[.int .i64 x, .int .i64 Y] 22) = w0 at *
  go_wp2_with fail
  refine (awake_any I w0).mono ?_
  rintro e w1 ⟨rfl, hb1⟩
  have H1 : Hid (Below w.heap.size w w1 ∧ Blk w1 b0 22 [.int .i64 x, .int .i64 Y]) := ⟨HB0.out.trans (hb1.mono HB0.out.size), HX.out.over hb1⟩
  have c0 := H1.out.2.cell 0
  have c1 := H1.out.2.cell 1
  clear hb1 HX
  cases hn : newE x Y with
  | true =>
    have HN : Hid (newE x Y = true) := hn
    clear hn
    go_wp2_with fail
    refine (I.newNot HN.out).mono ?_
    rintro e w2 ⟨rfl, hb2⟩
    have H2 : Hid (Below w.heap.size w w2) := H1.out.1.trans (hb2.mono H1.out.1.size)
    clear hb2
    go_wp2_with fail
    go_ret
    exact ⟨rfl, H2.out⟩
  | false =>
    have HN : Hid (newE x Y = false) := hn
    have hy : 1 ≤ Y ∧ Y ≤ 1000 := by
      unfold newE at hn
      have := of_decide_eq_false hn
      omega
    clear hn
    go_wp2_with fail
    refine (I.new H1.out.1 HN.out ⟨by decide, by decide⟩).mono ?_
    rintro e w2 ⟨p, rfl, h2, hb2⟩
    have H2 : Hid (F w w2 p (newS x Y 1) ∧ Blk w2 b0 22 [.int .i64 x, .int .i64 Y]) := ⟨h2, H1.out.2.over hb2⟩
    have d1 := H2.out.2.cell 1
    clear h2 hb2 c0 c1 H1
    by_cases h60 : 60 < Y
    · have h61 : decide (60 < Y) = true := decide_eq_true h60
      go_wp2_with fail
      go_ret
      exact ⟨rfl, I.bel H2.out.1⟩
    · have h61 : decide (60 < Y) = false := decide_eq_false h60
      go_wp2_with fail
      refine (play_any I w w2 p _ a len cap l H2.out.1 (fun X hX => HR.out.1.below ((I.bel H2.out.1).trans hX.bel))).mono ?_
      rintro e w3 ⟨v3, rfl, h3⟩
      obtain ⟨ids, hids⟩ : ∃ t, playI (newS x Y 1) (l.take 200) = t := ⟨_, rfl⟩
      obtain ⟨s0, hs0⟩ : ∃ t, playS (newS x Y 1) (l.take 200) = t := ⟨_, rfl⟩
      obtain ⟨base, hbase⟩ : ∃ k, w2.heap.size = k := ⟨_, rfl⟩
      obtain ⟨po, co, rfl⟩ := rowU_slice h3.row
      have H3 : Hid (Ti F w w3 p s0 (Y - ((0 : Nat) : Int)) b0 x Y po co ids base) := by
        have hr := h3.row
        rw [hids, hbase] at hr
        have hf := h3.f
        rw [hs0] at hf
        have hw : s0.wait = Y := by rw [← hs0, wait_play]; rfl
        refine ⟨hf, ?_, H2.out.2.fc h3.fc (by simp), hr⟩
        have := least_wait (I.ok hf)
        rw [hw] at this
        rw [show Y - ((0 : Nat) : Int) = Y by omega]
        exact this
      have HIU : Hid (∀ z ∈ ids, U64 z) := by
        rw [← hids]
        exact play_ids (Ok.new HN.out ⟨by decide, by decide⟩) (take_u HR.out.1 200)
      have hln : ids.length ≤ 200 := by
        have h4 := playI_len (newS x Y 1) (l.take 200)
        rw [hids, List.length_take] at h4
        omega
      rw [hids]
      clear h3 H2 hids hs0 hbase d1
      go_wp2_with fail
      go_loopw [11, 12] (fun v11 v12 wr => ∃ (i kk : Nat) (s : Nt), v12 = .int .i64 i ∧ v11 = .int .i64 kk ∧ (i : Int) ≤ Y ∧ kk ≤ 200 + i ∧ Ti F w wr p s (Y - (i : Int)) b0 x Y po co ids base) (fun _ v12 _ => Y.toNat - (intOf v12).toNat)
      case atStart => exact ⟨0, 0, s0, rfl, rfl, by omega, by omega, H3.out⟩
      case round =>
        obtain ⟨i, kk0, s1, rfl, rfl, hi, hkk, ht⟩ := hrel
        have HT : Hid (Ti F w wr p s1 (Y - (i : Int)) b0 x Y po co ids base) := ht
        have e1 : wr.cell? ⟨b0, 1, none⟩ = some (.int .i64 Y) := ht.box.cell 1
        clear ht H3
        by_cases hiY : (i : Int) < Y
        · have hi1 : decide ((i : Int) < Y) = true := decide_eq_true hiY
          go_wp2_with fail
          clear e1
          go_loopw [11] (fun v11 wz => ∃ (kk : Nat) (s : Nt), v11 = .int .i64 kk ∧ kk ≤ 200 + i ∧ Ti F w wz p s (Y - (i : Int)) b0 x Y po co ids base) (fun v11 _ => 200 - (intOf v11).toNat)
          case atStart => exact ⟨kk0, s1, rfl, hkk, HT.out⟩
          case round =>
            obtain ⟨kk, s2, rfl, hkk2, ht2⟩ := hrel
            have HT2 : Hid (Ti F w wr p s2 (Y - (i : Int)) b0 x Y po co ids base) := ht2
            have HM : Hid (OpsR wr a2 m.length m) := HR.out.2.1.below (I.bel ht2.f)
            clear ht2 HT
            by_cases hkl : kk < m.length
            · have hk1 : (kk : Int) < (m.length : Int) := by omega
              have hk2 : decide ((kk : Int) < (m.length : Int)) = true := decide_eq_true hk1
              by_cases h200 : kk < 200
              · have h201 : (kk : Int) < 200 := by omega
                have h202 : decide ((kk : Int) < 200) = true := decide_eq_true h201
                obtain ⟨bb, oo, ea, x0, _, _, _, _⟩ := HM.out.at hkl
                subst ea
                have HCU : Hid (∀ X, Below w.heap.size w X → OpsR X (some ⟨bb, oo + kk * 5, none⟩) 1 [m[kk]]) := fun X hX => (HR.out.2.1.below hX).one hkl
                have HCT : Hid (∀ X, (Instr.sliceAt 24 (.slice (some ⟨bb, oo, none⟩) m.length cap2) (some (.int .i64 kk)) (some (.int .i64 ((kk : Int) + 1))) none).run Try.prog X = .ok (.slice (some ⟨bb, oo + kk * 5, none⟩) 1 (cap2 - kk)) X) := fun X => cut_one HR.out.2.2 kk hkl X
                obtain ⟨o, ho⟩ : ∃ q, m[kk] = q := ⟨_, rfl⟩
                rw [ho] at x0 HCU
                obtain ⟨dd, hdd⟩ : ∃ q, o.d = q := ⟨_, rfl⟩
                rw [hdd] at x0
                have HDD : Hid (o.d = dd) := hdd
                clear HM ho hdd
                by_cases h6 : dd = 6
                · have h62 : (dd != 6) = false := by simp [h6]
                  have h63 : (dd == 6) = true := by simp [h6]
                  clear h6
                  go_wp2_with fail
                  refine (I.tick HT2.out.f).mono ?_
                  rintro e w6 ⟨v6, hr6, rfl, h6, f6⟩
                  obtain ⟨p6, c6, rfl⟩ := rowU_slice hr6
                  have H6 : Hid (Ti F w w6 p (tickS s2) (Y - ((i + 1 : Nat) : Int)) b0 x Y po co ids base) := by
                    have h7 := HT2.out.tick h6 f6
                    rw [show Y - (i : Int) - 1 = Y - ((i + 1 : Nat) : Int) by omega] at h7
                    exact h7
                  clear h6 hr6 f6
                  go_wp2_with fail
                  go_roundw
                  case rel => exact ⟨i + 1, kk + 1, tickS s2, by go_num, by go_num, by omega, by omega, H6.out⟩
                  case measure => simp [intOf]; omega
                · have h62 : (dd != 6) = true := by simp [h6]
                  have h63 : (dd == 6) = false := by simp [h6]
                  by_cases h1 : 1 < dd
                  · have h12 : decide (1 < dd) = true := decide_eq_true h1
                    have HLS : Hid (∀ n, Least s2 n → Least (stepS s2 o) n) := fun n hn => least_step hn (by rw [HDD.out]; exact h1) (by rw [HDD.out]; exact h6)
                    have hct := HCT.out
                    clear h6 h1
                    go_wp2_with fail
                    refine (play_any I w wr p s2 (some ⟨bb, oo + kk * 5, none⟩) 1 (cap2 - kk) [o] HT2.out.f (fun X hX => HCU.out X ((I.bel HT2.out.f).trans hX.bel))).mono ?_
                    rintro e w5 ⟨v5, rfl, h5⟩
                    obtain ⟨p5, c5, rfl⟩ := rowU_slice h5.row
                    have H5 : Hid (Ti F w w5 p (stepS s2 o) (Y - (i : Int)) b0 x Y po co ids base) := HT2.out.step h5.f h5.fc (HLS.out _ HT2.out.le)
                    clear h5 hct HCT HCU x0
                    go_wp2_with fail
                    go_roundw
                    case rel => exact ⟨kk + 1, _, by go_num, by omega, H5.out⟩
                    case measure => simp [intOf]; omega
                  · have h12 : decide (1 < dd) = false := decide_eq_false h1
                    clear h6 h1
                    go_wp2_with fail
                    go_roundw
                    case rel => exact ⟨kk + 1, s2, by go_num, by omega, HT2.out⟩
                    case measure => simp [intOf]; omega
              · have h201 : ¬ (kk : Int) < 200 := by omega
                have h202 : decide ((kk : Int) < 200) = false := decide_eq_false h201
                clear HM
                go_wp2_with fail
                refine (I.tick HT2.out.f).mono ?_
                rintro e w6 ⟨v6, hr6, rfl, h6, f6⟩
                obtain ⟨p6, c6, rfl⟩ := rowU_slice hr6
                have H6 : Hid (Ti F w w6 p (tickS s2) (Y - ((i + 1 : Nat) : Int)) b0 x Y po co ids base) := by
                  have h7 := HT2.out.tick h6 f6
                  rw [show Y - (i : Int) - 1 = Y - ((i + 1 : Nat) : Int) by omega] at h7
                  exact h7
                clear h6 hr6 f6
                go_wp2_with fail
                go_roundw
                case rel => exact ⟨i + 1, kk + 1, tickS s2, by go_num, by go_num, by omega, by omega, H6.out⟩
                case measure => simp [intOf]; omega
            · have hk1 : ¬ (kk : Int) < (m.length : Int) := by omega
              have hk2 : decide ((kk : Int) < (m.length : Int)) = false := decide_eq_false hk1
              clear HM
              go_wp2_with fail
              refine (I.tick HT2.out.f).mono ?_
              rintro e w6 ⟨v6, hr6, rfl, h6, f6⟩
              obtain ⟨p6, c6, rfl⟩ := rowU_slice hr6
              have H6 : Hid (Ti F w w6 p (tickS s2) (Y - ((i + 1 : Nat) : Int)) b0 x Y po co ids base) := by
                have h7 := HT2.out.tick h6 f6
                rw [show Y - (i : Int) - 1 = Y - ((i + 1 : Nat) : Int) by omega] at h7
                exact h7
              clear h6 hr6 f6
              go_wp2_with fail
              go_roundw
              case rel => exact ⟨i + 1, kk + 1, tickS s2, by go_num, by go_num, by omega, by omega, H6.out⟩
              case measure => simp [intOf]; omega
        · have hi1 : decide ((i : Int) < Y) = false := decide_eq_false hiY
          have HZ : Hid (∀ q ∈ s1.L, q.waits = false ∧ q.kd ≠ 0) := fun q hq => by
            have h0 := HT.out.le
            rw [show Y - (i : Int) = 0 by omega] at h0
            exact least_zero (I.ok HT.out.f) h0 hq
          go_wp2_with fail
          clear e1
          go_loopw [13] (fun v13 wz => ∃ j : Nat, v13 = .int .i64 j ∧ j ≤ ids.length ∧ Ti F w wz p s1 (Y - (i : Int)) b0 x Y po co ids base) (fun v13 _ => ids.length - (intOf v13).toNat)
          case atStart => exact ⟨0, rfl, Nat.zero_le _, HT.out⟩
          case round =>
            obtain ⟨j, rfl, hj, ht3⟩ := hrel
            have HT3 : Hid (Ti F w wr p s1 (Y - (i : Int)) b0 x Y po co ids base) := ht3
            clear ht3 HT
            by_cases hjl : j < ids.length
            · have hj1 : (j : Int) < (ids.length : Int) := by omega
              obtain ⟨g, rfl, _, cj⟩ := rowU_at HT3.out.row hjl
              have HUZ : Hid (U64 ids[j]) := HIU.out _ (List.getElem_mem hjl)
              generalize ids[j] = z at *
              cases hfz : findI s1.L z with
              | none =>
                have HC : Hid (Calls Try.prog 14 #[.pointer (some ⟨p, 0, none⟩), .int .u64 z] wr fun e w' => Tld F w wr p s1 (.tuple #[.agg #[.int .u64 0, .int .i64 0, .int .i64 0, .int .i64 0, .int .i64 0, .int .i64 0], .bool false]) e w') := by
                  have := I.get HUZ.out HT3.out.f
                  rw [hfz] at this
                  exact this
                clear hfz
                go_wp2_with fail
                refine HC.out.mono ?_
                rintro e w5 ⟨rfl, h5, f5⟩
                have H5 : Hid (∀ X, Below w5.heap.size w5 X → Ti F w X p s1 (Y - (i : Int)) b0 x Y (some ⟨g, 0, none⟩) co ids base) := fun X hX => (HT3.out.step h5 f5 HT3.out.le).step (I.over h5 hX) (fc_below hX (I.bel h5).size) HT3.out.le
                clear h5 f5 HC
                go_wp2_with fail
                go_roundw
                case rel => exact ⟨j + 1, by go_num, hjl, H5.out _ (below_new _ _)⟩
                case measure => simp [intOf]; omega
              | some q =>
                have hq := findI_some hfz
                obtain ⟨hw1, hk0⟩ := HZ.out q hq.1
                obtain ⟨q1, q2, q3, q4, q5, q6⟩ := q
                have hw2 := (not_waits _).1 hw1
                dsimp only at hw2 hk0
                have r1 : (q3 == 1) = false := by simp; exact hw2.1
                have r2 : (q3 == 2) = false := by simp; exact hw2.2
                have r3 : (q5 == 0) = false := by simp; exact hk0
                have HC : Hid (Calls Try.prog 14 #[.pointer (some ⟨p, 0, none⟩), .int .u64 z] wr fun e w' => Tld F w wr p s1 (.tuple #[.agg #[.int .u64 q1, .int .i64 q2, .int .i64 q3, .int .i64 q4, .int .i64 q5, .int .i64 q6], .bool true]) e w') := by
                  have := I.get HUZ.out HT3.out.f
                  rw [hfz] at this
                  exact this
                clear hfz hq hw1 hk0 hw2
                go_wp2_with fail
                refine HC.out.mono ?_
                rintro e w5 ⟨rfl, h5, f5⟩
                have H5 : Hid (∀ X, Below w5.heap.size w5 X → Ti F w X p s1 (Y - (i : Int)) b0 x Y (some ⟨g, 0, none⟩) co ids base) := fun X hX => (HT3.out.step h5 f5 HT3.out.le).step (I.over h5 hX) (fc_below hX (I.bel h5).size) HT3.out.le
                clear h5 f5 HC
                go_wp2_with fail
                go_roundw
                case rel => exact ⟨j + 1, by go_num, hjl, H5.out _ (below_new _ _)⟩
                case measure => simp [intOf]; omega
            · have hj1 : ¬ (j : Int) < (ids.length : Int) := by omega
              go_wp2_with fail
              go_ret
              exact ⟨rfl, I.bel HT3.out.f⟩

end Go.Proofs.Ytlckconhhhllkaa
