/-
  Calls, one by one: the law's play, over any interface.
-/
import Derived.Test.YtlckconhhhllkaaIfc
import Derived.Deep.DeepCutAuto
namespace Go.Proofs.Ytlckconhhhllkaa
open Go.RowKit

theorem fc_grown {L : List Nat} {B : Nat} {W X X' : World} {row : Option Nat} (h : Fc L B W X) (hg : X.grownBy X' row) (hr : ∀ k, row = some k → W.heap.size ≤ k) (hB : B ≤ W.heap.size) : Fc L B W X' :=
  ⟨h.bel.grown hg (Nat.le_trans hB h.bel.size) (fun j hj => Nat.le_trans hB (hr j hj)), fun k cs t fr hk ht => by
    have h1 := h.blk k cs t fr hk ht
    rw [hg.block k (lt_of_block h1) fun e => by have := hr k e.symm; have := lt_of_block hk; omega]
    exact h1⟩
/-- behind some calls: the table, what may have turned, what was told so far. -/
structure Ps (F : World → World → Nat → Nt → Prop) (w W X : World) (p : Nat) (s : Nt) (v : Value) (r : List Int) : Prop where
  f : F w X p s
  fc : Fc [62] w.heap.size W X
  row : X.ownsRow W.heap.size 23 1 v r.length (cellsU r)
theorem ps_app {F : World → World → Nat → Nt → Prop} (I : Ifc F) {w W X X' : World} {p : Nat} {s : Nt} {v v' : Value} {r : List Int} {z : Int} (hf : F w X p s) (hc : Fc [62] w.heap.size W X) (hr : X.ownsRow W.heap.size 23 1 v r.length (cellsU r)) (hB : w.heap.size ≤ W.heap.size)
    (ha : App 23 W.heap.size (X.alloc (.cells #[.int .u64 z] 23)) X' v v' (cellsU r ++ cellsU [z])) : Ps F w W X' p s v' (r ++ [z]) := by
  have hn := below_new X (.cells #[.int .u64 z] 23)
  have hr1 := owns_below hr hn (Nat.le_refl _)
  have hsz : W.heap.size ≤ X.heap.size := hc.bel.size
  have hfr : Fr [23] [] W.heap.size (X.alloc (.cells #[.int .u64 z] 23)) X' := app_fr hr1 ha (Nat.le_trans hsz hn.size)
  refine ⟨I.frr (I.over hf hn) ⟨hfr.bel.mono hB, hfr.blk⟩ (by simp), fc_grown (hc.trans (fc_below hn (Nat.le_trans hB hsz))) ha.grow (fun k hk => owns_block hr1 k hk) hB, ?_⟩
  have := ha.own
  have e : cellsU r ++ cellsU [z] = cellsU (r ++ [z]) := by simp [cellsU]
  rw [e, cellsU_len] at this
  exact this

/-- what play tells and leaves. -/
def PlayT (F : World → World → Nat → Nt → Prop) (w W : World) (p : Nat) (s : Nt) (l : List Do) (e : Ending) (w' : World) : Prop := ∃ v, e = .returned v ∧ Ps F w W w' p (playS s l) v (playI s l)

set_option maxHeartbeats 16000000 in
set_option maxRecDepth 8000 in
theorem play_any {F : World → World → Nat → Nt → Prop} (I : Ifc F) (w W : World) (p : Nat) (s : Nt) (a : Option Addr) (len cap : Nat) (l : List Do) (hF : F w W p s) (hR : ∀ X, Fc [62] w.heap.size W X → OpsR X a len l) :
    Calls Try.prog 15 #[.pointer (some ⟨p, 0, none⟩), .slice a len cap] W fun e w' => PlayT F w W p s (l.take 200) e w' := by
  have h0 := hR W (Fc.refl _ _ _)
  obtain rfl : len = l.length := h0.1.symm
  have hmax : l.length ≤ 9223372036854775807 := by have := h0.2.1; unfold maxLen at this; omega
  have HR : Hid (∀ X, Fc [62] w.heap.size W X → OpsR X a l.length l) := hR
  have HB : Hid (w.heap.size ≤ W.heap.size) := (I.bel hF).size
  have HS : Hid (Ps F w W W p (playS s (l.take 0)) (.slice none 0 0) (playI s (l.take 0))) := ⟨hF, Fc.refl _ _ _, ⟨rfl, .inl ⟨rfl, rfl⟩⟩⟩
  clear h0 hR hF
  go_enter Try.func15, Try.ntmps15
  go_wp2_with fail
  go_loopw [5, 6] (fun v5 v6 wr => ∃ (i : Nat) (v : Value), v6 = .int .i64 i ∧ v = v5 ∧ i ≤ 200 ∧ Ps F w W wr p (playS s (l.take i)) v (playI s (l.take i))) (fun _ v6 _ => 200 - (intOf v6).toNat)
  case atStart => exact ⟨0, _, rfl, rfl, Nat.zero_le _, HS.out⟩
  case round =>
    obtain ⟨i, vo, rfl, hvv, hi, hps⟩ := hrel
    subst hvv
    have HPS : Hid (Ps F w W wr p (playS s (l.take i)) vo (playI s (l.take i))) := hps
    obtain ⟨po, co, hvo⟩ := rowU_slice hps.row
    have HLN : Hid ((playI s (l.take i)).length ≤ 200) := by
      have h1 := playI_len s (l.take i)
      rw [List.length_take] at h1
      show _ ≤ _
      omega
    clear hps HS
    by_cases hil : i < l.length
    · have hil1 : (i : Int) < (l.length : Int) := by omega
      have hil2 : decide ((i : Int) < (l.length : Int)) = true := decide_eq_true hil1
      by_cases h200 : i < 200
      · have h201 : (i : Int) < 200 := by omega
        have h202 : decide ((i : Int) < 200) = true := decide_eq_true h201
        have HTK : Hid (playS s (l.take (i + 1)) = stepS (playS s (l.take i)) l[i] ∧ playI s (l.take (i + 1)) = playI s (l.take i) ++ stepI (playS s (l.take i)) l[i]) := play_take hil
        obtain ⟨bb, oo, ea, x0, x1, x2, x3, x4⟩ := (HR.out wr HPS.out.fc).at hil
        have HU : Hid (U64 (l[i]).i) := (HR.out wr HPS.out.fc).u64 hil
        subst ea
        obtain ⟨s1, hs1⟩ : ∃ q, playS s (l.take i) = q := ⟨_, rfl⟩
        obtain ⟨r1, hr1⟩ : ∃ q, playI s (l.take i) = q := ⟨_, rfl⟩
        obtain ⟨o, ho⟩ : ∃ q, l[i] = q := ⟨_, rfl⟩
        rw [hs1, hr1] at HPS HTK
        rw [hr1] at hvo HLN
        rw [ho] at HTK x0 x1 x2 x3 x4 HU
        subst hvo
        obtain ⟨d, n, z, k, v⟩ := o
        dsimp only at x0 x1 x2 x3 x4
        replace HU : Hid (U64 z) := HU
        have HFR0 : Hid (w.heap.size ≤ W.heap.size ∧ wr.ownsRow W.heap.size 23 1 (.slice po r1.length co) r1.length (cellsU r1) ∧ Fc [62] w.heap.size W wr) := ⟨HB.out, HPS.out.row, HPS.out.fc⟩
        have HF : Hid (F w (wr.alloc (.cells #[.int .i64 d, .int .i64 n, .int .u64 z, .int .i64 k, .int .i64 v] 37)) p s1) := I.over HPS.out.f (below_new _ _)
        have HFR : Hid (w.heap.size ≤ W.heap.size ∧ (wr.alloc (.cells #[.int .i64 d, .int .i64 n, .int .u64 z, .int .i64 k, .int .i64 v] 37)).ownsRow W.heap.size 23 1 (.slice po r1.length co) r1.length (cellsU r1) ∧ Fc [62] w.heap.size W (wr.alloc (.cells #[.int .i64 d, .int .i64 n, .int .u64 z, .int .i64 k, .int .i64 v] 37))) :=
          ⟨HB.out, owns_below HFR0.out.2.1 (below_new _ _) (Nat.le_refl _), HFR0.out.2.2.trans (fc_below (below_new _ _) (Nat.le_trans HB.out HFR0.out.2.2.bel.size))⟩
        have HBX : Hid (Blk (wr.alloc (.cells #[.int .i64 d, .int .i64 n, .int .u64 z, .int .i64 k, .int .i64 v] 37)) wr.heap.size 37 [.int .i64 d, .int .i64 n, .int .u64 z, .int .i64 k, .int .i64 v]) := blk_new _ _ _
        clear HPS HFR0 hs1 hr1 ho
        go_upto_region 6 with fail
        generalize (wr.alloc (.cells #[.int .i64 d, .int .i64 n, .int .u64 z, .int .i64 k, .int .i64 v] 37)) = W1 at *
        generalize wr.heap.size = bo at *
        have y0 := HBX.out.cell 0
        have y1 := HBX.out.cell 1
        have y2 := HBX.out.cell 2
        have y3 := HBX.out.cell 3
        have y4 := HBX.out.cell 4
        clear x0 x1 x2 x3 x4 HBX
        by_cases h0 : d = 0
        · have hy0 : (d == 0) = true := by simp [h0]
          have hd : d = 0 ∨ d = 1 := by omega
          by_cases he : addE s1 n = 0
          · have HST : Hid (stepS s1 ⟨d, n, z, k, v⟩ = addS s1 n ∧ stepI s1 ⟨d, n, z, k, v⟩ = [s1.next]) := ⟨step_add hd, stepI_add hd he⟩
            have HC : Hid (Calls Try.prog 21 #[.pointer (some ⟨p, 0, none⟩), .int .i64 n] W1 fun e w' => Tld F w W1 p (addS s1 n) (.tuple #[.int .u64 s1.next, .int .i64 0]) e w') := by
              have := I.add (t := n) HF.out
              unfold addI at this
              rw [if_pos he, he] at this
              exact this
            clear h0 hd he
            generalize s1.next = id at *
            go_wp2_with fail
            refine HC.out.mono ?_
            rintro e w5 ⟨rfl, h5, f5⟩
            have H5 : Hid (F w w5 p (addS s1 n) ∧ Fc [62] w.heap.size W w5 ∧ w5.ownsRow W.heap.size 23 1 (.slice po r1.length co) r1.length (cellsU r1) ∧ w.heap.size ≤ W.heap.size) := ⟨h5, HFR.out.2.2.trans f5, owns_fc HFR.out.2.1 f5 (by simp), HFR.out.1⟩
            clear h5 f5 HC
            go_wp2_with (first
              | (at_builtin; refine list_app (ys := cellsU [id]) ety_u rfl _ _ rfl rfl rfl (owns_below H5.out.2.2.1 (below_new _ (.cells #[.int .u64 id] 23)) (Nat.le_refl _)) (sc_one _ _ _) (one_u _) (by have := HLN.out; simp [cellsU]; omega) (Nat.le_trans H5.out.2.1.bel.size (below_new w5 (.cells #[.int .u64 id] 23)).size) ?_; intro v7 w7 ha7; have HA7 : Hid (App 23 W.heap.size (w5.alloc (.cells #[.int .u64 id] 23)) w7 (.slice po r1.length co) v7 (cellsU r1 ++ cellsU [id])) := ha7; clear ha7; go_frame)
              | go_in)
            have H7 : Hid (Ps F w W w7 p (addS s1 n) v7 (r1 ++ [id])) := ps_app I H5.out.1 H5.out.2.1 H5.out.2.2.1 H5.out.2.2.2 HA7.out
            go_roundw
            case rel => exact ⟨i + 1, v7, by go_num, rfl, h200, by rw [HTK.out.1, HTK.out.2, HST.out.1, HST.out.2]; exact H7.out⟩
            case measure => simp [intOf]; omega
          · have HST : Hid (stepS s1 ⟨d, n, z, k, v⟩ = addS s1 n ∧ stepI s1 ⟨d, n, z, k, v⟩ = []) := ⟨step_add hd, stepI_err he⟩
            have HC : Hid (Calls Try.prog 21 #[.pointer (some ⟨p, 0, none⟩), .int .i64 n] W1 fun e w' => Tld F w W1 p (addS s1 n) (.tuple #[.int .u64 (addI s1 n), .int .i64 (addE s1 n)]) e w') := I.add (t := n) HF.out
            have he2 : (addE s1 n == 0) = false := by simp [he]
            clear h0 hd he
            generalize addE s1 n = er at *
            generalize addI s1 n = id at *
            go_wp2_with fail
            refine HC.out.mono ?_
            rintro e w5 ⟨rfl, h5, f5⟩
            have H5 : Hid (Ps F w W w5 p (addS s1 n) (.slice po r1.length co) r1) := ⟨h5, HFR.out.2.2.trans f5, owns_fc HFR.out.2.1 f5 (by simp)⟩
            clear h5 f5 HC
            go_wp2_with fail
            go_roundw
            case rel => exact ⟨i + 1, .slice po r1.length co, by go_num, rfl, h200, by rw [HTK.out.1, HTK.out.2, HST.out.1, HST.out.2, List.append_nil]; exact H5.out⟩
            case measure => simp [intOf]; omega
        · by_cases h1 : d = 1
          · have hn0 : (d == 0) = false := by simp; omega
            have hy1 : (d == 1) = true := by simp [h1]
            have hd : d = 0 ∨ d = 1 := by omega
            by_cases he : addE s1 n = 0
            · have HST : Hid (stepS s1 ⟨d, n, z, k, v⟩ = addS s1 n ∧ stepI s1 ⟨d, n, z, k, v⟩ = [s1.next]) := ⟨step_add hd, stepI_add hd he⟩
              have HC : Hid (Calls Try.prog 21 #[.pointer (some ⟨p, 0, none⟩), .int .i64 n] W1 fun e w' => Tld F w W1 p (addS s1 n) (.tuple #[.int .u64 s1.next, .int .i64 0]) e w') := by
                have := I.add (t := n) HF.out
                unfold addI at this
                rw [if_pos he, he] at this
                exact this
              clear h1 hd he
              generalize s1.next = id at *
              go_wp2_with fail
              refine HC.out.mono ?_
              rintro e w5 ⟨rfl, h5, f5⟩
              have H5 : Hid (F w w5 p (addS s1 n) ∧ Fc [62] w.heap.size W w5 ∧ w5.ownsRow W.heap.size 23 1 (.slice po r1.length co) r1.length (cellsU r1) ∧ w.heap.size ≤ W.heap.size) := ⟨h5, HFR.out.2.2.trans f5, owns_fc HFR.out.2.1 f5 (by simp), HFR.out.1⟩
              clear h5 f5 HC
              go_wp2_with (first
                | (at_builtin; refine list_app (ys := cellsU [id]) ety_u rfl _ _ rfl rfl rfl (owns_below H5.out.2.2.1 (below_new _ (.cells #[.int .u64 id] 23)) (Nat.le_refl _)) (sc_one _ _ _) (one_u _) (by have := HLN.out; simp [cellsU]; omega) (Nat.le_trans H5.out.2.1.bel.size (below_new w5 (.cells #[.int .u64 id] 23)).size) ?_; intro v7 w7 ha7; have HA7 : Hid (App 23 W.heap.size (w5.alloc (.cells #[.int .u64 id] 23)) w7 (.slice po r1.length co) v7 (cellsU r1 ++ cellsU [id])) := ha7; clear ha7; go_frame)
                | go_in)
              have H7 : Hid (Ps F w W w7 p (addS s1 n) v7 (r1 ++ [id])) := ps_app I H5.out.1 H5.out.2.1 H5.out.2.2.1 H5.out.2.2.2 HA7.out
              go_roundw
              case rel => exact ⟨i + 1, v7, by go_num, rfl, h200, by rw [HTK.out.1, HTK.out.2, HST.out.1, HST.out.2]; exact H7.out⟩
              case measure => simp [intOf]; omega
            · have HST : Hid (stepS s1 ⟨d, n, z, k, v⟩ = addS s1 n ∧ stepI s1 ⟨d, n, z, k, v⟩ = []) := ⟨step_add hd, stepI_err he⟩
              have HC : Hid (Calls Try.prog 21 #[.pointer (some ⟨p, 0, none⟩), .int .i64 n] W1 fun e w' => Tld F w W1 p (addS s1 n) (.tuple #[.int .u64 (addI s1 n), .int .i64 (addE s1 n)]) e w') := I.add (t := n) HF.out
              have he2 : (addE s1 n == 0) = false := by simp [he]
              clear h1 hd he
              generalize addE s1 n = er at *
              generalize addI s1 n = id at *
              go_wp2_with fail
              refine HC.out.mono ?_
              rintro e w5 ⟨rfl, h5, f5⟩
              have H5 : Hid (Ps F w W w5 p (addS s1 n) (.slice po r1.length co) r1) := ⟨h5, HFR.out.2.2.trans f5, owns_fc HFR.out.2.1 f5 (by simp)⟩
              clear h5 f5 HC
              go_wp2_with fail
              go_roundw
              case rel => exact ⟨i + 1, .slice po r1.length co, by go_num, rfl, h200, by rw [HTK.out.1, HTK.out.2, HST.out.1, HST.out.2, List.append_nil]; exact H5.out⟩
              case measure => simp [intOf]; omega
          · by_cases h2 : d = 2
            · have hn0 : (d == 0) = false := by simp; omega
              have hn1 : (d == 1) = false := by simp; omega
              have hy2 : (d == 2) = true := by simp [h2]
              have HST : Hid (stepS s1 ⟨d, n, z, k, v⟩ = sendS s1 ∧ stepI s1 ⟨d, n, z, k, v⟩ = []) := ⟨step_send (.inl h2), stepI_not ⟨by show d ≠ 0; omega, by show d ≠ 1; omega⟩⟩
              clear h2
              go_wp2_with fail
              refine (I.send HF.out).mono ?_
              rintro e w5 ⟨rfl, h5, f5⟩
              have H5 : Hid (Ps F w W w5 p (sendS s1) (.slice po r1.length co) r1) := ⟨h5, HFR.out.2.2.trans f5, owns_fc HFR.out.2.1 f5 (by simp)⟩
              clear h5 f5
              go_wp2_with fail
              go_roundw
              case rel => exact ⟨i + 1, .slice po r1.length co, by go_num, rfl, h200, by rw [HTK.out.1, HTK.out.2, HST.out.1, HST.out.2, List.append_nil]; exact H5.out⟩
              case measure => simp [intOf]; omega
            · by_cases h3 : d = 3
              · have hn0 : (d == 0) = false := by simp; omega
                have hn1 : (d == 1) = false := by simp; omega
                have hn2 : (d == 2) = false := by simp; omega
                have hy3 : (d == 3) = true := by simp [h3]
                have HST : Hid (stepS s1 ⟨d, n, z, k, v⟩ = sendS s1 ∧ stepI s1 ⟨d, n, z, k, v⟩ = []) := ⟨step_send (.inr h3), stepI_not ⟨by show d ≠ 0; omega, by show d ≠ 1; omega⟩⟩
                clear h3
                go_wp2_with fail
                refine (I.send HF.out).mono ?_
                rintro e w5 ⟨rfl, h5, f5⟩
                have H5 : Hid (Ps F w W w5 p (sendS s1) (.slice po r1.length co) r1) := ⟨h5, HFR.out.2.2.trans f5, owns_fc HFR.out.2.1 f5 (by simp)⟩
                clear h5 f5
                go_wp2_with fail
                go_roundw
                case rel => exact ⟨i + 1, .slice po r1.length co, by go_num, rfl, h200, by rw [HTK.out.1, HTK.out.2, HST.out.1, HST.out.2, List.append_nil]; exact H5.out⟩
                case measure => simp [intOf]; omega
              · by_cases h4 : d = 4
                · have hn0 : (d == 0) = false := by simp; omega
                  have hn1 : (d == 1) = false := by simp; omega
                  have hn2 : (d == 2) = false := by simp; omega
                  have hn3 : (d == 3) = false := by simp; omega
                  have hy4 : (d == 4) = true := by simp [h4]
                  have HST : Hid (stepS s1 ⟨d, n, z, k, v⟩ = replyS s1 (toU n) z k v ∧ stepI s1 ⟨d, n, z, k, v⟩ = []) := ⟨step_reply h4, stepI_not ⟨by show d ≠ 0; omega, by show d ≠ 1; omega⟩⟩
                  clear h4
                  have hcv : IntKind.u64.wrap n = toU n := rfl
                  go_wp2_with fail
                  refine (I.reply (ep := toU n) (id := z) (k := k) (v := v) (toU_ok n) HU.out HF.out).mono ?_
                  rintro e w5 ⟨rfl, h5, f5⟩
                  have H5 : Hid (Ps F w W w5 p (replyS s1 (toU n) z k v) (.slice po r1.length co) r1) := ⟨h5, HFR.out.2.2.trans f5, owns_fc HFR.out.2.1 f5 (by simp)⟩
                  clear h5 f5
                  go_wp2_with fail
                  go_roundw
                  case rel => exact ⟨i + 1, .slice po r1.length co, by go_num, rfl, h200, by rw [HTK.out.1, HTK.out.2, HST.out.1, HST.out.2, List.append_nil]; exact H5.out⟩
                  case measure => simp [intOf]; omega
                · by_cases h5 : d = 5
                  · have hn0 : (d == 0) = false := by simp; omega
                    have hn1 : (d == 1) = false := by simp; omega
                    have hn2 : (d == 2) = false := by simp; omega
                    have hn3 : (d == 3) = false := by simp; omega
                    have hn4 : (d == 4) = false := by simp; omega
                    have hy5 : (d == 5) = true := by simp [h5]
                    have HST : Hid (stepS s1 ⟨d, n, z, k, v⟩ = killS s1 n ∧ stepI s1 ⟨d, n, z, k, v⟩ = []) := ⟨step_kill h5, stepI_not ⟨by show d ≠ 0; omega, by show d ≠ 1; omega⟩⟩
                    clear h5
                    go_wp2_with fail
                    refine (I.kill (t := n) HF.out).mono ?_
                    rintro e w5 ⟨rfl, h5, f5⟩
                    have H5 : Hid (Ps F w W w5 p (killS s1 n) (.slice po r1.length co) r1) := ⟨h5, HFR.out.2.2.trans f5, owns_fc HFR.out.2.1 f5 (by simp)⟩
                    clear h5 f5
                    go_wp2_with fail
                    go_roundw
                    case rel => exact ⟨i + 1, .slice po r1.length co, by go_num, rfl, h200, by rw [HTK.out.1, HTK.out.2, HST.out.1, HST.out.2, List.append_nil]; exact H5.out⟩
                    case measure => simp [intOf]; omega
                  · by_cases h6 : d = 6
                    · have hn0 : (d == 0) = false := by simp; omega
                      have hn1 : (d == 1) = false := by simp; omega
                      have hn2 : (d == 2) = false := by simp; omega
                      have hn3 : (d == 3) = false := by simp; omega
                      have hn4 : (d == 4) = false := by simp; omega
                      have hn5 : (d == 5) = false := by simp; omega
                      have hy6 : (d == 6) = true := by simp [h6]
                      have HST : Hid (stepS s1 ⟨d, n, z, k, v⟩ = tickS s1 ∧ stepI s1 ⟨d, n, z, k, v⟩ = []) := ⟨step_tick h6, stepI_not ⟨by show d ≠ 0; omega, by show d ≠ 1; omega⟩⟩
                      clear h6
                      go_wp2_with fail
                      refine (I.tick HF.out).mono ?_
                      rintro e w5 ⟨v5, hr5, rfl, h5, f5⟩
                      obtain ⟨p5, c5, rfl⟩ := rowU_slice hr5
                      clear hr5
                      have H5 : Hid (Ps F w W w5 p (tickS s1) (.slice po r1.length co) r1) := ⟨h5, HFR.out.2.2.trans f5, owns_fc HFR.out.2.1 f5 (by simp)⟩
                      clear h5 f5
                      go_wp2_with fail
                      go_roundw
                      case rel => exact ⟨i + 1, .slice po r1.length co, by go_num, rfl, h200, by rw [HTK.out.1, HTK.out.2, HST.out.1, HST.out.2, List.append_nil]; exact H5.out⟩
                      case measure => simp [intOf]; omega
                    · by_cases h7 : d = 7
                      · have hn0 : (d == 0) = false := by simp; omega
                        have hn1 : (d == 1) = false := by simp; omega
                        have hn2 : (d == 2) = false := by simp; omega
                        have hn3 : (d == 3) = false := by simp; omega
                        have hn4 : (d == 4) = false := by simp; omega
                        have hn5 : (d == 5) = false := by simp; omega
                        have hn6 : (d == 6) = false := by simp; omega
                        have hy7 : (d == 7) = true := by simp [h7]
                        have HST : Hid (stepS s1 ⟨d, n, z, k, v⟩ = riseS s1 z ∧ stepI s1 ⟨d, n, z, k, v⟩ = []) := ⟨step_rise h7, stepI_not ⟨by show d ≠ 0; omega, by show d ≠ 1; omega⟩⟩
                        clear h7
                        go_wp2_with fail
                        refine (I.rise (ep := z) HU.out HF.out).mono ?_
                        rintro e w5 ⟨rfl, h5, f5⟩
                        have H5 : Hid (Ps F w W w5 p (riseS s1 z) (.slice po r1.length co) r1) := ⟨h5, HFR.out.2.2.trans f5, owns_fc HFR.out.2.1 f5 (by simp)⟩
                        clear h5 f5
                        go_wp2_with fail
                        go_roundw
                        case rel => exact ⟨i + 1, .slice po r1.length co, by go_num, rfl, h200, by rw [HTK.out.1, HTK.out.2, HST.out.1, HST.out.2, List.append_nil]; exact H5.out⟩
                        case measure => simp [intOf]; omega
                      · by_cases h8 : d = 8
                        · have hn0 : (d == 0) = false := by simp; omega
                          have hn1 : (d == 1) = false := by simp; omega
                          have hn2 : (d == 2) = false := by simp; omega
                          have hn3 : (d == 3) = false := by simp; omega
                          have hn4 : (d == 4) = false := by simp; omega
                          have hn5 : (d == 5) = false := by simp; omega
                          have hn6 : (d == 6) = false := by simp; omega
                          have hn7 : (d == 7) = false := by simp; omega
                          have hy8 : (d == 8) = true := by simp [h8]
                          have HST : Hid (stepS s1 ⟨d, n, z, k, v⟩ = dropS s1 ∧ stepI s1 ⟨d, n, z, k, v⟩ = []) := ⟨step_drop h8, stepI_not ⟨by show d ≠ 0; omega, by show d ≠ 1; omega⟩⟩
                          clear h8
                          go_wp2_with fail
                          refine (I.drop HF.out).mono ?_
                          rintro e w5 ⟨rfl, h5, f5⟩
                          have H5 : Hid (Ps F w W w5 p (dropS s1) (.slice po r1.length co) r1) := ⟨h5, HFR.out.2.2.trans f5, owns_fc HFR.out.2.1 f5 (by simp)⟩
                          clear h5 f5
                          go_wp2_with fail
                          go_roundw
                          case rel => exact ⟨i + 1, .slice po r1.length co, by go_num, rfl, h200, by rw [HTK.out.1, HTK.out.2, HST.out.1, HST.out.2, List.append_nil]; exact H5.out⟩
                          case measure => simp [intOf]; omega
                        · by_cases h9 : d = 9
                          · have hn0 : (d == 0) = false := by simp; omega
                            have hn1 : (d == 1) = false := by simp; omega
                            have hn2 : (d == 2) = false := by simp; omega
                            have hn3 : (d == 3) = false := by simp; omega
                            have hn4 : (d == 4) = false := by simp; omega
                            have hn5 : (d == 5) = false := by simp; omega
                            have hn6 : (d == 6) = false := by simp; omega
                            have hn7 : (d == 7) = false := by simp; omega
                            have hn8 : (d == 8) = false := by simp; omega
                            have hy9 : (d == 9) = true := by simp [h9]
                            have HST : Hid (stepS s1 ⟨d, n, z, k, v⟩ = endS s1 n ∧ stepI s1 ⟨d, n, z, k, v⟩ = []) := ⟨step_end h9, stepI_not ⟨by show d ≠ 0; omega, by show d ≠ 1; omega⟩⟩
                            clear h9
                            go_wp2_with fail
                            refine (I.ended (t := n) HF.out).mono ?_
                            rintro e w5 ⟨rfl, h5, f5⟩
                            have H5 : Hid (Ps F w W w5 p (endS s1 n) (.slice po r1.length co) r1) := ⟨h5, HFR.out.2.2.trans f5, owns_fc HFR.out.2.1 f5 (by simp)⟩
                            clear h5 f5
                            go_wp2_with fail
                            go_roundw
                            case rel => exact ⟨i + 1, .slice po r1.length co, by go_num, rfl, h200, by rw [HTK.out.1, HTK.out.2, HST.out.1, HST.out.2, List.append_nil]; exact H5.out⟩
                            case measure => simp [intOf]; omega
                          · have hn0 : (d == 0) = false := by simp; omega
                            have hn1 : (d == 1) = false := by simp; omega
                            have hn2 : (d == 2) = false := by simp; omega
                            have hn3 : (d == 3) = false := by simp; omega
                            have hn4 : (d == 4) = false := by simp; omega
                            have hn5 : (d == 5) = false := by simp; omega
                            have hn6 : (d == 6) = false := by simp; omega
                            have hn7 : (d == 7) = false := by simp; omega
                            have hn8 : (d == 8) = false := by simp; omega
                            have hn9 : (d == 9) = false := by simp; omega
                            have HST : Hid (stepS s1 ⟨d, n, z, k, v⟩ = s1 ∧ stepI s1 ⟨d, n, z, k, v⟩ = []) := ⟨step_none fun q hq1 hq2 => by show d ≠ q; omega, stepI_not ⟨h0, h1⟩⟩
                            clear h0 h1 h2 h3 h4 h5 h6 h7 h8 h9
                            have H5 : Hid (Ps F w W W1 p s1 (.slice po r1.length co) r1) := ⟨HF.out, HFR.out.2.2, HFR.out.2.1⟩
                            go_wp2_with fail
                            go_roundw
                            case rel => exact ⟨i + 1, .slice po r1.length co, by go_num, rfl, h200, by rw [HTK.out.1, HTK.out.2, HST.out.1, HST.out.2, List.append_nil]; exact H5.out⟩
                            case measure => simp [intOf]; omega
      · have h201 : ¬ (i : Int) < 200 := by omega
        have h202 : decide ((i : Int) < 200) = false := decide_eq_false h201
        have e200 : i = 200 := by omega
        have HQ : Hid (Ps F w W wr p (playS s (l.take 200)) vo (playI s (l.take 200))) := by rw [e200] at HPS; exact HPS.out
        clear HPS hvo HLN e200
        go_wp2_with fail
        go_ret
        exact ⟨_, rfl, HQ.out⟩
    · have hil1 : ¬ (i : Int) < (l.length : Int) := by omega
      have hil2 : decide ((i : Int) < (l.length : Int)) = false := decide_eq_false hil1
      have HQ : Hid (Ps F w W wr p (playS s (l.take 200)) vo (playI s (l.take 200))) := by
        have e1 : l.take i = l := List.take_of_length_le (by omega)
        have e2 : l.take 200 = l := List.take_of_length_le (by omega)
        rw [e1] at HPS
        rw [e2]
        exact HPS.out
      clear HPS hvo HLN
      go_wp2_with fail
      go_ret
      exact ⟨_, rfl, HQ.out⟩

end Go.Proofs.Ytlckconhhhllkaa
