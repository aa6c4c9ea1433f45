/-
  The document's Install.
-/
import Derived.Test.YtcenjdpochjclaaRGet
import Derived.Deep.DeepCutAuto
namespace Go.Proofs.Ytcenjdpochjclaa
open Go.RowKit

theorem owns_grown {w w' : World} {base sz : Nat} {t : TypeId} {v : Value} {n : Nat} {xs : List Value} {row : Option Nat} (h : w.ownsRow base t sz v n xs) (hg : w.grownBy w' row) (hne : ∀ g, v.ownBlock = some g → row ≠ some g) : w'.ownsRow base t sz v n xs := by
  refine ⟨h.1, ?_⟩
  rcases h.2 with hn | ⟨g, cap, cur, hv, hg2, hh, r⟩
  · exact .inl hn
  · exact .inr ⟨g, cap, cur, hv, hg2, by rw [hg.block g (lt_of_block hh) (fun e => hne g (by rw [hv]; rfl) e.symm)]; exact hh, r⟩
theorem own_lt {w : World} {base sz : Nat} {t : TypeId} {v : Value} {n : Nat} {xs : List Value} (h : w.ownsRow base t sz v n xs) : ∀ g, v.ownBlock = some g → g < w.heap.size := by
  intro g hg
  rcases h.2 with ⟨rfl, _⟩ | ⟨k, cap, cur, rfl, _, hh, _⟩
  · cases hg
  · cases hg
    exact lt_of_block hh
section
variable {W W1 : World} {base b : Nat} {vi vl v' : Value} {ks ls : List Int}
theorem app_cells (l : List Int) (z : Int) : cellsN l ++ cellsN [z] = cellsN (l ++ [z]) := by simp [cellsN]
theorem add_key {z : Int} (h : RfC W base b vi vl ks ls) (ha : App 3 base (W.alloc (.cells #[.int .i64 z] 3)) W1 vi v' (cellsN ks ++ cellsN [z])) (hB : base ≤ W.heap.size) :
    RfC (W1.setCell ⟨b, 0, none⟩ v') base b v' vl (ks ++ [z]) ls ∧ Fr [34, 3] [] base W (W1.setCell ⟨b, 0, none⟩ v') := by
  have hb := below_new W (.cells #[.int .i64 z] 3)
  have h1 := h.over hb
  have hf := app_fr h1.ri ha (Nat.le_trans hB hb.size)
  have hblk : Blk W1 b 34 [vi, vl] := h1.blk.fr hf (by simp) (by simp)
  have hs : Fr [34] [] base W1 (W1.setCell ⟨b, 0, none⟩ v') := fr_set hblk (by simp) h.bb
  have hr : W1.ownsRow base 3 1 v' (ks ++ [z]).length (cellsN (ks ++ [z])) := by
    have := ha.own
    rw [app_cells, cellsN_len] at this
    exact this
  have hl : W1.ownsRow base 3 1 vl ls.length (cellsN ls) := owns_grown h1.rl ha.grow fun g hg e => h.ne g e hg
  refine ⟨⟨h.bb, hblk.set 0 v', owns_fr hr hs (by simp) (fun _ _ => by simp), owns_fr hl hs (by simp) (fun _ _ => by simp), fun g hg hg2 => ?_⟩,
    (fr_below hb hB).trans ((hf.mono (by simp) (by simp)).trans (hs.mono (by simp) (by simp)))⟩
  rcases ha.at' with e | e
  · exact h.ne g (e ▸ hg) hg2
  · rw [e] at hg
    have h2 := own_lt h1.rl g hg2
    cases hg
    exact Nat.lt_irrefl _ h2
theorem add_left {z : Int} (h : RfC W base b vi vl ks ls) (ha : App 3 base (W.alloc (.cells #[.int .i64 z] 3)) W1 vl v' (cellsN ls ++ cellsN [z])) (hB : base ≤ W.heap.size) :
    RfC (W1.setCell ⟨b, 1, none⟩ v') base b vi v' ks (ls ++ [z]) ∧ Fr [34, 3] [] base W (W1.setCell ⟨b, 1, none⟩ v') := by
  have hb := below_new W (.cells #[.int .i64 z] 3)
  have h1 := h.over hb
  have hf := app_fr h1.rl ha (Nat.le_trans hB hb.size)
  have hblk : Blk W1 b 34 [vi, vl] := h1.blk.fr hf (by simp) (by simp)
  have hs : Fr [34] [] base W1 (W1.setCell ⟨b, 1, none⟩ v') := fr_set hblk (by simp) h.bb
  have hr : W1.ownsRow base 3 1 v' (ls ++ [z]).length (cellsN (ls ++ [z])) := by
    have := ha.own
    rw [app_cells, cellsN_len] at this
    exact this
  have hl : W1.ownsRow base 3 1 vi ks.length (cellsN ks) := owns_grown h1.ri ha.grow fun g hg e => h.ne g hg e
  refine ⟨⟨h.bb, hblk.set 1 v', owns_fr hl hs (by simp) (fun _ _ => by simp), owns_fr hr hs (by simp) (fun _ _ => by simp), fun g hg hg2 => ?_⟩,
    (fr_below hb hB).trans ((hf.mono (by simp) (by simp)).trans (hs.mono (by simp) (by simp)))⟩
  rcases ha.at' with e | e
  · exact h.ne g hg (e ▸ hg2)
  · rw [e] at hg2
    have h2 := own_lt h1.ri g hg
    cases hg2
    exact Nat.lt_irrefl _ h2
end

/-- what the document's Install leaves. -/
def RInstE (w : World) (base b : Nat) (l : Fd) (T : Tm) (v : Int) (e : Ending) (w' : World) : Prop := e = .returned (.tuple #[.int .i64 (spotF l), .int .i64 (fullF l)]) ∧ RfT w' base b (instT l T v) ∧ Fr [34, 3] [] base w w'

set_option maxRecDepth 8000 in
set_option maxHeartbeats 8000000 in
theorem rinstall_any (w : World) (base b : Nat) (v : Int) (l : Fd) (T : Tm) (h : RfT w base b T) (hR : Rl l T) (hB : base ≤ w.heap.size) :
    Calls Try.prog 17 #[.pointer (some ⟨b, 0, none⟩), .int .i64 v] w fun e w' => RInstE w base b l T v e w' := by
  have hle := hR.le
  have HG : Hid (∀ z, Calls Try.prog 13 #[.pointer (some ⟨b, 0, none⟩), .int .i64 z] w fun e w' => e = .returned (.tuple #[.int .i64 ((getF l z).getD 0), .bool (getF l z).isSome]) ∧ w' = w) := fun z => by
    have := rget_any w base b z T h (by omega)
    rw [hR.look z] at this
    exact this
  have HR : Hid (RfT w base b T ∧ base ≤ w.heap.size ∧ T.length ≤ 16 ∧ l.length = 16) := ⟨h, hB, hle, hR.len16⟩
  unfold RInstE
  obtain ⟨sp, hsp⟩ : ∃ s, spotF l = s := ⟨_, rfl⟩
  obtain ⟨fu, hfu⟩ : ∃ s, fullF l = s := ⟨_, rfl⟩
  obtain ⟨TT, hTT⟩ : ∃ t, instT l T v = t := ⟨_, rfl⟩
  have HS : Hid (spotF l = sp ∧ fullF l = fu ∧ instT l T v = TT) := ⟨hsp, hfu, hTT⟩
  rw [hsp, hfu, hTT]
  clear h hR hB hle hsp hfu hTT
  go_enter Try.func17, Try.ntmps17
  go_wp2_with fail
  go_loopw [6] (fun v6 wr => ∃ k : Nat, k ≤ 16 ∧ v6 = .int .i64 k ∧ k ≤ free l ∧ wr = w) (fun v6 _ => 16 - (intOf v6).toNat)
  case atStart => exact ⟨0, Nat.zero_le _, rfl, Nat.zero_le _, rfl⟩
  case round =>
    obtain ⟨k, hk, rfl, hf, hw⟩ := hrel
    subst hw
    by_cases hlt : k < 16
    · have hi1 : (k : Int) < 16 := by omega
      have hkl : k < l.length := by have := HR.out.2.2.2; omega
      by_cases hfr : k < free l
      · obtain ⟨x, hx⟩ := free_some hfr
        have hg : getF l (k : Int) = some x := by rw [getF_nat, hx]; rfl
        have HK := HG.out (k : Int)
        rw [hg] at HK
        replace HK : Hid (Calls Try.prog 13 #[.pointer (some ⟨b, 0, none⟩), .int .i64 k] wr fun e w' => e = .returned (.tuple #[.int .i64 x, .bool true]) ∧ w' = wr) := HK
        have HFR : Hid (k < free l) := hfr
        clear hx hg hf hfr hkl hk
        go_wp2_with fail
        refine HK.out.mono ?_
        rintro e w2 ⟨rfl, hw2⟩
        subst hw2
        go_wp2_with fail
        go_roundw
        case rel => exact ⟨k + 1, by omega, by go_num, HFR.out, by trivial⟩
        case measure => simp [intOf]; omega
      · have hke : free l = k := by omega
        have hlt2 : free l < l.length := by omega
        have hg : getF l (k : Int) = none := by rw [← hke]; exact getF_free hlt2
        have HK := HG.out (k : Int)
        rw [hg] at HK
        replace HK : Hid (Calls Try.prog 13 #[.pointer (some ⟨b, 0, none⟩), .int .i64 k] wr fun e w' => e = .returned (.tuple #[.int .i64 0, .bool false]) ∧ w' = wr) := HK
        have HE : Hid (sp = (k : Int) ∧ fu = 0 ∧ TT = T ++ [((k : Int), v)]) := by
          refine ⟨?_, HS.out.2.1.symm.trans (if_pos hlt2), ?_⟩
          · rw [← HS.out.1]
            unfold spotF
            rw [if_pos hlt2, hke]
          · rw [← HS.out.2.2]
            unfold instT
            rw [if_pos hlt2, hke]
        obtain ⟨vi, vl, hr⟩ := HR.out.1
        obtain ⟨pi, ci, hvi⟩ := row_slice hr.ri
        obtain ⟨pl, cl, hvl⟩ := row_slice hr.rl
        obtain ⟨KS, hKS⟩ : ∃ l, keys T = l := ⟨_, rfl⟩
        obtain ⟨LS, hLS⟩ : ∃ l, lefts T = l := ⟨_, rfl⟩
        have HLN : Hid (KS.length ≤ 1000 ∧ LS.length ≤ 1000) := ⟨by rw [← hKS, keys_len]; have := HR.out.2.2.1; omega, by rw [← hLS, lefts_len]; have := HR.out.2.2.1; omega⟩
        have HTT : Hid (keys (T ++ [((k : Int), v)]) = KS ++ [(k : Int)] ∧ lefts (T ++ [((k : Int), v)]) = LS ++ [v]) := by
          refine ⟨?_, ?_⟩
          · rw [← hKS]
            unfold keys
            rw [List.map_append]
            rfl
          · rw [← hLS]
            unfold lefts
            rw [List.map_append]
            rfl
        rw [hKS, hLS] at hr
        obtain ⟨nk, hnk⟩ : ∃ n, (keys T).length = n := ⟨_, rfl⟩
        obtain ⟨nl, hnl⟩ : ∃ n, (lefts T).length = n := ⟨_, rfl⟩
        rw [hnk] at hvi
        rw [hnl] at hvl
        subst hvi hvl
        have HR1 : Hid (RfC wr base b (.slice pi nk ci) (.slice pl nl cl) KS LS ∧ base ≤ wr.heap.size) := ⟨hr, HR.out.2.1⟩
        have c0 : wr.cell? ⟨b, 0, none⟩ = some (.slice pi nk ci) := hr.blk.cell 0
        clear hr hKS hLS hg hf hfr hkl hk hke hlt2 hnk hnl HG
        go_wp2_with fail
        refine HK.out.mono ?_
        rintro e w2 ⟨rfl, hw2⟩
        subst hw2
        go_upto_region 7 with (first
          | (at_builtin; refine list_app (ys := cellsN [(k : Int)]) ety_i rfl _ _ rfl rfl rfl (HR1.out.1.over (below_new _ (.cells #[.int .i64 k] 3))).ri (sc_one _ _ _) (one_i _) (by have := HLN.out.1; simp [cellsN]; omega) (Nat.le_trans HR1.out.2 (below_new w2 (.cells #[.int .i64 k] 3)).size) ?_; intro v5 w5 ha5; obtain ⟨p5, c5, hv5⟩ := (sc_row ha5.own).form; obtain ⟨n5, hn5⟩ : ∃ n, (cellsN KS ++ cellsN [(k : Int)]).length = n := ⟨_, rfl⟩; rw [hn5] at hv5; subst hv5; have HAI : Hid (RfC (w5.setCell ⟨b, 0, none⟩ (.slice p5 n5 c5)) base b (.slice p5 n5 c5) (.slice pl nl cl) (KS ++ [(k : Int)]) LS ∧ Fr [34, 3] [] base w2 (w5.setCell ⟨b, 0, none⟩ (.slice p5 n5 c5))) := add_key HR1.out.1 ha5 HR1.out.2; have hblk : Blk w5 b 34 [.slice pi nk ci, .slice pl nl cl] := (HR1.out.1.over (below_new _ (.cells #[.int .i64 k] 3))).blk.fr (app_fr (HR1.out.1.over (below_new _ (.cells #[.int .i64 k] 3))).ri ha5 (Nat.le_trans HR1.out.2 (below_new w2 (.cells #[.int .i64 k] 3)).size)) (by simp) (by simp); have hcb : w5.cell? ⟨b, 0, none⟩ = some (.slice pi nk ci) := hblk.cell 0; have hfb : w5.frozen? ⟨b, 0, none⟩ = false := hblk.f 0; clear ha5 hblk; go_frame)
          | go_in)
        have HR6 : Hid (RfC (w5.setCell ⟨b, 0, none⟩ (.slice p5 n5 c5)) base b (.slice p5 n5 c5) (.slice pl nl cl) (KS ++ [(k : Int)]) LS ∧ Fr [34, 3] [] base w2 (w5.setCell ⟨b, 0, none⟩ (.slice p5 n5 c5)) ∧ base ≤ (w5.setCell ⟨b, 0, none⟩ (.slice p5 n5 c5)).heap.size) := ⟨HAI.out.1, HAI.out.2, Nat.le_trans HR1.out.2 HAI.out.2.bel.size⟩
        clear HAI hcb hfb c0 HR1
        generalize (w5.setCell ⟨b, 0, none⟩ (.slice p5 n5 c5)) = W6 at *
        have c1 : W6.cell? ⟨b, 1, none⟩ = some (.slice pl nl cl) := HR6.out.1.blk.cell 1
        go_wp2_with (first
          | (at_builtin; refine list_app (ys := cellsN [v]) ety_i rfl _ _ rfl rfl rfl (HR6.out.1.over (below_new _ (.cells #[.int .i64 v] 3))).rl (sc_one _ _ _) (one_i _) (by have := HLN.out.2; simp [cellsN]; omega) (Nat.le_trans HR6.out.2.2 (below_new W6 (.cells #[.int .i64 v] 3)).size) ?_; intro v7 w7 ha7; obtain ⟨p7, c7, hv7⟩ := (sc_row ha7.own).form; obtain ⟨n7, hn7⟩ : ∃ n, (cellsN LS ++ cellsN [v]).length = n := ⟨_, rfl⟩; rw [hn7] at hv7; subst hv7; have HAL : Hid (RfC (w7.setCell ⟨b, 1, none⟩ (.slice p7 n7 c7)) base b (.slice p5 n5 c5) (.slice p7 n7 c7) (KS ++ [(k : Int)]) (LS ++ [v]) ∧ Fr [34, 3] [] base W6 (w7.setCell ⟨b, 1, none⟩ (.slice p7 n7 c7))) := add_left HR6.out.1 ha7 HR6.out.2.2; have hblk : Blk w7 b 34 [.slice p5 n5 c5, .slice pl nl cl] := (HR6.out.1.over (below_new _ (.cells #[.int .i64 v] 3))).blk.fr (app_fr (HR6.out.1.over (below_new _ (.cells #[.int .i64 v] 3))).rl ha7 (Nat.le_trans HR6.out.2.2 (below_new W6 (.cells #[.int .i64 v] 3)).size)) (by simp) (by simp); have hcb : w7.cell? ⟨b, 1, none⟩ = some (.slice pl nl cl) := hblk.cell 1; have hfb : w7.frozen? ⟨b, 1, none⟩ = false := hblk.f 1; clear ha7 hblk; go_frame)
          | go_in)
        go_ret2
        exact ⟨by rw [HE.out.1, HE.out.2.1]; rfl, ⟨_, _, by rw [HE.out.2.2, HTT.out.1, HTT.out.2]; exact HAL.out.1⟩, HR6.out.2.1.trans HAL.out.2⟩
    · have hi1 : ¬ (k : Int) < 16 := by omega
      have hn : ¬ free l < l.length := by have := HR.out.2.2.2; omega
      have HE : Hid (sp = -1 ∧ fu = 16 ∧ TT = T) := ⟨HS.out.1.symm.trans (if_neg hn), HS.out.2.1.symm.trans (if_neg hn), HS.out.2.2.symm.trans (if_neg hn)⟩
      clear hn hf hk
      go_wp2_with fail
      go_ret2
      exact ⟨by rw [HE.out.1, HE.out.2.1]; rfl, by rw [HE.out.2.2]; exact HR.out.1, Fr.refl _ _ _ _⟩

end Go.Proofs.Ytcenjdpochjclaa
