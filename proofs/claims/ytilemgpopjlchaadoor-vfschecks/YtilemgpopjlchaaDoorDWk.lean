/-
  The document's walk, and its Resolve.
-/
import Derived.Test.YtilemgpopjlchaaDoorDCk
import Derived.Test.YtilemgpopjlchaaDoorDPt
import Derived.Test.YtilemgpopjlchaaDoorDMem
import Derived.Test.YtilemgpopjlchaaDoorVMath3
import Derived.BigQuiet
namespace Go.Proofs.YtilemgpopjlchaaDoor
open Go.RowKit

theorem tellR_eq {r : Nm × Int × Int} {a : Nm} {b c : Int} (h : r = (a, b, c)) : tellR r = .tuple #[.string (bar a), .int .i64 b, .int .i64 c] := by rw [h]; rfl
def rowLen : Value → Nat
  | .slice _ n _ => n
  | _ => 0
/-- what a walk from here tells. -/
def WalkC (L : List Nd) (h : Nat) : Prop := ∀ (v av nv : Value) (a N : List Nm) (W : World), NdR W v L → TxN W av a → TxN W nv N → Wk L h a N →
  Calls Tryd.prog 30 #[v, av, nv, .int .i64 h] W (Tells W (tellR (endV L (walkV L h a N))))

set_option maxHeartbeats 32000000 in
theorem dwalk_step (L : List Nd) (hT : Tr L) (hX : Lt L) (h : Nat) (h8 : h ≤ 8) (hI : ∀ g, h = g + 1 → WalkC L g) : WalkC L h := by
  intro v av nv a0 N0 w hv ha hn hw
  obtain ⟨R, hR⟩ : ∃ R, walkV L h a0 N0 = R := ⟨_, rfl⟩
  have HR : Hid (walkV L h a0 N0 = R) := hR
  have HT : Hid (Tr L ∧ Lt L ∧ h ≤ 8) := ⟨hT, hX, h8⟩
  have HI : Hid (∀ g, h = g + 1 → WalkC L g) := hI
  have H0 : Hid (NdR w v L ∧ TxN w av a0 ∧ TxN w nv N0 ∧ Wk L h a0 N0) := ⟨hv, ha, hn, hw⟩
  have HFD : Hid (∀ (s : ByteArray) W, NdR W v L → Calls Tryd.prog 14 #[v, .string s] W (Tells W (tellF (findN L (lst s))))) := fun s W h => dfind_any v L s W h (by have := hX.n; omega)
  rw [hR]
  obtain ⟨⟨ea, ek, ee⟩, hE⟩ : ∃ E, endV L R = E := ⟨_, rfl⟩
  have HE : Hid (endV L R = (ea, ek, ee)) := hE
  rw [hE]
  obtain ⟨H, hH⟩ : ∃ H : Int, (h : Int) = H := ⟨_, rfl⟩
  have HH : Hid ((h : Int) = H) := hH
  rw [hH]
  clear hv ha hn hw hR hT hX hI hE hH
  go_enter Tryd.func30, Tryd.ntmps30
  go_wp2
  go_loopw [1, 2, 11, 12, 13, 14] (fun v1 v2 _ _ _ _ wr => ∃ a N, TxN wr v1 a ∧ TxN wr v2 N ∧ Wk L h a N ∧ walkV L h a N = R ∧ Below w.heap.size w wr) (fun _ v2 _ _ _ _ _ => rowLen v2)
  case atStart => exact ⟨a0, N0, H0.out.2.1, H0.out.2.2.1, H0.out.2.2.2, HR.out, Below.refl _ _⟩
  case round =>
    obtain ⟨a, N, ha, hn, hwk, heq, hbw⟩ := hrel
    obtain ⟨pa, ca, hva⟩ := ha.form
    obtain ⟨pn, cn, hvn⟩ := hn.form
    subst hva hvn
    have H1 : Hid (NdR wr v L ∧ TxN wr (.slice pa a.length ca) a ∧ TxN wr (.slice pn N.length cn) N ∧ Wk L h a N ∧ walkV L h a N = R ∧ Below w.heap.size w wr) := ⟨H0.out.1.over hbw, ha, hn, hwk, heq, hbw⟩
    clear ha hn hwk heq hbw
    cases N with
    | nil =>
      have HJ : Hid (Calls Tryd.prog 48 #[.slice pa a.length ca] wr fun e w' => e = .returned (.string (bar (joinP a))) ∧ w' = wr) := rjoin_any _ _ wr H1.out.2.1.txR (by have := H1.out.2.2.2.1.pl.cl.len; have := len_joinF a; omega) (by have := H1.out.2.2.2.1.pl.cl.len; omega)
      obtain ⟨y, hy, hyk, _⟩ := at_kind H1.out.2.2.2.1.pl
      have HE2 : Hid (ea = joinP a ∧ ek = y.k ∧ ee = 0) := by
        have h1 := H1.out.2.2.2.2.1
        rw [walk_nil] at h1
        have h2 := HE.out
        rw [← h1] at h2
        have h3 : (joinP a, kindOf L a, (0 : Int)) = (ea, ek, ee) := h2
        cases h3
        exact ⟨rfl, hyk.symm, rfl⟩
      have HF1 : Hid (∀ W, NdR W v L → Calls Tryd.prog 14 #[v, .string (bar (joinP a))] W (Tells W (.tuple #[.agg #[.string (bar y.p), .int .i64 y.k, .string (bar y.t)], .bool true]))) := fun W h => by
        have := HFD.out (bar (joinP a)) W h
        rw [lst_bar, hy] at this
        exact this
      clear hy hyk
      generalize a.length = ka at *
      go_wp2_with fail
      refine HJ.out.mono ?_
      rintro e w2 ⟨rfl, hw2⟩; subst w2
      go_wp2_with fail
      refine (HF1.out _ H1.out.1).mono ?_
      rintro e w3 ⟨rfl, hb3⟩
      have H3 : Hid (Below w.heap.size w w3 ∧ (∀ o : Obj, Below w.heap.size w (w3.alloc o)) ∧ Below wr.heap.size wr w3) := ⟨H1.out.2.2.2.2.2.trans (hb3.mono H1.out.2.2.2.2.2.size), fun o => (H1.out.2.2.2.2.2.trans (hb3.mono H1.out.2.2.2.2.2.size)).trans ((below_new w3 o).mono (Nat.le_trans H1.out.2.2.2.2.2.size hb3.size)), hb3⟩
      clear hb3
      generalize bar y.p = yp at *
      generalize y.k = yk at *
      generalize bar y.t = yt at *
      obtain ⟨d0, d1, d2⟩ := nd_cells w3 (.string yp) (.int .i64 yk) (.string yt)
      have HJ2 : Hid (∀ X, Below w3.heap.size w3 X → Calls Tryd.prog 48 #[.slice pa ka ca] X fun e w' => e = .returned (.string (bar (joinP a))) ∧ w' = X) := fun X hX => rjoin_any _ _ X (H1.out.2.1.over (H3.out.2.2.trans (hX.mono H3.out.2.2.size))).txR (by have := H1.out.2.2.2.1.pl.cl.len; have := len_joinF a; omega) (by have := H1.out.2.2.2.1.pl.cl.len; omega)
      have HJ3 : Hid (∀ q, Calls Tryd.prog 48 #[.slice pa ka ca] ((w3.alloc (.cells #[.string yp, .int .i64 yk, .string yt] 29)).drewN q) fun e w' => e = .returned (.string (bar (joinP a))) ∧ w' = (w3.alloc (.cells #[.string yp, .int .i64 yk, .string yt] 29)).drewN q) := fun q => HJ2.out _ ((below_new w3 _).trans ((below_drewN _ q).mono (below_new w3 _).size))
      go_wp2_with fail
      go_quiet ((go_at_call 48; refine Calls.quiet_of_same (HJ3.out _)))
      go_wp2_with fail
      go_ret3
      exact ⟨by rw [HE2.out.1, HE2.out.2.1, HE2.out.2.2]; rfl, (H3.out.2.1 _).trans ((below_drewN _ _).mono (H3.out.2.1 _).size)⟩
    | cons n r =>
      have hkn : (n :: r).length = r.length + 1 := rfl
      rw [hkn] at H1 ⊢
      obtain ⟨kr, hkr⟩ : ∃ k, r.length = k := ⟨_, rfl⟩
      have HKR : Hid (r.length = kr ∧ kr ≤ 3000) := ⟨hkr, by
        have := H1.out.2.2.2.1.len
        rw [List.length_cons] at this
        omega⟩
      have hkr5 : kr ≤ 3000 := HKR.out.2
      rw [hkr] at H1 ⊢
      clear hkn hkr
      obtain ⟨kn, hkn⟩ : ∃ k, kr + 1 = k := ⟨_, rfl⟩
      rw [hkn] at H1 ⊢
      have hk0 : (0 : Int) < (kn : Int) := by omega
      have HKN : Hid (kr + 1 = kn) := hkn
      obtain ⟨b, o, e1, c0⟩ := H1.out.2.2.1.at (i := 0) (by simp)
      subst e1
      rw [Nat.add_zero, List.getElem_cons_zero] at c0
      obtain ⟨nv, hnv, hcut⟩ := H1.out.2.2.1.lo 1 (by omega)
      clear hkn
      have hcut1 : ∀ w, (Instr.sliceAt 52 (.slice (some ⟨b, o, none⟩) kn cn) (some (.int .i64 1)) none none).run Tryd.prog w = .ok nv w := hcut
      have HNV : Hid (TxN wr nv r) := hnv
      obtain ⟨pr, cr, hvr⟩ := HNV.out.form
      rw [HKR.out.1] at hvr
      subst hvr
      obtain ⟨nb, hnb⟩ : ∃ s, bar n = s := ⟨_, rfl⟩
      have HNB : Hid (bar n = nb) := hnb
      rw [hnb] at c0
      clear hcut hnv hnb
      by_cases hd : n = [46, 46]
      · have q1 : (nb.toList == [46, 46]) = true := by rw [← HNB.out, toList_bar, hd]; rfl
        have H2 : Hid (Wk L h a.dropLast r ∧ walkV L h a.dropLast r = R) := ⟨H1.out.2.2.2.1.dots HT.out.1, by have := H1.out.2.2.2.2.1; rwa [walk_dots hd] at this⟩
        have hla : a.length ≤ 256 := by have h1 := H1.out.2.2.2.1.pl.cl.len; have h2 := len_joinF a; omega
        clear hd
        by_cases h0 : a.length = 0
        · obtain ⟨hT0, hcut2⟩ := H1.out.2.1.hi 0 (by omega)
          have hcut3 : ∀ w, (Instr.sliceAt 52 (.slice pa 0 ca) none (some (.int .i64 0)) none).run Tryd.prog w = .ok (.slice pa 0 ca) w := by
            rw [h0] at hcut2
            exact hcut2
          have HT0 : Hid (TxN wr (.slice pa 0 ca) a.dropLast) := by
            have e : a.dropLast = a.take 0 := by rw [List.eq_nil_of_length_eq_zero h0]; rfl
            rw [e]
            exact hT0
          clear hT0 hcut2 hla
          rw [h0]
          clear h0
          go_wp2_with fail
          go_roundw
          case rel => exact ⟨_, _, HT0.out, HNV.out, H2.out.1, H2.out.2, H1.out.2.2.2.2.2⟩
          case measure => simp [rowLen]; have := HKN.out; omega
        · obtain ⟨m, hm⟩ : ∃ m, a.length = m + 1 := ⟨a.length - 1, by omega⟩
          obtain ⟨hT0, hcut2⟩ := H1.out.2.1.hi m (by omega)
          obtain ⟨k, hk⟩ : ∃ k, a.length = k := ⟨_, rfl⟩
          rw [hk] at hcut2 hm hla ⊢
          have HT0 : Hid (TxN wr (.slice pa m ca) a.dropLast) := by
            have e : a.dropLast = a.take m := by rw [List.dropLast_eq_take, hk, hm]; rfl
            rw [e]
            exact hT0
          have hmm : (k : Int) - 1 = (m : Int) := by omega
          have hmw : IntKind.i64.wrap (m : Int) = (m : Int) := by rw [IntKind.wrap_i64]; omega
          have hmx : max (m : Int) 0 = (m : Int) := by omega
          have hm1 : ¬ (m : Int) < 0 := by omega
          have hm0 : (0 : Int) ≤ (m : Int) := by omega
          clear hT0 hla h0 hk hm
          go_wp2_with fail
          go_roundw
          case rel => exact ⟨_, _, HT0.out, HNV.out, H2.out.1, H2.out.2, H1.out.2.2.2.2.2⟩
          case measure => simp [rowLen]; have := HKN.out; omega
      · have q1 : (nb.toList == [46, 46]) = false := by rw [← HNB.out, toList_bar]; exact beq_eq_false_iff_ne.2 hd
        have HD : Hid (n ≠ [46, 46] ∧ a.length ≤ 256 ∧ (joinF (a ++ [n])).length ≤ 1000 ∧ (joinP (a ++ [n])).length ≤ 1000) := ⟨hd, H1.out.2.2.2.1.more⟩
        clear hd
        have HSC : Hid (Sc (wr.alloc (.cells #[] 9)) (.slice pa a.length ca) (cellsT a)) := (H1.out.2.1.over (below_new wr _)).txR
        generalize hka : a.length = ka at *
        have HKA : Hid (a.length = ka) := hka
        clear hka
        go_wp2_with (first
          | (at_builtin; refine list_app (base := wr.heap.size) (xs := []) (ys := cellsT a) ety_s rfl _ _ rfl rfl rfl (row_fresh wr 9) HSC.out (one_t a) (by rw [cellsT_len]; have := HD.out.2.1; have := HKA.out; omega) (below_new wr _).size ?_; intro v7 w7 ha7; have HA7 : Hid (App 9 wr.heap.size (wr.alloc (.cells #[] 9)) w7 _ v7 ([] ++ cellsT a)) := ha7; clear ha7; have H7 : Hid (w7.ownsRow wr.heap.size 9 1 v7 a.length (cellsT a) ∧ Below wr.heap.size wr w7) := ⟨by have h1 := HA7.out.own; rw [List.nil_append, cellsT_len] at h1; exact h1, HA7.out.below (row_fresh wr 9) (below_new wr _)⟩)
          | (at_builtin; refine list_app (base := wr.heap.size) (xs := cellsT a) (ys := [.string nb]) ety_s rfl _ _ rfl rfl rfl (owns_below H7.out.1 (below_new w7 _) (Nat.le_refl _)) (sc_one w7 (.string nb) 9) (by intro u hu; rw [List.mem_singleton.1 hu]; rfl) (by have := HD.out.2.1; have := HKA.out; simp only [List.length_singleton]; omega) (Nat.le_trans H7.out.2.size (below_new w7 _).size) ?_; intro v8 w8 ha8; have HA8 : Hid (App 9 wr.heap.size (w7.alloc (.cells #[.string nb] 9)) w8 v7 v8 (cellsT a ++ [.string nb])) := ha8; clear ha8)
          | fail)
        have H8 : Hid (w8.ownsRow wr.heap.size 9 1 v8 (a ++ [n]).length (cellsT (a ++ [n])) ∧ Below wr.heap.size wr w8) := by
          have h1 := HA8.out.own
          have e1 : cellsT a ++ [.string nb] = cellsT (a ++ [n]) := by rw [cellsT_app, ← HNB.out]; rfl
          rw [e1, cellsT_len] at h1
          exact ⟨h1, HA8.out.below (owns_below H7.out.1 (below_new w7 _) (Nat.le_refl _)) (H7.out.2.trans ((below_new w7 _).mono H7.out.2.size))⟩
        refine (rjoin_any v8 (a ++ [n]) w8 (tx_own H8.out.1).txR (by rw [List.length_append]; have := HD.out.2.1; have := HKA.out; show _ + 1 ≤ _; omega) (by have := HD.out.2.2.1; omega)).mono ?_
        rintro e w9 ⟨rfl, hw9⟩; subst w9
        have HFX : Hid (∀ W, NdR W v L → Calls Tryd.prog 14 #[v, .string (bar (joinP (a ++ [n])))] W (Tells W (tellF (findN L (joinP (a ++ [n])))))) := fun W h => by
          have := HFD.out (bar (joinP (a ++ [n]))) W h
          rw [lst_bar] at this
          exact this
        cases hf : findN L (joinP (a ++ [n])) with
        | none =>
          have HF1 : Hid (∀ W, NdR W v L → Calls Tryd.prog 14 #[v, .string (bar (joinP (a ++ [n])))] W (Tells W (.tuple #[.agg #[.string ⟨#[]⟩, .int .i64 0, .string ⟨#[]⟩], .bool false]))) := by
            have := HFX.out
            rw [hf] at this
            exact this
          have HE2 : Hid (ea = [] ∧ ek = 0 ∧ ee = 17) := by
            have h1 := H1.out.2.2.2.2.1
            rw [walk_none HD.out.1 hf] at h1
            have h2 := HE.out
            rw [← h1] at h2
            cases h2
            exact ⟨rfl, rfl, rfl⟩
          clear hf HFX
          generalize bar (joinP (a ++ [n])) = jb at *
          go_wp2_with fail
          refine (HF1.out _ (H1.out.1.over H8.out.2)).mono ?_
          rintro e w10 ⟨rfl, hb10⟩
          have H10 : Hid (∀ o : Obj, Below w.heap.size w (w10.alloc o)) := fun o => by
            have h1 := H8.out.2.trans (hb10.mono H8.out.2.size)
            have h2 := h1.trans ((below_new w10 o).mono h1.size)
            exact H1.out.2.2.2.2.2.trans (h2.mono H1.out.2.2.2.2.2.size)
          clear hb10
          go_wp2_with fail
          go_ret3
          exact ⟨by rw [HE2.out.1, HE2.out.2.1, HE2.out.2.2]; rfl, H10.out _⟩
        | some x =>
          have HF1 : Hid (∀ W, NdR W v L → Calls Tryd.prog 14 #[v, .string (bar (joinP (a ++ [n])))] W (Tells W (.tuple #[.agg #[.string (bar x.p), .int .i64 x.k, .string (bar x.t)], .bool true]))) := by
            have := HFX.out
            rw [hf] at this
            exact this
          have HF : Hid (findN L (joinP (a ++ [n])) = some x) := hf
          clear hf HFX
          obtain ⟨xt, hxt⟩ : ∃ s, bar x.t = s := ⟨_, rfl⟩
          have HXT : Hid (bar x.t = xt) := hxt
          rw [hxt] at HF1
          clear hxt
          generalize bar (joinP (a ++ [n])) = jb at *
          generalize bar x.p = xp at *
          go_wp2_with fail
          refine (HF1.out _ (H1.out.1.over H8.out.2)).mono ?_
          rintro e w10 ⟨rfl, hb10⟩
          have H10 : Hid (Below wr.heap.size wr (w10.alloc (.cells #[.string xp, .int .i64 x.k, .string xt] 29)) ∧ TxN (w10.alloc (.cells #[.string xp, .int .i64 x.k, .string xt] 29)) v8 (a ++ [n])) := by
            have h3 := hb10.trans ((below_new w10 (.cells #[.string xp, .int .i64 x.k, .string xt] 29)).mono hb10.size)
            exact ⟨H8.out.2.trans (h3.mono H8.out.2.size), (tx_own H8.out.1).over h3⟩
          clear hb10
          obtain ⟨d0, d1, d2⟩ := nd_cells w10 (.string xp) (.int .i64 x.k) (.string xt)
          have hkd := (H1.out.2.2.2.1.kind HT.out.1 HD.out.1 HF.out).1
          have hk3 : x.k = 3 ∨ x.k = 1 ∨ x.k = 2 := by
            rcases kind_ok hkd with e | e | ⟨e, _⟩
            · exact .inr (.inl e)
            · exact .inr (.inr e)
            · exact .inl e
          clear hkd
          rcases hk3 with hk | hk | hk
          · rw [hk] at H10 d1 ⊢
            by_cases hz : h = 0
            · have HZ : Hid (h = 0) := hz
              have HE2 : Hid (ea = [] ∧ ek = 0 ∧ ee = 19) := by
                have h1 := H1.out.2.2.2.2.1
                have hz2 := HZ.out
                subst hz2
                rw [walk_link0 HD.out.1 HF.out hk] at h1
                have h2 := HE.out
                rw [← h1] at h2
                cases h2
                exact ⟨rfl, rfl, rfl⟩
              have g1 : (H == 0) = true := by rw [← HH.out, hz]; rfl
              go_wp2_with fail
              go_ret3
              exact ⟨by rw [HE2.out.1, HE2.out.2.1, HE2.out.2.2]; rfl, H1.out.2.2.2.2.2.trans (H10.out.1.mono H1.out.2.2.2.2.2.size)⟩
            · obtain ⟨g, hg⟩ : ∃ g, h = g + 1 := ⟨h - 1, by omega⟩
              have hg1 : H - 1 = (g : Int) := by rw [← HH.out, hg]; omega
              have hg2 : IntKind.i64.wrap (g : Int) = (g : Int) := by rw [IntKind.wrap_i64]; have := HT.out.2.2; omega
              have hg3 : (H == 0) = false := by rw [← HH.out]; exact beq_eq_false_iff_ne.2 (by omega)
              have HL : Hid (targetOk x.t = true ∧ Wk L g (if x.t.head? = some 47 then [] else a) (partsP x.t ++ r) ∧ walkV L g (if x.t.head? = some 47 then [] else a) (partsP x.t ++ r) = R) := by
                have h1 := H1.out.2.2.2.1
                have h2 := H1.out.2.2.2.2.1
                have h3 := HT.out.2.2
                rw [hg] at h1 h2 h3
                have h4 := h1.link HT.out.1 h3 HD.out.1 HF.out hk
                exact ⟨h4.1, h4.2, by rwa [walk_link HD.out.1 HF.out hk] at h2⟩
              have HG : Hid (∀ (v av nv : Value) (W : World), NdR W v L → TxN W av (if x.t.head? = some 47 then [] else a) → TxN W nv (partsP x.t ++ r) → Calls Tryd.prog 30 #[v, av, nv, .int .i64 g] W (Tells W (.tuple #[.string (bar ea), .int .i64 ek, .int .i64 ee]))) := fun v av nv W h1 h2 h3 => by
                have := HI.out g hg v av nv _ _ W h1 h2 h3 HL.out.2.1
                rw [HL.out.2.2, HE.out] at this
                exact this
              have htl := target_ok HL.out.1
              have hxl : xt.size = x.t.length := by rw [← HXT.out, bar_size]
              have hp0 : 0 < xt.size := by
                rw [hxl]
                exact List.length_pos_iff.2 htl.1
              have hp1 : (0 : Int) < (xt.size : Int) := by omega
              have hlx : lst xt = x.t := by rw [← HXT.out, lst_bar]
              have hat := lst_at xt 0 hp0
              rw [hlx] at hat
              have hhd : x.t.head? = some (xt[0]'hp0) := by rw [List.head?_eq_getElem?]; exact hat
              have HPT : Hid (∀ W, Calls Tryd.prog 49 #[.string xt] W fun e w' => RowR W (partsP x.t) e w') := fun W => by
                have := dparts_any xt W (by rw [hxl]; omega)
                rw [hlx] at this
                exact this
              have HPL : Hid ((partsP x.t).length ≤ 257) := by have := (parts_len x.t).1; show _ ≤ _; omega
              clear hat hlx hxl htl hg hk
              by_cases hs : xt[0]'hp0 = 47
              · have q2 : (((xt[0]'hp0).toNat : Int) == 47) = true := by rw [hs]; rfl
                have HAT : Hid (TxN (w10.alloc (.cells #[.string xp, .int .i64 3, .string xt] 29)) (.slice none 0 0) (if x.t.head? = some 47 then [] else a)) := by
                  rw [hhd, hs, if_pos rfl]
                  exact TxN.nil _
                clear hhd hs
                go_wp2_with fail
                refine (HPT.out _).mono ?_
                rintro e w11 ⟨v11, rfl, hown, hb11⟩
                have H11 : Hid (w11.ownsRow (w10.alloc (.cells #[.string xp, .int .i64 3, .string xt] 29)).heap.size 9 1 v11 (partsP x.t).length (cellsT (partsP x.t)) ∧ Below (w10.alloc (.cells #[.string xp, .int .i64 3, .string xt] 29)).heap.size (w10.alloc (.cells #[.string xp, .int .i64 3, .string xt] 29)) w11) := ⟨hown, hb11⟩
                clear hown hb11
                have HNS : Hid (Sc w11 (.slice pr kr cr) (cellsT r)) := (HNV.out.over (H10.out.1.trans (H11.out.2.mono H10.out.1.size))).txR
                go_wp2_with (first
                  | (at_builtin; refine list_app (base := (w10.alloc (.cells #[.string xp, .int .i64 3, .string xt] 29)).heap.size) (xs := cellsT (partsP x.t)) (ys := cellsT r) ety_s rfl _ _ rfl rfl rfl H11.out.1 HNS.out (one_t r) (by rw [cellsT_len]; have := HPL.out; have := HKR.out; omega) H11.out.2.size ?_; intro v12 w12 ha12; have HA12 : Hid (App 9 (w10.alloc (.cells #[.string xp, .int .i64 3, .string xt] 29)).heap.size w11 w12 v11 v12 (cellsT (partsP x.t) ++ cellsT r)) := ha12; clear ha12)
                  | fail)
                have H12 : Hid (TxN w12 v12 (partsP x.t ++ r) ∧ Below (w10.alloc (.cells #[.string xp, .int .i64 3, .string xt] 29)).heap.size (w10.alloc (.cells #[.string xp, .int .i64 3, .string xt] 29)) w12) := by
                  have h1 := HA12.out.own
                  rw [← cellsT_app] at h1
                  exact ⟨tx_own h1, HA12.out.below H11.out.1 H11.out.2⟩
                refine (HG.out _ _ _ _ (H1.out.1.over (H10.out.1.trans (H12.out.2.mono H10.out.1.size))) (HAT.out.over H12.out.2) H12.out.1).mono ?_
                rintro e w13 ⟨rfl, hb13⟩
                have H13 : Hid (Below w.heap.size w w13) := by
                  have h1 := H12.out.2.trans (hb13.mono H12.out.2.size)
                  have h2 := H10.out.1.trans (h1.mono H10.out.1.size)
                  exact H1.out.2.2.2.2.2.trans (h2.mono H1.out.2.2.2.2.2.size)
                clear hb13
                go_wp2_with fail
                go_ret3
                exact ⟨rfl, H13.out⟩
              · have q2 : (((xt[0]'hp0).toNat : Int) == 47) = false := u8_ne (d := 47) hs
                have HAT : Hid (TxN (w10.alloc (.cells #[.string xp, .int .i64 3, .string xt] 29)) (.slice pa ka ca) (if x.t.head? = some 47 then [] else a)) := by
                  rw [hhd, if_neg (fun e => hs (Option.some.inj e))]
                  have := H1.out.2.1.over H10.out.1
                  exact this
                clear hhd hs
                go_wp2_with fail
                refine (HPT.out _).mono ?_
                rintro e w11 ⟨v11, rfl, hown, hb11⟩
                have H11 : Hid (w11.ownsRow (w10.alloc (.cells #[.string xp, .int .i64 3, .string xt] 29)).heap.size 9 1 v11 (partsP x.t).length (cellsT (partsP x.t)) ∧ Below (w10.alloc (.cells #[.string xp, .int .i64 3, .string xt] 29)).heap.size (w10.alloc (.cells #[.string xp, .int .i64 3, .string xt] 29)) w11) := ⟨hown, hb11⟩
                clear hown hb11
                have HNS : Hid (Sc w11 (.slice pr kr cr) (cellsT r)) := (HNV.out.over (H10.out.1.trans (H11.out.2.mono H10.out.1.size))).txR
                go_wp2_with (first
                  | (at_builtin; refine list_app (base := (w10.alloc (.cells #[.string xp, .int .i64 3, .string xt] 29)).heap.size) (xs := cellsT (partsP x.t)) (ys := cellsT r) ety_s rfl _ _ rfl rfl rfl H11.out.1 HNS.out (one_t r) (by rw [cellsT_len]; have := HPL.out; have := HKR.out; omega) H11.out.2.size ?_; intro v12 w12 ha12; have HA12 : Hid (App 9 (w10.alloc (.cells #[.string xp, .int .i64 3, .string xt] 29)).heap.size w11 w12 v11 v12 (cellsT (partsP x.t) ++ cellsT r)) := ha12; clear ha12)
                  | fail)
                have H12 : Hid (TxN w12 v12 (partsP x.t ++ r) ∧ Below (w10.alloc (.cells #[.string xp, .int .i64 3, .string xt] 29)).heap.size (w10.alloc (.cells #[.string xp, .int .i64 3, .string xt] 29)) w12) := by
                  have h1 := HA12.out.own
                  rw [← cellsT_app] at h1
                  exact ⟨tx_own h1, HA12.out.below H11.out.1 H11.out.2⟩
                refine (HG.out _ _ _ _ (H1.out.1.over (H10.out.1.trans (H12.out.2.mono H10.out.1.size))) (HAT.out.over H12.out.2) H12.out.1).mono ?_
                rintro e w13 ⟨rfl, hb13⟩
                have H13 : Hid (Below w.heap.size w w13) := by
                  have h1 := H12.out.2.trans (hb13.mono H12.out.2.size)
                  have h2 := H10.out.1.trans (h1.mono H10.out.1.size)
                  exact H1.out.2.2.2.2.2.trans (h2.mono H1.out.2.2.2.2.2.size)
                clear hb13
                go_wp2_with fail
                go_ret3
                exact ⟨rfl, H13.out⟩
          · have hk3 : x.k ≠ 3 := by rw [hk]; decide
            rw [hk] at H10 d1 ⊢
            by_cases hr0 : kr = 0
            · have hrr : r = [] := List.eq_nil_of_length_eq_zero (HKR.out.1.trans hr0)
              have H2 : Hid (Wk L h (a ++ [n]) r ∧ walkV L h (a ++ [n]) r = R) := ⟨H1.out.2.2.2.1.on HT.out.1 HD.out.1 HF.out hk3, by have := H1.out.2.2.2.2.1; rwa [walk_on HD.out.1 HF.out hk3 (fun _ => hrr)] at this⟩
              rw [hr0]
              have HR0 : Hid (kr = 0) := hr0
              clear hrr hr0 hk3 hk
              go_wp2_with fail
              go_roundw
              case rel => exact ⟨_, _, H10.out.2, by have := HNV.out.over H10.out.1; rwa [HR0.out] at this, H2.out.1, H2.out.2, H1.out.2.2.2.2.2.trans (H10.out.1.mono H1.out.2.2.2.2.2.size)⟩
              case measure => simp [rowLen]; have := HKN.out; omega
            · have g1 : (0 : Int) < (kr : Int) := by omega
              have g1' : decide ((0 : Int) < (kr : Int)) = true := decide_eq_true g1
              have HE2 : Hid (ea = [] ∧ ek = 0 ∧ ee = 20) := by
                have h1 := H1.out.2.2.2.2.1
                rw [walk_file HD.out.1 HF.out hk (fun e => hr0 (by rw [← HKR.out.1, e]; rfl))] at h1
                have h2 := HE.out
                rw [← h1] at h2
                cases h2
                exact ⟨rfl, rfl, rfl⟩
              go_wp2_with fail
              go_ret3
              exact ⟨by rw [HE2.out.1, HE2.out.2.1, HE2.out.2.2]; rfl, H1.out.2.2.2.2.2.trans (H10.out.1.mono H1.out.2.2.2.2.2.size)⟩
          · have hk3 : x.k ≠ 3 := by rw [hk]; decide
            have H2 : Hid (Wk L h (a ++ [n]) r ∧ walkV L h (a ++ [n]) r = R) := ⟨H1.out.2.2.2.1.on HT.out.1 HD.out.1 HF.out hk3, by have := H1.out.2.2.2.2.1; rwa [walk_on HD.out.1 HF.out hk3 (fun e => by rw [hk] at e; cases e)] at this⟩
            rw [hk] at H10 d1 ⊢
            clear hk3 hk
            go_wp2_with fail
            go_roundw
            case rel => exact ⟨_, _, H10.out.2, HNV.out.over H10.out.1, H2.out.1, H2.out.2, H1.out.2.2.2.2.2.trans (H10.out.1.mono H1.out.2.2.2.2.2.size)⟩
            case measure => simp [rowLen]; have := HKN.out; omega

end Go.Proofs.YtilemgpopjlchaaDoor
