/-
  The program's follow: names gone through in a loop that a link begins anew.
-/
import Derived.Test.YtilemgpopjlchaaDoorTFlM
import Derived.Test.YtilemgpopjlchaaDoorTBy
import Derived.Test.YtilemgpopjlchaaDoorTPt
import Derived.Test.YtilemgpopjlchaaDoorTCc
namespace Go.Proofs.YtilemgpopjlchaaDoor
open Go.RowKit Go.Shelf

/-- what holds where the loop begins. -/
def FlJ (B : Nat) (L : List Nd) (R : Sum Int (List Nm)) (w : World) (a' : Act) (W : World) : Prop :=
  ∃ (g h : Nat) (a N : List Nm) (lv u2 u3 u4 u5 u6 u9 u10 u11 u12 u13 u14 u15 u16 u17 u18 u19 u20 u21 u22 u23 u24 u25 u26 u27 u28 u29 u30 u31 u32 u33 u34 u35 u36 u37 u38 u39 u40 u41 u42 u43 u44 u45 u46 u47 u48 u49 u50 u51 u52 u53 u54 u55 u56 u57 u58 u59 u60 u61 u62 u63 u64 u65 u66 u67 u68 u69 : Value), a' = { tmps := #[.map (some B), lv, u2, u3, u4, u5, u6, .string (bar (joinP a)), .int .i64 g, u9, u10, u11, u12, u13, u14, u15, u16, u17, u18, u19, u20, u21, u22, u23, u24, u25, u26, u27, u28, u29, u30, u31, u32, u33, u34, u35, u36, u37, u38, u39, u40, u41, u42, u43, u44, u45, u46, u47, u48, u49, u50, u51, u52, u53, u54, u55, u56, u57, u58, u59, u60, u61, u62, u63, u64, u65, u66, u67, u68, u69], defers := [] } ∧ g + h = 8 ∧ Below w.heap.size w W ∧ TxN W lv N ∧ Wk L h a N ∧ progV L h a N = R
/-- what the last region of a link comes to. -/
def FlG (B : Nat) (at' g' : Value) (M : List Nm) (W : World) (a' : Act) (w' : World) : Prop :=
  ∃ (lv u2 u3 u4 u5 u6 u9 u10 u11 u12 u13 u14 u15 u16 u17 u18 u19 u20 u21 u22 u23 u24 u25 u26 u27 u28 u29 u30 u31 u32 u33 u34 u35 u36 u37 u38 u39 u40 u41 u42 u43 u44 u45 u46 u47 u48 u49 u50 u51 u52 u53 u54 u55 u56 u57 u58 u59 u60 u61 u62 u63 u64 u65 u66 u67 u68 u69 : Value), a' = { tmps := #[.map (some B), lv, u2, u3, u4, u5, u6, at', g', u9, u10, u11, u12, u13, u14, u15, u16, u17, u18, u19, u20, u21, u22, u23, u24, u25, u26, u27, u28, u29, u30, u31, u32, u33, u34, u35, u36, u37, u38, u39, u40, u41, u42, u43, u44, u45, u46, u47, u48, u49, u50, u51, u52, u53, u54, u55, u56, u57, u58, u59, u60, u61, u62, u63, u64, u65, u66, u67, u68, u69], defers := [] } ∧ TxN w' lv M ∧ Below W.heap.size W w'

set_option maxRecDepth 1000000 in
set_option maxHeartbeats 40000000 in
theorem tfollow_any (B : Nat) (L : List Nd) (N : List Nm) (lv : Value) (w : World) (R : Sum Int (List Nm)) (hT : Tr L) (hm : MpN w B (rootN :: L)) (hv : TxN w lv N) (hw : Wk L 8 [] N) (hR : progV L 8 [] N = R) :
    Calls Tryd.prog 27 #[.map (some B), lv] w (Tells w (tellR (endV L R))) := by
  obtain ⟨⟨ea, ek, ee⟩, hE⟩ : ∃ E, endV L R = E := ⟨_, rfl⟩
  have HE : Hid (endV L R = (ea, ek, ee)) := hE
  have H0 : Hid (Tr L ∧ MpN w B (rootN :: L) ∧ TxN w lv N ∧ Wk L 8 [] N ∧ progV L 8 [] N = R) := ⟨hT, hm, hv, hw, hR⟩
  rw [hE]
  clear hE hT hm hv hw hR
  go_enter Tryd.func27, Tryd.ntmps27
  go_wp2
  refine wp_scope_once 0 (FlJ B L R w) (fun a' _ => 8 - (intOf (a'.tmps.getD 8 undef)).toNat) rfl ?pass ?first
  case first =>
    intro hpass
    go_wp2
    go_step3
    simp only [Exit.then]
    rename_i hKx
    refine hKx _ _ ?_
    exact hpass _ _ ⟨0, 8, [], N, _, _, _, _, _, _, _, _, _, _, _, _, _, _, _, _, _, _, _, _, _, _, _, _, _, _, _, _, _, _, _, _, _, _, _, _, _, _, _, _, _, _, _, _, _, _, _, _, _, _, _, _, _, _, _, _, _, _, _, _, _, _, _, _, _, _, _, rfl, rfl, Below.refl _ _, H0.out.2.2.1, H0.out.2.2.2.1, H0.out.2.2.2.2⟩
  case pass =>
    rintro a' W ⟨g, h, a, N, lv, u2, u3, u4, u5, u6, u9, u10, u11, u12, u13, u14, u15, u16, u17, u18, u19, u20, u21, u22, u23, u24, u25, u26, u27, u28, u29, u30, u31, u32, u33, u34, u35, u36, u37, u38, u39, u40, u41, u42, u43, u44, u45, u46, u47, u48, u49, u50, u51, u52, u53, u54, u55, u56, u57, u58, u59, u60, u61, u62, u63, u64, u65, u66, u67, u68, u69, rfl, hgh, hbw, hv, hwk, hR⟩
    obtain ⟨p, c, rfl⟩ := hv.form
    obtain ⟨k, hk⟩ : ∃ k, N.length = k := ⟨_, rfl⟩
    have HK : Hid (N.length = k ∧ k ≤ 2700 ∧ g + h = 8) := ⟨hk, by have := hwk.len; omega, hgh⟩
    rw [hk] at hv ⊢
    have H1 : Hid (Below w.heap.size w W ∧ TxN W (.slice p k c) N ∧ Wk L h a N ∧ progV L h a N = R) := ⟨hbw, hv, hwk, hR⟩
    clear hv hwk hR hbw hgh hk
    have hfd := field_k
    go_wp2
    go_loopw [1, 7, 8, 9, 10, 11, 12, 13, 16] (fun v1 v7 v8 _ _ _ _ _ v16 wr => ∃ (a : List Nm) (i : Nat), v7 = .string (bar (joinP a)) ∧ v16 = .int .i64 i ∧ v1 = .slice p k c ∧ v8 = .int .i64 g ∧ i ≤ k ∧ Wk L h a (N.drop i) ∧ progV L h a (N.drop i) = R ∧ Below W.heap.size W wr) (fun _ _ _ _ _ _ _ _ v16 _ => k - (intOf v16).toNat)
    case atStart => exact ⟨a, 0, rfl, rfl, rfl, rfl, Nat.zero_le _, H1.out.2.2.1, H1.out.2.2.2, Below.refl _ _⟩
    case round =>
      obtain ⟨a, i, rfl, rfl, rfl, rfl, hi, hwk, hpr, hbw⟩ := hrel
      have HW0 : Hid (Below w.heap.size w wr) := H1.out.1.trans (hbw.mono H1.out.1.size)
      have HN : Hid (MpN wr B (rootN :: L) ∧ TxN wr (.slice p k c) N ∧ Wk L h a (N.drop i) ∧ progV L h a (N.drop i) = R ∧ Below W.heap.size W wr) := ⟨H0.out.2.1.over HW0.out, H1.out.2.1.over hbw, hwk, hpr, hbw⟩
      obtain ⟨ab, hab⟩ : ∃ u, bar (joinP a) = u := ⟨_, rfl⟩
      have HAB : Hid (bar (joinP a) = ab ∧ lst ab = joinP a) := ⟨hab, by rw [← hab, lst_bar]⟩
      have HSZ : Hid (ab.size ≤ 100000) := by
        have h1 := joinP_len a
        have h2 := hwk.pl.cl.len
        show _ ≤ _
        rw [← hab, bar_size]
        omega
      rw [hab]
      clear hab hwk hpr hbw
      obtain ⟨y, hy1, hy2, hy3⟩ := at_kind HN.out.2.2.1.pl
      have hky : kindOf L a = y.k := hy2.symm
      have HLK : Hid (∀ X, MpN X B (rootN :: L) → (Instr.lookup 42 (.map (some B)) (.string ab) false).run Tryd.prog X = .ok (.agg #[.string (bar y.p), .int .i64 y.k, .string (bar y.t)]) X) := fun X hX => by
        have h1 := run_atN (s := ab) HSZ.out hX
        rw [HAB.out.2, findL_root, hy1] at h1
        exact h1
      have hlk := HLK.out wr HN.out.1
      obtain ⟨yp, hyp⟩ : ∃ u, bar y.p = u := ⟨_, rfl⟩
      obtain ⟨yt, hyt⟩ : ∃ u, bar y.t = u := ⟨_, rfl⟩
      rw [hyp, hyt] at hlk HLK
      clear hyp hyt hy1 hy2
      by_cases hlt : i < k
      · have hi1 : (i : Int) < (k : Int) := by omega
        have hiN : i < N.length := by have := HK.out.1; omega
        have hdr : N.drop i = N[i] :: N.drop (i + 1) := List.drop_eq_getElem_cons hiN
        obtain ⟨b, o, e1, t0⟩ := HN.out.2.1.at hiN
        subst e1
        obtain ⟨n, hn⟩ : ∃ n, N[i] = n := ⟨_, rfl⟩
        obtain ⟨r, hr⟩ : ∃ r, N.drop (i + 1) = r := ⟨_, rfl⟩
        rw [hn, hr] at hdr
        have HW : Hid (Wk L h a (n :: r) ∧ progV L h a (n :: r) = R ∧ N.drop (i + 1) = r) := ⟨hdr ▸ HN.out.2.2.1, hdr ▸ HN.out.2.2.2.1, hr⟩
        obtain ⟨nb, hnb⟩ : ∃ u, bar n = u := ⟨_, rfl⟩
        rw [hn, hnb] at t0
        have HNB : Hid (bar n = nb ∧ lst nb = n) := ⟨hnb, by rw [← hnb, lst_bar]⟩
        have hi1w : IntKind.i64.wrap ((i : Int) + 1) = (i : Int) + 1 := by rw [IntKind.wrap_i64]; have := HK.out.2.1; omega
        clear hn hr hdr hnb hiN
        by_cases hfile : y.k = 1
        · have HE2 : Hid (ea = [] ∧ ek = 0 ∧ ee = 20) := by
            have h1 := HW.out.2.1
            rw [prog_file (hky.trans hfile)] at h1
            have h2 := HE.out
            rw [← h1] at h2
            cases h2
            exact ⟨rfl, rfl, rfl⟩
          rw [hfile] at hlk
          clear hky hy3 hfile
          go_wp2_with fail
          go_ret3
          exact ⟨by rw [HE2.out.1, HE2.out.2.1, HE2.out.2.2]; rfl, HW0.out⟩
        · have g1 : (y.k == 1) = false := beq_eq_false_iff_ne.2 hfile
          have HG : Hid (walkV L h a (n :: r) = R ∧ kindOf L a ≠ 1) := by
            have h0 : kindOf L a ≠ 1 := by rw [hky]; exact hfile
            exact ⟨by rw [← prog_go h0]; exact HW.out.2.1, h0⟩
          clear hky hy3 hfile
          generalize y.k = yk at *
          by_cases hd : n = [46, 46]
          · have hcm : (nb.toList == [46, 46]) = true := by rw [toList_lst, HNB.out.2, hd]; rfl
            have HUP : Hid (Calls Tryd.prog 43 #[.string ab] wr (Tells wr (.tuple #[.string (bar (joinP a.dropLast)), .int .i64 0]))) := by
              have h1 := tup_any ab wr
              rw [HAB.out.2, (up_join HW.out.1.pl.cl).1, (up_join HW.out.1.pl.cl).2] at h1
              exact h1
            have HR : Hid (Wk L h a.dropLast r ∧ progV L h a.dropLast r = R) := ⟨HW.out.1.dots H0.out.1, by rw [prog_go (up_kind H0.out.1 HW.out.1.pl), ← walk_dots (n := n) hd]; exact HG.out.1⟩
            clear hd
            go_wp2_with fail
            refine HUP.out.mono ?_
            rintro e w1 ⟨rfl, hb1⟩
            have H2 : Hid (Below W.heap.size W w1) := HN.out.2.2.2.2.trans (hb1.mono HN.out.2.2.2.2.size)
            clear hb1
            go_wp2_with fail
            go_roundw
            case rel => exact ⟨a.dropLast, i + 1, rfl, by go_num, rfl, rfl, hlt, by rw [HW.out.2.2]; exact HR.out.1, by rw [HW.out.2.2]; exact HR.out.2, H2.out⟩
            case measure => simp [intOf]; omega
          · have hcm : (nb.toList == [46, 46]) = false := by rw [toList_lst, HNB.out.2]; exact beq_eq_false_iff_ne.2 hd
            have HMO := HW.out.1.more
            have HBL : Hid (Calls Tryd.prog 44 #[.string ab, .string nb] wr fun e w' => e = .returned (.string (bar (joinP (a ++ [n])))) ∧ w' = wr) := by
              have h1 := tbelow_any a nb wr HW.out.1.pl.cl.ok (by have := HW.out.1.pl.cl.len; omega) (by rw [← HNB.out.1, bar_size]; have := (HW.out.1.ok n (List.mem_cons_self ..)).2; omega)
              rw [HAB.out.1, HNB.out.2] at h1
              exact h1
            obtain ⟨jb, hjb⟩ : ∃ u, bar (joinP (a ++ [n])) = u := ⟨_, rfl⟩
            have HJB : Hid (bar (joinP (a ++ [n])) = jb ∧ lst jb = joinP (a ++ [n]) ∧ jb.size ≤ 100000) := ⟨hjb, by rw [← hjb, lst_bar], by rw [← hjb, bar_size]; omega⟩
            have hfr : findL (rootN :: L) (lst jb) = findN L (joinP (a ++ [n])) := by rw [HJB.out.2.1]; exact findL_root L _
            rw [hjb] at HBL
            clear hjb HMO
            cases hf : findN L (joinP (a ++ [n])) with
            | none =>
              have HX1 : Hid (tellF (findL (rootN :: L) (lst jb)) = .tuple #[.agg #[.string ⟨#[]⟩, .int .i64 0, .string ⟨#[]⟩], .bool false]) := by show _ = _; rw [hfr, hf]; rfl
              have HE2 : Hid (ea = [] ∧ ek = 0 ∧ ee = 17) := by
                have h1 := HG.out.1
                rw [walk_none hd hf] at h1
                have h2 := HE.out
                rw [← h1] at h2
                cases h2
                exact ⟨rfl, rfl, rfl⟩
              have HB3 : Hid (Below w.heap.size w (wr.alloc (.cells #[.string ⟨#[]⟩, .int .i64 0, .string ⟨#[]⟩] 29))) := HW0.out.trans ((below_new wr _).mono HW0.out.size)
              clear hf hfr hd
              go_wp2_with fail
              refine HBL.out.mono ?_
              rintro e w1 ⟨rfl, hw1⟩; subst w1
              go_wp2_with (first | (at_lookup; refine list_getN rfl _ _ rfl rfl rfl HJB.out.2.2 HN.out.1 ?_; rw [HX1.out]) | fail)
              go_ret3
              exact ⟨by rw [HE2.out.1, HE2.out.2.1, HE2.out.2.2]; rfl, HB3.out⟩
            | some x =>
              have HX1 : Hid (tellF (findL (rootN :: L) (lst jb)) = .tuple #[.agg #[.string (bar x.p), .int .i64 x.k, .string (bar x.t)], .bool true]) := by show _ = _; rw [hfr, hf]; rfl
              obtain ⟨xt, hxt⟩ : ∃ s, bar x.t = s := ⟨_, rfl⟩
              have HXT : Hid (bar x.t = xt ∧ lst xt = x.t) := ⟨hxt, by rw [← hxt, lst_bar]⟩
              rw [hxt] at HX1
              clear hxt
              generalize bar x.p = xp at *
              by_cases hk3 : x.k = 3
              · by_cases hg8 : g = 8
                · have HE2 : Hid (ea = [] ∧ ek = 0 ∧ ee = 19) := by
                    have h1 := HG.out.1
                    have h0 : h = 0 := by have := HK.out.2.2; omega
                    subst h0
                    rw [walk_link0 hd hf hk3] at h1
                    have h2 := HE.out
                    rw [← h1] at h2
                    cases h2
                    exact ⟨rfl, rfl, rfl⟩
                  have q1 : ((g : Int) == 8) = true := by rw [hg8]; rfl
                  have HB3 : Hid (Below w.heap.size w (wr.alloc (.cells #[.string xp, .int .i64 3, .string xt] 29))) := HW0.out.trans ((below_new wr _).mono HW0.out.size)
                  rw [hk3] at HX1
                  obtain ⟨d0, d1, d2⟩ := nd_cells wr (.string xp) (.int .i64 3) (.string xt)
                  clear hf hfr hd
                  go_wp2_with fail
                  refine HBL.out.mono ?_
                  rintro e w1 ⟨rfl, hw1⟩; subst w1
                  go_wp2_with (first | (at_lookup; refine list_getN rfl _ _ rfl rfl rfl HJB.out.2.2 HN.out.1 ?_; rw [HX1.out]) | fail)
                  go_ret3
                  exact ⟨by rw [HE2.out.1, HE2.out.2.1, HE2.out.2.2]; rfl, HB3.out⟩
                · obtain ⟨h', hh'⟩ : ∃ h', h = h' + 1 := ⟨h - 1, by have := HK.out.2.2; omega⟩
                  subst hh'
                  have hg0 : g ≤ 7 := by have := HK.out.2.2; omega
                  have q1 : ((g : Int) == 8) = false := beq_eq_false_iff_ne.2 (by omega)
                  have q2 : IntKind.i64.wrap ((g : Int) + 1) = ((g + 1 : Nat) : Int) := by rw [IntKind.wrap_i64]; omega
                  have HLK := HW.out.1.link H0.out.1 (by have := HK.out.2.2; omega) hd hf hk3
                  have HL : Hid (Wk L h' (if x.t.head? = some 47 then [] else a) (partsP x.t ++ r) ∧ walkV L h' (if x.t.head? = some 47 then [] else a) (partsP x.t ++ r) = R ∧ x.t.length ≤ 256 ∧ g + 1 + h' = 8) := ⟨HLK.2, by have h2 := HG.out.1; rwa [walk_link hd hf hk3] at h2, (target_ok HLK.1).2.1, by have := HK.out.2.2; omega⟩
                  clear HLK
                  rw [hk3] at HX1
                  have hbz := below_new wr (.cells #[.string xp, .int .i64 3, .string xt] 29)
                  obtain ⟨d0, d1, d2⟩ := nd_cells wr (.string xp) (.int .i64 3) (.string xt)
                  have HPT : Hid (∀ X, Calls Tryd.prog 46 #[.string xt] X fun e w' => ∃ v, e = .returned v ∧ TxN w' v (partsP x.t) ∧ Below X.heap.size X w') := fun X => by
                    have h1 := tparts_any xt X (by rw [← HXT.out.1, bar_size]; have := HL.out.2.2.1; omega)
                    rw [HXT.out.2] at h1
                    exact h1
                  obtain ⟨xs, hxs, hcut⟩ := HN.out.2.1.lo (i + 1) (by omega)
                  rw [HW.out.2.2] at hxs
                  obtain ⟨ps, cs, rfl⟩ := hxs.form
                  have e2 : ((i + 1 : Nat) : Int) = (i : Int) + 1 := by omega
                  rw [e2] at hcut
                  have HPL : Hid ((partsP x.t).length ≤ 5000 ∧ r.length ≤ 5000) := ⟨by have := (parts_len x.t).1; have := HL.out.2.2.1; omega, by have h1 := HW.out.1.len; rw [List.length_cons] at h1; omega⟩
                  have HCC : Hid (∀ (X : World) (v0 : Value), Below wr.heap.size wr X → TxN X v0 (partsP x.t) → Calls Tryd.prog 45 #[.slice (some ⟨X.heap.size, 0, none⟩) 2 2] (X.alloc (.cells #[v0, .slice ps r.length cs] 52)) fun e w' => ∃ v, e = .returned v ∧ TxN w' v (partsP x.t ++ r) ∧ Below X.heap.size X w') := fun X v0 hX h0 => by
                    have hb := heap_alloc_new X (.cells #[v0, .slice ps r.length cs] 52)
                    have hbn := below_new X (.cells #[v0, .slice ps r.length cs] 52)
                    refine (tconcat_any X.heap.size v0 (.slice ps r.length cs) (partsP x.t) r _ (by rw [cell_of_row _ _ _ _ _ _ hb]; rfl) (by rw [cell_of_row _ _ _ _ _ _ hb]; rfl) (h0.over hbn) ((hxs.over hX).over hbn) HPL.out.1 HPL.out.2).mono ?_
                    rintro e w' ⟨v, he, h1, h2⟩
                    exact ⟨v, he, h1, hbn.trans (h2.mono hbn.size)⟩
                  have HPX : Hid (∀ X, Calls Tryd.prog 41 #[.string xt, .string ⟨#[47]⟩] X fun e w' => e = .returned (.bool (([47] : List UInt8).isPrefixOf x.t)) ∧ w' = X) := fun X => by
                    have h1 : Calls Tryd.prog 41 #[.string xt, .string ⟨#[47]⟩] X fun e w' => e = .returned (.bool (([47] : List UInt8).isPrefixOf (lst xt))) ∧ w' = X := Tryd.strings_HasPrefix xt ⟨#[47]⟩ X
                    rw [HXT.out.2] at h1
                    exact h1
                  have HZ : Hid (Below wr.heap.size wr (wr.alloc (.cells #[.string xp, .int .i64 3, .string xt] 29)) ∧ Below w.heap.size w (wr.alloc (.cells #[.string xp, .int .i64 3, .string xt] 29))) := ⟨hbz, HW0.out.trans (hbz.mono HW0.out.size)⟩
                  clear hf hfr hd hbz hxs e2 hk3
                  have hhd : ([47] : List UInt8).isPrefixOf x.t = true ↔ x.t.head? = some 47 := by rw [List.head?_eq_getElem?]; exact hasSl x.t
                  cases hpx : ([47] : List UInt8).isPrefixOf x.t with
                  | true =>
                    rw [if_pos (hhd.1 hpx)] at HL
                    rw [hpx] at HPX
                    clear hhd hpx
                    go_wp2_with fail
                    refine HBL.out.mono ?_
                    rintro e w1 ⟨rfl, hw1⟩; subst w1
                    go_wp2_with (first | (at_lookup; refine list_getN rfl _ _ rfl rfl rfl HJB.out.2.2 HN.out.1 ?_; rw [HX1.out]) | fail)
                    refine (HPX.out _).mono ?_
                    rintro e w2 ⟨rfl, hw2⟩; subst w2
                    go_wp2_with fail
                    refine wp_mono (Q := fun e => match e with
                      | .normal => FlG B (.string ⟨#[47]⟩) (.int .i64 ((g + 1 : Nat) : Int)) (partsP x.t ++ r) (wr.alloc (.cells #[.string xp, .int .i64 3, .string xt] 29))
                      | _ => fun _ _ => False) ?reg ?rest
                    case reg =>
                      have HDR : Hid (Below (wr.alloc (.cells #[.string xp, .int .i64 3, .string xt] 29)).heap.size (wr.alloc (.cells #[.string xp, .int .i64 3, .string xt] 29)) (wr.alloc (.cells #[.string xp, .int .i64 3, .string xt] 29)).drew) := (Below.refl _ _).drew
                      go_region_with (first
                        | (go_at_call 46; refine (HPT.out _).mono ?_; rintro e w8 ⟨v8, rfl, h8, hb8⟩; obtain ⟨p8, c8, hv8⟩ := h8.form; subst hv8; have hb8' := HDR.out.trans hb8; have H8 : Hid (TxN w8 (.slice p8 (partsP x.t).length c8) (partsP x.t) ∧ Below wr.heap.size wr w8 ∧ Below (wr.alloc (.cells #[.string xp, .int .i64 3, .string xt] 29)).heap.size (wr.alloc (.cells #[.string xp, .int .i64 3, .string xt] 29)) w8) := ⟨h8, HZ.out.1.trans (hb8'.mono HZ.out.1.size), hb8'⟩; clear h8 hb8 hb8')
                        | (go_at_call 45; refine (HCC.out _ _ H8.out.2.1 H8.out.1).mono ?_; rintro e w9 ⟨v9, rfl, h9, hb9⟩; have H9 : Hid (TxN w9 v9 (partsP x.t ++ r) ∧ Below (wr.alloc (.cells #[.string xp, .int .i64 3, .string xt] 29)).heap.size (wr.alloc (.cells #[.string xp, .int .i64 3, .string xt] 29)) w9) := ⟨h9, H8.out.2.2.trans (hb9.mono H8.out.2.2.size)⟩; clear h9 hb9))
                      all_goals exact ⟨_, _, _, _, _, _, _, _, _, _, _, _, _, _, _, _, _, _, _, _, _, _, _, _, _, _, _, _, _, _, _, _, _, _, _, _, _, _, _, _, _, _, _, _, _, _, _, _, _, _, _, _, _, _, _, _, _, _, _, _, _, _, _, _, _, _, _, rfl, H9.out.1, H9.out.2⟩
                    case rest =>
                      intro e a' w' hh
                      cases e with
                      | normal =>
                        obtain ⟨lv', u2, u3, u4, u5, u6, u9, u10, u11, u12, u13, u14, u15, u16, u17, u18, u19, u20, u21, u22, u23, u24, u25, u26, u27, u28, u29, u30, u31, u32, u33, u34, u35, u36, u37, u38, u39, u40, u41, u42, u43, u44, u45, u46, u47, u48, u49, u50, u51, u52, u53, u54, u55, u56, u57, u58, u59, u60, u61, u62, u63, u64, u65, u66, u67, u68, u69, rfl, hh1, hh2⟩ := hh
                        have HH : Hid (TxN w' lv' (partsP x.t ++ r) ∧ Below (wr.alloc (.cells #[.string xp, .int .i64 3, .string xt] 29)).heap.size (wr.alloc (.cells #[.string xp, .int .i64 3, .string xt] 29)) w') := ⟨hh1, hh2⟩
                        clear hh1 hh2
                        rename_i hKx
                        simp only [Exit.then]
                        refine hKx _ _ ?_
                        go_step3
                        refine And.intro (show (0 : Nat) = 0 from rfl) (And.intro ⟨g + 1, h', [], partsP x.t ++ r, lv', u2, u3, u4, u5, u6, u9, u10, u11, u12, u13, u14, u15, u16, u17, u18, u19, u20, u21, u22, u23, u24, u25, u26, u27, u28, u29, u30, u31, u32, u33, u34, u35, u36, u37, u38, u39, u40, u41, u42, u43, u44, u45, u46, u47, u48, u49, u50, u51, u52, u53, u54, u55, u56, u57, u58, u59, u60, u61, u62, u63, u64, u65, u66, u67, u68, u69, by rw [show bar (joinP []) = ⟨#[47]⟩ from rfl], HL.out.2.2.2, HZ.out.2.trans (HH.out.2.mono HZ.out.2.size), HH.out.1, HL.out.1, by rw [prog_go root_kind]; exact HL.out.2.1⟩ ?_)
                        simp [intOf]
                        omega
                      | _ => exact hh.elim
                  | false =>
                    rw [if_neg (fun e => by rw [hhd.2 e] at hpx; cases hpx)] at HL
                    rw [hpx] at HPX
                    clear hhd hpx
                    go_wp2_with fail
                    refine HBL.out.mono ?_
                    rintro e w1 ⟨rfl, hw1⟩; subst w1
                    go_wp2_with (first | (at_lookup; refine list_getN rfl _ _ rfl rfl rfl HJB.out.2.2 HN.out.1 ?_; rw [HX1.out]) | fail)
                    refine (HPX.out _).mono ?_
                    rintro e w2 ⟨rfl, hw2⟩; subst w2
                    go_wp2_with fail
                    refine wp_mono (Q := fun e => match e with
                      | .normal => FlG B (.string ab) (.int .i64 ((g + 1 : Nat) : Int)) (partsP x.t ++ r) (wr.alloc (.cells #[.string xp, .int .i64 3, .string xt] 29))
                      | _ => fun _ _ => False) ?reg ?rest
                    case reg =>
                      have HDR : Hid (Below (wr.alloc (.cells #[.string xp, .int .i64 3, .string xt] 29)).heap.size (wr.alloc (.cells #[.string xp, .int .i64 3, .string xt] 29)) (wr.alloc (.cells #[.string xp, .int .i64 3, .string xt] 29)).drew) := (Below.refl _ _).drew
                      go_region_with (first
                        | (go_at_call 46; refine (HPT.out _).mono ?_; rintro e w8 ⟨v8, rfl, h8, hb8⟩; obtain ⟨p8, c8, hv8⟩ := h8.form; subst hv8; have hb8' := HDR.out.trans hb8; have H8 : Hid (TxN w8 (.slice p8 (partsP x.t).length c8) (partsP x.t) ∧ Below wr.heap.size wr w8 ∧ Below (wr.alloc (.cells #[.string xp, .int .i64 3, .string xt] 29)).heap.size (wr.alloc (.cells #[.string xp, .int .i64 3, .string xt] 29)) w8) := ⟨h8, HZ.out.1.trans (hb8'.mono HZ.out.1.size), hb8'⟩; clear h8 hb8 hb8')
                        | (go_at_call 45; refine (HCC.out _ _ H8.out.2.1 H8.out.1).mono ?_; rintro e w9 ⟨v9, rfl, h9, hb9⟩; have H9 : Hid (TxN w9 v9 (partsP x.t ++ r) ∧ Below (wr.alloc (.cells #[.string xp, .int .i64 3, .string xt] 29)).heap.size (wr.alloc (.cells #[.string xp, .int .i64 3, .string xt] 29)) w9) := ⟨h9, H8.out.2.2.trans (hb9.mono H8.out.2.2.size)⟩; clear h9 hb9))
                      all_goals exact ⟨_, _, _, _, _, _, _, _, _, _, _, _, _, _, _, _, _, _, _, _, _, _, _, _, _, _, _, _, _, _, _, _, _, _, _, _, _, _, _, _, _, _, _, _, _, _, _, _, _, _, _, _, _, _, _, _, _, _, _, _, _, _, _, _, _, _, _, rfl, H9.out.1, H9.out.2⟩
                    case rest =>
                      intro e a' w' hh
                      cases e with
                      | normal =>
                        obtain ⟨lv', u2, u3, u4, u5, u6, u9, u10, u11, u12, u13, u14, u15, u16, u17, u18, u19, u20, u21, u22, u23, u24, u25, u26, u27, u28, u29, u30, u31, u32, u33, u34, u35, u36, u37, u38, u39, u40, u41, u42, u43, u44, u45, u46, u47, u48, u49, u50, u51, u52, u53, u54, u55, u56, u57, u58, u59, u60, u61, u62, u63, u64, u65, u66, u67, u68, u69, rfl, hh1, hh2⟩ := hh
                        have HH : Hid (TxN w' lv' (partsP x.t ++ r) ∧ Below (wr.alloc (.cells #[.string xp, .int .i64 3, .string xt] 29)).heap.size (wr.alloc (.cells #[.string xp, .int .i64 3, .string xt] 29)) w') := ⟨hh1, hh2⟩
                        clear hh1 hh2
                        rename_i hKx
                        simp only [Exit.then]
                        refine hKx _ _ ?_
                        go_step3
                        refine And.intro (show (0 : Nat) = 0 from rfl) (And.intro ⟨g + 1, h', a, partsP x.t ++ r, lv', u2, u3, u4, u5, u6, u9, u10, u11, u12, u13, u14, u15, u16, u17, u18, u19, u20, u21, u22, u23, u24, u25, u26, u27, u28, u29, u30, u31, u32, u33, u34, u35, u36, u37, u38, u39, u40, u41, u42, u43, u44, u45, u46, u47, u48, u49, u50, u51, u52, u53, u54, u55, u56, u57, u58, u59, u60, u61, u62, u63, u64, u65, u66, u67, u68, u69, by rw [HAB.out.1], HL.out.2.2.2, HZ.out.2.trans (HH.out.2.mono HZ.out.2.size), HH.out.1, HL.out.1, by rw [prog_go HG.out.2]; exact HL.out.2.1⟩ ?_)
                        simp [intOf]
                        omega
                      | _ => exact hh.elim
              · have g3 : (x.k == 3) = false := beq_eq_false_iff_ne.2 hk3
                have g3' : (x.k != 3) = true := by simp [bne, g3]
                have HR : Hid (Wk L h (a ++ [n]) r ∧ progV L h (a ++ [n]) r = R) := ⟨HW.out.1.on H0.out.1 hd hf hk3, by rw [prog_on hd hf hk3]; exact HG.out.1⟩
                generalize x.k = xk at *
                have HB3 : Hid (Below W.heap.size W (wr.alloc (.cells #[.string xp, .int .i64 xk, .string xt] 29))) := HN.out.2.2.2.2.trans ((below_new wr _).mono HN.out.2.2.2.2.size)
                obtain ⟨d0, d1, d2⟩ := nd_cells wr (.string xp) (.int .i64 xk) (.string xt)
                clear hf hfr hd hk3
                go_wp2_with fail
                refine HBL.out.mono ?_
                rintro e w1 ⟨rfl, hw1⟩; subst w1
                go_wp2_with (first | (at_lookup; refine list_getN rfl _ _ rfl rfl rfl HJB.out.2.2 HN.out.1 ?_; rw [HX1.out]) | fail)
                go_roundw
                case rel => exact ⟨a ++ [n], i + 1, by rw [HJB.out.1], by go_num, rfl, rfl, hlt, by rw [HW.out.2.2]; exact HR.out.1, by rw [HW.out.2.2]; exact HR.out.2, HB3.out⟩
                case measure => simp [intOf]; omega
      · have hi1 : ¬ (i : Int) < (k : Int) := by omega
        have HE2 : Hid (ea = joinP a ∧ ek = y.k ∧ ee = 0) := by
          have h1 := HN.out.2.2.2.1
          rw [List.drop_eq_nil_of_le (by have := HK.out.1; omega), prog_nil] at h1
          have h2 := HE.out
          rw [← h1] at h2
          have h3 : endV L (.inr a) = (joinP a, kindOf L a, 0) := rfl
          rw [h3, hky] at h2
          cases h2
          exact ⟨rfl, rfl, rfl⟩
        clear hky hy3
        generalize y.k = yk at *
        have hlkd := HLK.out wr.drew (HN.out.1.over (Below.refl _ _).drew)
        have HWD : Hid (Below w.heap.size w wr.drew) := HW0.out.trans ((Below.refl _ _).drew.mono HW0.out.size)
        go_wp2_with fail
        go_region
        all_goals
          go_wp2_with fail
          go_ret3
          exact ⟨by rw [HE2.out.1, HE2.out.2.1, HE2.out.2.2, ← HAB.out.1]; rfl, HWD.out⟩

end Go.Proofs.YtilemgpopjlchaaDoor
