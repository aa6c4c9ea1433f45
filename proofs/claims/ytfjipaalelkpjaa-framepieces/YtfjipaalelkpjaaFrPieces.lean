/-
  The walk of FramePieces.
-/
import Derived.Test.YtfjipaalelkpjaaFrPcs
namespace Go.Proofs.Ytfjipaalelkpjaa
open Go.RowKit D

theorem sz_app (a b : List (List Int)) : sz (a ++ b) = sz a + sz b := by
  unfold sz
  rw [List.map_append, List.sum_append]
theorem Ev.sz {ds : List (List Int)} {l1 l2 : List Int} {n1 : Nat} (h : Ev ds l1 n1 l2) : l2.length = sz ds + n1 + l1.length := by
  have h1 : l2.length = Proofs.Ytfjipaalelkpjaa.sz (all sm l2).1 + (all sm l2).2.1 + (all sm l2).2.2.length := all_count sm _ l2 (Nat.le_refl _)
  have h2 : l1.length = Proofs.Ytfjipaalelkpjaa.sz (all sm l1).1 + (all sm l1).2.1 + (all sm l1).2.2.length := all_count sm _ l1 (Nat.le_refl _)
  unfold Ev at h
  rw [h] at h1
  dsimp only at h1
  rw [sz_app] at h1
  omega
theorem pc_new (w w2 : World) (hb : Below w.heap.size w w2) : Pc w ((w2.alloc (.cells #[.slice none 0 0, .int .i64 0] 32)).alloc (.cells #[.slice none 0 0, .int .i64 0] 32)) w2.heap.size (w2.heap.size + 1) (.slice none 0 0) (.slice none 0 0) (.slice none 0 0) [] [] [] 0 [] 0 := by
  have h1 := fd_new w.heap.size w w2 hb (Nat.le_refl _)
  have b2 : Below (w2.alloc (.cells #[.slice none 0 0, .int .i64 0] 32)).heap.size (w2.alloc (.cells #[.slice none 0 0, .int .i64 0] 32)) ((w2.alloc (.cells #[.slice none 0 0, .int .i64 0] 32)).alloc (.cells #[.slice none 0 0, .int .i64 0] 32)) := (Below.refl _ _).alloc (Nat.le_refl _) _
  have h2 := fd_new w.heap.size w (w2.alloc (.cells #[.slice none 0 0, .int .i64 0] 32)) h1.bel (Nat.le_refl _)
  rw [size_alloc'] at h2
  exact ⟨⟨h1.r.over b2, h1.lo, h1.own, h1.bel.trans (b2.mono h1.bel.size), Nat.le_refl _⟩, h2, by omega, fun e => (by cases e), fun e => (by cases e), fun k e => (by cases e), rw_nil _ _, fun k e => by cases e⟩

/-- on the way. -/
structure Pw (w wr : World) (b c : Nat) (v u o : Value) (ds : List (List Int)) (vs : List Value) (l1 : List Int) (n1 : Nat) (l2 : List Int) : Prop where
  p : Pc w wr b c v u o ds vs l1 n1 l2 0
  e : Ev ds l1 n1 l2

set_option maxRecDepth 100000 in
set_option maxHeartbeats 16000000 in
theorem pieces_walk (w : World) (v : Value) (cv : Value) (ls : List (List Int)) (bs : List Bool) (h : PcR w v ls) (hc : BoR w cv bs) :
    Calls Try.prog 6 #[v, cv] w fun e w' => e = .returned (.bool true) ∧ Below w.heap.size w w' := by
  obtain ⟨p1, c1, rfl⟩ : ∃ p c, v = .slice p ls.length c := by obtain ⟨p, c, e, _⟩ := h; exact ⟨p, c, e⟩
  obtain ⟨ca, cc, rfl, hcc⟩ := hc
  have HF : Hid (∀ W, Below w.heap.size w W → PcR W (.slice p1 ls.length c1) ls) := fun W hW => h.below hW
  have HC : Hid (∀ i, i < bs.length → ∃ b o, ca = some ⟨b, o, none⟩ ∧ w.cell? ⟨b, o + i, none⟩ = some (.bool (bs.getD i false))) := hcc
  clear h hcc
  generalize bs.length = bl at *
  go_enter Try.func6, Try.ntmps6
  go_upto_region 3 with (first
    | (go_at_call 9; refine (awake_any _).mono ?_; rintro e w1 ⟨rfl, hb1⟩)
    | (go_at_call 12; refine (light_any _ _ ls (HF.out _ hb1)).mono ?_; rintro e w2 ⟨bb, rfl, hb2, hbb⟩))
  have HB2 : Hid (Below w.heap.size w w2) := hb1.trans (hb2.mono hb1.size)
  clear hb1 hb2
  cases bb with
  | false =>
    clear hbb
    go_wp2
    go_ret
    exact ⟨rfl, HB2.out⟩
  | true =>
    have hbb2 := hbb rfl
    have HL : Hid (ls.length ≤ 100 ∧ tot ls ≤ 3000) := hbb2
    clear hbb hbb2
    have HD0 : Hid (Pc w ((w2.alloc (.cells #[.slice none 0 0, .int .i64 0] 32)).alloc (.cells #[.slice none 0 0, .int .i64 0] 32)) w2.heap.size (w2.heap.size + 1) (.slice none 0 0) (.slice none 0 0) (.slice none 0 0) [] [] [] 0 [] 0) := pc_new w w2 HB2.out
    go_upto_region 6 with fail
    generalize (w2.alloc (.cells #[.slice none 0 0, .int .i64 0] 32)).alloc (.cells #[.slice none 0 0, .int .i64 0] 32) = w3 at *
    generalize w2.heap.size + 1 = c at *
    generalize w2.heap.size = b at *
    go_wp2
    go_loopg [9, 11] ls.length (fun g vo vi wr => ∃ (i : Nat) (v' u' : Value) (ds : List (List Int)) (vs : List Value) (l1 : List Int) (n1 : Nat), vi = .int .i64 i ∧ i + g = ls.length ∧ Hid (Pw w wr b c v' u' vo ds vs l1 n1 (ls.take i).flatten))
    case atStart => exact ⟨0, .slice none 0 0, .slice none 0 0, [], [], [], 0, rfl, Nat.zero_add _, HD0.out, rfl⟩
    case round =>
      obtain ⟨i, v', u', ds, vs, l1, n1, rfl, hig, hg⟩ := hrel
      have hev := hg.out.e.sz
      have hfl : (ls.take i).flatten.length ≤ 3000 := by rw [tot_flat]; exact Nat.le_trans (tot_le ls i) HL.out.2
      have hdl := sz_len ds
      have HSz : Hid (l1.length ≤ 3000 ∧ n1 + l1.length ≤ 3000 ∧ ds.length ≤ 3000 ∧ (ls.take i).flatten.length ≤ 3000) := ⟨by omega, by omega, by omega, hfl⟩
      clear hev hfl hdl
      rcases Nat.lt_or_ge i ls.length with hlt | hge
      · have hi1 : (i : Int) < (ls.length : Int) := by omega
        have hi100 : (i : Int) ≤ 100 := by have := HL.out.1; omega
        obtain ⟨pb, po, a', c', rfl, x0, y0, y2⟩ := pcR_at (HF.out w (Below.refl _ _)) hlt
        have HPc : Hid (∀ W, Below w.heap.size w W → W.cell? ⟨pb, po + i, none⟩ = some (.slice a' ls[i].length c')) := fun W hW => cellK x0 hW
        have HBS : Hid (Bs w a' ls[i].length ls[i] ∧ (a' = none → c' = 0)) := ⟨y0, y2⟩
        have hgk : Hid (gk - 1 < gk ∧ i + 1 + (gk - 1) = ls.length) := ⟨by omega, by omega⟩
        have HFl : Hid ((ls.take (i + 1)).flatten = (ls.take i).flatten ++ ls[i]) := flat_step hlt
        have hfl2 : (ls.take (i + 1)).flatten.length ≤ 3000 := by rw [tot_flat]; exact Nat.le_trans (tot_le ls (i + 1)) HL.out.2
        have HSi : Hid (ls[i].length ≤ 3000 ∧ (l1 ++ ls[i]).length ≤ 3000 ∧ n1 + (l1 ++ ls[i]).length ≤ 3000) := by
          have h1 := (hg.out.e.feed ls[i]).sz
          rw [← HFl.out] at h1
          have h2 : (l1 ++ ls[i]).length = l1.length + ls[i].length := List.length_append
          refine ⟨by omega, by omega, by omega⟩
        clear hfl2
        have x1 := HPc.out wr hg.out.p.f1.bel
        clear hig x0 y0 y2
        generalize hn' : ls[i].length = n' at *
        generalize ls[i] = li at *
        clear hlt hn'
        generalize ls.length = len at *
        go_upto_region 11 with (go_at_call 13; refine (feed_any b n1 v' l1 _ hg.out.p.f1.r a' n' c' li (HBS.out.1.below hg.out.p.f1.bel) HBS.out.2 (by have := HSz.out; have := HSi.out; omega)).mono ?_; rintro e w4 ⟨rfl, v4, hr4, ho4, hk4⟩)
        have HP4 : Hid (Pc w w4 b c v4 u' u9 ds vs (l1 ++ li) n1 (ls.take i).flatten 0) := hg.out.p.feed1 hr4 ho4 hk4
        have x4 := HPc.out w4 HP4.out.f1.bel
        clear hr4 ho4 hk4 x1
        go_upto_region 12 with (go_at_call 13; refine (feed_any c 0 u' _ _ HP4.out.f2.r a' n' c' li (HBS.out.1.below HP4.out.f2.bel) HBS.out.2 (by have := HSz.out; have := HSi.out; omega)).mono ?_; rintro e w5 ⟨rfl, u5, hr5, ho5, hk5⟩)
        have HP5 : Hid (Pw w w5 b c v4 u5 u9 ds vs (l1 ++ li) n1 (ls.take (i + 1)).flatten) := by
          unfold Hid
          rw [HFl.out]
          exact ⟨HP4.out.feed2 hr5 ho5 hk5, hg.out.e.feed li⟩
        clear hr5 ho5 hk5 x4 HP4
        by_cases hib : i < bl
        case neg =>
          have hib1 : ¬ (i : Int) < (bl : Int) := by omega
          go_wp2
          go_roundg (gk - 1)
          case measure => exact hgk.out.1
          case rel => exact ⟨i + 1, v4, u5, ds, vs, l1 ++ li, n1, by go_num, hgk.out.2, HP5.out⟩
        have hib1 : (i : Int) < (bl : Int) := by omega
        obtain ⟨qb, qo, hqa, hq0⟩ := HC.out i hib
        subst hqa
        have hq := cellK hq0 HP5.out.p.f1.bel
        clear hq0
        generalize bs.getD i false = tb at *
        cases tb with
        | false =>
          go_wp2
          go_roundg (gk - 1)
          case measure => exact hgk.out.1
          case rel => exact ⟨i + 1, v4, u5, ds, vs, l1 ++ li, n1, by go_num, hgk.out.2, HP5.out⟩
        | true =>
          go_wp2_with (first
            | (go_at_call 18; refine (drained_any b n1 v4 (l1 ++ li) _ HP5.out.p.f1.r (by have := HSi.out; omega) (by have := HSi.out; omega)).mono ?_; rintro e w6 ⟨s6, ws6, v6, rfl, ht6⟩)
            | (refine app_drn (X := XX b v4 c u5) rfl (.tmp 45) (.tmp 46) rfl u9 ds vs rfl (HP5.out.p.rw.kp ht6.k fun k _ e => .inl (.inl e)) s6 rfl w5.heap.size (all sm (l1 ++ li)).1 ws6 ht6.rw (fun k e => e.elim (HP5.out.p.xlt k) (HP5.out.p.rw.lt k)) ?_ (fun e => absurd (HP5.out.p.xlt _ e) (Nat.not_lt.2 ht6.k.size)) ?_
               · have h1 := all_count sm _ (l1 ++ li) (Nat.le_refl _)
                 have h2 := sz_len (all sm (l1 ++ li)).1
                 unfold sz at h2
                 have := HSz.out; have := HSi.out
                 omega
               intro o7 w7 ha7
               have HP7 : Hid (Pw w w7 b c v6 u5 o7 (ds ++ (all sm (l1 ++ li)).1) (vs ++ ws6) (all sm (l1 ++ li)).2.2 (n1 + (all sm (l1 ++ li)).2.1) (ls.take (i + 1)).flatten) := ⟨HP5.out.p.drain1 ht6 ha7, HP5.out.e.drain⟩))
          go_roundg (gk - 1)
          case measure => exact hgk.out.1
          case rel => exact ⟨i + 1, v6, u5, _, _, _, _, by go_num, hgk.out.2, HP7.out⟩
      · have hi1 : ¬ (i : Int) < (ls.length : Int) := by omega
        obtain rfl : i = ls.length := by omega
        clear hig
        generalize (ls.take ls.length).flatten = l2 at *
        go_upto_region 15 with (first
          | (go_at_call 18; refine (drained_any b n1 v' l1 _ hg.out.p.f1.r (by have := HSz.out; omega) (by have := HSz.out; omega)).mono ?_; rintro e w6 ⟨s6, ws6, v6, rfl, ht6⟩)
          | (refine app_drn (X := XX b v' c u') rfl (.tmp 48) (.tmp 49) rfl u9 ds vs rfl (hg.out.p.rw.kp ht6.k fun k _ e => .inl (.inl e)) s6 rfl wr.heap.size (all sm l1).1 ws6 ht6.rw (fun k e => e.elim (hg.out.p.xlt k) (hg.out.p.rw.lt k)) ?_ (fun e => absurd (hg.out.p.xlt _ e) (Nat.not_lt.2 ht6.k.size)) ?_
             · have h1 := all_count sm _ l1 (Nat.le_refl _)
               have h2 := sz_len (all sm l1).1
               unfold sz at h2
               have := HSz.out
               omega
             intro o7 w7 ha7
             have HP7 : Hid (Pw w w7 b c v6 u' o7 (ds ++ (all sm l1).1) (vs ++ ws6) (all sm l1).2.2 (n1 + (all sm l1).2.1) l2) := ⟨hg.out.p.drain1 ht6 ha7, hg.out.e.drain⟩
             have HE : Hid (Ev ds l1 n1 l2) := hg.out.e
             clear ha7 ht6))
        have HSe : Hid (l2.length ≤ 3000) := HSz.out.2.2.2
        go_upto_region 16 with (first
          | (go_at_call 18; refine (drained_any c 0 u' l2 _ HP7.out.p.f2.r (by have := HSe.out; omega) (by have := HSe.out; omega)).mono ?_; rintro e w8 ⟨s8, ws8, u8, rfl, ht8⟩)
          | (refine app_drn (X := fun _ => False) rfl (.tmp 51) (.tmp 52) rfl (.slice none 0 0) [] [] rfl (rw_nil _ _) s8 rfl w7.heap.size (all sm l2).1 ws8 ht8.rw (fun k e => e.elim False.elim fun e => by cases e) ?_ id ?_
             · have h1 := all_count sm _ l2 (Nat.le_refl _)
               have h2 := sz_len (all sm l2).1
               unfold sz at h2
               have := HSe.out
               simp only [List.length_nil]
               omega
             intro o9 w9 ha9
             have hk9 : Kp (fun _ => False) w8 w9 := kp_grown ha9.grown fun k e => by cases e
             have HF1 : Hid (Fd w.heap.size w w9 b v6 (all sm l1).2.2 (n1 + (all sm l1).2.1)) := (HP7.out.p.f1.keep ht8.k HP7.out.p.bc (fun q e1 e2 => HP7.out.p.vc (by rw [← e2]; exact e1)) (fun q e => by rw [e]; exact HP7.out.p.f2.lo)).keep hk9 id (fun _ _ => id) (fun _ => False.elim)
             have HF2 : Hid (Fd w.heap.size w w9 c u8 (all sm l2).2.2 (0 + (all sm l2).2.1)) := (HP7.out.p.f2.drain ht8).keep hk9 id (fun _ _ => id) (fun _ => False.elim)
             have HA9 : Hid (PcR w9 o7 (ds ++ (all sm l1).1)) := ((HP7.out.p.rw.kp ht8.k fun k _ e => .inr (.inl e)).kp hk9 fun _ _ => False.elim).pcR
             have HB9 : Hid (PcR w9 o9 (all sm l2).1) := ha9.rw.pcR
             clear ha9 ht8 hk9))
        have he := HE.out
        unfold Ev at he
        rw [he, Nat.zero_add] at HF2
        rw [he] at HB9
        have HLn : Hid ((ds ++ (all sm l1).1).length ≤ 100000) := by
          have h1 := all_count sm _ l2 (Nat.le_refl _)
          have h2 := sz_len (all sm l2).1
          unfold sz at h2
          rw [he] at h1 h2
          dsimp only at h1 h2
          have := HSe.out
          unfold Hid
          omega
        clear he HE HP7 hg
        generalize ds ++ (all sm l1).1 = es at *
        generalize n1 + (all sm l1).2.1 = ln at *
        generalize (all sm l1).2.2 = lr at *
        go_upto_region 17 with (go_at_call 19; refine (alike_any _ o7 o9 es es HA9.out HB9.out HLn.out rfl).mono ?_; rintro e w10 ⟨rfl, hb10⟩)
        have HLo1 : Hid (∀ W, Below w9.heap.size w9 W → Calls Try.prog 17 #[.pointer (some ⟨b, 0, none⟩)] W fun e w' => e = .returned (.int .i64 ln) ∧ w' = W) := fun W h => lost_any b _ v6 _ W (HF1.out.r.over h)
        have HLo2 : Hid (∀ W, Below w9.heap.size w9 W → Calls Try.prog 17 #[.pointer (some ⟨c, 0, none⟩)] W fun e w' => e = .returned (.int .i64 ln) ∧ w' = W) := fun W h => lost_any c _ u8 _ W (HF2.out.r.over h)
        have HLf1 : Hid (∀ W, Below w9.heap.size w9 W → Calls Try.prog 16 #[.pointer (some ⟨b, 0, none⟩)] W fun e w' => e = .returned (.int .i64 lr.length) ∧ w' = W) := fun W h => left_any b _ v6 _ W (HF1.out.r.over h)
        have HLf2 : Hid (∀ W, Below w9.heap.size w9 W → Calls Try.prog 16 #[.pointer (some ⟨c, 0, none⟩)] W fun e w' => e = .returned (.int .i64 lr.length) ∧ w' = W) := fun W h => left_any c _ u8 _ W (HF2.out.r.over h)
        have HBf : Hid (Below w.heap.size w w9) := HF1.out.bel
        clear HF1 HF2 HA9 HB9
        generalize lr.length = lrn at *
        go_wp2_with (first
          | (go_at_call 17; first
              | (refine (HLo1.out _ hb10).mono ?_; rintro e w11 ⟨rfl, rfl⟩)
              | (refine (HLo2.out _ hb10).mono ?_; rintro e w11 ⟨rfl, rfl⟩))
          | (go_at_call 16; first
              | (refine (HLf1.out _ hb10).mono ?_; rintro e w11 ⟨rfl, rfl⟩)
              | (refine (HLf2.out _ hb10).mono ?_; rintro e w11 ⟨rfl, rfl⟩)))
        go_ret
        exact ⟨by simp, HBf.out.trans (hb10.mono HBf.out.size)⟩

end Go.Proofs.Ytfjipaalelkpjaa
