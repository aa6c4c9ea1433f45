/-
  The program's Tick.
-/
import Derived.Test.YtlckconhhhllkaaTEnd
namespace Go.Proofs.Ytlckconhhhllkaa
open Go.RowKit Go.Maps

/-- a tick less, of one that waits. -/
def lessW (x : En) : En := if x.waits then x.less else x
theorem keeps_lessW : Keeps lessW := fun x => by unfold lessW En.less; split <;> exact ⟨rfl, rfl⟩
theorem waits_less (x : En) : x.less.waits = x.waits := rfl
theorem lessW_tick (x : En) : lvF (fun x => x.le == 0) 6 (lessW x) = tick1 x := by
  unfold lvF lessW tick1
  cases h : x.waits with
  | false => simp [h]
  | true =>
    simp only [if_true, waits_less, h, Bool.true_and]
    by_cases e : x.less.le = 0
    · simp [e]
    · simp [e]
theorem lessW_late (x : En) : ((lessW x).waits && ((lessW x).le == 0)) = late1 x := by
  unfold lessW late1
  cases h : x.waits with
  | false => simp [h]
  | true => simp [waits_less, h]
theorem tick_lv (s : Nt) : ({ s with L := (s.L.map lessW).map (lvF (fun x => x.le == 0) 6) } : Nt) = tickS s := by
  unfold tickS
  congr 1
  rw [List.map_map]
  exact List.map_congr_left fun x _ => lessW_tick x
theorem tick_lvI (s : Nt) : lvI (fun x => x.le == 0) (s.L.map lessW) = tickO s := by
  unfold lvI tickO
  rw [List.filter_map, List.map_map]
  have e1 : ((fun x : En => x.waits && (x.le == 0)) ∘ lessW) = late1 := funext lessW_late
  have e2 : (fun x : En => x.id) ∘ lessW = fun x => x.id := funext fun x => (keeps_lessW x).1
  rw [e1, e2]

set_option maxHeartbeats 32000000 in
set_option maxRecDepth 8000 in
theorem tick_call (w : World) (b B : Nat) (s : Nt) (h : TaV w b B s) (ho : Ok s) :
    Calls Try.prog 17 #[.pointer (some ⟨b, 0, none⟩)] w fun e w' => ∃ v, w'.ownsRow w.heap.size 23 1 v (tickO s).length (cellsU (tickO s)) ∧ e = .returned v ∧ Rs w w' b B (tickS s) := by
  have HT : Hid (TaV w b B s) := h
  have HS : Hid (Ok s) := ho
  have HS8 : Hid (s.L.length ≤ 8) := ho.len8
  have c4 := h.blk.cell 4
  clear h ho
  go_enter Try.func17, Try.ntmps17
  go_wp2_with (first | (at_range; refine list_rangeE rfl _ rfl rfl HT.out.m ?_; intro D w2 hv0 hrg0 hg0 hs0) | go_in)
  go_frame
  clear c4
  obtain ⟨r, hr⟩ : ∃ k, w.heap.size = k := ⟨_, rfl⟩
  rw [hr] at hrg0 hs0 ⊢
  have HBB : Hid (B < w.heap.size ∧ w.heap.size = r ∧ w2.heap.size = r + 1) := ⟨HT.out.m.lt, hr, hs0⟩
  obtain ⟨base, hbase⟩ : ∃ k, w2.heap.size = k := ⟨_, rfl⟩
  have HBS : Hid (base = r + 1) := hbase.symm.trans hs0
  have H0 : Hid (LvM w w2 B r base s.L.length (.slice none 0 0) (has D) (Maps.size D) D []) := by
    refine ⟨hrg0, ⟨rfl, .inl ⟨rfl, rfl⟩⟩, ?_, by rw [hbase]; exact Nat.le_refl _⟩
    exact fr_below ((Below.refl _ _).grown hg0 (Nat.le_refl _) (fun _ e => by cases e)) (Nat.zero_le _)
  have HP0 : Hid (VwE D (turnL lessW (fun z => !(has D (litU z))) s.L)) := by
    show VwE _ _
    rw [turnL_none fun x hx => by rw [(hv0.has x.id).2 ⟨x, hx, rfl⟩]; rfl]
    exact hv0
  clear hv0 hr hg0 hs0 hrg0 hbase
  go_loopw [3] (fun _ wr => ∃ (left : Lit → Bool) (cnt : Nat) (D : De), LvM w wr B r base s.L.length (.slice none 0 0) left cnt D [] ∧ VwE D (turnL lessW (fun z => !left (litU z)) s.L)) (fun _ wr => wr.rangeLeft B r)
  case atStart => exact ⟨_, _, _, H0.out, HP0.out⟩
  case round =>
    clear H0 HP0
    obtain ⟨left, cnt, D, hm, hvw⟩ := hrel
    have HM : Hid (LvM w wr B r base s.L.length (.slice none 0 0) left cnt D []) := hm
    have HP : Hid (VwE D (turnL lessW (fun z => !left (litU z)) s.L)) := hvw
    have HMS : Hid (wr.rangeLeft B r = cnt) := hm.rg.left_eq
    clear hm hvw
    go_wp2_with (first | (at_next; refine list_nextE rfl _ rfl rfl HM.out.rg HP.out ?_ ?_) | go_in)
    · intro hc0 hl0
      have HTA : Hid (VwE D (s.L.map lessW)) := by
        have := HP.out
        rw [turnL_all fun x _ => by rw [hl0]; rfl] at this
        exact this
      have HF : Hid (Fr [] [b, B] 0 w wr ∧ TaV wr b B { s with L := s.L.map lessW }) := by
        have h1 : Fr [] [B] 0 w wr := HM.out.fr.fresh fun x hx => by
          simp at hx ⊢
          rcases hx with rfl | rfl
          · exact .inr (by have := HBB.out; omega)
          · exact .inl rfl
        exact ⟨h1.mono (by simp) (by simp), HT.out.blk.fr h1 (by simp) (by simpa using HT.out.ne), mpE_of HM.out.rg.owns HTA.out, HT.out.ne⟩
      have HC : Hid (Calls Try.prog 37 #[.pointer (some ⟨b, 0, none⟩), .int .i64 6, .func (.func 38) #[] #[]] wr fun e w' => LvR wr b B { s with L := s.L.map lessW } (fun x => x.le == 0) 6 e w') := leaveT wr b B _ 6 HF.out.2 (up_map keeps_lessW HS.out.up) (fun x hx => by
        obtain ⟨y, hy, rfl⟩ := List.mem_map.1 hx
        rw [(keeps_lessW y).1]
        exact HS.out.u64 y hy) (by show (s.L.map lessW).length ≤ 8; rw [List.length_map]; exact HS8.out)
      clear hc0 hl0 HM HP HTA
      go_wp2_with fail
      refine HC.out.mono ?_
      rintro e w3 ⟨v, rfl, hrow, hrs⟩
      have HR : Hid (w3.ownsRow w.heap.size 23 1 v (tickO s).length (cellsU (tickO s)) ∧ Rs w w3 b B (tickS s)) := by
        have h1 := Rs.trans HF.out.1 hrs
        rw [tick_lvI] at hrow
        have h2 : Rs w w3 b B { s with L := (s.L.map lessW).map (lvF (fun x => x.le == 0) 6) } := h1
        rw [tick_lv] at h2
        exact ⟨owns_lower hrow HF.out.1.bel.size, h2⟩
      clear hrow hrs HC
      go_wp2_with fail
      go_ret
      exact ⟨v, HR.out.1, rfl, HR.out.2⟩
    · intro x w3 cnt3 hxL hlx hrg3 hlt hg3 hs3 hen
      have hxs := turnL_in keeps_lessW hxL hlx
      obtain ⟨q1, q2, q3, q4, q5, q6⟩ := x
      dsimp only [En.v] at hen ⊢
      have HX : Hid ((⟨q1, q2, q3, q4, q5, q6⟩ : En) ∈ s.L ∧ left (litU q1) = true) := ⟨hxs, hlx⟩
      have HU : Hid (U64 q1) := HS.out.u64 _ hxs
      have HLT : Hid (cnt3 < cnt) := hlt
      have HM3 := HM.out.next hg3 (by have := HBS.out; omega) hrg3
      have H4 : Hid (LvM w (w3.alloc (.cells #[.int .u64 q1, .int .i64 q2, .int .i64 q3, .int .i64 q4, .int .i64 q5, .int .i64 q6] 44)) B r base s.L.length (.slice none 0 0) (fun z => left z && !z.sameKey (litU q1)) cnt3 D [] ∧ Blk (w3.alloc (.cells #[.int .u64 q1, .int .i64 q2, .int .i64 q3, .int .i64 q4, .int .i64 q5, .int .i64 q6] 44)) w3.heap.size 44 [.int .u64 q1, .int .i64 q2, .int .i64 q3, .int .i64 q4, .int .i64 q5, .int .i64 q6]) := ⟨HM3.over (below_new _ _), blk_new _ _ _⟩
      have HEB : Hid (w.heap.size ≤ w3.heap.size ∧ r ≠ w3.heap.size ∧ B ≠ w3.heap.size) := by
        have h1 := HM3.sz
        have h2 := HBS.out
        have h3 := HBB.out
        exact ⟨by omega, by omega, by omega⟩
      have HXW : Hid (∀ W, Calls Try.prog 36 #[.agg #[.int .u64 q1, .int .i64 q2, .int .i64 q3, .int .i64 q4, .int .i64 q5, .int .i64 q6]] W fun e w' => e = .returned (.bool (⟨q1, q2, q3, q4, q5, q6⟩ : En).waits) ∧ Below W.heap.size W w') := waits_any (⟨q1, q2, q3, q4, q5, q6⟩ : En)
      clear hxL hlx hrg3 hlt hg3 hs3 hxs HM3 HM
      go_upto_region 4 with fail
      generalize (w3.alloc (.cells #[.int .u64 q1, .int .i64 q2, .int .i64 q3, .int .i64 q4, .int .i64 q5, .int .i64 q6] 44)) = w4 at *
      generalize w3.heap.size = eb at *
      have m0 := H4.out.2.cell 0
      have m1 := H4.out.2.cell 1
      have m2 := H4.out.2.cell 2
      have m3 := H4.out.2.cell 3
      have m4 := H4.out.2.cell 4
      have m5 := H4.out.2.cell 5
      go_wp2_with fail
      refine (HXW.out w4).mono ?_
      rintro e w5 ⟨rfl, hb5⟩
      have H5 : Hid (LvM w w5 B r base s.L.length (.slice none 0 0) (fun z => left z && !z.sameKey (litU q1)) cnt3 D [] ∧ Blk w5 eb 44 [.int .u64 q1, .int .i64 q2, .int .i64 q3, .int .i64 q4, .int .i64 q5, .int .i64 q6]) := ⟨H4.out.1.over hb5, H4.out.2.over hb5⟩
      clear hb5 m0 m1 m2 m3 m4 m5 H4 HXW
      cases hw : (⟨q1, q2, q3, q4, q5, q6⟩ : En).waits with
      | false =>
        have HN : Hid (VwE D (turnL lessW (fun z => !(left (litU z) && !(litU z).sameKey (litU q1))) s.L)) := by
          have e1 := turnL_stay (f := lessW) (left := left) HS.out.up HX.out.1 (by unfold lessW; rw [hw]; rfl)
          exact e1 ▸ HP.out
        clear hw HP
        go_wp2_with fail
        go_roundw
        case rel => exact ⟨_, cnt3, _, H5.out.1, HN.out⟩
        case measure => rw [H5.out.1.rg.left_eq, HMS.out]; exact HLT.out
      | true =>
        have HLF : Hid (lessW (⟨q1, q2, q3, q4, q5, q6⟩ : En) = ⟨q1, q2, q3, q4 - 1, q5, q6⟩) := by
          show _ = _
          unfold lessW
          rw [hw]
          rfl
        have hb4 : 1 ≤ q4 ∧ q4 ≤ 1000 := by
          have h1 := HS.out.all _ HX.out.1
          have h2 := h1.l0 hw
          have h3 := h1.l1
          have h4 := HS.out.w1
          simp only at h2 h3
          omega
        have hb1 := hb4.1
        have hb2 := hb4.2
        have hwr : IntKind.i64.wrap (q4 - 1) = q4 - 1 := by rw [IntKind.wrap_i64]; omega
        clear hw hb4
        have m0 := H5.out.2.cell 0
        have m1 := H5.out.2.cell 1
        have m2 := H5.out.2.cell 2
        have m3 := H5.out.2.cell 3
        have m4 := H5.out.2.cell 4
        have m5 := H5.out.2.cell 5
        have f0 := H5.out.2.f 0
        have f1 := H5.out.2.f 1
        have f2 := H5.out.2.f 2
        have f3 := H5.out.2.f 3
        have f4 := H5.out.2.f 4
        have f5 := H5.out.2.f 5
        have H7 : Hid (LvM w (w5.setCell ⟨eb, 3, none⟩ (.int .i64 (q4 - 1))) B r base s.L.length (.slice none 0 0) (fun z => left z && !z.sameKey (litU q1)) cnt3 D [] ∧ Blk (w5.setCell ⟨eb, 3, none⟩ (.int .i64 (q4 - 1))) eb 44 [.int .u64 q1, .int .i64 q2, .int .i64 q3, .int .i64 (q4 - 1), .int .i64 q5, .int .i64 q6] ∧ TaB (w5.setCell ⟨eb, 3, none⟩ (.int .i64 (q4 - 1))) b B s) := by
          have hm7 := H5.out.1.cell (i := 3) (u := .int .i64 (q4 - 1)) HEB.out.1 HEB.out.2.1 HEB.out.2.2 (fun g hg => by cases hg)
          exact ⟨hm7, H5.out.2.set 3 _, TaB.of HT.out hm7.fr (by have := HBB.out; have := HT.out.blk.lt; omega)⟩
        go_upto_region 6 with fail
        generalize (w5.setCell ⟨eb, 3, none⟩ (.int .i64 (q4 - 1))) = w7 at *
        clear m0 m1 m2 m3 m4 m5 f0 f1 f2 f3 f4 f5
        have m0 := H7.out.2.1.cell 0
        have m1 := H7.out.2.1.cell 1
        have m2 := H7.out.2.1.cell 2
        have m3 := H7.out.2.1.cell 3
        have m4 := H7.out.2.1.cell 4
        have m5 := H7.out.2.1.cell 5
        have c4 := H7.out.2.2.c4
        have H7d : Hid (LvM w w7.drew B r base s.L.length (.slice none 0 0) (fun z => left z && !z.sameKey (litU q1)) cnt3 D []) := H7.out.1.over (Below.refl _ _).drew
        have HHAS : Hid (∃ y ∈ turnL lessW (fun z => !left (litU z)) s.L, y.id = q1) := turnL_has keeps_lessW HX.out.1
        obtain ⟨w8, hrun, hrg8, ht8⟩ := ranges_store H7d.out.rg lawU Try.underlying60 (by have := HS8.out; unfold maxLen; omega) (key_u HU.out) ((HP.out.has _).2 HHAS.out) (readE_v ⟨q1, q2, q3, q4 - 1, q5, q6⟩)
        dsimp only [En.v] at hrun
        have H8 : Hid (LvM w w8 B r base s.L.length (.slice none 0 0) (fun z => left z && !z.sameKey (litU q1)) cnt3 (D.put (litU q1) (.held ⟨q1, q2, q3, q4 - 1, q5, q6⟩)) []) := H7d.out.turned (by have := HBB.out; have := HBS.out; omega) ht8 hrg8
        have HN : Hid (VwE (D.put (litU q1) (.held ⟨q1, q2, q3, q4 - 1, q5, q6⟩)) (turnL lessW (fun z => !(left (litU z) && !(litU z).sameKey (litU q1))) s.L)) := by
          have h1 := HP.out.put (x := ⟨q1, q2, q3, q4 - 1, q5, q6⟩) HHAS.out
          have h2 := turnL_step keeps_lessW (left := left) HS.out.up HX.out.1
          rw [HLF.out] at h2
          exact h2 ▸ h1
        clear hrg8 ht8 H7d HP
        go_big_region
        go_wp2_with fail
        go_roundw
        case rel => exact ⟨_, cnt3, _, H8.out, HN.out⟩
        case measure => rw [H8.out.rg.left_eq, HMS.out]; exact HLT.out

end Go.Proofs.Ytlckconhhhllkaa
