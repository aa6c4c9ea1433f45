/-
  ShowBack: what is shown is parsed as it was.
-/
import Derived.Test.YtcllgpbgikidjaaDoorQMath
import Derived.Test.YtcllgpbgikidjaaDoorSAwake
import Derived.Test.YtcllgpbgikidjaaDoorSLight
import Derived.Test.YtcllgpbgikidjaaDoorSSame
import Derived.Test.YtcllgpbgikidjaaDoorSOpen
namespace Go.Proofs.YtcllgpbgikidjaaDoor
open Go.RowKit

/-- what is known of light rules. -/
theorem lt_bounds {l : List Xr} (h : Lt l) : l.length ≤ 1000 ∧ (∀ x ∈ l, x.r.names.length ≤ 9000000 ∧ x.r.conds.length ≤ 9000000) ∧ SmX (l.map Xr.r) := by
  obtain ⟨h1, h2⟩ := h
  refine ⟨by omega, fun x hx => ⟨by have := (h2 x hx).1; omega, by have := (h2 x hx).2.1; omega⟩, by rw [List.length_map]; omega, fun r hr => ?_⟩
  obtain ⟨x, hx, rfl⟩ := List.mem_map.1 hr
  exact ⟨by have := (h2 x hx).1; omega, by have := (h2 x hx).2.1; omega⟩

theorem lt_in {l : List Xr} (h : Lt l) (hu : ∀ y ∈ l, ∀ c ∈ y.r.conds, U64 c.mask ∧ U64 c.val) : ∀ x ∈ l, x.r.in := fun x hx => ⟨fun s hs => by have := (h.2 x hx).2.2 s hs; omega, hu x hx⟩

set_option maxRecDepth 8000 in
set_option maxHeartbeats 8000000 in
theorem showBack_walk (T : List Int) (k a : Int) (v : Value) (l : List Xr) (w : World) (hr : RlIn w v l) (hv : Vars w) (ht : Tb T w) :
    Calls Tryd.prog 3 #[.agg #[.int .i64 k, .int .i64 a, v]] w fun e w' => e = .returned (.bool true) ∧ Below w.heap.size w w' := by
  obtain ⟨p1, c1, rfl⟩ : ∃ p c, v = .slice p l.length c := by obtain ⟨⟨p, c, e, _⟩, _⟩ := hr; exact ⟨p, c, e⟩
  have be : Below w.heap.size w (w.alloc (Obj.cells #[.int .i64 k, .int .i64 a, .slice p1 l.length c1] 26)) := (Below.refl _ _).alloc (Nat.le_refl _) _
  have BE : Hid (Below w.heap.size w (w.alloc (Obj.cells #[.int .i64 k, .int .i64 a, .slice p1 l.length c1] 26))) := be
  have HK : Hid (Blk (w.alloc (Obj.cells #[.int .i64 k, .int .i64 a, .slice p1 l.length c1] 26)) w.heap.size 26 [.int .i64 k, .int .i64 a, .slice p1 l.length c1]) := blk_new w _ _
  have HT : Hid (Tb T (w.alloc (Obj.cells #[.int .i64 k, .int .i64 a, .slice p1 l.length c1] 26))) := ht.below be
  have HV : Hid (Vars (w.alloc (Obj.cells #[.int .i64 k, .int .i64 a, .slice p1 l.length c1] 26))) := hv.below be
  have SN : Hid (RlR (w.alloc (Obj.cells #[.int .i64 k, .int .i64 a, .slice p1 l.length c1] 26)) (.slice p1 l.length c1) l) := hr.1.below be
  have HU : Hid (∀ y ∈ l, ∀ c ∈ y.r.conds, U64 c.mask ∧ U64 c.val) := hr.2
  clear hr hv ht be
  go_enter Tryd.func3, Tryd.ntmps3
  go_wp2_with fail
  generalize (w.alloc (Obj.cells #[.int .i64 k, .int .i64 a, .slice p1 l.length c1] 26)) = X at *
  refine (awake_any T X HT.out).mono ?_
  rintro e w1 ⟨rfl, b1⟩
  have B1 : Hid (Below X.heap.size X w1) := b1
  have t0 : w1.cell? ⟨w.heap.size, 0, none⟩ = some (.int .i64 k) := (HK.out.over b1).cell 0
  have t1 : w1.cell? ⟨w.heap.size, 1, none⟩ = some (.int .i64 a) := (HK.out.over b1).cell 1
  have t2 : w1.cell? ⟨w.heap.size, 2, none⟩ = some (.slice p1 l.length c1) := (HK.out.over b1).cell 2
  have L1 := light_any w1 k a (.slice p1 l.length c1) l (SN.out.below b1)
  have HL1 : Hid (Calls Tryd.prog 6 #[.agg #[.int .i64 k, .int .i64 a, .slice p1 l.length c1]] w1 fun e w' => LightR w1 l e w') := L1
  clear L1 b1
  go_wp2_with fail
  refine HL1.out.mono ?_
  rintro e w2 ⟨bb, rfl, b2, hbb⟩
  have B2 : Hid (Below X.heap.size X w2) := B1.out.trans (b2.mono B1.out.size)
  clear t0 t1 t2 b2 B1 HL1
  rcases Bool.eq_false_or_eq_true bb with rfl | rfl
  · have HLt : Hid (Lt l) := hbb rfl
    clear hbb
    obtain ⟨l1, l2, l3⟩ := lt_bounds HLt.out
    have HSm : Hid (SmX (l.map Xr.r)) := l3
    have t0 : w2.cell? ⟨w.heap.size, 0, none⟩ = some (.int .i64 k) := (HK.out.over B2.out).cell 0
    have t1 : w2.cell? ⟨w.heap.size, 1, none⟩ = some (.int .i64 a) := (HK.out.over B2.out).cell 1
    have t2 : w2.cell? ⟨w.heap.size, 2, none⟩ = some (.slice p1 l.length c1) := (HK.out.over B2.out).cell 2
    have HR : Hid (∀ W, Below X.heap.size X W → Calls Tryd.prog 8 #[.agg #[.int .i64 k, .int .i64 a, .slice p1 l.length c1]] W fun e w' => e = .returned (.bool (rulesB k a (l.map Xr.r))) ∧ Below W.heap.size W w') := fun W hW => right_any W k a _ l (SN.out.below hW) l1 l2
    rcases Bool.eq_false_or_eq_true (rulesB k a (l.map Xr.r)) with hB | hB
    · have HTX : Hid (Calls Tryd.prog 7 #[.agg #[.int .i64 k, .int .i64 a, .slice p1 l.length c1]] w2 fun e w' => e = .returned (.tuple #[.string (bar (textT T k a (l.map Xr.r))), .int .i64 0]) ∧ Below w2.heap.size w2 w') := text_yes T w2 k a _ l (SN.out.below B2.out) l1 l2 hB (lt_in HLt.out HU.out) (HT.out.below B2.out)
      have HPT : Hid ((textT T k a (l.map Xr.r)).length ≤ 8192 → prs (textT T k a (l.map Xr.r)) = .ok (⟨k.toNat, a.toNat⟩, (l.map Xr.r).map toR)) := fun hlen => prs_text T hB (fun x hx c hc => by obtain ⟨y, hy, rfl⟩ := List.mem_map.1 hx; exact HU.out y hy c hc) hlen
      have HPL : Hid (¬ (textT T k a (l.map Xr.r)).length ≤ 8192 → prs (textT T k a (l.map Xr.r)) = .error (4, 8192) ∨ ∃ p, prs (textT T k a (l.map Xr.r)) = .error (4, p)) := prs_long
      have HBK : Hid (((l.map Xr.r).map toR).map ofR = l.map Xr.r ∧ ((k.toNat : Int) = k ∧ (a.toNat : Int) = a)) := by
        unfold rulesB at hB
        simp only [Bool.and_eq_true, decide_eq_true_eq, List.all_eq_true] at hB
        refine ⟨?_, ?_⟩
        · rw [List.map_map]
          conv => rhs; rw [← List.map_id (l.map Xr.r)]
          apply List.map_congr_left
          intro x hx
          exact ofR_toR ⟨hB.2 x hx, fun c hc => by obtain ⟨y, hy, rfl⟩ := List.mem_map.1 hx; exact HU.out y hy c hc⟩
        · have := actB_out hB.1.1
          omega
      rw [hB] at HR
      clear hB l1 l2 l3
      generalize textT T k a (l.map Xr.r) = TX at *
      go_wp2_with fail
      refine HTX.out.mono ?_
      rintro e w3 ⟨rfl, b3⟩
      have B3 : Hid (Below X.heap.size X w3) := B2.out.trans (b3.mono B2.out.size)
      clear t0 t1 t2 b3 HTX
      have t0 : w3.cell? ⟨w.heap.size, 0, none⟩ = some (.int .i64 k) := (HK.out.over B3.out).cell 0
      have t1 : w3.cell? ⟨w.heap.size, 1, none⟩ = some (.int .i64 a) := (HK.out.over B3.out).cell 1
      have t2 : w3.cell? ⟨w.heap.size, 2, none⟩ = some (.slice p1 l.length c1) := (HK.out.over B3.out).cell 2
      go_wp2_with fail
      refine (HR.out _ B3.out).mono ?_
      rintro e w4 ⟨rfl, b4⟩
      have B4 : Hid (Below X.heap.size X w4) := B3.out.trans (b4.mono B3.out.size)
      clear t0 t1 t2 b4 HR
      have P4 := parseX (bar TX) w4 (HV.out.below B4.out)
      rw [lst_bar] at P4
      have HP4 : Hid (Calls Tryd.prog 9 #[.string (bar TX)] w4 fun e w' => Below w4.heap.size w4 w' ∧ ParX (prs TX) e w') := P4
      clear P4
      by_cases hlen : TX.length ≤ 8192
      · rw [HPT.out hlen] at HP4
        have hsz : ¬ 8192 < ((bar TX).size : Int) := by rw [bar_size]; omega
        clear HPT HPL
        go_wp2_with fail
        refine HP4.out.mono ?_
        rintro e w5 ⟨b5, vy, ly, hly, rfl, ry⟩
        rw [HBK.out.1] at hly
        rw [HBK.out.2.1, HBK.out.2.2]
        have B5 : Hid (Below X.heap.size X w5) := B4.out.trans (b5.mono B4.out.size)
        obtain ⟨p2, c2, rfl⟩ : ∃ p c, vy = .slice p ly.length c := by obtain ⟨p, c, e, _⟩ := ry; exact ⟨p, c, e⟩
        have b6 : Below w5.heap.size w5 (w5.alloc (Obj.cells #[.int .i64 k, .int .i64 a, .slice p2 ly.length c2] 26)) := (Below.refl _ _).alloc (Nat.le_refl _) _
        have B6 : Hid (Below X.heap.size X (w5.alloc (Obj.cells #[.int .i64 k, .int .i64 a, .slice p2 ly.length c2] 26))) := B5.out.trans (b6.mono B5.out.size)
        have S6 := sameX (w5.alloc (Obj.cells #[.int .i64 k, .int .i64 a, .slice p2 ly.length c2] 26)) k a (.slice p1 l.length c1) (.slice p2 ly.length c2) l ly (SN.out.below B6.out) (ry.below b6) hly.symm HSm.out
        have HS6 : Hid (Calls Tryd.prog 10 #[.agg #[.int .i64 k, .int .i64 a, .slice p1 l.length c1], .agg #[.int .i64 k, .int .i64 a, .slice p2 ly.length c2]] (w5.alloc (Obj.cells #[.int .i64 k, .int .i64 a, .slice p2 ly.length c2] 26)) fun e w' => e = .returned (.bool true) ∧ Below (w5.alloc (Obj.cells #[.int .i64 k, .int .i64 a, .slice p2 ly.length c2] 26)).heap.size (w5.alloc (Obj.cells #[.int .i64 k, .int .i64 a, .slice p2 ly.length c2] 26)) w') := S6
        have t0 : (w5.alloc (Obj.cells #[.int .i64 k, .int .i64 a, .slice p2 ly.length c2] 26)).cell? ⟨w.heap.size, 0, none⟩ = some (.int .i64 k) := (HK.out.over B6.out).cell 0
        have t1 : (w5.alloc (Obj.cells #[.int .i64 k, .int .i64 a, .slice p2 ly.length c2] 26)).cell? ⟨w.heap.size, 1, none⟩ = some (.int .i64 a) := (HK.out.over B6.out).cell 1
        have t2 : (w5.alloc (Obj.cells #[.int .i64 k, .int .i64 a, .slice p2 ly.length c2] 26)).cell? ⟨w.heap.size, 2, none⟩ = some (.slice p1 l.length c1) := (HK.out.over B6.out).cell 2
        clear S6 b6 b5 hly ry
        go_wp2_with fail
        refine HS6.out.mono ?_
        rintro e w7 ⟨rfl, b7⟩
        go_wp2_with fail
        go_ret
        exact ⟨rfl, BE.out.trans ((B6.out.trans (b7.mono B6.out.size)).mono BE.out.size)⟩
      · obtain ⟨p, hp⟩ : ∃ p, prs TX = .error (4, p) := by
          rcases HPL.out hlen with h | ⟨p, h⟩
          · exact ⟨_, h⟩
          · exact ⟨p, h⟩
        rw [hp] at HP4
        have hsz : 8192 < ((bar TX).size : Int) := by rw [bar_size]; omega
        clear HPT HPL hp
        go_wp2_with fail
        refine HP4.out.mono ?_
        rintro e w5 ⟨b5, rfl⟩
        go_wp2_with fail
        go_ret
        exact ⟨rfl, BE.out.trans (((B4.out.trans (b5.mono B4.out.size)).alloc (Nat.le_trans B4.out.size b5.size) _).mono BE.out.size)⟩
    · have HTX : Hid (Calls Tryd.prog 7 #[.agg #[.int .i64 k, .int .i64 a, .slice p1 l.length c1]] w2 fun e w' => e = .returned (.tuple #[.string ⟨#[]⟩, .int .i64 1]) ∧ Below w2.heap.size w2 w') := text_no w2 k a _ l (SN.out.below B2.out) l1 l2 hB
      rw [hB] at HR
      clear hB l1 l2 l3
      go_wp2_with fail
      refine HTX.out.mono ?_
      rintro e w3 ⟨rfl, b3⟩
      have B3 : Hid (Below X.heap.size X w3) := B2.out.trans (b3.mono B2.out.size)
      clear t0 t1 t2 b3 HTX
      have t0 : w3.cell? ⟨w.heap.size, 0, none⟩ = some (.int .i64 k) := (HK.out.over B3.out).cell 0
      have t1 : w3.cell? ⟨w.heap.size, 1, none⟩ = some (.int .i64 a) := (HK.out.over B3.out).cell 1
      have t2 : w3.cell? ⟨w.heap.size, 2, none⟩ = some (.slice p1 l.length c1) := (HK.out.over B3.out).cell 2
      go_wp2_with fail
      refine (HR.out _ B3.out).mono ?_
      rintro e w4 ⟨rfl, b4⟩
      go_wp2_with fail
      go_ret
      exact ⟨rfl, BE.out.trans ((B3.out.trans (b4.mono B3.out.size)).mono BE.out.size)⟩
  · clear hbb
    go_wp2_with fail
    go_ret
    exact ⟨rfl, BE.out.trans (B2.out.mono BE.out.size)⟩

end Go.Proofs.YtcllgpbgikidjaaDoor
