/-
  The law ParseJoins, walked: true for all texts.
-/
import Derived.Test.YtdjjlccpmfhkiaaDoorJoinMem
namespace Go.Proofs.YtdjjlccpmfhkiaaDoor
open Go.RowKit

/-- Parse, whatever it tells. -/
theorem parse3 (s : ByteArray) (w : World) (hv : Vars w) :
    Calls Tryd.prog 10 #[.string s] w fun e w' => Below w.heap.size w w' ∧ ∃ (k a : Int) (p : Option Addr) (n m : Nat) (c q : Int), e = .returned (.tuple #[.agg #[.int .i64 k, .int .i64 a, .slice p n m], .int .i64 c, .int .i64 q]) := by
  refine (parse2 s w hv).mono ?_
  rintro e w' ⟨hb, h⟩
  refine ⟨hb, ?_⟩
  generalize prs (lst s) = R at *
  obtain ⟨c, p⟩ | ⟨d, rs⟩ := R
  · exact ⟨_, _, _, _, _, _, _, h⟩
  · obtain ⟨v, rv, _, h2, ⟨a, cap, rfl, _⟩⟩ := h
    exact ⟨_, _, _, _, _, _, _, h2⟩

set_option linter.unusedSimpArgs false in
set_option maxRecDepth 100000 in
set_option maxHeartbeats 8000000 in
theorem parseJoins_walk (sa sb : ByteArray) (w : World) (hv : Vars w) :
    Calls Tryd.prog 4 #[.string sa, .string sb] w fun e w' => e = .returned (.bool true) ∧ Below w.heap.size w w' := by
  have HV : Hid (Vars w) := hv
  have HW : Hid (∀ W, Vars W → Calls Tryd.prog 9 #[] W fun e w' => e = .returned (.bool true) ∧ Below W.heap.size W w') := awake_any
  clear hv
  by_cases hla : 3000 < sa.size
  · have h1 : decide ((3000 : Int) < sa.size) = true := by simp; omega
    go_enter Tryd.func4, Tryd.ntmps4
    go_wp2_with (go_at_call 9; refine (HW.out _ HV.out).mono ?_; rintro e w1 ⟨rfl, b1⟩)
    go_ret
    exact ⟨rfl, b1⟩
  have h1 : decide ((3000 : Int) < sa.size) = false := by simp; omega
  by_cases hlb : 3000 < sb.size
  · have h2 : decide ((3000 : Int) < sb.size) = true := by simp; omega
    go_enter Tryd.func4, Tryd.ntmps4
    go_wp2_with (go_at_call 9; refine (HW.out _ HV.out).mono ?_; rintro e w1 ⟨rfl, b1⟩)
    go_ret
    exact ⟨rfl, b1⟩
  have h2 : decide ((3000 : Int) < sb.size) = false := by simp; omega
  have hza : sa.size ≤ 3000 := by omega
  have hzb : sb.size ≤ 3000 := by omega
  have hzd : (⟨#[100, 101, 102, 97, 117, 108, 116, 32, 108, 111, 103, 59]⟩ : ByteArray).size ≤ 12 := by decide
  have hzn : (sa ++ (⟨#[10]⟩ : ByteArray)).size ≤ 3001 := by rw [ByteArray.size_append]; have : (⟨#[10]⟩ : ByteArray).size = 1 := rfl; omega
  have hl2 : lst ((⟨#[100, 101, 102, 97, 117, 108, 116, 32, 108, 111, 103, 59]⟩ : ByteArray) ++ sb) = dlog ++ lst sb := by
    rw [← bar_lst sb, show (⟨#[100, 101, 102, 97, 117, 108, 116, 32, 108, 111, 103, 59]⟩ : ByteArray) = bar dlog from rfl, bar_app, lst_bar, lst_bar]
  have hl3 : lst (sa ++ (⟨#[10]⟩ : ByteArray) ++ sb) = lst sa ++ 10 :: lst sb := by
    rw [← bar_lst sa, ← bar_lst sb, show (⟨#[10]⟩ : ByteArray) = bar [10] from rfl, bar_app, bar_app, lst_bar, lst_bar, lst_bar]
    simp
  have HP1 : Hid (∀ W, Vars W → Calls Tryd.prog 10 #[.string sa] W fun e w' => Below W.heap.size W w' ∧ ParR W.heap.size (prs (lst sa)) e w') := fun W h => parse_any sa W h
  have HP2 : Hid (∀ W, Vars W → Calls Tryd.prog 10 #[.string ((⟨#[100, 101, 102, 97, 117, 108, 116, 32, 108, 111, 103, 59]⟩ : ByteArray) ++ sb)] W fun e w' => Below W.heap.size W w' ∧ ParR W.heap.size (prs (dlog ++ lst sb)) e w') := fun W h => by have := parse_any ((⟨#[100, 101, 102, 97, 117, 108, 116, 32, 108, 111, 103, 59]⟩ : ByteArray) ++ sb) W h; rw [hl2] at this; exact this
  have HP3 : Hid (∀ W, Vars W → Calls Tryd.prog 10 #[.string (sa ++ (⟨#[10]⟩ : ByteArray) ++ sb)] W fun e w' => Below W.heap.size W w' ∧ Par2 (prs (lst sa ++ 10 :: lst sb)) e w') := fun W h => by have := parse2 (sa ++ (⟨#[10]⟩ : ByteArray) ++ sb) W h; rw [hl3] at this; exact this
  have HG2 : Hid (∀ W, Vars W → Calls Tryd.prog 10 #[.string ((⟨#[100, 101, 102, 97, 117, 108, 116, 32, 108, 111, 103, 59]⟩ : ByteArray) ++ sb)] W fun e w' => Below W.heap.size W w' ∧ ∃ (k a : Int) (p : Option Addr) (n m : Nat) (c q : Int), e = .returned (.tuple #[.agg #[.int .i64 k, .int .i64 a, .slice p n m], .int .i64 c, .int .i64 q])) := fun W h => parse3 _ W h
  have HG3 : Hid (∀ W, Vars W → Calls Tryd.prog 10 #[.string (sa ++ (⟨#[10]⟩ : ByteArray) ++ sb)] W fun e w' => Below W.heap.size W w' ∧ ∃ (k a : Int) (p : Option Addr) (n m : Nat) (c q : Int), e = .returned (.tuple #[.agg #[.int .i64 k, .int .i64 a, .slice p n m], .int .i64 c, .int .i64 q])) := fun W h => parse3 _ W h
  have hna : (lst sa).length ≤ 3000 := by rw [lst_length]; omega
  have hnb : (lst sb).length ≤ 3000 := by rw [lst_length]; omega
  have hnd : (dlog ++ lst sb).length ≤ 8192 := by rw [List.length_append]; simp [dlog]; omega
  clear hl2 hl3 hla hlb
  rcases hA : prs (lst sa) with ⟨c, p⟩ | ⟨d, rs⟩
  · have hcc := (prs_place hA (by omega)).1
    rw [hA] at HP1
    have hc : ((c : Int) == 0) = false := by rw [beq_eq_false_iff_ne]; omega
    have hcn : ((c : Int) != 0) = true := by rw [bne, hc]; rfl
    clear hA hcc hna hnb hnd HP2 HP3
    go_enter Tryd.func4, Tryd.ntmps4
    go_wp2_with fail
    refine (HW.out _ HV.out).mono ?_
    rintro e w1 ⟨rfl, b1⟩
    have V1 : Hid (Vars w1) := HV.out.below b1
    go_wp2_with fail
    refine (HP1.out _ V1.out).mono ?_
    rintro e w2 ⟨b2, rfl⟩
    have hal : Below w2.heap.size w2 (w2.alloc (Obj.cells #[.int .i64 0, .int .i64 0, .slice none 0 0] 27)) := (Below.refl _ _).alloc (Nat.le_refl _) _
    have V2 : Hid (Vars (w2.alloc (Obj.cells #[.int .i64 0, .int .i64 0, .slice none 0 0] 27))) := (V1.out.below b2).below hal
    have B2 : Hid (Below w.heap.size w (w2.alloc (Obj.cells #[.int .i64 0, .int .i64 0, .slice none 0 0] 27))) := (b1.trans (b2.mono b1.size)).trans (hal.mono (Nat.le_trans b1.size b2.size))
    clear hal b1 b2
    go_wp2_with fail
    generalize w2.alloc (Obj.cells #[.int .i64 0, .int .i64 0, .slice none 0 0] 27) = X2 at *
    refine (HG2.out _ V2.out).mono ?_
    rintro e w3 ⟨b3, k3, a3, p3, n3, m3, c3, q3, rfl⟩
    have hal : Below w3.heap.size w3 (w3.alloc (Obj.cells #[.int .i64 k3, .int .i64 a3, .slice p3 n3 m3] 27)) := (Below.refl _ _).alloc (Nat.le_refl _) _
    have V3 : Hid (Vars (w3.alloc (Obj.cells #[.int .i64 k3, .int .i64 a3, .slice p3 n3 m3] 27))) := (V2.out.below b3).below hal
    have B3 : Hid (Below w.heap.size w (w3.alloc (Obj.cells #[.int .i64 k3, .int .i64 a3, .slice p3 n3 m3] 27))) := (B2.out.trans (b3.mono B2.out.size)).trans (hal.mono (Nat.le_trans B2.out.size b3.size))
    clear hal b3
    go_wp2_with fail
    generalize w3.alloc (Obj.cells #[.int .i64 k3, .int .i64 a3, .slice p3 n3 m3] 27) = X3 at *
    refine (HG3.out _ V3.out).mono ?_
    rintro e w4 ⟨b4, k4, a4, p4, n4, m4, c4, q4, rfl⟩
    go_wp2_with fail
    go_ret
    exact ⟨rfl, (B3.out.trans (b4.mono B3.out.size)).alloc (Nat.le_trans B3.out.size b4.size) _⟩
  · rw [hA] at HP1
    rcases hB : prs (dlog ++ lst sb) with ⟨c, p⟩ | ⟨d2, rs2⟩
    · have hcc := (prs_place hB hnd).1
      rw [hB] at HP2
      have hc : ((c : Int) == 0) = false := by rw [beq_eq_false_iff_ne]; omega
      have hcn : ((c : Int) != 0) = true := by rw [bne, hc]; rfl
      clear hA hB hcc hna hnb hnd HP3 HG2
      go_enter Tryd.func4, Tryd.ntmps4
      go_wp2_with fail
      refine (HW.out _ HV.out).mono ?_
      rintro e w1 ⟨rfl, b1⟩
      have V1 : Hid (Vars w1) := HV.out.below b1
      go_wp2_with fail
      refine (HP1.out _ V1.out).mono ?_
      rintro e w2 ⟨b2, v2, rvx, hrx, rfl, ho2, hr2⟩
      obtain ⟨px, cx, rfl, hRX⟩ := rsrc_of ho2 hr2
      have hal : Below w2.heap.size w2 (w2.alloc (Obj.cells #[.int .i64 d.k, .int .i64 d.a, .slice px rvx.length cx] 27)) := (Below.refl _ _).alloc (Nat.le_refl _) _
      have V2 : Hid (Vars (w2.alloc (Obj.cells #[.int .i64 d.k, .int .i64 d.a, .slice px rvx.length cx] 27))) := (V1.out.below b2).below hal
      have B2 : Hid (Below w.heap.size w (w2.alloc (Obj.cells #[.int .i64 d.k, .int .i64 d.a, .slice px rvx.length cx] 27))) := (b1.trans (b2.mono b1.size)).trans (hal.mono (Nat.le_trans b1.size b2.size))
      clear ho2 hr2 hal b1 b2 hRX
      go_wp2_with fail
      generalize w2.alloc (Obj.cells #[.int .i64 d.k, .int .i64 d.a, .slice px rvx.length cx] 27) = X2 at *
      refine (HP2.out _ V2.out).mono ?_
      rintro e w3 ⟨b3, rfl⟩
      have hal : Below w3.heap.size w3 (w3.alloc (Obj.cells #[.int .i64 0, .int .i64 0, .slice none 0 0] 27)) := (Below.refl _ _).alloc (Nat.le_refl _) _
      have V3 : Hid (Vars (w3.alloc (Obj.cells #[.int .i64 0, .int .i64 0, .slice none 0 0] 27))) := (V2.out.below b3).below hal
      have B3 : Hid (Below w.heap.size w (w3.alloc (Obj.cells #[.int .i64 0, .int .i64 0, .slice none 0 0] 27))) := (B2.out.trans (b3.mono B2.out.size)).trans (hal.mono (Nat.le_trans B2.out.size b3.size))
      clear hal b3
      go_wp2_with fail
      generalize w3.alloc (Obj.cells #[.int .i64 0, .int .i64 0, .slice none 0 0] 27) = X3 at *
      refine (HG3.out _ V3.out).mono ?_
      rintro e w4 ⟨b4, k4, a4, p4, n4, m4, c4, q4, rfl⟩
      go_wp2_with fail
      go_ret
      exact ⟨rfl, (B3.out.trans (b4.mono B3.out.size)).alloc (Nat.le_trans B3.out.size b4.size) _⟩
    · obtain ⟨hj1, hj2⟩ := prs_join hA hB hna hnb
      dsimp only at hj1 hj2
      have hsx : rs.length ≤ 64 := (prs_bound hA).2.1
      have hsy : rs2.length ≤ 64 := (prs_bound hB).2.1
      have HSM : Hid (∀ d3 rs3, prs (lst sa ++ 10 :: lst sb) = .ok (d3, rs3) → Sm rs3) := fun d3 rs3 h => sm_of h
      rw [hB] at HP2
      clear hA hB hna hnb hnd HG2 HG3
      go_enter Tryd.func4, Tryd.ntmps4
      go_wp2_with fail
      refine (HW.out _ HV.out).mono ?_
      rintro e w1 ⟨rfl, b1⟩
      have V1 : Hid (Vars w1) := HV.out.below b1
      go_wp2_with fail
      refine (HP1.out _ V1.out).mono ?_
      rintro e w2 ⟨b2, v2, rvx, hrx, rfl, ho2, hr2⟩
      obtain ⟨px, cx, rfl, hRX⟩ := rsrc_of ho2 hr2
      have hal : Below w2.heap.size w2 (w2.alloc (Obj.cells #[.int .i64 d.k, .int .i64 d.a, .slice px rvx.length cx] 27)) := (Below.refl _ _).alloc (Nat.le_refl _) _
      have V2 : Hid (Vars (w2.alloc (Obj.cells #[.int .i64 d.k, .int .i64 d.a, .slice px rvx.length cx] 27))) := (V1.out.below b2).below hal
      have B2 : Hid (Below w.heap.size w (w2.alloc (Obj.cells #[.int .i64 d.k, .int .i64 d.a, .slice px rvx.length cx] 27))) := (b1.trans (b2.mono b1.size)).trans (hal.mono (Nat.le_trans b1.size b2.size))
      have RX2 : Hid (Rsrc (w2.alloc (Obj.cells #[.int .i64 d.k, .int .i64 d.a, .slice px rvx.length cx] 27)) px rvx.length cx rvx) := hRX.below hal
      have K62 : Hid (Blk (w2.alloc (Obj.cells #[.int .i64 d.k, .int .i64 d.a, .slice px rvx.length cx] 27)) w2.heap.size 27 (rulL d.k d.a (.slice px rvx.length cx))) := blk_new w2 _ 27
      clear ho2 hr2 hal b1 b2 hRX
      go_wp2_with fail
      generalize w2.alloc (Obj.cells #[.int .i64 d.k, .int .i64 d.a, .slice px rvx.length cx] 27) = X2 at *
      generalize w2.heap.size = N6 at *
      refine (HP2.out _ V2.out).mono ?_
      rintro e w3 ⟨b3, v3, rvy, hry, rfl, ho3, hr3⟩
      obtain ⟨py, cy, rfl, hRY⟩ := rsrc_of ho3 hr3
      have hal : Below w3.heap.size w3 (w3.alloc (Obj.cells #[.int .i64 d2.k, .int .i64 d2.a, .slice py rvy.length cy] 27)) := (Below.refl _ _).alloc (Nat.le_refl _) _
      have V3 : Hid (Vars (w3.alloc (Obj.cells #[.int .i64 d2.k, .int .i64 d2.a, .slice py rvy.length cy] 27))) := (V2.out.below b3).below hal
      have B3 : Hid (Below w.heap.size w (w3.alloc (Obj.cells #[.int .i64 d2.k, .int .i64 d2.a, .slice py rvy.length cy] 27))) := (B2.out.trans (b3.mono B2.out.size)).trans (hal.mono (Nat.le_trans B2.out.size b3.size))
      have RX3 : Hid (Rsrc (w3.alloc (Obj.cells #[.int .i64 d2.k, .int .i64 d2.a, .slice py rvy.length cy] 27)) px rvx.length cx rvx) := (RX2.out.below b3).below hal
      have RY3 : Hid (Rsrc (w3.alloc (Obj.cells #[.int .i64 d2.k, .int .i64 d2.a, .slice py rvy.length cy] 27)) py rvy.length cy rvy) := hRY.below hal
      have K63 : Hid (Blk (w3.alloc (Obj.cells #[.int .i64 d2.k, .int .i64 d2.a, .slice py rvy.length cy] 27)) N6 27 (rulL d.k d.a (.slice px rvx.length cx))) := (K62.out.over b3).over hal
      have K93 : Hid (Blk (w3.alloc (Obj.cells #[.int .i64 d2.k, .int .i64 d2.a, .slice py rvy.length cy] 27)) w3.heap.size 27 (rulL d2.k d2.a (.slice py rvy.length cy))) := blk_new w3 _ 27
      clear ho3 hr3 hal b3 hRY K62 RX2 V2 B2
      go_wp2_with fail
      generalize w3.alloc (Obj.cells #[.int .i64 d2.k, .int .i64 d2.a, .slice py rvy.length cy] 27) = X3 at *
      generalize w3.heap.size = N9 at *
      have hlx : rvx.length = rs.length := by rw [hrx]; simp
      have hly : rvy.length = rs2.length := by rw [hry]; simp
      by_cases hsum : 64 < rvx.length + rvy.length
      · obtain ⟨p, hp⟩ := hj2 (by omega)
        rw [hp] at HP3
        have hd : decide ((64 : Int) < (rvx.length : Int) + (rvy.length : Int)) = true := by simp; omega
        clear hj1 hj2 hp HSM hsum
        refine (HP3.out _ V3.out).mono ?_
        rintro e w4 ⟨b4, rfl⟩
        have hal : Below w4.heap.size w4 (w4.alloc (Obj.cells #[.int .i64 0, .int .i64 0, .slice none 0 0] 27)) := (Below.refl _ _).alloc (Nat.le_refl _) _
        have B4 : Hid (Below w.heap.size w (w4.alloc (Obj.cells #[.int .i64 0, .int .i64 0, .slice none 0 0] 27))) := (B3.out.trans (b4.mono B3.out.size)).trans (hal.mono (Nat.le_trans B3.out.size b4.size))
        have k6 : (w4.alloc (Obj.cells #[.int .i64 0, .int .i64 0, .slice none 0 0] 27)).cell? ⟨N6, 2, none⟩ = some (.slice px rvx.length cx) := ((K63.out.over b4).over hal).cell 2
        have k9 : (w4.alloc (Obj.cells #[.int .i64 0, .int .i64 0, .slice none 0 0] 27)).cell? ⟨N9, 2, none⟩ = some (.slice py rvy.length cy) := ((K93.out.over b4).over hal).cell 2
        have hx64 : (rvx.length : Int) ≤ 64 := by omega
        have hy64 : (rvy.length : Int) ≤ 64 := by omega
        clear hal b4 hlx hly hrx hry hsx hsy
        go_wp2_with fail
        go_ret
        exact ⟨rfl, B4.out⟩
      · have hp := hj1 (by omega)
        have hsm := HSM.out _ _ hp
        rw [hp] at HP3
        have hd : decide ((64 : Int) < (rvx.length : Int) + (rvy.length : Int)) = false := by simp; omega
        clear hj1 hj2 hp HSM
        refine (HP3.out _ V3.out).mono ?_
        rintro e w4 ⟨b4, v4, rvz, hrz, rfl, hV4⟩
        obtain ⟨pz, cz, rfl⟩ : ∃ a c, v4 = .slice a rvz.length c := by obtain ⟨a, c, e, _⟩ := hV4; exact ⟨a, c, e⟩
        have hal : Below w4.heap.size w4 (w4.alloc (Obj.cells #[.int .i64 d.k, .int .i64 d.a, .slice pz rvz.length cz] 27)) := (Below.refl _ _).alloc (Nat.le_refl _) _
        have B4 : Hid (Below w.heap.size w (w4.alloc (Obj.cells #[.int .i64 d.k, .int .i64 d.a, .slice pz rvz.length cz] 27))) := (B3.out.trans (b4.mono B3.out.size)).trans (hal.mono (Nat.le_trans B3.out.size b4.size))
        have K6 : Hid (Blk (w4.alloc (Obj.cells #[.int .i64 d.k, .int .i64 d.a, .slice pz rvz.length cz] 27)) N6 27 (rulL d.k d.a (.slice px rvx.length cx))) := (K63.out.over b4).over hal
        have K9 : Hid (Blk (w4.alloc (Obj.cells #[.int .i64 d.k, .int .i64 d.a, .slice pz rvz.length cz] 27)) N9 27 (rulL d2.k d2.a (.slice py rvy.length cy))) := (K93.out.over b4).over hal
        have K12 : Hid (Blk (w4.alloc (Obj.cells #[.int .i64 d.k, .int .i64 d.a, .slice pz rvz.length cz] 27)) w4.heap.size 27 (rulL d.k d.a (.slice pz rvz.length cz))) := blk_new w4 _ 27
        have RX : Hid (Rsrc (w4.alloc (Obj.cells #[.int .i64 d.k, .int .i64 d.a, .slice pz rvz.length cz] 27)) px rvx.length cx rvx) := (RX3.out.below b4).below hal
        have RY : Hid (Rsrc (w4.alloc (Obj.cells #[.int .i64 d.k, .int .i64 d.a, .slice pz rvz.length cz] 27)) py rvy.length cy rvy) := (RY3.out.below b4).below hal
        have SZ : Hid (RlsV (w4.alloc (Obj.cells #[.int .i64 d.k, .int .i64 d.a, .slice pz rvz.length cz] 27)) (.slice pz rvz.length cz) rvz) := hV4.below hal
        have HZE : Hid (rvz.map Rv.r = (rvx ++ rvy).map Rv.r) := by
          show _ = _
          rw [List.map_append, ← hrx, ← hry]
          exact hrz.symm
        have HSm : Hid (Sm (rvz.map Rv.r)) := by
          show Sm _
          rw [← hrz]
          exact hsm
        have hx64 : (rvx.length : Int) ≤ 64 := by omega
        have hy64 : (rvy.length : Int) ≤ 64 := by omega
        have k6 : (w4.alloc (Obj.cells #[.int .i64 d.k, .int .i64 d.a, .slice pz rvz.length cz] 27)).cell? ⟨N6, 2, none⟩ = some (.slice px rvx.length cx) := K6.out.cell 2
        have k9 : (w4.alloc (Obj.cells #[.int .i64 d.k, .int .i64 d.a, .slice pz rvz.length cz] 27)).cell? ⟨N9, 2, none⟩ = some (.slice py rvy.length cy) := K9.out.cell 2
        have hle1 : rvx.length ≤ 64 := by omega
        have hle2 : rvy.length ≤ 64 := by omega
        clear hal b4 hV4 hsm hrz hrx hry hlx hly hsum K63 K93 RX3 RY3 B3 V3 hsx hsy
        go_wp2_with fail
        generalize w4.alloc (Obj.cells #[.int .i64 d.k, .int .i64 d.a, .slice pz rvz.length cz] 27) = X4 at *
        generalize w4.heap.size = N12 at *
        clear k6 k9 hd hx64 hy64
        refine wp_region_held_drew (S := fun W => Below X4.heap.size X4 W) (by kernel_rfl) ((Below.refl _ _).drew) (fun hHeld => ?_)
        simp only [List.size_toArray, List.length_cons, List.length_nil, Nat.reduceAdd]
        generalize X4.drew = Y0 at *
        refine wpAnyH_take (i := 0) (v := ?_) rfl (by kernel_rfl) (by kernel_rfl) (by kernel_rfl) (fun _ _ _ h => h) (Or.inl ⟨by rfl, ?_⟩) hHeld ?_
        rotate_left
        · (intro w hSw; (try dsimp only at hSw); go_simp; try with_reducible rfl)
        try simp only [Act.put, List.setIfInBounds_toArray, List.set_cons_zero, List.set_cons_succ, List.getElem_toArray, List.getElem_cons_zero, List.getElem_cons_succ]
        refine wpAnyH_take (i := 1) (v := ?_) rfl (by kernel_rfl) (by kernel_rfl) (by kernel_rfl) (fun _ _ _ h => h) (Or.inl ⟨by rfl, ?_⟩) hHeld ?_
        rotate_left
        · (intro w hSw; (try dsimp only at hSw); have s0 : w.cell? ⟨N6, 0, none⟩ = some (.int .i64 d.k) := (K6.out.over hSw).cell 0; have s1 : w.cell? ⟨N6, 1, none⟩ = some (.int .i64 d.a) := (K6.out.over hSw).cell 1; have s2 : w.cell? ⟨N6, 2, none⟩ = some (.slice px rvx.length cx) := (K6.out.over hSw).cell 2; go_simp; try with_reducible rfl)
        try simp only [Act.put, List.setIfInBounds_toArray, List.set_cons_zero, List.set_cons_succ, List.getElem_toArray, List.getElem_cons_zero, List.getElem_cons_succ]
        refine wpAnyH_take (i := 3) (v := ?_) rfl (by kernel_rfl) (by kernel_rfl) (by kernel_rfl) (fun _ _ _ h => h) (Or.inl ⟨by rfl, ?_⟩) hHeld ?_
        rotate_left
        · (intro w hSw; (try dsimp only at hSw); go_simp; try with_reducible rfl)
        try simp only [Act.put, List.setIfInBounds_toArray, List.set_cons_zero, List.set_cons_succ, List.getElem_toArray, List.getElem_cons_zero, List.getElem_cons_succ]
        refine wpAnyH_take (i := 4) (v := ?_) rfl (by kernel_rfl) (by kernel_rfl) (by kernel_rfl) (fun _ _ _ h => h) (Or.inl ⟨by rfl, ?_⟩) hHeld ?_
        rotate_left
        · (intro w hSw; (try dsimp only at hSw); have s0 : w.cell? ⟨N6, 0, none⟩ = some (.int .i64 d.k) := (K6.out.over hSw).cell 0; have s1 : w.cell? ⟨N6, 1, none⟩ = some (.int .i64 d.a) := (K6.out.over hSw).cell 1; have s2 : w.cell? ⟨N6, 2, none⟩ = some (.slice px rvx.length cx) := (K6.out.over hSw).cell 2; go_simp; try with_reducible rfl)
        try simp only [Act.put, List.setIfInBounds_toArray, List.set_cons_zero, List.set_cons_succ, List.getElem_toArray, List.getElem_cons_zero, List.getElem_cons_succ]
        refine wpAnyH_take (i := 6) (v := ?_) rfl (by kernel_rfl) (by kernel_rfl) (by kernel_rfl) (fun _ _ _ h => h) (Or.inl ⟨by rfl, ?_⟩) hHeld ?_
        rotate_left
        · (intro w hSw; (try dsimp only at hSw); go_simp; try with_reducible rfl)
        try simp only [Act.put, List.setIfInBounds_toArray, List.set_cons_zero, List.set_cons_succ, List.getElem_toArray, List.getElem_cons_zero, List.getElem_cons_succ]
        refine wpAnyH_take (i := 7) (v := ?_) rfl (by kernel_rfl) (by kernel_rfl) (by kernel_rfl) (fun _ _ _ h => h) (Or.inl ⟨by rfl, ?_⟩) hHeld ?_
        rotate_left
        · (intro w hSw; (try dsimp only at hSw); have s2 : w.cell? ⟨N9, 2, none⟩ = some (.slice py rvy.length cy) := (K9.out.over hSw).cell 2; go_simp; try with_reducible rfl)
        try simp only [Act.put, List.setIfInBounds_toArray, List.set_cons_zero, List.set_cons_succ, List.getElem_toArray, List.getElem_cons_zero, List.getElem_cons_succ]
        refine wpAnyH_ready (rs := [2, 10]) (by kernel_rfl) (by simp) ?_
        refine (AllReadyH.cons rfl (fun K hK => ?_) (AllReadyH.cons rfl (fun K hK => ?_) AllReadyH.nil))
        ·
          go_simp
          have hal : Below Y0.heap.size Y0 (Y0.alloc (Obj.cells #[] 43)) := (Below.refl _ _).alloc (Nat.le_refl _) _
          have J1 : Hid (Jn X4.heap.size X4 (Y0.alloc (Obj.cells #[] 43)) (.slice (some ⟨Y0.heap.size, 0, none⟩) 0 0) []) := ⟨owns_empty Y0 _ hHeld.size, hHeld.trans (hal.mono hHeld.size), Nat.le_trans hHeld.size hal.size⟩
          clear hal
          generalize Y0.alloc (Obj.cells #[] 43) = Y1 at *
          generalize Y0.heap.size = G1 at *
          refine hK.out _ _ (J1.out.be) (fun hHeld => ?_)
          clear hK K
          try simp only [Act.put, List.setIfInBounds_toArray, List.set_cons_zero, List.set_cons_succ, List.getElem_toArray, List.getElem_cons_zero, List.getElem_cons_succ]
          refine wpAnyH_ready (rs := [5, 10]) (by kernel_rfl) (by simp) ?_
          refine (AllReadyH.cons rfl (fun K hK => ?_) (AllReadyH.cons rfl (fun K hK => ?_) AllReadyH.nil))
          ·
            refine step_append_rules (by rfl) (.tmp 71) (.tmp 73) (by rfl) X4.heap.size _ 0 [] (by rfl) J1.out.own px rvx.length cx rvx (by rfl) (RX.out.below hHeld) (by omega) J1.out.lB ?_
            intro v2 Y2 ho hg
            rw [Nat.zero_add, List.nil_append] at ho
            have J2 : Hid (Jn X4.heap.size X4 Y2 v2 rvx) := J1.out.app ho hg
            clear ho hg
            refine hK.out _ _ (J2.out.be) (fun hHeld => ?_)
            clear hK K
            try simp only [Act.put, List.setIfInBounds_toArray, List.set_cons_zero, List.set_cons_succ, List.getElem_toArray, List.getElem_cons_zero, List.getElem_cons_succ]
            refine wpAnyH_ready (rs := [8, 10]) (by kernel_rfl) (by simp) ?_
            refine (AllReadyH.cons rfl (fun K hK => ?_) (AllReadyH.cons rfl (fun K hK => ?_) AllReadyH.nil))
            ·
              refine step_append_rules (by rfl) (.tmp 74) (.tmp 76) (by rfl) X4.heap.size _ rvx.length rvx (by rfl) J2.out.own py rvy.length cy rvy (by rfl) (RY.out.below hHeld) (by omega) J2.out.lB ?_
              intro v3 Y3 ho hg
              rw [← List.length_append] at ho
              have J3 : Hid (Jn X4.heap.size X4 Y3 v3 (rvx ++ rvy)) := J2.out.app ho hg
              clear ho hg
              obtain ⟨pj, cj, hvj⟩ := J3.out.slice
              rw [List.length_append] at hvj
              subst hvj
              refine hK.out _ _ (J3.out.be) (fun hHeld => ?_)
              clear hK K
              try simp only [Act.put, List.setIfInBounds_toArray, List.set_cons_zero, List.set_cons_succ, List.getElem_toArray, List.getElem_cons_zero, List.getElem_cons_succ]
              refine wpAnyH_take (i := 9) (v := ?_) rfl (by kernel_rfl) (by kernel_rfl) (by kernel_rfl) (fun _ _ _ h => h) (Or.inl ⟨by rfl, ?_⟩) hHeld ?_
              rotate_left
              · (intro w hSw; (try dsimp only at hSw); go_simp; try with_reducible rfl)
              try simp only [Act.put, List.setIfInBounds_toArray, List.set_cons_zero, List.set_cons_succ, List.getElem_toArray, List.getElem_cons_zero, List.getElem_cons_succ]
              refine wpAnyH_ready (rs := [10]) (by kernel_rfl) (by simp) ?_
              refine (AllReadyH.cons rfl (fun K hK => ?_) AllReadyH.nil)
              go_simp
              have hal : Below Y3.heap.size Y3 (Y3.alloc (Obj.cells #[.int .i64 0, .int .i64 0, .slice none 0 0] 27)) := (Below.refl _ _).alloc (Nat.le_refl _) _
              have A4 : Hid (Ja X4.heap.size X4 (Y3.alloc (Obj.cells #[.int .i64 0, .int .i64 0, .slice none 0 0] 27)) Y3.heap.size (rulL 0 0 (.slice none 0 0))) := ⟨blk_new Y3 _ 27, hHeld.size⟩
              have J4 : Hid (Jn X4.heap.size X4 (Y3.alloc (Obj.cells #[.int .i64 0, .int .i64 0, .slice none 0 0] 27)) _ (rvx ++ rvy)) := J3.out.over hal
              have S4 : Hid (Below X4.heap.size X4 (Y3.alloc (Obj.cells #[.int .i64 0, .int .i64 0, .slice none 0 0] 27))) := hHeld.trans (hal.mono hHeld.size)
              clear hal
              generalize (Y3.alloc (Obj.cells #[.int .i64 0, .int .i64 0, .slice none 0 0] 27)) = Y4 at *
              generalize Y3.heap.size = NA at *
              refine hK.out _ _ (S4.out) (fun hHeld => ?_)
              clear hK K
              try simp only [Act.put, List.setIfInBounds_toArray, List.set_cons_zero, List.set_cons_succ, List.getElem_toArray, List.getElem_cons_zero, List.getElem_cons_succ]
              have t0 : Y4.cell? ⟨NA, 0, none⟩ = some (.int .i64 0) := A4.out.blk.cell 0
              have t1 : Y4.cell? ⟨NA, 1, none⟩ = some (.int .i64 0) := A4.out.blk.cell 1
              have t2 : Y4.cell? ⟨NA, 2, none⟩ = some (.slice none 0 0) := A4.out.blk.cell 2
              have g0 := A4.out.blk.f 0
              have g1 := A4.out.blk.f 1
              have g2 := A4.out.blk.f 2
              obtain ⟨Z, hZ⟩ : ∃ Z, (((Y4.setCell ⟨NA, 0, none⟩ (.int .i64 d.k)).setCell ⟨NA, 1, none⟩ (.int .i64 d.a)).setCell ⟨NA, 2, none⟩ (.slice pj (rvx.length + rvy.length) cj)) = Z := ⟨_, rfl⟩
              have AZ : Hid (Ja X4.heap.size X4 Z NA (rulL d.k d.a (.slice pj (rvx.length + rvy.length) cj))) := by
                show Ja X4.heap.size X4 Z NA (rulL d.k d.a (.slice pj (rvx.length + rvy.length) cj))
                rw [← hZ]
                exact ((A4.out.set 0 _).set 1 _).set 2 _
              have JZ : Hid (Jn X4.heap.size X4 Z (.slice pj (rvx.length + rvy.length) cj) (rvx ++ rvy)) := by
                show Jn X4.heap.size X4 Z (.slice pj (rvx.length + rvy.length) cj) (rvx ++ rvy)
                rw [← hZ]
                exact ((J4.out.set A4.out 0 _).set (A4.out.set 0 _) 1 _).set ((A4.out.set 0 _).set 1 _) 2 _
              have HZ : Hid ((((Y4.setCell ⟨NA, 0, none⟩ (.int .i64 d.k)).setCell ⟨NA, 1, none⟩ (.int .i64 d.a)).setCell ⟨NA, 2, none⟩ (.slice pj (rvx.length + rvy.length) cj)) = Z) := hZ
              clear hZ
              refine wpAnyH_ready (rs := [11]) (by kernel_rfl) (by simp) ?_
              refine AllReadyH.cons rfl (fun K hK => ?_) AllReadyH.nil
              go_simp
              rw [HZ.out]
              refine hK.out _ _ (JZ.out.be) (fun hHeld => ?_)
              clear hK K
              try simp only [Act.put, List.setIfInBounds_toArray, List.set_cons_zero, List.set_cons_succ, List.getElem_toArray, List.getElem_cons_zero, List.getElem_cons_succ]
              refine wpAnyH_done (by kernel_rfl) ?_ _
              clear t0 t1 t2 g0 g1 g2 HZ hHeld A4 J4
              have c0 : Z.cell? ⟨NA, 0, none⟩ = some (.int .i64 d.k) := AZ.out.blk.cell 0
              have c1 : Z.cell? ⟨NA, 1, none⟩ = some (.int .i64 d.a) := AZ.out.blk.cell 1
              have c2 : Z.cell? ⟨NA, 2, none⟩ = some (.slice pj (rvx.length + rvy.length) cj) := AZ.out.blk.cell 2
              have KZ := K12.out.over (JZ.out.be)
              have z0 : Z.cell? ⟨N12, 0, none⟩ = some (.int .i64 d.k) := KZ.cell 0
              have z1 : Z.cell? ⟨N12, 1, none⟩ = some (.int .i64 d.a) := KZ.cell 1
              have z2 : Z.cell? ⟨N12, 2, none⟩ = some (.slice pz rvz.length cz) := KZ.cell 2
              have HS : Hid (Calls Tryd.prog 12 #[.agg #[.int .i64 d.k, .int .i64 d.a, .slice pz rvz.length cz], .agg #[.int .i64 d.k, .int .i64 d.a, (.slice pj (rvx.length + rvy.length) cj)]] Z fun e w' => e = .returned (.bool true) ∧ Below Z.heap.size Z w') := by
                refine same_any Z d.k d.a _ _ rvz (rvx ++ rvy) (SZ.out.below JZ.out.be) (JZ.out.rls fun x hx => ?_) HZE.out HSm.out
                rcases List.mem_append.1 hx with hx | hx
                · exact (RX.out.below JZ.out.be).row x hx
                · exact (RY.out.below JZ.out.be).row x hx
              clear KZ
              go_wp2_with fail
              refine HS.out.mono ?_
              rintro e w9 ⟨rfl, b9⟩
              go_wp2_with fail
              go_ret
              exact ⟨rfl, (B4.out.trans (JZ.out.be.mono B4.out.size)).trans (b9.mono (Nat.le_trans B4.out.size JZ.out.be.size))⟩
            ·
              go_simp
              have hal : Below Y2.heap.size Y2 (Y2.alloc (Obj.cells #[.int .i64 0, .int .i64 0, .slice none 0 0] 27)) := (Below.refl _ _).alloc (Nat.le_refl _) _
              have A5 : Hid (Ja X4.heap.size X4 (Y2.alloc (Obj.cells #[.int .i64 0, .int .i64 0, .slice none 0 0] 27)) Y2.heap.size (rulL 0 0 (.slice none 0 0))) := ⟨blk_new Y2 _ 27, hHeld.size⟩
              have J5 : Hid (Jn X4.heap.size X4 (Y2.alloc (Obj.cells #[.int .i64 0, .int .i64 0, .slice none 0 0] 27)) _ rvx) := J2.out.over hal
              have S5 : Hid (Below X4.heap.size X4 (Y2.alloc (Obj.cells #[.int .i64 0, .int .i64 0, .slice none 0 0] 27))) := hHeld.trans (hal.mono hHeld.size)
              clear hal
              generalize (Y2.alloc (Obj.cells #[.int .i64 0, .int .i64 0, .slice none 0 0] 27)) = Y5 at *
              generalize Y2.heap.size = NA at *
              refine hK.out _ _ (S5.out) (fun hHeld => ?_)
              clear hK K
              try simp only [Act.put, List.setIfInBounds_toArray, List.set_cons_zero, List.set_cons_succ, List.getElem_toArray, List.getElem_cons_zero, List.getElem_cons_succ]
              refine wpAnyH_ready (rs := [8]) (by kernel_rfl) (by simp) ?_
              refine (AllReadyH.cons rfl (fun K hK => ?_) AllReadyH.nil)
              refine step_append_rules (by rfl) (.tmp 74) (.tmp 76) (by rfl) X4.heap.size _ rvx.length rvx (by rfl) J5.out.own py rvy.length cy rvy (by rfl) (RY.out.below hHeld) (by omega) J5.out.lB ?_
              intro v6 Y6 ho hg
              rw [← List.length_append] at ho
              have A6 : Hid (Ja X4.heap.size X4 Y6 NA (rulL 0 0 (.slice none 0 0))) := A5.out.app J5.out hg
              have J6 : Hid (Jn X4.heap.size X4 Y6 v6 (rvx ++ rvy)) := J5.out.app ho hg
              clear ho hg
              obtain ⟨pj, cj, hvj⟩ := J6.out.slice
              rw [List.length_append] at hvj
              subst hvj
              refine hK.out _ _ (J6.out.be) (fun hHeld => ?_)
              clear hK K
              try simp only [Act.put, List.setIfInBounds_toArray, List.set_cons_zero, List.set_cons_succ, List.getElem_toArray, List.getElem_cons_zero, List.getElem_cons_succ]
              refine wpAnyH_take (i := 9) (v := ?_) rfl (by kernel_rfl) (by kernel_rfl) (by kernel_rfl) (fun _ _ _ h => h) (Or.inl ⟨by rfl, ?_⟩) hHeld ?_
              rotate_left
              · (intro w hSw; (try dsimp only at hSw); go_simp; try with_reducible rfl)
              try simp only [Act.put, List.setIfInBounds_toArray, List.set_cons_zero, List.set_cons_succ, List.getElem_toArray, List.getElem_cons_zero, List.getElem_cons_succ]
              have t0 : Y6.cell? ⟨NA, 0, none⟩ = some (.int .i64 0) := A6.out.blk.cell 0
              have t1 : Y6.cell? ⟨NA, 1, none⟩ = some (.int .i64 0) := A6.out.blk.cell 1
              have t2 : Y6.cell? ⟨NA, 2, none⟩ = some (.slice none 0 0) := A6.out.blk.cell 2
              have g0 := A6.out.blk.f 0
              have g1 := A6.out.blk.f 1
              have g2 := A6.out.blk.f 2
              obtain ⟨Z, hZ⟩ : ∃ Z, (((Y6.setCell ⟨NA, 0, none⟩ (.int .i64 d.k)).setCell ⟨NA, 1, none⟩ (.int .i64 d.a)).setCell ⟨NA, 2, none⟩ (.slice pj (rvx.length + rvy.length) cj)) = Z := ⟨_, rfl⟩
              have AZ : Hid (Ja X4.heap.size X4 Z NA (rulL d.k d.a (.slice pj (rvx.length + rvy.length) cj))) := by
                show Ja X4.heap.size X4 Z NA (rulL d.k d.a (.slice pj (rvx.length + rvy.length) cj))
                rw [← hZ]
                exact ((A6.out.set 0 _).set 1 _).set 2 _
              have JZ : Hid (Jn X4.heap.size X4 Z (.slice pj (rvx.length + rvy.length) cj) (rvx ++ rvy)) := by
                show Jn X4.heap.size X4 Z (.slice pj (rvx.length + rvy.length) cj) (rvx ++ rvy)
                rw [← hZ]
                exact ((J6.out.set A6.out 0 _).set (A6.out.set 0 _) 1 _).set ((A6.out.set 0 _).set 1 _) 2 _
              have HZ : Hid ((((Y6.setCell ⟨NA, 0, none⟩ (.int .i64 d.k)).setCell ⟨NA, 1, none⟩ (.int .i64 d.a)).setCell ⟨NA, 2, none⟩ (.slice pj (rvx.length + rvy.length) cj)) = Z) := hZ
              clear hZ
              refine wpAnyH_ready (rs := [11]) (by kernel_rfl) (by simp) ?_
              refine AllReadyH.cons rfl (fun K hK => ?_) AllReadyH.nil
              go_simp
              rw [HZ.out]
              refine hK.out _ _ (JZ.out.be) (fun hHeld => ?_)
              clear hK K
              try simp only [Act.put, List.setIfInBounds_toArray, List.set_cons_zero, List.set_cons_succ, List.getElem_toArray, List.getElem_cons_zero, List.getElem_cons_succ]
              refine wpAnyH_done (by kernel_rfl) ?_ _
              clear t0 t1 t2 g0 g1 g2 HZ hHeld A6 J6
              have c0 : Z.cell? ⟨NA, 0, none⟩ = some (.int .i64 d.k) := AZ.out.blk.cell 0
              have c1 : Z.cell? ⟨NA, 1, none⟩ = some (.int .i64 d.a) := AZ.out.blk.cell 1
              have c2 : Z.cell? ⟨NA, 2, none⟩ = some (.slice pj (rvx.length + rvy.length) cj) := AZ.out.blk.cell 2
              have KZ := K12.out.over (JZ.out.be)
              have z0 : Z.cell? ⟨N12, 0, none⟩ = some (.int .i64 d.k) := KZ.cell 0
              have z1 : Z.cell? ⟨N12, 1, none⟩ = some (.int .i64 d.a) := KZ.cell 1
              have z2 : Z.cell? ⟨N12, 2, none⟩ = some (.slice pz rvz.length cz) := KZ.cell 2
              have HS : Hid (Calls Tryd.prog 12 #[.agg #[.int .i64 d.k, .int .i64 d.a, .slice pz rvz.length cz], .agg #[.int .i64 d.k, .int .i64 d.a, (.slice pj (rvx.length + rvy.length) cj)]] Z fun e w' => e = .returned (.bool true) ∧ Below Z.heap.size Z w') := by
                refine same_any Z d.k d.a _ _ rvz (rvx ++ rvy) (SZ.out.below JZ.out.be) (JZ.out.rls fun x hx => ?_) HZE.out HSm.out
                rcases List.mem_append.1 hx with hx | hx
                · exact (RX.out.below JZ.out.be).row x hx
                · exact (RY.out.below JZ.out.be).row x hx
              clear KZ
              go_wp2_with fail
              refine HS.out.mono ?_
              rintro e w9 ⟨rfl, b9⟩
              go_wp2_with fail
              go_ret
              exact ⟨rfl, (B4.out.trans (JZ.out.be.mono B4.out.size)).trans (b9.mono (Nat.le_trans B4.out.size JZ.out.be.size))⟩
          ·
            go_simp
            have hal : Below Y1.heap.size Y1 (Y1.alloc (Obj.cells #[.int .i64 0, .int .i64 0, .slice none 0 0] 27)) := (Below.refl _ _).alloc (Nat.le_refl _) _
            have A7 : Hid (Ja X4.heap.size X4 (Y1.alloc (Obj.cells #[.int .i64 0, .int .i64 0, .slice none 0 0] 27)) Y1.heap.size (rulL 0 0 (.slice none 0 0))) := ⟨blk_new Y1 _ 27, hHeld.size⟩
            have J7 : Hid (Jn X4.heap.size X4 (Y1.alloc (Obj.cells #[.int .i64 0, .int .i64 0, .slice none 0 0] 27)) _ []) := J1.out.over hal
            have S7 : Hid (Below X4.heap.size X4 (Y1.alloc (Obj.cells #[.int .i64 0, .int .i64 0, .slice none 0 0] 27))) := hHeld.trans (hal.mono hHeld.size)
            clear hal
            generalize (Y1.alloc (Obj.cells #[.int .i64 0, .int .i64 0, .slice none 0 0] 27)) = Y7 at *
            generalize Y1.heap.size = NA at *
            refine hK.out _ _ (S7.out) (fun hHeld => ?_)
            clear hK K
            try simp only [Act.put, List.setIfInBounds_toArray, List.set_cons_zero, List.set_cons_succ, List.getElem_toArray, List.getElem_cons_zero, List.getElem_cons_succ]
            refine wpAnyH_ready (rs := [5]) (by kernel_rfl) (by simp) ?_
            refine (AllReadyH.cons rfl (fun K hK => ?_) AllReadyH.nil)
            refine step_append_rules (by rfl) (.tmp 71) (.tmp 73) (by rfl) X4.heap.size _ 0 [] (by rfl) J7.out.own px rvx.length cx rvx (by rfl) (RX.out.below hHeld) (by omega) J7.out.lB ?_
            intro v8 Y8 ho hg
            rw [Nat.zero_add, List.nil_append] at ho
            have A8 : Hid (Ja X4.heap.size X4 Y8 NA (rulL 0 0 (.slice none 0 0))) := A7.out.app J7.out hg
            have J8 : Hid (Jn X4.heap.size X4 Y8 v8 rvx) := J7.out.app ho hg
            clear ho hg
            refine hK.out _ _ (J8.out.be) (fun hHeld => ?_)
            clear hK K
            try simp only [Act.put, List.setIfInBounds_toArray, List.set_cons_zero, List.set_cons_succ, List.getElem_toArray, List.getElem_cons_zero, List.getElem_cons_succ]
            refine wpAnyH_ready (rs := [8]) (by kernel_rfl) (by simp) ?_
            refine (AllReadyH.cons rfl (fun K hK => ?_) AllReadyH.nil)
            refine step_append_rules (by rfl) (.tmp 74) (.tmp 76) (by rfl) X4.heap.size _ rvx.length rvx (by rfl) J8.out.own py rvy.length cy rvy (by rfl) (RY.out.below hHeld) (by omega) J8.out.lB ?_
            intro v9 Y9 ho hg
            rw [← List.length_append] at ho
            have A9 : Hid (Ja X4.heap.size X4 Y9 NA (rulL 0 0 (.slice none 0 0))) := A8.out.app J8.out hg
            have J9 : Hid (Jn X4.heap.size X4 Y9 v9 (rvx ++ rvy)) := J8.out.app ho hg
            clear ho hg
            obtain ⟨pj, cj, hvj⟩ := J9.out.slice
            rw [List.length_append] at hvj
            subst hvj
            refine hK.out _ _ (J9.out.be) (fun hHeld => ?_)
            clear hK K
            try simp only [Act.put, List.setIfInBounds_toArray, List.set_cons_zero, List.set_cons_succ, List.getElem_toArray, List.getElem_cons_zero, List.getElem_cons_succ]
            refine wpAnyH_take (i := 9) (v := ?_) rfl (by kernel_rfl) (by kernel_rfl) (by kernel_rfl) (fun _ _ _ h => h) (Or.inl ⟨by rfl, ?_⟩) hHeld ?_
            rotate_left
            · (intro w hSw; (try dsimp only at hSw); go_simp; try with_reducible rfl)
            try simp only [Act.put, List.setIfInBounds_toArray, List.set_cons_zero, List.set_cons_succ, List.getElem_toArray, List.getElem_cons_zero, List.getElem_cons_succ]
            have t0 : Y9.cell? ⟨NA, 0, none⟩ = some (.int .i64 0) := A9.out.blk.cell 0
            have t1 : Y9.cell? ⟨NA, 1, none⟩ = some (.int .i64 0) := A9.out.blk.cell 1
            have t2 : Y9.cell? ⟨NA, 2, none⟩ = some (.slice none 0 0) := A9.out.blk.cell 2
            have g0 := A9.out.blk.f 0
            have g1 := A9.out.blk.f 1
            have g2 := A9.out.blk.f 2
            obtain ⟨Z, hZ⟩ : ∃ Z, (((Y9.setCell ⟨NA, 0, none⟩ (.int .i64 d.k)).setCell ⟨NA, 1, none⟩ (.int .i64 d.a)).setCell ⟨NA, 2, none⟩ (.slice pj (rvx.length + rvy.length) cj)) = Z := ⟨_, rfl⟩
            have AZ : Hid (Ja X4.heap.size X4 Z NA (rulL d.k d.a (.slice pj (rvx.length + rvy.length) cj))) := by
              show Ja X4.heap.size X4 Z NA (rulL d.k d.a (.slice pj (rvx.length + rvy.length) cj))
              rw [← hZ]
              exact ((A9.out.set 0 _).set 1 _).set 2 _
            have JZ : Hid (Jn X4.heap.size X4 Z (.slice pj (rvx.length + rvy.length) cj) (rvx ++ rvy)) := by
              show Jn X4.heap.size X4 Z (.slice pj (rvx.length + rvy.length) cj) (rvx ++ rvy)
              rw [← hZ]
              exact ((J9.out.set A9.out 0 _).set (A9.out.set 0 _) 1 _).set ((A9.out.set 0 _).set 1 _) 2 _
            have HZ : Hid ((((Y9.setCell ⟨NA, 0, none⟩ (.int .i64 d.k)).setCell ⟨NA, 1, none⟩ (.int .i64 d.a)).setCell ⟨NA, 2, none⟩ (.slice pj (rvx.length + rvy.length) cj)) = Z) := hZ
            clear hZ
            refine wpAnyH_ready (rs := [11]) (by kernel_rfl) (by simp) ?_
            refine AllReadyH.cons rfl (fun K hK => ?_) AllReadyH.nil
            go_simp
            rw [HZ.out]
            refine hK.out _ _ (JZ.out.be) (fun hHeld => ?_)
            clear hK K
            try simp only [Act.put, List.setIfInBounds_toArray, List.set_cons_zero, List.set_cons_succ, List.getElem_toArray, List.getElem_cons_zero, List.getElem_cons_succ]
            refine wpAnyH_done (by kernel_rfl) ?_ _
            clear t0 t1 t2 g0 g1 g2 HZ hHeld A9 J9
            have c0 : Z.cell? ⟨NA, 0, none⟩ = some (.int .i64 d.k) := AZ.out.blk.cell 0
            have c1 : Z.cell? ⟨NA, 1, none⟩ = some (.int .i64 d.a) := AZ.out.blk.cell 1
            have c2 : Z.cell? ⟨NA, 2, none⟩ = some (.slice pj (rvx.length + rvy.length) cj) := AZ.out.blk.cell 2
            have KZ := K12.out.over (JZ.out.be)
            have z0 : Z.cell? ⟨N12, 0, none⟩ = some (.int .i64 d.k) := KZ.cell 0
            have z1 : Z.cell? ⟨N12, 1, none⟩ = some (.int .i64 d.a) := KZ.cell 1
            have z2 : Z.cell? ⟨N12, 2, none⟩ = some (.slice pz rvz.length cz) := KZ.cell 2
            have HS : Hid (Calls Tryd.prog 12 #[.agg #[.int .i64 d.k, .int .i64 d.a, .slice pz rvz.length cz], .agg #[.int .i64 d.k, .int .i64 d.a, (.slice pj (rvx.length + rvy.length) cj)]] Z fun e w' => e = .returned (.bool true) ∧ Below Z.heap.size Z w') := by
              refine same_any Z d.k d.a _ _ rvz (rvx ++ rvy) (SZ.out.below JZ.out.be) (JZ.out.rls fun x hx => ?_) HZE.out HSm.out
              rcases List.mem_append.1 hx with hx | hx
              · exact (RX.out.below JZ.out.be).row x hx
              · exact (RY.out.below JZ.out.be).row x hx
            clear KZ
            go_wp2_with fail
            refine HS.out.mono ?_
            rintro e w9 ⟨rfl, b9⟩
            go_wp2_with fail
            go_ret
            exact ⟨rfl, (B4.out.trans (JZ.out.be.mono B4.out.size)).trans (b9.mono (Nat.le_trans B4.out.size JZ.out.be.size))⟩
        ·
          go_simp
          have hal : Below Y0.heap.size Y0 (Y0.alloc (Obj.cells #[.int .i64 0, .int .i64 0, .slice none 0 0] 27)) := (Below.refl _ _).alloc (Nat.le_refl _) _
          have A10 : Hid (Ja X4.heap.size X4 (Y0.alloc (Obj.cells #[.int .i64 0, .int .i64 0, .slice none 0 0] 27)) Y0.heap.size (rulL 0 0 (.slice none 0 0))) := ⟨blk_new Y0 _ 27, hHeld.size⟩
          have S10 : Hid (Below X4.heap.size X4 (Y0.alloc (Obj.cells #[.int .i64 0, .int .i64 0, .slice none 0 0] 27))) := hHeld.trans (hal.mono hHeld.size)
          clear hal
          generalize (Y0.alloc (Obj.cells #[.int .i64 0, .int .i64 0, .slice none 0 0] 27)) = Y10 at *
          generalize Y0.heap.size = NA at *
          refine hK.out _ _ (S10.out) (fun hHeld => ?_)
          clear hK K
          try simp only [Act.put, List.setIfInBounds_toArray, List.set_cons_zero, List.set_cons_succ, List.getElem_toArray, List.getElem_cons_zero, List.getElem_cons_succ]
          refine wpAnyH_ready (rs := [2]) (by kernel_rfl) (by simp) ?_
          refine (AllReadyH.cons rfl (fun K hK => ?_) AllReadyH.nil)
          go_simp
          have hal : Below Y10.heap.size Y10 (Y10.alloc (Obj.cells #[] 43)) := (Below.refl _ _).alloc (Nat.le_refl _) _
          have J11 : Hid (Jn X4.heap.size X4 (Y10.alloc (Obj.cells #[] 43)) (.slice (some ⟨Y10.heap.size, 0, none⟩) 0 0) []) := ⟨owns_empty Y10 _ hHeld.size, hHeld.trans (hal.mono hHeld.size), Nat.le_trans hHeld.size hal.size⟩
          have A11 : Hid (Ja X4.heap.size X4 (Y10.alloc (Obj.cells #[] 43)) NA (rulL 0 0 (.slice none 0 0))) := A10.out.over hal
          clear hal
          generalize Y10.alloc (Obj.cells #[] 43) = Y11 at *
          generalize Y10.heap.size = G11 at *
          refine hK.out _ _ (J11.out.be) (fun hHeld => ?_)
          clear hK K
          try simp only [Act.put, List.setIfInBounds_toArray, List.set_cons_zero, List.set_cons_succ, List.getElem_toArray, List.getElem_cons_zero, List.getElem_cons_succ]
          refine wpAnyH_ready (rs := [5]) (by kernel_rfl) (by simp) ?_
          refine (AllReadyH.cons rfl (fun K hK => ?_) AllReadyH.nil)
          refine step_append_rules (by rfl) (.tmp 71) (.tmp 73) (by rfl) X4.heap.size _ 0 [] (by rfl) J11.out.own px rvx.length cx rvx (by rfl) (RX.out.below hHeld) (by omega) J11.out.lB ?_
          intro v12 Y12 ho hg
          rw [Nat.zero_add, List.nil_append] at ho
          have A12 : Hid (Ja X4.heap.size X4 Y12 NA (rulL 0 0 (.slice none 0 0))) := A11.out.app J11.out hg
          have J12 : Hid (Jn X4.heap.size X4 Y12 v12 rvx) := J11.out.app ho hg
          clear ho hg
          refine hK.out _ _ (J12.out.be) (fun hHeld => ?_)
          clear hK K
          try simp only [Act.put, List.setIfInBounds_toArray, List.set_cons_zero, List.set_cons_succ, List.getElem_toArray, List.getElem_cons_zero, List.getElem_cons_succ]
          refine wpAnyH_ready (rs := [8]) (by kernel_rfl) (by simp) ?_
          refine (AllReadyH.cons rfl (fun K hK => ?_) AllReadyH.nil)
          refine step_append_rules (by rfl) (.tmp 74) (.tmp 76) (by rfl) X4.heap.size _ rvx.length rvx (by rfl) J12.out.own py rvy.length cy rvy (by rfl) (RY.out.below hHeld) (by omega) J12.out.lB ?_
          intro v13 Y13 ho hg
          rw [← List.length_append] at ho
          have A13 : Hid (Ja X4.heap.size X4 Y13 NA (rulL 0 0 (.slice none 0 0))) := A12.out.app J12.out hg
          have J13 : Hid (Jn X4.heap.size X4 Y13 v13 (rvx ++ rvy)) := J12.out.app ho hg
          clear ho hg
          obtain ⟨pj, cj, hvj⟩ := J13.out.slice
          rw [List.length_append] at hvj
          subst hvj
          refine hK.out _ _ (J13.out.be) (fun hHeld => ?_)
          clear hK K
          try simp only [Act.put, List.setIfInBounds_toArray, List.set_cons_zero, List.set_cons_succ, List.getElem_toArray, List.getElem_cons_zero, List.getElem_cons_succ]
          refine wpAnyH_take (i := 9) (v := ?_) rfl (by kernel_rfl) (by kernel_rfl) (by kernel_rfl) (fun _ _ _ h => h) (Or.inl ⟨by rfl, ?_⟩) hHeld ?_
          rotate_left
          · (intro w hSw; (try dsimp only at hSw); go_simp; try with_reducible rfl)
          try simp only [Act.put, List.setIfInBounds_toArray, List.set_cons_zero, List.set_cons_succ, List.getElem_toArray, List.getElem_cons_zero, List.getElem_cons_succ]
          have t0 : Y13.cell? ⟨NA, 0, none⟩ = some (.int .i64 0) := A13.out.blk.cell 0
          have t1 : Y13.cell? ⟨NA, 1, none⟩ = some (.int .i64 0) := A13.out.blk.cell 1
          have t2 : Y13.cell? ⟨NA, 2, none⟩ = some (.slice none 0 0) := A13.out.blk.cell 2
          have g0 := A13.out.blk.f 0
          have g1 := A13.out.blk.f 1
          have g2 := A13.out.blk.f 2
          obtain ⟨Z, hZ⟩ : ∃ Z, (((Y13.setCell ⟨NA, 0, none⟩ (.int .i64 d.k)).setCell ⟨NA, 1, none⟩ (.int .i64 d.a)).setCell ⟨NA, 2, none⟩ (.slice pj (rvx.length + rvy.length) cj)) = Z := ⟨_, rfl⟩
          have AZ : Hid (Ja X4.heap.size X4 Z NA (rulL d.k d.a (.slice pj (rvx.length + rvy.length) cj))) := by
            show Ja X4.heap.size X4 Z NA (rulL d.k d.a (.slice pj (rvx.length + rvy.length) cj))
            rw [← hZ]
            exact ((A13.out.set 0 _).set 1 _).set 2 _
          have JZ : Hid (Jn X4.heap.size X4 Z (.slice pj (rvx.length + rvy.length) cj) (rvx ++ rvy)) := by
            show Jn X4.heap.size X4 Z (.slice pj (rvx.length + rvy.length) cj) (rvx ++ rvy)
            rw [← hZ]
            exact ((J13.out.set A13.out 0 _).set (A13.out.set 0 _) 1 _).set ((A13.out.set 0 _).set 1 _) 2 _
          have HZ : Hid ((((Y13.setCell ⟨NA, 0, none⟩ (.int .i64 d.k)).setCell ⟨NA, 1, none⟩ (.int .i64 d.a)).setCell ⟨NA, 2, none⟩ (.slice pj (rvx.length + rvy.length) cj)) = Z) := hZ
          clear hZ
          refine wpAnyH_ready (rs := [11]) (by kernel_rfl) (by simp) ?_
          refine AllReadyH.cons rfl (fun K hK => ?_) AllReadyH.nil
          go_simp
          rw [HZ.out]
          refine hK.out _ _ (JZ.out.be) (fun hHeld => ?_)
          clear hK K
          try simp only [Act.put, List.setIfInBounds_toArray, List.set_cons_zero, List.set_cons_succ, List.getElem_toArray, List.getElem_cons_zero, List.getElem_cons_succ]
          refine wpAnyH_done (by kernel_rfl) ?_ _
          clear t0 t1 t2 g0 g1 g2 HZ hHeld A13 J13
          have c0 : Z.cell? ⟨NA, 0, none⟩ = some (.int .i64 d.k) := AZ.out.blk.cell 0
          have c1 : Z.cell? ⟨NA, 1, none⟩ = some (.int .i64 d.a) := AZ.out.blk.cell 1
          have c2 : Z.cell? ⟨NA, 2, none⟩ = some (.slice pj (rvx.length + rvy.length) cj) := AZ.out.blk.cell 2
          have KZ := K12.out.over (JZ.out.be)
          have z0 : Z.cell? ⟨N12, 0, none⟩ = some (.int .i64 d.k) := KZ.cell 0
          have z1 : Z.cell? ⟨N12, 1, none⟩ = some (.int .i64 d.a) := KZ.cell 1
          have z2 : Z.cell? ⟨N12, 2, none⟩ = some (.slice pz rvz.length cz) := KZ.cell 2
          have HS : Hid (Calls Tryd.prog 12 #[.agg #[.int .i64 d.k, .int .i64 d.a, .slice pz rvz.length cz], .agg #[.int .i64 d.k, .int .i64 d.a, (.slice pj (rvx.length + rvy.length) cj)]] Z fun e w' => e = .returned (.bool true) ∧ Below Z.heap.size Z w') := by
            refine same_any Z d.k d.a _ _ rvz (rvx ++ rvy) (SZ.out.below JZ.out.be) (JZ.out.rls fun x hx => ?_) HZE.out HSm.out
            rcases List.mem_append.1 hx with hx | hx
            · exact (RX.out.below JZ.out.be).row x hx
            · exact (RY.out.below JZ.out.be).row x hx
          clear KZ
          go_wp2_with fail
          refine HS.out.mono ?_
          rintro e w9 ⟨rfl, b9⟩
          go_wp2_with fail
          go_ret
          exact ⟨rfl, (B4.out.trans (JZ.out.be.mono B4.out.size)).trans (b9.mono (Nat.le_trans B4.out.size JZ.out.be.size))⟩


end Go.Proofs.YtdjjlccpmfhkiaaDoor
