/-
  PathLonger, walked over any interface.
-/
import Derived.Test.YtkhojihmnplmcaaIfp
import Derived.Deep.DeepCutAuto
namespace Go.Proofs.Ytkhojihmnplmcaa
open Go.RowKit

theorem lst_more (s n : ByteArray) : lst (s ++ ⟨#[47]⟩ ++ n) = lst s ++ 47 :: lst n := by
  rw [lst_app, lst_app, List.append_assoc]
  rfl
theorem lst_dots (s : ByteArray) : lst (s ++ ⟨#[47, 46, 46]⟩) = lst s ++ [47, 46, 46] := by
  rw [lst_app]
  rfl
theorem toList_lst (s : ByteArray) : s.toList = lst s := ByteArray.toList_eq s

set_option maxHeartbeats 8000000 in
theorem longer_walk (J : Ifp) (w : World) (s n : ByteArray) : Calls Try.prog 8 #[.string s, .string n] w (Tells w (.bool true)) := by
  have HB0 : Hid (Below w.heap.size w w) := Below.refl _ _
  by_cases hs : 100 < s.size
  · have r1 : (100 : Int) < (s.size : Int) := by omega
    have r1' : decide ((100 : Int) < (s.size : Int)) = true := decide_eq_true r1
    go_enter Try.func8, Try.ntmps8
    go_wp2_with fail
    refine (awake_any J w).mono ?_
    rintro e w1 ⟨rfl, hb1⟩
    have HB1 : Hid (Below w.heap.size w w1) := HB0.out.trans (hb1.mono HB0.out.size)
    clear hb1
    go_wp2_with fail
    go_ret
    exact ⟨rfl, HB1.out⟩
  · have r1 : ¬ (100 : Int) < (s.size : Int) := by omega
    have r1' : decide ((100 : Int) < (s.size : Int)) = false := decide_eq_false r1
    by_cases hn : 100 < n.size
    · have r2 : (100 : Int) < (n.size : Int) := by omega
      have r2' : decide ((100 : Int) < (n.size : Int)) = true := decide_eq_true r2
      go_enter Try.func8, Try.ntmps8
      go_wp2_with fail
      refine (awake_any J w).mono ?_
      rintro e w1 ⟨rfl, hb1⟩
      have HB1 : Hid (Below w.heap.size w w1) := HB0.out.trans (hb1.mono HB0.out.size)
      clear hb1
      go_wp2_with fail
      go_ret
      exact ⟨rfl, HB1.out⟩
    · have r2 : ¬ (100 : Int) < (n.size : Int) := by omega
      have r2' : decide ((100 : Int) < (n.size : Int)) = false := decide_eq_false r2
      by_cases h0 : n.size = 0
      · have r3 : ((n.size : Int) == 0) = true := by rw [h0]; rfl
        clear h0
        go_enter Try.func8, Try.ntmps8
        go_wp2_with fail
        refine (awake_any J w).mono ?_
        rintro e w1 ⟨rfl, hb1⟩
        have HB1 : Hid (Below w.heap.size w w1) := HB0.out.trans (hb1.mono HB0.out.size)
        clear hb1
        go_wp2_with fail
        go_ret
        exact ⟨rfl, HB1.out⟩
      · have r3 : ((n.size : Int) == 0) = false := beq_eq_false_iff_ne.2 (by omega)
        by_cases h1 : n.toList = [46]
        · have r4 : (n.toList == [46]) = true := by rw [h1]; rfl
          clear h1 h0
          go_enter Try.func8, Try.ntmps8
          go_wp2_with fail
          refine (awake_any J w).mono ?_
          rintro e w1 ⟨rfl, hb1⟩
          have HB1 : Hid (Below w.heap.size w w1) := HB0.out.trans (hb1.mono HB0.out.size)
          clear hb1
          go_wp2_with fail
          go_ret
          exact ⟨rfl, HB1.out⟩
        · have r4 : (n.toList == [46]) = false := beq_eq_false_iff_ne.2 h1
          by_cases h2 : n.toList = [46, 46]
          · have r5 : (n.toList == [46, 46]) = true := by rw [h2]; rfl
            clear h1 h0 h2
            go_enter Try.func8, Try.ntmps8
            go_wp2_with fail
            refine (awake_any J w).mono ?_
            rintro e w1 ⟨rfl, hb1⟩
            have HB1 : Hid (Below w.heap.size w w1) := HB0.out.trans (hb1.mono HB0.out.size)
            clear hb1
            go_wp2_with fail
            go_ret
            exact ⟨rfl, HB1.out⟩
          · have r5 : (n.toList == [46, 46]) = false := beq_eq_false_iff_ne.2 h2
            have HN : Hid (n.size ≠ 0 ∧ lst n ≠ [46] ∧ lst n ≠ [46, 46] ∧ s.size ≤ 100 ∧ n.size ≤ 100) := ⟨h0, by rw [← toList_lst]; exact h1, by rw [← toList_lst]; exact h2, by omega, by omega⟩
            clear h0 h1 h2 hs hn
            go_enter Try.func8, Try.ntmps8
            go_wp2_with fail
            refine (awake_any J w).mono ?_
            rintro e w1 ⟨rfl, hb1⟩
            have HB1 : Hid (Below w.heap.size w w1) := HB0.out.trans (hb1.mono HB0.out.size)
            clear hb1
            go_wp2_with fail
            go_loopw [6] (fun v6 wr => ∃ i : Nat, v6 = .int .i64 i ∧ i ≤ n.size ∧ (∀ (k : Nat) (c : UInt8), k < i → (lst n)[k]? = some c → c ≠ 47 ∧ c ≠ 0) ∧ wr = w1) (fun v6 _ => n.size - (intOf v6).toNat)
            case atStart => exact ⟨0, rfl, Nat.zero_le _, fun k c hk => absurd hk (Nat.not_lt_zero _), rfl⟩
            case round =>
              obtain ⟨i, rfl, hi, hno, hw⟩ := hrel
              subst hw
              have HNO : Hid (∀ (k : Nat) (c : UInt8), k < i → (lst n)[k]? = some c → c ≠ 47 ∧ c ≠ 0) := hno
              clear hno
              by_cases hlt : i < n.size
              · have hi1 : (i : Int) < (n.size : Int) := by omega
                have hat := lst_at n i hlt
                by_cases hz : n[i]'hlt = 47
                · have hz1 : (((n[i]'hlt).toNat : Int) == 47) = true := by rw [hz]; rfl
                  clear hz hat
                  go_wp2_with fail
                  go_ret
                  exact ⟨rfl, HB1.out⟩
                · have hz1 : (((n[i]'hlt).toNat : Int) == 47) = false := u8_ne (d := 47) hz
                  by_cases hy : n[i]'hlt = 0
                  · have hy1 : (((n[i]'hlt).toNat : Int) == 0) = true := by rw [hy]; rfl
                    clear hz hat hy
                    go_wp2_with fail
                    go_ret
                    exact ⟨rfl, HB1.out⟩
                  · have hy1 : (((n[i]'hlt).toNat : Int) == 0) = false := u8_ne (d := 0) hy
                    have HX : Hid (∀ (k : Nat) (c : UInt8), k < i + 1 → (lst n)[k]? = some c → c ≠ 47 ∧ c ≠ 0) := fun k c hk hc => by
                      by_cases e : k = i
                      · subst e
                        rw [hat] at hc
                        cases hc
                        exact ⟨hz, hy⟩
                      · exact HNO.out k c (by omega) hc
                    have hn5 : n.size ≤ 100 := HN.out.2.2.2.2
                    clear hz hat hy
                    go_wp2_with fail
                    go_roundw
                    case rel => exact ⟨i + 1, by go_num, hlt, HX.out, by trivial⟩
                    case measure => simp [intOf]; omega
              · have hi1 : ¬ (i : Int) < (n.size : Int) := by omega
                have hmem : ∀ c ∈ lst n, c ≠ 47 ∧ c ≠ 0 := fun c hc => by
                  obtain ⟨k, hk⟩ := List.getElem?_of_mem hc
                  exact HNO.out k c (by have := (List.getElem?_eq_some_iff.1 hk).1; rw [lst_length] at this; omega) hk
                have HMR : Hid (rightP (lst s) = true → More (lst s) (lst n)) := fun hr => ⟨hr, by rw [lst_length]; exact HN.out.2.2.2.1, by rw [lst_length]; exact HN.out.2.2.2.2, fun e => HN.out.1 (by rw [← lst_length, e]; rfl), HN.out.2.1, HN.out.2.2.1, fun hm => (hmem 47 hm).1 rfl, fun hm => (hmem 0 hm).2 rfl⟩
                have HE : Hid (∀ W, Calls Try.prog 10 #[.string s] W (Tells W (.tuple #[.string (bar (cleanP (lst s))), .int .i64 (errP (lst s))]))) := fun W => J.clean s W (by have := HN.out; omega)
                clear hmem
                cases hr : rightP (lst s) with
                | false =>
                  rw [err_no hr] at HE
                  generalize bar (cleanP (lst s)) = c at *
                  clear hr
                  go_wp2_with fail
                  refine (HE.out wr).mono ?_
                  rintro e w2 ⟨rfl, hb2⟩
                  have HB2 : Hid (Below w.heap.size w w2) := HB1.out.trans (hb2.mono HB1.out.size)
                  clear hb2
                  go_wp2_with fail
                  go_ret
                  exact ⟨rfl, HB2.out⟩
                | true =>
                  have hM := HMR.out hr
                  rw [err_ok hr] at HE
                  have hz1 : s.size ≤ 100 := HN.out.2.2.2.1
                  have hz2 : n.size ≤ 100 := HN.out.2.2.2.2
                  have a1 : ¬ 9223372036854775807 < s.size + 1 := by omega
                  have a2 : ¬ 9223372036854775807 < s.size + 1 + n.size := by omega
                  have a3 : ¬ 9223372036854775807 < s.size + 3 := by omega
                  obtain ⟨g, hg⟩ : ∃ g, s ++ ⟨#[47]⟩ ++ n = g := ⟨_, rfl⟩
                  have hgl : lst g = lst s ++ 47 :: lst n := by rw [← hg, lst_more]
                  have hgs : g.size ≤ 201 := by
                    rw [← hg, ByteArray.size_append, ByteArray.size_append]
                    show s.size + 1 + n.size ≤ 201
                    omega
                  have a4 : ¬ 9223372036854775807 < g.size + 3 := by omega
                  have e1 : upP (lst g) = cleanP (lst s) := by rw [hgl]; exact hM.up
                  have e2 : rightP (lst g) = true := by rw [hgl]; exact hM.names.1
                  have e3 : cleanP (lst (g ++ ⟨#[47, 46, 46]⟩)) = cleanP (lst s) ∧ rightP (lst (g ++ ⟨#[47, 46, 46]⟩)) = true := by rw [lst_dots, hgl]; exact ⟨hM.dots_clean.2, hM.dots_clean.1⟩
                  have e4 : cleanP (lst (s ++ ⟨#[47, 46, 46]⟩)) = upP (lst s) ∧ rightP (lst (s ++ ⟨#[47, 46, 46]⟩)) = true := by
                    have := up_dots hr (by rw [lst_length]; omega)
                    rw [lst_dots]
                    exact ⟨this.2, this.1⟩
                  have e5 : withinP (lst g) (lst s) = true := by rw [hgl]; exact hM.within
                  have HU : Hid (∀ W, Calls Try.prog 12 #[.string g] W (Tells W (.tuple #[.string (bar (cleanP (lst s))), .int .i64 0]))) := fun W => by
                    have := J.up g W (by omega)
                    rw [e1, err_ok e2] at this
                    exact this
                  have HW : Hid (∀ W, Calls Try.prog 10 #[.string (g ++ ⟨#[47, 46, 46]⟩)] W (Tells W (.tuple #[.string (bar (cleanP (lst s))), .int .i64 0]))) := fun W => by
                    have := J.clean (g ++ ⟨#[47, 46, 46]⟩) W (by rw [ByteArray.size_append]; show g.size + 3 ≤ _; omega)
                    rw [e3.1, err_ok e3.2] at this
                    exact this
                  have HV : Hid (∀ W, Calls Try.prog 12 #[.string s] W (Tells W (.tuple #[.string (bar (upP (lst s))), .int .i64 0]))) := fun W => by
                    have := J.up s W (by omega)
                    rw [err_ok hr] at this
                    exact this
                  have HX : Hid (∀ W, Calls Try.prog 10 #[.string (s ++ ⟨#[47, 46, 46]⟩)] W (Tells W (.tuple #[.string (bar (upP (lst s))), .int .i64 0]))) := fun W => by
                    have := J.clean (s ++ ⟨#[47, 46, 46]⟩) W (by rw [ByteArray.size_append]; show s.size + 3 ≤ _; omega)
                    rw [e4.1, err_ok e4.2] at this
                    exact this
                  have HI : Hid (∀ W, Calls Try.prog 20 #[.string g, .string s] W (Tells W (.bool true))) := fun W => by
                    have := J.within g s W (by omega) (by omega)
                    rw [e5] at this
                    exact this
                  generalize bar (cleanP (lst s)) = c at *
                  generalize bar (upP (lst s)) = x at *
                  clear hM e1 e2 e3 e4 e5 hgl hgs hr HMR
                  go_wp2_with fail
                  refine (HE.out wr).mono ?_
                  rintro e w2 ⟨rfl, hb2⟩
                  have HB2 : Hid (Below w.heap.size w w2) := HB1.out.trans (hb2.mono HB1.out.size)
                  clear hb2
                  go_upto_region 13 with fail
                  try rw [hg]
                  clear hg
                  go_wp2_with fail
                  refine (HU.out w2).mono ?_
                  rintro e w3 ⟨rfl, hb3⟩
                  have HB3 : Hid (Below w.heap.size w w3) := HB2.out.trans (hb3.mono HB2.out.size)
                  clear hb3
                  go_wp2_with fail
                  refine (HW.out w3).mono ?_
                  rintro e w4 ⟨rfl, hb4⟩
                  have HB4 : Hid (Below w.heap.size w w4) := HB3.out.trans (hb4.mono HB3.out.size)
                  clear hb4
                  go_wp2_with fail
                  refine (HV.out w4).mono ?_
                  rintro e w5 ⟨rfl, hb5⟩
                  have HB5 : Hid (Below w.heap.size w w5) := HB4.out.trans (hb5.mono HB4.out.size)
                  clear hb5
                  go_wp2_with fail
                  refine (HX.out w5).mono ?_
                  rintro e w6 ⟨rfl, hb6⟩
                  have HB6 : Hid (Below w.heap.size w w6) := HB5.out.trans (hb6.mono HB5.out.size)
                  clear hb6
                  go_wp2_with fail
                  refine (HI.out w6).mono ?_
                  rintro e w7 ⟨rfl, hb7⟩
                  have HB7 : Hid (Below w.heap.size w w7) := HB6.out.trans (hb7.mono HB6.out.size)
                  clear hb7
                  go_wp2_with fail
                  go_ret
                  exact ⟨ret_bool (by simp), HB7.out⟩

end Go.Proofs.Ytkhojihmnplmcaa
