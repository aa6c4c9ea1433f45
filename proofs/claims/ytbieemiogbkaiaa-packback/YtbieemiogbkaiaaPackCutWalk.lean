/-
  The law PackCut, walked: true for all items and every place where they are cut off.
-/
import Derived.Test.YtbieemiogbkaiaaCutMath
namespace Go.Proofs.Ytbieemiogbkaiaa
open Go.RowKit

theorem bs_prefix {w : World} {a : Option Addr} {n : Nat} {l : List Int} (h : Bs w a n l) (c : Nat) (hc : c ≤ n) : Bs w a c (l.take c) := by
  rcases Nat.eq_zero_or_pos c with rfl | h0
  · exact bs_none
  · obtain ⟨b, off, rfl, _⟩ := h.2.2 (by omega)
    simpa using h.sub 0 c (by omega)

theorem at_below {x : It} {w w' : World} {b o : Nat} (h : x.at w b o) (hb : Below w.heap.size w w') : x.at w' b o := by
  obtain ⟨h1, h2, h3, h4⟩ := h
  have hlt : b < w.heap.size := World.block_lt_of_cell? w _ h1
  exact ⟨(hb.cell (p := ⟨b, o, none⟩) hlt).trans h1, (hb.cell (p := ⟨b, o + 1, none⟩) hlt).trans h2, (hb.cell (p := ⟨b, o + 2, none⟩) hlt).trans h3, (hb.cell (p := ⟨b, o + 3, none⟩) hlt).trans h4⟩

set_option maxRecDepth 4000 in
set_option maxHeartbeats 6000000 in
theorem packCut_walk (a : Option Addr) (len cap : Nat) (its : List It) (cut : Int) (w : World) (h : Items w a len its) :
    Calls Try.prog 8 #[.slice a len cap, .int .i64 cut] w fun e w' => e = .returned (.bool true) ∧ Below w.heap.size w w' := by
  have hll := h.1
  by_cases hcut : cut < 0
  · go_enter Try.func8, Try.ntmps8
    go_wp2_with fail
    refine (awake_any _).mono ?_
    rintro e w1 ⟨rfl, hb1⟩
    have h1 := h.below hb1
    go_wp2_with fail
    refine (few_any a len cap its _ h1).mono ?_
    rintro e w' ⟨⟨v, rfl, hv⟩, rfl⟩
    cases v
    all_goals
      go_wp2
      go_ret
      exact ⟨rfl, hb1⟩
  obtain ⟨u, rfl⟩ : ∃ u : Nat, cut = (u : Int) := ⟨cut.toNat, by omega⟩
  go_enter Try.func8, Try.ntmps8
  go_wp2_with fail
  refine (awake_any _).mono ?_
  rintro e w1 ⟨rfl, hb1⟩
  have h1 := h.below hb1
  go_wp2_with fail
  refine (few_any a len cap its _ h1).mono ?_
  rintro e w' ⟨⟨v, rfl, hv⟩, rfl⟩
  cases v with
  | false =>
    go_wp2
    go_ret
    exact ⟨rfl, hb1⟩
  | true =>
    have hlen : len ≤ 100 := hv rfl
    clear hv
    go_wp2_with fail
    refine (laid_any a len cap its _ (by omega) h1).mono ?_
    rintro e w3 ⟨hb3, v3, rfl, ho3, hbd3⟩
    obtain ⟨a3, cap3, rfl, hbs3, hcap3, hao3, _⟩ := owns_bs ho3 hbd3
    have hw3 := hb1.trans (hb3.mono hb1.size)
    have h3 := h.below hw3
    clear ho3 hbd3 hb3 hb1 h1
    have HEN : Hid ((layAll its).2 = 0 → encAll its = some (layAll its).1) := layAll_enc its
    have HSM : Hid ((layAll its).1.length ≤ 800000000 ∧ (layAll its).1.length ≤ 900000000) := by
      have := layAll_small its len (by omega)
      rwa [← hll, List.take_length] at this
    generalize layAll its = BE at *
    obtain ⟨B, E⟩ := BE
    simp only at hbs3 hcap3
    by_cases hE : E = 0
    · subst hE
      by_cases hB : B.length = 0
      · go_wp2
        go_ret
        exact ⟨rfl, hw3⟩
      · obtain ⟨n, hn⟩ : ∃ n, B.length = n := ⟨_, rfl⟩
        have hmod : u % n < n := Nat.mod_lt _ (by omega)
        have henc : encAll its = some B := HEN.out rfl
        rw [hn] at hB hbs3 hcap3
        simp only [hn]
        have hm1 : Int.tmod (u : Int) (n : Int) = ((u % n : Nat) : Int) := by rw [Int.tmod_eq_emod_of_nonneg (by omega)]; rfl
        have hn0 : ((n : Int) == 0) = false := by simp; omega
        go_wp2_with fail
        refine (read_any a3 (u % n) cap3 (B.take (u % n)) _ hao3 (by have := HSM.out.1; omega) (bs_prefix hbs3 _ (by omega))).mono ?_
        rintro e w4 ⟨rb, rfl, hr4, hrb, hb4⟩
        have hBB : w.heap.size ≤ rb := Nat.le_trans hw3.size hrb
        have hw4 := hw3.trans (hb4.mono hw3.size)
        have HC0 : Hid (CutL its (B.take (u % n), 0)) := .inr ⟨B, _, henc, by omega, rfl⟩
        clear hb4 hrb hm1 hmod hn0 henc HEN HSM
        go_wp2
        go_loopw [10] (fun i wr => ∃ k : Nat, ∃ st : List Int × Int, k ≤ len ∧ i = .int .i64 k ∧ CutL (its.drop k) st ∧ Rd wr rb st ∧ Below w.heap.size w wr) (fun i _ => len - (intOf i).toNat)
        case atStart => exact ⟨0, _, Nat.zero_le _, rfl, HC0.out, hr4, hw4⟩
        case round =>
          obtain ⟨k, st, hk, rfl, hcl, hr, hbr⟩ := hrel
          clear hr4 hw4
          by_cases hlt : k < len
          · obtain ⟨b, off, rfl, hc⟩ := h.2.2 (by omega)
            have HAT : Hid (its[k].at w b (off + k * 4)) := hc k its[k] (List.getElem?_eq_getElem (by omega))
            obtain ⟨q1, q2, q3, q4⟩ := at_below HAT.out hbr
            have HO : Hid (its[k].ok) := h.2.1 its[k] (List.getElem_mem (by omega))
            rw [List.drop_eq_getElem_cons (by omega : k < its.length)] at hcl
            have HC : Hid (CutL (its[k] :: its.drop (k + 1)) st) := hcl
            clear hc hcl
            generalize its[k] = x at *
            obtain ⟨xn, xs, xt, xx⟩ := x
            simp only at q1 q2 q3 q4
            have hi1 : (k : Int) < (len : Int) := by omega
            cases xt with
            | true =>
              have HT := cut_text rfl HC.out
              go_wp2_with (go_at_call 15; refine (rtext_any _ rb _ hr).mono ?_; rintro e w5 ⟨rfl, hr5, hg5⟩)
              go_roundw
              case rel => exact ⟨k + 1, _, by omega, by go_num, HT, hr5, hbr.trans (below_grown hg5 hbr.size hBB)⟩
              case measure => simp [intOf]; omega
            | false =>
              have HT := cut_num rfl HO.out HC.out
              go_wp2_with (go_at_call 17; refine (rnum_any _ rb _ xs hr).mono ?_; rintro e w5 ⟨rfl, hr5, hg5⟩)
              go_roundw
              case rel => exact ⟨k + 1, _, by omega, by go_num, HT, hr5, hbr.trans (below_grown hg5 hbr.size hBB)⟩
              case measure => simp [intOf]; omega
          · have he := cut_end (st := st) (by rwa [List.drop_of_length_le (by omega)] at hcl)
            go_wp2_with (go_at_call 19; refine (rend_any _ rb _ hr).mono ?_; rintro e w' ⟨rfl, rfl⟩; rw [he])
            go_ret
            exact ⟨rfl, hbr⟩
    · go_wp2
      go_ret
      exact ⟨rfl, hw3⟩

end Go.Proofs.Ytbieemiogbkaiaa
