/-
  The law PackReads, walked: true for all bytes and all asks.
-/
import Derived.Test.YtbieemiogbkaiaaPackReadsMath
namespace Go.Proofs.Ytbieemiogbkaiaa
open Go.RowKit

theorem bs_map {w : World} {a : Option Addr} {len : Nat} {l : List Int} (h : Bs w a len l) (p : Nat) (hp : p ≤ len) : Bs w (Option.map (fun x => x.add p) a) (len - p) (l.drop p) := by
  rcases Nat.eq_zero_or_pos (len - p) with h0 | h0
  · exact h.dropped p (by omega) _
  · obtain ⟨b, off, rfl, _⟩ := h.2.2 (by omega)
    have := h.rest p hp
    rwa [show (⟨b, off + p, none⟩ : Addr) = (⟨b, off, none⟩ : Addr).add p from by unfold Addr.add; split <;> simp_all] at this

theorem bs_gone {w : World} {a : Option Addr} {len : Nat} {l : List Int} (h : Bs w a len l) (p : Nat) (hp : len ≤ p) (a' : Option Addr) : Bs w a' 0 (l.drop p) := by
  rw [List.drop_of_length_le (by rw [h.1]; exact hp)]
  exact bs_none

theorem strNone' : (strOfNums []).toList.isEmpty = true := by decide +kernel

set_option maxRecDepth 4000 in
set_option maxHeartbeats 6000000 in
theorem packReads_walk (a1 : Option Addr) (len1 cap1 : Nat) (l1 : List Int) (a2 : Option Addr) (len2 cap2 : Nat) (l2 : List Int) (w : World) (hao : a1 = none → cap1 = 0) (hcap : len1 ≤ cap1) (hb : Bs w a1 len1 l1) (hs : Ns w a2 len2 l2) :
    Calls Try.prog 4 #[.slice a1 len1 cap1, .slice a2 len2 cap2] w fun e w' => e = .returned (.bool true) ∧ Below w.heap.size w w' := by
  by_cases hl1 : 20000 < len1
  · clear hao hb hs
    go_enter Try.func4, Try.ntmps4
    go_wp2_with (go_at_call 9; refine (awake_any _).mono ?_; rintro e w1 ⟨rfl, hbel⟩)
    go_ret
    exact ⟨rfl, hbel⟩
  by_cases hl2 : 200 < len2
  · clear hao hb hs
    go_enter Try.func4, Try.ntmps4
    go_wp2_with (go_at_call 9; refine (awake_any _).mono ?_; rintro e w1 ⟨rfl, hbel⟩)
    go_ret
    exact ⟨rfl, hbel⟩
  have AO : Hid (a1 = none → cap1 = 0) := hao
  clear hao
  have hll := hb.1
  go_enter Try.func4, Try.ntmps4
  go_wp2_with fail
  refine (awake_any _).mono ?_
  rintro e w1 ⟨rfl, hbel⟩
  have hb1 := hb.below hbel
  go_wp2_with fail
  refine (read_any a1 len1 cap1 l1 _ AO.out (by omega) hb1).mono ?_
  rintro e w2 ⟨rb, rfl, hr2, hrb, hb2⟩
  have hB : w.heap.size ≤ rb := Nat.le_trans hbel.size hrb
  have hbb2 := hbel.trans (hb2.mono hbel.size)
  clear hb1 hb2 hrb hbel
  go_wp2
  go_loopw [7, 8, 9] (fun at_ wrong i wr => ∃ k p : Nat, ∃ q : Int, k ≤ len2 ∧ p ≤ len1 ∧ i = .int .i64 k ∧ at_ = .int .i64 p ∧ wrong = .int .i64 q ∧ Rd wr rb (stOf l1 p q) ∧ Below w.heap.size w wr) (fun _ _ i _ => len2 - (intOf i).toNat)
  case atStart => exact ⟨0, 0, 0, Nat.zero_le _, Nat.zero_le _, rfl, rfl, rfl, hr2, hbb2⟩
  case round =>
    obtain ⟨k, p, q, hk, hp, rfl, rfl, rfl, hr, hbr⟩ := hrel
    have hi0 : (p : Int) ≤ (len1 : Int) := by omega
    by_cases hlt : k < len2
    · obtain ⟨b, off, rfl, hc⟩ := hs.2 (by omega)
      have HCW : Hid (w.cell? ⟨b, off + k, none⟩ = some (.int .i64 (l2.getD k 0))) := hc k hlt
      have HBL : Hid (b < w.heap.size) := World.block_lt_of_cell? w _ HCW.out
      have hck : wr.cell? ⟨b, off + k, none⟩ = some (.int .i64 (l2.getD k 0)) := (hbr.cell (p := ⟨b, off + k, none⟩) HBL.out).trans HCW.out
      clear hc hr2 hbb2
      generalize l2.getD k 0 = x at *
      have hi1 : (k : Int) < (len2 : Int) := by omega
      have hcp : p = cap1 ∨ ¬ cap1 = p := by omega
      by_cases hx : x = 0
      · subst hx
        by_cases hq : q = 0
        · subst hq
          obtain ⟨ht, hn⟩ := textR_ok l1 p hb.2.1
          rw [List.length_drop, hll] at hn
          rcases hcp with rfl | hcp
          all_goals
            go_wp2_with (go_at_call 15; refine (rtext_any _ rb _ hr).mono ?_; rintro e w3 ⟨rfl, hr3, hg3⟩; rw [ht] at hr3; rw [ht])
            have hb3 := hbr.trans (below_grown hg3 hbr.size hB)
            have hbs := hb.below hb3
            refine (takeText_any _ _ _ (l1.drop p) _ ?_ ?_ ?_).mono ?_
            · omega
            · omega
            · first | exact bs_gone hbs p hcap _ | exact bs_map hbs p hp
            rintro e w' ⟨rfl, rfl⟩
            clear ht hg3 hbs hr
            generalize textF (l1.drop p) = tf at *
            obtain ⟨t1, t2, t3⟩ := tf
            have hr4 : Rd w' rb (stOf l1 (p + t2) t3) := hr3
            have hn3 : t2 ≤ len1 - p := hn
            have hn4 : (p : Int) + (t2 : Int) ≤ 20000 := by omega
            have hn5 : p + t2 ≤ len1 := by omega
            clear hr3 hn
            go_wp2
            go_roundw
            case rel => exact ⟨k + 1, p + t2, t3, by omega, by omega, by go_num, by go_num, rfl, hr4, hb3⟩
            case measure => simp [intOf]; omega
        · have hz := strNone'
          have ht := textR_bad l1 p q hq
          rcases hcp with rfl | hcp
          all_goals
            go_wp2_with (go_at_call 15; refine (rtext_any _ rb _ hr).mono ?_; rintro e w3 ⟨rfl, hr3, hg3⟩; rw [ht] at hr3; rw [ht])
            have hb3 := hbr.trans (below_grown hg3 hbr.size hB)
            have hbs := hb.below hb3
            refine (takeText_any _ _ _ (l1.drop p) _ ?_ ?_ ?_).mono ?_
            · omega
            · omega
            · first | exact bs_gone hbs p hcap _ | exact bs_map hbs p hp
            rintro e w' ⟨rfl, rfl⟩
            clear ht hg3 hbs hr
            generalize textF (l1.drop p) = tf at *
            obtain ⟨t1, t2, t3⟩ := tf
            go_wp2
            go_roundw
            case rel => exact ⟨k + 1, p, q, by omega, by omega, by go_num, by go_num, rfl, hr3, hb3⟩
            case measure => simp [intOf]; omega
      · by_cases hq : q = 0
        · subst hq
          by_cases he : (takeF (l1.drop p) x).2 = 0
          · obtain ⟨ht, hx0, hn⟩ := numR_good l1 p x he
            rw [List.length_drop, hll] at hn
            obtain ⟨m, rfl⟩ : ∃ m : Nat, x = (m : Int) := ⟨x.toNat, by omega⟩
            have hcq : ¬ cap1 = p := by omega
            have hpm : p + m ≤ len1 := by omega
            have hpi : (p : Int) + (m : Int) ≤ 20000 := by omega
            have HT : Hid (numR (stOf l1 p 0) m = ((takeF (l1.drop p) m).1, stOf l1 (p + m) 0)) := ht
            clear ht hn hcp hx0
            go_wp2_with (go_at_call 17; refine (rnum_any _ rb _ m hr).mono ?_; rintro e w3 ⟨rfl, hr3, hg3⟩; rw [HT.out] at hr3; rw [HT.out])
            have hb3 := hbr.trans (below_grown hg3 hbr.size hB)
            have hbs := bs_map (hb.below hb3) p hp
            have hck3 : w3.cell? ⟨b, off + k, none⟩ = some (.int .i64 m) := (hb3.cell (p := ⟨b, off + k, none⟩) HBL.out).trans HCW.out
            go_quiet ((first | (go_at_call 18; refine Calls.quiet_of_same (take_all _ _ _ (l1.drop p) m _ ?_); exact hbs.below (below_drewN _ _))))
            generalize takeF (l1.drop p) m = tf at *
            obtain ⟨t1, t2⟩ := tf
            obtain rfl : t2 = 0 := he
            go_wp2
            go_roundw
            case rel => exact ⟨k + 1, p + m, 0, by omega, by omega, by go_num, by go_num, rfl, hr3.below (below_drewN _ _), hb3.trans ((below_drewN _ _).mono hb3.size)⟩
            case measure => simp [intOf]; omega
          · have HT : Hid (numR (stOf l1 p 0) x = ((takeF (l1.drop p) x).1, stOf l1 p (takeF (l1.drop p) x).2)) := numR_gone l1 p x he
            rcases hcp with rfl | hcp
            all_goals
              go_wp2_with (go_at_call 17; refine (rnum_any _ rb _ x hr).mono ?_; rintro e w3 ⟨rfl, hr3, hg3⟩; rw [HT.out] at hr3; rw [HT.out])
              have hb3 := hbr.trans (below_grown hg3 hbr.size hB)
              have hbs := hb.below hb3
              have hck3 : w3.cell? ⟨b, off + k, none⟩ = some (.int .i64 x) := (hb3.cell (p := ⟨b, off + k, none⟩) HBL.out).trans HCW.out
              go_quiet ((first | (go_at_call 18; refine Calls.quiet_of_same (take_all _ _ _ (l1.drop p) x _ ?_); first | exact (bs_gone hbs p hcap _).below (below_drewN _ _) | exact (bs_map hbs p hp).below (below_drewN _ _))))
              generalize takeF (l1.drop p) x = tf at *
              obtain ⟨t1, t2⟩ := tf
              have he2 : t2 ≠ 0 := he
              have hr4 : Rd w3 rb (stOf l1 p t2) := hr3
              clear hr3 he hbs hck3
              go_wp2
              go_roundw
              case rel => exact ⟨k + 1, p, t2, by omega, by omega, by go_num, by go_num, rfl, hr4.below (below_drewN _ _), hb3.trans ((below_drewN _ _).mono hb3.size)⟩
              case measure => simp [intOf]; omega
        · have HT : Hid (numR (stOf l1 p q) x = (0, stOf l1 p q)) := numR_bad l1 p q hq x
          rcases hcp with rfl | hcp
          all_goals
            go_wp2_with (go_at_call 17; refine (rnum_any _ rb _ x hr).mono ?_; rintro e w3 ⟨rfl, hr3, hg3⟩; rw [HT.out] at hr3; rw [HT.out])
            have hb3 := hbr.trans (below_grown hg3 hbr.size hB)
            have hbs := hb.below hb3
            have hck3 : w3.cell? ⟨b, off + k, none⟩ = some (.int .i64 x) := (hb3.cell (p := ⟨b, off + k, none⟩) HBL.out).trans HCW.out
            go_quiet ((first | (go_at_call 18; refine Calls.quiet_of_same (take_all _ _ _ (l1.drop p) x _ ?_); first | exact (bs_gone hbs p hcap _).below (below_drewN _ _) | exact (bs_map hbs p hp).below (below_drewN _ _))))
            generalize takeF (l1.drop p) x = tf at *
            obtain ⟨t1, t2⟩ := tf
            clear hbs hck3
            go_wp2
            go_roundw
            case rel => exact ⟨k + 1, p, q, by omega, by omega, by go_num, by go_num, rfl, hr3.below (below_drewN _ _), hb3.trans ((below_drewN _ _).mono hb3.size)⟩
            case measure => simp [intOf]; omega
    · have HE := endR_of l1 p q
      by_cases hq : q = 0
      · subst hq
        by_cases hpl : p < len1
        · rw [if_pos rfl, if_pos (by omega)] at HE
          go_wp2_with (go_at_call 19; refine (rend_any _ rb _ hr).mono ?_; rintro e w' ⟨rfl, rfl⟩; rw [HE])
          go_ret
          exact ⟨rfl, hbr⟩
        · rw [if_pos rfl, if_neg (by omega)] at HE
          go_wp2_with (go_at_call 19; refine (rend_any _ rb _ hr).mono ?_; rintro e w' ⟨rfl, rfl⟩; rw [HE])
          go_ret
          exact ⟨rfl, hbr⟩
      · rw [if_neg hq] at HE
        go_wp2_with (go_at_call 19; refine (rend_any _ rb _ hr).mono ?_; rintro e w' ⟨rfl, rfl⟩; rw [HE])
        go_ret
        exact ⟨rfl, hbr⟩

end Go.Proofs.Ytbieemiogbkaiaa
