/-
  The law PackBack, walked: true for all items.
-/
import Derived.Test.YtbieemiogbkaiaaPackCutWalk
namespace Go.Proofs.Ytbieemiogbkaiaa
open Go.RowKit

set_option maxRecDepth 4000 in
set_option maxHeartbeats 6000000 in
theorem packBack_walk (a : Option Addr) (len cap : Nat) (its : List It) (w : World) (h : Items w a len its) :
    Calls Try.prog 5 #[.slice a len cap] w fun e w' => e = .returned (.bool true) ∧ Below w.heap.size w w' := by
  have hll := h.1
  go_enter Try.func5, Try.ntmps5
  go_wp2_with fail
  refine (awake_any _).mono ?_
  rintro e w1 ⟨rfl, hb1⟩
  have h1 := h.below hb1
  go_wp2_with fail
  refine (few_any a len cap its _ h1).mono ?_
  rintro e w' ⟨⟨v, rfl, hv⟩, rfl⟩
  cases v with
  | false =>
    go_wp2
    go_ret
    exact ⟨rfl, hb1⟩
  | true =>
    have hlen : len ≤ 100 := hv rfl
    clear hv
    go_wp2_with fail
    refine (laid_any a len cap its _ (by omega) h1).mono ?_
    rintro e w3 ⟨hb3, v3, rfl, ho3, hbd3⟩
    obtain ⟨a3, cap3, rfl, hbs3, hcap3, hao3, _⟩ := owns_bs ho3 hbd3
    have hw3 := hb1.trans (hb3.mono hb1.size)
    clear ho3 hbd3 hb3 hb1 h1
    have HEN : Hid ((layAll its).2 = 0 → encAll its = some (layAll its).1) := layAll_enc its
    have HSM : Hid ((layAll its).1.length ≤ 800000000 ∧ (layAll its).1.length ≤ 900000000) := by
      have := layAll_small its len (by omega)
      rwa [← hll, List.take_length] at this
    generalize layAll its = BE at *
    obtain ⟨B, E⟩ := BE
    simp only at hbs3 hcap3
    by_cases hE : E = 0
    · subst hE
      have henc : encAll its = some B := HEN.out rfl
      go_wp2_with fail
      refine (read_any a3 B.length cap3 B _ hao3 HSM.out.2 hbs3).mono ?_
      rintro e w4 ⟨rb, rfl, hr4, hrb, hb4⟩
      have hBB : w.heap.size ≤ rb := Nat.le_trans hw3.size hrb
      have hw4 := hw3.trans (hb4.mono hw3.size)
      have HC0 : Hid (encAll its = some B) := henc
      clear hb4 hrb henc HEN HSM
      go_wp2
      go_loopw [8] (fun i wr => ∃ k : Nat, ∃ r : List Int, k ≤ len ∧ i = .int .i64 k ∧ encAll (its.drop k) = some r ∧ Rd wr rb (r, 0) ∧ Below w.heap.size w wr) (fun i _ => len - (intOf i).toNat)
      case atStart => exact ⟨0, _, Nat.zero_le _, rfl, HC0.out, hr4, hw4⟩
      case round =>
        obtain ⟨k, r, hk, rfl, hcl, hr, hbr⟩ := hrel
        clear hr4 hw4
        by_cases hlt : k < len
        · obtain ⟨b, off, rfl, hc⟩ := h.2.2 (by omega)
          have HAT : Hid (its[k].at w b (off + k * 4)) := hc k its[k] (List.getElem?_eq_getElem (by omega))
          have HBL : Hid (b < w.heap.size) := World.block_lt_of_cell? w _ HAT.out.1
          obtain ⟨q1, q2, q3, q4⟩ := at_below HAT.out hbr
          have HO : Hid (its[k].ok) := h.2.1 its[k] (List.getElem_mem (by omega))
          rw [List.drop_eq_getElem_cons (by omega : k < its.length)] at hcl
          have HC : Hid (encAll (its[k] :: its.drop (k + 1)) = some r) := hcl
          clear hc hcl
          generalize its[k] = x at *
          obtain ⟨xn, xs, xt, xx⟩ := x
          simp only at q1 q2 q3 q4
          have hi1 : (k : Int) < (len : Int) := by omega
          cases xt with
          | true =>
            obtain ⟨r2, hr2, ht⟩ := back_text rfl HC.out
            have HR : Hid (encAll (its.drop (k + 1)) = some r2) := hr2
            have HT : Hid (textR (r, 0) = (bytesOf xx, (r2, 0))) := ht
            have hsx : strOfNums (bytesOf xx) = xx := str_bytes xx
            have hrd : Rd wr.drew rb (r, 0) := hr.below (Below.refl _ _).drew
            have hbd : Below w.heap.size w wr.drew := hbr.drew
            clear hr2 ht
            go_wp2_with fail
            go_cut [47] (fun v wc => v = .bool false ∧ Rd wc rb (r2, 0) ∧ Below w.heap.size w wc)
            case first =>
              go_region_held3 (fun w' => w'.cell? ⟨b, off + k * 4 + 2, none⟩ = some (.bool true) ∧ w'.cell? ⟨b, off + k * 4 + 3, none⟩ = some (.string xx)) (first | go_keep | exact ⟨s3, s4⟩) (first | (go_at_call 15; refine (rtext_any wr.drew rb (r, 0) hrd).mono ?_; rintro e w5 ⟨rfl, hr5, hg5⟩; rw [HT.out] at hr5; rw [HT.out]; have hb5 := hbd.trans (below_grown hg5 hbd.size hBB); obtain ⟨s1, s2, s3, s4⟩ := at_below HAT.out hb5; simp only at s3 s4; simp only [hsx]))
              all_goals (go_wp2_with fail; go_meet; exact ⟨rfl, hr5, hb5⟩)
            case rest =>
              obtain ⟨rfl, hr6, hb6⟩ := hcut
              obtain ⟨s1, s2, s3, s4⟩ := at_below HAT.out hb6
              simp only at s3
              clear q1 q2 q3 q4 s1 s2 s4 hr hrd hbd hbr
              go_wp2_with fail
              go_quiet (fail)
              go_wp2
              go_roundw
              case rel => exact ⟨k + 1, r2, by omega, by go_num, HR.out, hr6.below (below_drewN _ _), hb6.trans ((below_drewN _ _).mono hb6.size)⟩
              case measure => simp [intOf]; omega
          | false =>
            obtain ⟨r2, hr2, ht⟩ := back_num rfl HO.out HC.out
            have HR : Hid (encAll (its.drop (k + 1)) = some r2) := hr2
            have HT : Hid (numR (r, 0) xs = (xn, (r2, 0))) := ht
            clear hr2 ht
            go_wp2_with fail
            go_cut [47] (fun v wc => v = .bool false ∧ Rd wc rb (r, 0) ∧ Below w.heap.size w wc)
            case first =>
              go_quiet (fail)
              go_wp2_with fail
              go_meet
              exact ⟨rfl, hr.below (below_drewN _ _), hbr.trans ((below_drewN _ _).mono hbr.size)⟩
            case rest =>
              obtain ⟨rfl, hr6, hb6⟩ := hcut
              obtain ⟨s1, s2, s3, s4⟩ := at_below HAT.out hb6
              simp only at s1 s2 s3
              clear q1 q2 q3 q4 s4 hr hbr
              have hrd : Rd wc.drew rb (r, 0) := hr6.below (Below.refl _ _).drew
              have hbd : Below w.heap.size w wc.drew := hb6.drew
              go_wp2_with fail
              go_cut [68] (fun v wd => v = .bool false ∧ Rd wd rb (r2, 0) ∧ Below w.heap.size w wd)
              case first =>
                go_region_held3 (fun w' => w'.cell? ⟨b, off + k * 4 + 2, none⟩ = some (.bool false) ∧ w'.cell? ⟨b, off + k * 4 + 1, none⟩ = some (.int .i64 xs) ∧ w'.cell? ⟨b, off + k * 4, none⟩ = some (.int .u64 xn)) (first | go_keep | exact ⟨v3, v2, v1⟩) (first | (go_at_call 17; refine (rnum_any wc.drew rb (r, 0) xs hrd).mono ?_; rintro e w5 ⟨rfl, hr5, hg5⟩; rw [HT.out] at hr5; rw [HT.out]; have hb5 := hbd.trans (below_grown hg5 hbd.size hBB); obtain ⟨v1, v2, v3, v4⟩ := at_below HAT.out hb5; simp only at v1 v2 v3; clear s1 s2 s3))
                all_goals (go_wp2_with fail; go_meet; exact ⟨rfl, hr5, hb5⟩)
              case rest =>
                obtain ⟨rfl, hr7, hb7⟩ := hcut
                go_wp2
                go_roundw
                case rel => exact ⟨k + 1, r2, by omega, by go_num, HR.out, hr7, hb7⟩
                case measure => simp [intOf]; omega
        · have he := back_end (r := r) (by rwa [List.drop_of_length_le (by omega)] at hcl)
          go_wp2_with (go_at_call 19; refine (rend_any _ rb _ hr).mono ?_; rintro e w' ⟨rfl, rfl⟩; rw [he])
          go_ret
          exact ⟨rfl, hbr⟩
    · go_wp2
      go_ret
      exact ⟨rfl, hw3⟩

end Go.Proofs.Ytbieemiogbkaiaa
