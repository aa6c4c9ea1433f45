/-
  Why rules mean nothing, by the document.
-/
import Derived.Test.YtimclfdecdappaaRRules
import Derived.Test.YtimclfdecdappaaRNrs
import Derived.Test.YtimclfdecdappaaWrong
import Derived.BigQuiet
namespace Go.Proofs.Ytimclfdecdappaa
open Go.RowKit

theorem wrongN_unk {l : List ByteArray} {i : Nat} (h : i < l.length) (hk : knB l[i] = false) : wrongN l = 8 := by
  unfold wrongN
  rw [if_pos]
  rw [List.any_eq_true]
  exact ⟨l[i], List.getElem_mem h, by rw [hk]; rfl⟩
theorem wrongN_twice {l : List ByteArray} {i : Nat} (hu : (l.any fun s => !knB s) = false) (h : i < l.length) (ht : twAt l i = true) : wrongN l = 9 := by
  unfold wrongN
  rw [hu, if_neg (by decide), if_pos (twB_hit h ht)]
theorem wrongN_ok {l : List ByteArray} (hu : (l.any fun s => !knB s) = false) (h : ∀ i, i < l.length → twAt l i = false) : wrongN l = 0 := by
  unfold wrongN
  rw [hu, if_neg (by decide), twB_none h, if_neg (by decide)]

set_option maxRecDepth 8000 in
set_option maxHeartbeats 4000000 in
theorem rcheck_any (w : World) (k a : Int) (v : Value) (l : List Xr) (h : RlR w v l) (hs : Sml l) :
    Calls Try.prog 16 #[.agg #[.int .i64 k, .int .i64 a, v]] w fun e w' => e = .returned (.tuple #[.int .i64 (checkP k a (l.map Xr.r)).1, .int .i64 (checkP k a (l.map Xr.r)).2]) ∧ Below w.heap.size w w' := by
  obtain ⟨p1, c1, rfl⟩ : ∃ p c, v = .slice p l.length c := by obtain ⟨p, c, e, _⟩ := h; exact ⟨p, c, e⟩
  have hl : l.length ≤ 1000 := hs.1
  have be : Below w.heap.size w (w.alloc (Obj.cells #[.int .i64 k, .int .i64 a, .slice p1 l.length c1] 33)) := (Below.refl _ _).alloc (Nat.le_refl _) _
  have BE : Hid (Below w.heap.size w (w.alloc (Obj.cells #[.int .i64 k, .int .i64 a, .slice p1 l.length c1] 33))) := be
  have HK : Hid (Blk (w.alloc (Obj.cells #[.int .i64 k, .int .i64 a, .slice p1 l.length c1] 33)) w.heap.size 33 [.int .i64 k, .int .i64 a, .slice p1 l.length c1]) := blk_new w _ _
  have SN : Hid (RlR (w.alloc (Obj.cells #[.int .i64 k, .int .i64 a, .slice p1 l.length c1] 33)) (.slice p1 l.length c1) l) := h.below be
  have HA : Hid (∀ W, RlR W (.slice p1 l.length c1) l → Calls Try.prog 30 #[.agg #[.int .i64 k, .int .i64 a, .slice p1 l.length c1]] W fun e w' => e = .returned (.bool (rulesB k a (l.map Xr.r))) ∧ Below W.heap.size W w') := fun W h => rright_any W k a _ l h hs
  have HE : Hid (checkP k a (l.map Xr.r) = if rulesB k a (l.map Xr.r) = true then wrongFrom 0 ((l.drop 0).map Xr.r) else (1, -1)) := rfl
  have HM : Hid (Sml l) := hs
  clear h be hs
  generalize checkP k a (l.map Xr.r) = R at *
  generalize rulesB k a (l.map Xr.r) = RB at *
  cases RB with
  | false =>
    go_enter Try.func16, Try.ntmps16
    go_wp2_with fail
    generalize (w.alloc (Obj.cells #[.int .i64 k, .int .i64 a, .slice p1 l.length c1] 33)) = X at *
    refine (HA.out _ SN.out).mono ?_
    rintro e w1 ⟨rfl, b1⟩
    go_wp2_with fail
    go_ret2
    exact ⟨ret_ints (by rw [HE.out]; rfl) (by rw [HE.out]; rfl), BE.out.trans (b1.mono BE.out.size)⟩
  | true =>
    go_enter Try.func16, Try.ntmps16
    go_wp2_with fail
    generalize (w.alloc (Obj.cells #[.int .i64 k, .int .i64 a, .slice p1 l.length c1] 33)) = X at *
    refine (HA.out _ SN.out).mono ?_
    rintro e w1 ⟨rfl, b1⟩
    have K1 : Hid (Blk w1 w.heap.size 33 [.int .i64 k, .int .i64 a, .slice p1 l.length c1]) := HK.out.over b1
    have S1 : Hid (RlR w1 (.slice p1 l.length c1) l) := SN.out.below b1
    have B1 : Hid (Below w.heap.size w w1) := BE.out.trans (b1.mono BE.out.size)
    have HE2 : Hid (R = wrongFrom 0 ((l.drop 0).map Xr.r)) := HE.out.trans (if_pos trivial)
    clear b1 BE HE SN HA HK
    go_wp2_with fail
    go_loopw [4] (fun vi wr => ∃ i : Nat, vi = .int .i64 i ∧ i ≤ l.length ∧ R = wrongFrom i ((l.drop i).map Xr.r) ∧ Below w1.heap.size w1 wr) (fun vi _ => l.length - (intOf vi).toNat)
    case atStart => exact ⟨0, rfl, Nat.zero_le _, HE2.out, Below.refl _ _⟩
    case round =>
      obtain ⟨i, rfl, hi, ht, hb⟩ := hrel
      have HT : Hid (R = wrongFrom i ((l.drop i).map Xr.r)) := ht
      have HB : Hid (Below w1.heap.size w1 wr) := hb
      have t2 : wr.cell? ⟨w.heap.size, 2, none⟩ = some (.slice p1 l.length c1) := (K1.out.over hb).cell 2
      clear ht
      by_cases hlt : i < l.length
      · have hi1 : (i : Int) < (l.length : Int) := by omega
        obtain ⟨b1, o1, rfl, e1⟩ := rlR_at (S1.out.below hb) hlt
        have hmem : l[i] ∈ l := List.getElem_mem hlt
        have HSm : Hid (l[i].r.names.length ≤ 9000000) := (HM.out.2 _ hmem).1
        have HSR : Hid (∀ W, Below w1.heap.size w1 W → StrR W l[i].vn l[i].r.names) := fun W hW => by
          obtain ⟨_, _, _, _, _, _, hr⟩ := S1.out.below hW
          exact (hr _ hmem).1
        have HS : Hid (R = if wrongN l[i].r.names = 0 then wrongFrom (i + 1) ((l.drop (i + 1)).map Xr.r) else (wrongN l[i].r.names, (i : Int))) := HT.out.trans (wrongFrom_step hlt)
        clear hmem HT S1 HM
        generalize l[i] = x at *
        obtain ⟨⟨xk, xa, ns, cs⟩, vn, vc⟩ := x
        obtain ⟨q0, q1, q2, q3⟩ := e1
        dsimp only at q0 q1 q2 q3 HSm HSR HS
        obtain ⟨p3, c3, rfl⟩ : ∃ p c, vn = .slice p ns.length c := by obtain ⟨p, c, e, _⟩ := (HSR.out _ HB.out); exact ⟨p, c, e⟩
        have hn1 : ns.length ≤ 9000000 := HSm.out
        have HU8 : Hid (∀ j (hj : j < ns.length), knB ns[j] = false → R = (8, (i : Int))) := fun j hj hq => by rw [HS.out, wrongN_unk hj hq]; rfl
        have HT9 : Hid (∀ j, (ns.any fun s => !knB s) = false → j < ns.length → twAt ns j = true → R = (9, (i : Int))) := fun j hu hj hq => by rw [HS.out, wrongN_twice hu hj hq]; rfl
        have HOK : Hid ((ns.any fun s => !knB s) = false → (∀ j, j < ns.length → twAt ns j = false) → R = wrongFrom (i + 1) ((l.drop (i + 1)).map Xr.r)) := fun hu hj => by rw [HS.out, wrongN_ok hu hj]; rfl
        clear hb HS HSm
        go_wp2_with fail
        clear t2 q0 q1 q2 q3
        have HBa : Hid (Below w1.heap.size w1 wr) := HB.out
        clear HB
        go_loopw [6] (fun vj wz => ∃ j : Nat, vj = .int .i64 j ∧ j ≤ ns.length ∧ ((ns.take j).any fun s => !knB s) = false ∧ Below w1.heap.size w1 wz) (fun vj _ => ns.length - (intOf vj).toNat)
        case atStart => exact ⟨0, rfl, Nat.zero_le _, rfl, HBa.out⟩
        case round =>
          obtain ⟨j, rfl, hj, hall, hbz⟩ := hrel
          have HT2 : Hid (((ns.take j).any fun s => !knB s) = false) := hall
          have HBZ : Hid (Below w1.heap.size w1 wr) := hbz
          clear hall
          by_cases hlt2 : j < ns.length
          · have hj1 : (j : Int) < (ns.length : Int) := by omega
            obtain ⟨b3, o3, rfl, e3⟩ := strR_at (HSR.out _ hbz) hlt2
            have HI : Hid (∀ W, Calls Try.prog 11 #[.string ns[j]] W fun e w' => e = .returned (.tuple #[.int .u32 (nrI ns[j]), .bool (knB ns[j])]) ∧ Below W.heap.size W w') := refNr_any _
            have HS2 : Hid (knB ns[j] = true → ((ns.take (j + 1)).any fun s => !knB s) = false) := fun hq => any_step (p := fun s => !knB s) hlt2 (by rw [hq]; rfl) HT2.out
            have HF2 : Hid (knB ns[j] = false → R = (8, (i : Int))) := HU8.out j hlt2
            clear HT2 hbz HU8
            generalize knB ns[j] = q at *
            generalize nrI ns[j] = z at *
            generalize ns[j] = s at *
            cases q with
            | true =>
              go_wp2_with (go_at_call 11; refine (HI.out _).mono ?_; rintro e w3 ⟨rfl, b3⟩)
              go_roundw
              case rel => exact ⟨j + 1, by go_num, hlt2, HS2.out trivial, HBZ.out.trans (b3.mono HBZ.out.size)⟩
              case measure => simp [intOf]; omega
            | false =>
              have HF3 : Hid (R = (8, (i : Int))) := HF2.out rfl
              go_wp2_with (go_at_call 11; refine (HI.out _).mono ?_; rintro e w3 ⟨rfl, b3⟩)
              go_ret2
              exact ⟨ret_ints (by rw [HF3.out]) (by rw [HF3.out]), B1.out.trans ((HBZ.out.trans (b3.mono HBZ.out.size)).mono B1.out.size)⟩
          · have hge2 : ¬ (j : Int) < (ns.length : Int) := by omega
            have HU : Hid ((ns.any fun s => !knB s) = false) := any_end hlt2 HT2.out
            clear HT2 hbz HU8
            go_wp2_with fail
            have HBb : Hid (Below w1.heap.size w1 wr) := HBZ.out
            clear HBZ
            go_loopw [9] (fun vj wz => ∃ m : Nat, vj = .int .i64 m ∧ m ≤ ns.length ∧ (∀ t, t < m → twAt ns t = false) ∧ Below w1.heap.size w1 wz) (fun vj _ => ns.length - (intOf vj).toNat)
            case atStart => exact ⟨0, rfl, Nat.zero_le _, fun t ht => absurd ht (Nat.not_lt_zero _), HBb.out⟩
            case round =>
              obtain ⟨m, rfl, hm, hall, hbz⟩ := hrel
              have HT3 : Hid (∀ t, t < m → twAt ns t = false) := hall
              have HBZ : Hid (Below w1.heap.size w1 wr) := hbz
              clear hall hbz
              by_cases hlt3 : m < ns.length
              · have hm1 : (m : Int) < (ns.length : Int) := by omega
                have HS3 : Hid (twAt ns m = false → ∀ t, t < m + 1 → twAt ns t = false) := fun hq t ht => by
                  rcases Nat.lt_or_ge t m with h | h
                  · exact HT3.out t h
                  · obtain rfl : t = m := by omega
                    exact hq
                have HF3 : Hid (twAt ns m = true → R = (9, (i : Int))) := HT9.out m HU.out hlt3
                have HTW : Hid (twAt ns m = (ns.take m).any fun s => eqS ns[m] s) := twAt_eq hlt3
                clear HT3
                go_wp2_with fail
                have HBc : Hid (Below w1.heap.size w1 wr) := HBZ.out
                clear HBZ
                go_loopw [10] (fun vj wz => ∃ t : Nat, vj = .int .i64 t ∧ t ≤ m ∧ ((ns.take t).any fun s => eqS ns[m] s) = false ∧ Below w1.heap.size w1 wz) (fun vj _ => m - (intOf vj).toNat)
                case atStart => exact ⟨0, rfl, Nat.zero_le _, rfl, HBc.out⟩
                case round =>
                  obtain ⟨t, rfl, htm, hall, hbz⟩ := hrel
                  have HT4 : Hid (((ns.take t).any fun s => eqS ns[m] s) = false) := hall
                  have HBZ : Hid (Below w1.heap.size w1 wr) := hbz
                  clear hall
                  by_cases hlt4 : t < m
                  · have ht1 : (t : Int) < (m : Int) := by omega
                    have htn : t < ns.length := by omega
                    have ht2 : (t : Int) < (ns.length : Int) := by omega
                    obtain ⟨b3, o3, e0, e3⟩ := strR_at (HSR.out _ hbz) hlt3
                    subst e0
                    obtain ⟨b4, o4, e0, e4⟩ := strR_at (HSR.out _ hbz) htn
                    cases e0
                    have HS4 : Hid (eqS ns[m] ns[t] = false → ((ns.take (t + 1)).any fun s => eqS ns[m] s) = false) := fun hq => any_step (p := fun s => eqS ns[m] s) htn hq HT4.out
                    have HF4 : Hid (eqS ns[m] ns[t] = true → R = (9, (i : Int))) := fun hq => HF3.out (by
                      rw [HTW.out, List.any_eq_true]
                      exact ⟨ns[t], by rw [List.mem_take_iff_getElem]; exact ⟨t, by omega, rfl⟩, hq⟩)
                    have HBd : Hid (∀ n, Below w1.heap.size w1 (wr.drewN n)) := fun n => hbz.trans ((below_drewN wr n).mono hbz.size)
                    clear hbz HT4 HTW HF3 HS3
                    generalize hsm : ns[m] = s1 at *
                    generalize hst : ns[t] = s2 at *
                    clear hsm hst
                    rcases Bool.eq_false_or_eq_true (eqS s1 s2) with hq | hq
                    · have hq' : (s1.toList == s2.toList) = true := (eqS_to _ _).trans hq
                      have HF5 : Hid (R = (9, (i : Int))) := HF4.out hq
                      go_wp2_with fail
                      go_quiet (fail)
                      go_wp2_with fail
                      go_ret2
                      exact ⟨ret_ints (by rw [HF5.out]) (by rw [HF5.out]), B1.out.trans ((HBd.out _).mono B1.out.size)⟩
                    · have hq' : (s1.toList == s2.toList) = false := (eqS_to _ _).trans hq
                      go_wp2_with fail
                      go_quiet (fail)
                      go_wp2_with fail
                      go_roundw
                      case rel => exact ⟨t + 1, by go_num, hlt4, HS4.out hq, HBd.out _⟩
                      case measure => simp [intOf]; omega
                  · have hge4 : ¬ (t : Int) < (m : Int) := by omega
                    have HS5 : Hid (∀ t, t < m + 1 → twAt ns t = false) := HS3.out (by rw [HTW.out]; obtain rfl : t = m := (by omega); exact HT4.out)
                    clear hbz
                    go_wp2_with fail
                    go_roundw
                    case rel => exact ⟨m + 1, by go_num, hlt3, HS5.out, HBZ.out⟩
                    case measure => simp [intOf]; omega
              · have hge3 : ¬ (m : Int) < (ns.length : Int) := by omega
                have HO : Hid (R = wrongFrom (i + 1) ((l.drop (i + 1)).map Xr.r)) := HOK.out HU.out fun t ht => HT3.out t (by omega)
                go_wp2_with fail
                go_roundw
                case rel => exact ⟨i + 1, by go_num, hlt, HO.out, HBZ.out⟩
                case measure => simp [intOf]; omega
      · have hge : ¬ (i : Int) < (l.length : Int) := by omega
        have HS2 : Hid (R = (0, -1)) := HT.out.trans (wrongFrom_end hlt)
        clear hb
        go_wp2
        go_ret2
        exact ⟨ret_ints (by rw [HS2.out]) (by rw [HS2.out]), B1.out.trans (HB.out.mono B1.out.size)⟩

end Go.Proofs.Ytimclfdecdappaa
