/-
  The numbers of the calls that rules speak of: the document's own answer.
-/
import Derived.Test.YtimclfdecdappaaNumb
import Derived.Test.YtimclfdecdappaaRNrs
namespace Go.Proofs.Ytimclfdecdappaa
open Go.RowKit

/-- of all numbers those that stand somewhere. -/
def occ (l : List Xr) (z : Int) : Bool := (numsR l).contains z
def flt (l : List Xr) (L : List Int) : List Int := L.filter (occ l)
theorem occ_step {l : List Xr} {k : Nat} {z : Int} (h : k < l.length) : occ (l.take (k + 1)) z = (occ (l.take k) z || (nums l[k].r.names).contains z) := by
  unfold occ
  rw [numsR_step h, List.contains_append]
theorem num_step {ns : List ByteArray} {j : Nat} {z : Int} (h : j < ns.length) : (nums (ns.take (j + 1))).contains z = ((nums (ns.take j)).contains z || (knB ns[j] && (nrI ns[j] == z))) := by
  cases hk : knB ns[j] with
  | true =>
    rw [nums_yes h hk, List.contains_append]
    congr 1
    rw [Bool.true_and, Bool.eq_iff_iff, List.contains_iff_mem, List.mem_singleton, beq_iff_eq]
    exact eq_comm
  | false => rw [nums_no h hk]; simp
theorem flt_yes {l : List Xr} {i : Nat} (h : i < tabI.length) (ho : occ l tabI[i] = true) : flt l (tabI.take (i + 1)) = flt l (tabI.take i) ++ [tabI[i]] := by
  unfold flt
  rw [List.take_succ_eq_append_getElem h, List.filter_append, List.filter_cons_of_pos ho]
  rfl
theorem flt_no {l : List Xr} {i : Nat} (h : i < tabI.length) (ho : occ l tabI[i] = false) : flt l (tabI.take (i + 1)) = flt l (tabI.take i) := by
  unfold flt
  rw [List.take_succ_eq_append_getElem h, List.filter_append, List.filter_cons_of_neg (by simp [ho]), List.filter_nil, List.append_nil]
theorem flt_len (l : List Xr) (i : Nat) : (flt l (tabI.take i)).length ≤ 30 := by
  unfold flt
  exact Nat.le_trans (List.length_filter_le _ _) (by rw [List.length_take]; have := tabI_len; omega)

def RNmbR (w : World) (l : List Xr) (e : Ending) (w' : World) : Prop := ∃ v', e = .returned v' ∧ NzR w' v' (flt l tabI) ∧ Below w.heap.size w w'

theorem nz_of_own {w : World} {base : Nat} {v : Value} {l : List Int} (h : w.ownsRow base 22 1 v l.length (cellsZ l)) : NzR w v l := by
  rcases h.2 with ⟨rfl, h0⟩ | ⟨g, cap, cur, rfl, _, hb, h1, h2, h3, h4⟩
  · obtain rfl : l = [] := List.eq_nil_of_length_eq_zero h0
    exact ⟨none, 0, rfl, Nat.le_refl _, by decide, fun h => absurd h (by decide)⟩
  · refine ⟨some ⟨g, 0, none⟩, cap, rfl, h1, by unfold maxLen at h2; omega, fun _ => ⟨g, 0, rfl, fun i x hi => ?_⟩⟩
    have hk := blk_of_row hb h4
    rw [Nat.zero_add, hk.cell i]
    have hlt := (List.getElem?_eq_some_iff.1 hi).1
    rw [List.getElem?_append_left (by simpa [cellsA] using hlt)]
    simp [cellsA, hi]

set_option maxRecDepth 8000 in
set_option maxHeartbeats 4000000 in
theorem refNumbers_any (w : World) (k a : Int) (v : Value) (l : List Xr) (h : RlR w v l) (hl : l.length ≤ 1000) (hs : ∀ x ∈ l, x.r.names.length ≤ 9000000) :
    Calls Try.prog 21 #[.agg #[.int .i64 k, .int .i64 a, v]] w fun e w' => RNmbR w l e w' := by
  obtain ⟨p1, c1, rfl⟩ : ∃ p c, v = .slice p l.length c := by obtain ⟨p, c, e, _⟩ := h; exact ⟨p, c, e⟩
  have B0 : Hid (Below w.heap.size w (w.alloc (Obj.cells #[.int .i64 k, .int .i64 a, .slice p1 l.length c1] 33))) := below_new w _
  have S0 : Hid (RlR (w.alloc (Obj.cells #[.int .i64 k, .int .i64 a, .slice p1 l.length c1] 33)) (.slice p1 l.length c1) l) := h.below (below_new w _)
  have K0 : Hid (Blk (w.alloc (Obj.cells #[.int .i64 k, .int .i64 a, .slice p1 l.length c1] 33)) w.heap.size 33 [.int .i64 k, .int .i64 a, .slice p1 l.length c1]) := blk_new w _ _
  have HNs : Hid (∀ W, Calls Try.prog 28 #[] W fun e w' => NrsR W e w') := nrs_any
  have HNr : Hid (∀ s W, Calls Try.prog 11 #[.string s] W fun e w' => e = .returned (.tuple #[.int .u32 (nrI s), .bool (knB s)]) ∧ Below W.heap.size W w') := refNr_any
  have HM : Hid (∀ x ∈ l, x.r.names.length ≤ 9000000) := hs
  obtain ⟨i0, hi, hz0, hz1, hz2⟩ := info_parts Try.infoU
  clear h hs
  go_enter Try.func21, Try.ntmps21
  go_wp2_with fail
  generalize (w.alloc (Obj.cells #[.int .i64 k, .int .i64 a, .slice p1 l.length c1] 33)) = X at *
  refine (HNs.out _).mono ?_
  rintro e w1 ⟨g, rfl, hg, b1⟩
  have B1 : Hid (Below w.heap.size w w1) := B0.out.trans (b1.mono B0.out.size)
  have S1 : Hid (RlR w1 (.slice p1 l.length c1) l) := S0.out.below b1
  have K1 : Hid (Blk w1 w.heap.size 33 [.int .i64 k, .int .i64 a, .slice p1 l.length c1]) := K0.out.over b1
  have HZc : Hid (∀ W (i : Nat) (hi : i < tabI.length), Below w1.heap.size w1 W → W.cell? ⟨g, i, none⟩ = some (.int .u32 tabI[i])) := fun W i hi hW => by
    obtain ⟨_, _, e, _, _, hc⟩ := hg.below hW
    cases e
    obtain ⟨b, o, e, hc⟩ := hc (by decide)
    cases e
    have hiZ : i < tabZ.length := hi
    have h1 := hc i _ (List.getElem?_eq_getElem hiZ)
    rw [Nat.zero_add] at h1
    rw [h1]
    simp [tabI, tabZ]
  clear b1 B0 S0 K0 hg HNs
  go_wp2_with fail
  go_loopw [4, 5] (fun v4 vi wr => ∃ i : Nat, vi = .int .i64 i ∧ i ≤ 30 ∧ wr.ownsRow w1.heap.size 22 1 v4 (flt l (tabI.take i)).length (cellsZ (flt l (tabI.take i))) ∧ Below w1.heap.size w1 wr) (fun _ vi _ => 30 - (intOf vi).toNat)
  case atStart => exact ⟨0, rfl, Nat.zero_le _, ⟨rfl, .inl ⟨rfl, rfl⟩⟩, Below.refl _ _⟩
  case round =>
    obtain ⟨i, rfl, hi30, hrow, hb⟩ := hrel
    have HRow : Hid (wr.ownsRow w1.heap.size 22 1 u4 (flt l (tabI.take i)).length (cellsZ (flt l (tabI.take i)))) := hrow
    have HB : Hid (Below w1.heap.size w1 wr) := hb
    clear hrow
    by_cases hlt : i < 30
    · have hi1 : (i : Int) < 30 := by omega
      have hiT : i < tabI.length := hlt
      obtain ⟨z, HZ⟩ : ∃ z, Hid (tabI[i] = z) := ⟨tabI[i], (rfl : tabI[i] = tabI[i])⟩
      have HY : Hid (occ l z = true → flt l (tabI.take (i + 1)) = flt l (tabI.take i) ++ [z]) := fun h => by rw [← HZ.out] at h ⊢; exact flt_yes hiT h
      have HN : Hid (occ l z = false → flt l (tabI.take (i + 1)) = flt l (tabI.take i)) := fun h => by rw [← HZ.out] at h; exact flt_no hiT h
      have HCz : Hid (∀ W, Below w1.heap.size w1 W → W.cell? ⟨g, i, none⟩ = some (.int .u32 z)) := fun W hW => HZ.out ▸ HZc.out W i hiT hW
      have HBo : Hid (∀ W, Below wr.heap.size wr W → Below w1.heap.size w1 W) := fun W hW => HB.out.trans (hW.mono HB.out.size)
      have HRo : Hid (∀ W, Below wr.heap.size wr W → W.ownsRow w1.heap.size 22 1 u4 (flt l (tabI.take i)).length (cellsZ (flt l (tabI.take i)))) := fun W hW => owns_below HRow.out hW (Nat.le_refl _)
      have HF : Hid ((flt l (tabI.take i)).length ≤ 30) := flt_len l i
      clear hb
      go_wp2_with fail
      go_loopw [6, 7] (fun v6 vk wz => ∃ q : Nat, vk = .int .i64 q ∧ q ≤ l.length ∧ v6 = .bool (occ (l.take q) z) ∧ Below wr.heap.size wr wz) (fun _ vk _ => l.length - (intOf vk).toNat)
      case atStart => exact ⟨0, rfl, Nat.zero_le _, rfl, Below.refl _ _⟩
      case round =>
        obtain ⟨q, rfl, hq, rfl, hb⟩ := hrel
        have HB2 : Hid (Below w1.heap.size w1 wr) := HBo.out wr hb
        have HRow2 : Hid (wr.ownsRow w1.heap.size 22 1 u4 (flt l (tabI.take i)).length (cellsZ (flt l (tabI.take i)))) := HRo.out wr hb
        have HB3 : Hid (∀ W, Below wr.heap.size wr W → Below _ _ W) := fun W hW => hb.trans (hW.mono hb.size)
        have t2 : wr.cell? ⟨w.heap.size, 2, none⟩ = some (.slice p1 l.length c1) := (K1.out.over HB2.out).cell 2
        by_cases hlt2 : q < l.length
        · have hq1 : (q : Int) < (l.length : Int) := by omega
          have hmem : l[q] ∈ l := List.getElem_mem hlt2
          obtain ⟨b2, o2, rfl⟩ : ∃ b o, p1 = some ⟨b, o, none⟩ := by obtain ⟨b, o, e, _⟩ := rlR_at S1.out hlt2; exact ⟨b, o, e⟩
          have HRl : Hid (∀ W, Below w1.heap.size w1 W → W.cell? ⟨b2, o2 + q * 4 + 2, none⟩ = some l[q].vn ∧ StrR W l[q].vn l[q].r.names) := fun W hW => by
            obtain ⟨b, o, e, hc⟩ := rlR_at (S1.out.below hW) hlt2
            cases e
            obtain ⟨_, _, _, _, _, _, hr⟩ := S1.out.below hW
            exact ⟨hc.2.2.1, (hr _ hmem).1⟩
          have HOc : Hid (occ (l.take (q + 1)) z = (occ (l.take q) z || (nums l[q].r.names).contains z)) := occ_step hlt2
          have hln : l[q].r.names.length ≤ 9000000 := HM.out _ hmem
          obtain ⟨p3, c3, e3⟩ : ∃ p c, l[q].vn = .slice p l[q].r.names.length c := by obtain ⟨_, _, _, _, _, _, hr⟩ := S1.out; obtain ⟨p, c, e, _⟩ := (hr _ hmem).1; exact ⟨p, c, e⟩
          generalize l[q] = x at *
          obtain ⟨⟨xk, xa, ns, cs⟩, vn, vc⟩ := x
          dsimp only at HRl HOc hln e3
          subst e3
          have HTw : Hid (∀ W, Below w1.heap.size w1 W → W.cell? ⟨w.heap.size, 2, none⟩ = some (.slice (some ⟨b2, o2, none⟩) l.length c1)) := fun W hW => (K1.out.over hW).cell 2
          generalize occ (l.take q) z = qo at *
          clear hb hmem
          go_wp2_with fail
          clear t2
          go_loopw [6, 8] (fun v6 vj wz => ∃ j : Nat, vj = .int .i64 j ∧ j ≤ ns.length ∧ v6 = .bool (qo || (nums (ns.take j)).contains z) ∧ Below wr.heap.size wr wz) (fun _ vj _ => ns.length - (intOf vj).toNat)
          case atStart => exact ⟨0, rfl, Nat.zero_le _, by simp [nums], Below.refl _ _⟩
          case round =>
            obtain ⟨j, rfl, hj, rfl, hb⟩ := hrel
            have HB4 : Hid (Below w1.heap.size w1 wr) := HB2.out.trans (hb.mono HB2.out.size)
            have HB5 : Hid (∀ W, Below wr.heap.size wr W → Below _ _ W) := fun W hW => hb.trans (hW.mono hb.size)
            have HB6 := HB3.out wr hb
            have t2 : wr.cell? ⟨w.heap.size, 2, none⟩ = some (.slice (some ⟨b2, o2, none⟩) l.length c1) := HTw.out wr HB4.out
            have t3 : wr.cell? ⟨b2, o2 + q * 4 + 2, none⟩ = some (.slice p3 ns.length c3) := (HRl.out wr HB4.out).1
            by_cases hlt3 : j < ns.length
            · have hj1 : (j : Int) < (ns.length : Int) := by omega
              obtain ⟨b3, o3, rfl, e5⟩ := strR_at (HRl.out wr HB4.out).2 hlt3
              have HX : Hid (∀ W, Calls Try.prog 11 #[.string ns[j]] W fun e w' => e = .returned (.tuple #[.int .u32 (nrI ns[j]), .bool (knB ns[j])]) ∧ Below W.heap.size W w') := HNr.out ns[j]
              have HSt : Hid ((nums (ns.take (j + 1))).contains z = ((nums (ns.take j)).contains z || (knB ns[j] && (nrI ns[j] == z)))) := num_step hlt3
              generalize (nums (ns.take j)).contains z = qj at *
              generalize knB ns[j] = qk at *
              generalize nrI ns[j] = zn at *
              generalize ns[j] = sj at *
              clear hb
              cases qk with
              | true =>
                rcases Bool.eq_false_or_eq_true (zn == z) with hz | hz
                · go_wp2_with (first | (go_at_call 11; refine (HX.out _).mono ?_; rintro e w3 ⟨rfl, b3'⟩; have k5 := HCz.out _ (HB4.out.trans (b3'.mono HB4.out.size))))
                  go_roundw
                  case rel => exact ⟨j + 1, by go_num, hlt3, by rw [HSt.out, hz]; simp, HB5.out _ b3'⟩
                  case measure => simp [intOf]; omega
                · go_wp2_with (first | (go_at_call 11; refine (HX.out _).mono ?_; rintro e w3 ⟨rfl, b3'⟩; have k5 := HCz.out _ (HB4.out.trans (b3'.mono HB4.out.size))))
                  go_roundw
                  case rel => exact ⟨j + 1, by go_num, hlt3, by rw [HSt.out, hz]; simp, HB5.out _ b3'⟩
                  case measure => simp [intOf]; omega
              | false =>
                go_wp2_with (first | (go_at_call 11; refine (HX.out _).mono ?_; rintro e w3 ⟨rfl, b3'⟩))
                go_roundw
                case rel => exact ⟨j + 1, by go_num, hlt3, by rw [HSt.out]; simp, HB5.out _ b3'⟩
                case measure => simp [intOf]; omega
            · have hj1 : ¬ (j : Int) < (ns.length : Int) := by omega
              have HE : Hid (occ (l.take (q + 1)) z = (qo || (nums (ns.take j)).contains z)) := by
                show _ = _
                rw [HOc.out, List.take_of_length_le (show ns.length ≤ j by omega)]
              clear hb
              go_wp2_with fail
              go_roundw
              case rel => exact ⟨q + 1, by go_num, hlt2, by rw [HE.out], HB6⟩
              case measure => simp [intOf]; omega
        · have hq1 : ¬ (q : Int) < (l.length : Int) := by omega
          have HE : Hid (occ (l.take q) z = occ l z) := by show _ = _; rw [List.take_of_length_le (by omega)]
          rw [HE.out]
          have hcz : wr.cell? ⟨g, i, none⟩ = some (.int .u32 z) := HCz.out wr HB2.out
          have hbs : w1.heap.size ≤ wr.heap.size := HB2.out.size
          have hF := HF.out
          clear hb HE
          generalize occ l z = oo at *
          cases oo with
          | false =>
            go_wp2_with fail
            go_roundw
            case rel => exact ⟨i + 1, by go_num, hlt, by rw [HN.out rfl]; exact HRow2.out, HB2.out⟩
            case measure => simp [intOf]; omega
          | true =>
            go_wp2_with (first
              | (at_builtin; refine wpList_append_own _ rfl _ _ 46 rfl w1.heap.size 22 i0 (.int .u32 0) 1 4 Try.underlying46 hi hz0 hz1 hz2 rfl (by decide) _ _ _ rfl (HRow2.out.alloc _) ⟨wr.heap.size, 0, none⟩ 1 1 [.int .u32 z] rfl rfl (cell_one_new _ _ _) (by simp [Value.oneCell']) (by unfold maxLen; omega) (by omega) (by simp; omega) ?_; intro v' w4 hown' hg4 hnil4; go_frame)
              | go_in)
            go_roundw
            case rel => exact ⟨i + 1, by go_num, hlt, by rw [HY.out rfl]; simpa [cellsZ] using hown', (HB2.out.alloc HB2.out.size _).grown hg4 (by have := HB2.out.size; simp; omega) (fun j hj => (HRow2.out.lt j hj).1)⟩
            case measure => simp [intOf]; omega
    · have hi1 : ¬ (i : Int) < 30 := by omega
      have HE : Hid (NzR wr u4 (flt l tabI)) := by
        have := HRow.out
        rw [List.take_of_length_le (by rw [tabI_len]; omega)] at this
        exact nz_of_own this
      clear hb
      go_wp2_with fail
      go_ret
      exact ⟨_, rfl, HE.out, B1.out.trans (HB.out.mono B1.out.size)⟩

end Go.Proofs.Ytimclfdecdappaa
