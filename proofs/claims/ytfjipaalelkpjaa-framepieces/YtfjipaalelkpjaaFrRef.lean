/-
  What stands at the front, and what might, by the document's answer.
-/
import Derived.Test.YtfjipaalelkpjaaFrRdr
import Derived.Deep.LoopGhost
namespace Go.Proofs.Ytfjipaalelkpjaa
open Go.RowKit D

theorem cut_low (b off len cap n : Nat) (h1 : n + 8 ≤ cap) (W : World) : (Instr.sliceAt 22 (.slice (some ⟨b, off, none⟩) len cap) none (some (.int .i64 (n + 8))) none).run Try.prog W = .ok (.slice (some ⟨b, off, none⟩) (n + 8) cap) W := by
  have e1 : ((n : Int) + 8).toNat = n + 8 := by omega
  rw [run_sliceAt_slice W 22 _ _ _ _ under_B, run_slice_h W 22 _ _ _ under_B .i64 (n + 8) (by omega) (by omega), sizeOf_b]
  simp only [Result.andThen_ok, sliced, e1]
  rw [if_neg (by omega), Nat.sub_zero, Nat.sub_zero, Nat.zero_mul]
  rw [Option.map_some, Addr.add_mid]
  rfl
theorem byt_of {w : World} {a : Option Addr} {len : Nat} {l : List Int} (h : Bs w a len l) : Byt l := h.2.1
/-- a text's bytes. -/
def bytesOf (s : ByteArray) : List Int := s.data.toList.map fun b => (b.toNat : Int)
theorem bytes_str (l : List Int) (h : Byt l) : bytesOf (strOfNums l) = l := by
  unfold bytesOf
  rw [strOfNums_data, List.map_map]
  conv => rhs; rw [← List.map_id l]
  apply List.map_congr_left
  intro z hz
  obtain ⟨h0, h1⟩ := h z hz
  obtain ⟨n, rfl⟩ := Int.eq_ofNat_of_zero_le h0
  have : n < 256 := by omega
  simp [UInt8.toNat_ofNat', Nat.mod_eq_of_lt this]
theorem str_inj {l m : List Int} (hl : Byt l) (hm : Byt m) (h : (strOfNums l).toList = (strOfNums m).toList) : l = m := by
  rw [ByteArray.toList_eq, ByteArray.toList_eq] at h
  rw [← bytes_str l hl, ← bytes_str m hm]
  unfold bytesOf
  rw [h]
/-- bytes as a text. -/
theorem text_any {w : World} {a : Option Addr} {len : Nat} {l : List Int} (h : Bs w a len l) (cap : Nat) : (convert 22 9 (.slice a len cap)).run Try.prog w = .ok (.string (strOfNums l)) w := D.run_text (l := l) h cap

/-- nothing, or a row of its own. -/
def StR (B : Nat) (w' : World) (l : List Int) (e : Ending) : Prop := (Std sm l ∧ ∃ u, e = .returned u ∧ Wt w' u (body l) ∧ Own B u) ∨ (¬ Std sm l ∧ e = .returned (.slice none 0 0))

set_option maxHeartbeats 4000000 in
theorem stands_any (a : Option Addr) (len cap : Nat) (l : List Int) (w : World) (hcap : len ≤ cap) (hlen : len ≤ 100000) (hb : Bs w a len l) :
    Calls Try.prog 26 #[.slice a len cap] w fun e w' => StR w.heap.size w' l e ∧ Below w.heap.size w w' := by
  have hbb := hb.byte
  have hll := hb.1
  have HS : Hid (Std sm l → 1 ≤ told l ∧ told l ≤ 512 ∧ told l + 8 ≤ len) := fun h => ⟨h.1, h.2.1, by rw [← hll]; exact h.2.2.1⟩
  rcases Nat.lt_or_ge len 9 with h9 | h9
  · clear hbb hb
    go_enter Try.func26, Try.ntmps26
    go_wp2
    go_ret
    exact ⟨.inr ⟨fun h => by have := HS.out h; omega, rfl⟩, Below.refl _ _⟩
  have ht := told_at hbb
  obtain ⟨b, off, rfl, hc⟩ := hb.2.2 (by omega)
  have q2 := hc 2 (by omega)
  have q3 := hc 3 (by omega)
  obtain ⟨x0, x1⟩ := hbb 2
  obtain ⟨y0, y1⟩ := hbb 3
  have i2 : (2 : Int) < (len : Int) := by omega
  have i3 : (3 : Int) < (len : Int) := by omega
  by_cases hin : 1 ≤ told l ∧ told l ≤ 512 ∧ told l + 8 ≤ len
  case neg =>
    have HN : Hid (¬ Std sm l) := fun h => hin (HS.out h)
    clear hbb hb hc HS
    generalize l.getD 2 0 = x at *
    generalize l.getD 3 0 = y at *
    by_cases k1 : 1 ≤ told l
    · by_cases k2 : told l ≤ 512
      · have k3 : ¬ told l + 8 ≤ len := fun h => hin ⟨k1, k2, h⟩
        have j1 : ¬ x * 256 + y < 1 := by omega
        have j2 : ¬ 512 < x * 256 + y := by omega
        have j3 : (len : Int) < x * 256 + y + 8 := by omega
        clear hin k1 k2 k3 ht
        go_enter Try.func26, Try.ntmps26
        go_upto_region 3 with fail
        go_quiet (fail)
        go_wp2
        go_ret
        exact ⟨.inr ⟨HN.out, rfl⟩, below_drewN _ _⟩
      · have j1 : ¬ x * 256 + y < 1 := by omega
        have j2 : 512 < x * 256 + y := by omega
        clear hin k1 k2 ht
        go_enter Try.func26, Try.ntmps26
        go_upto_region 3 with fail
        go_quiet (fail)
        go_wp2
        go_ret
        exact ⟨.inr ⟨HN.out, rfl⟩, below_drewN _ _⟩
    · have j1 : x * 256 + y < 1 := by omega
      clear hin k1 ht
      go_enter Try.func26, Try.ntmps26
      go_upto_region 3 with fail
      go_quiet (fail)
      go_wp2
      go_ret
      exact ⟨.inr ⟨HN.out, rfl⟩, below_drewN _ _⟩
  obtain ⟨k1, k2, k3⟩ := hin
  have hmid := cut_mid b off len cap (told l) (by omega) k1
  have hlow := cut_low b off len cap (told l) (by omega)
  have HBs : Hid (Bs w (some ⟨b, off, none⟩) len l) := hb
  have hbd : (body l).length = told l := by unfold body; rw [List.length_take, List.length_drop]; omega
  have HBd : Hid (∀ W, Bs W (some ⟨b, off, none⟩) len l → Bs W (some ⟨b, off + 8, none⟩) (told l) (body l)) := fun W hW => Bs.sub (l := l) hW 8 (told l) (by omega)
  have HTk : Hid (∀ W, Bs W (some ⟨b, off, none⟩) len l → Bs W (some ⟨b, off, none⟩) (told l + 8) (l.take (told l + 8))) := fun W hW => Bs.sub (l := l) hW 0 (told l + 8) (by omega)
  have HF : Hid (∀ W, Bs W (some ⟨b, off, none⟩) len l → Calls Try.prog 11 #[.slice (some ⟨b, off + 8, none⟩) (told l) (cap - 8)] W fun e w' => ∃ v, e = .returned (.tuple #[v, .int .i64 0]) ∧ Wt w' v (frm sm (body l)) ∧ Below W.heap.size W w' ∧ Own W.heap.size v) := fun W hW =>
    rframe_any _ (told l) _ (body l) W k1 k2 (HBd.out W hW)
  have HQ : Hid (Std sm l ↔ (strOfNums (frm sm (body l))).toList = (strOfNums (l.take (told l + 8))).toList) := by
    have hfb : Byt (frm sm (body l)) := by
      have : ∀ z ∈ body l, 0 ≤ z ∧ z ≤ 255 := fun z hz => hb.2.1 z (List.mem_of_mem_drop (List.mem_of_mem_take hz))
      unfold frm
      rw [hbd]
      exact bd_app (by decide) (bd_app (two_bd k2) (bd_app (four_bd (sm_bd _)) this))
    have htb : Byt (l.take (told l + 8)) := fun z hz => hb.2.1 z (List.mem_of_mem_take hz)
    constructor
    · intro h
      rw [h.2.2.2]
    · intro h
      exact ⟨k1, k2, by omega, (str_inj hfb htb h).symm⟩
  clear hbb hc HS
  have et : Hid ((told l : Int) = l.getD 2 0 * 256 + l.getD 3 0) := ht
  clear ht hb
  generalize l.getD 2 0 = x at *
  generalize l.getD 3 0 = y at *
  have HN : Hid (¬ (told l : Int) < 1 ∧ ¬ 512 < (told l : Int) ∧ ¬ (len : Int) < (told l : Int) + 8) := ⟨by omega, by omega, by omega⟩
  go_enter Try.func26, Try.ntmps26
  go_upto_region 3 with fail
  go_quiet (fail)
  go_upto_region 4 with fail
  rw [← et.out]
  clear q2 q3 x0 x1 y0 y1 et
  generalize told l = t at *
  obtain ⟨j1, j2, j3⟩ := HN.out
  have hwr : IntKind.i64.wrap ((t : Int) + 8) = (t : Int) + 8 := by rw [IntKind.wrap_i64]; omega
  have HB1 : Hid (Below w.heap.size w (w.drewN nq)) := below_drewN _ _
  generalize w.drewN nq = w1 at *
  go_upto_region 7 with (go_at_call 11; refine (HF.out _ (HBs.out.below HB1.out)).mono ?_; rintro e w2 ⟨u, rfl, hu, hb2, hou⟩)
  have HB2 : Hid (Below w.heap.size w w2) := HB1.out.trans (hb2.mono HB1.out.size)
  obtain ⟨ua, uc, hua, hus, _⟩ := hu.slice
  have t1 : ∀ q, (convert 22 9 u).run Try.prog (w2.drewN q) = .ok (.string (strOfNums (frm sm (body l)))) (w2.drewN q) := fun q => by
    rw [hua]
    exact text_any (hus.below (below_drewN _ _)) uc
  have t2 : ∀ q, (convert 22 9 (.slice (some ⟨b, off, none⟩) (t + 8) cap)).run Try.prog (w2.drewN q) = .ok (.string (strOfNums (l.take (t + 8)))) (w2.drewN q) := fun q => text_any (HTk.out _ (HBs.out.below (HB2.out.trans ((below_drewN _ _).mono HB2.out.size)))) cap
  have s1 := t1 0
  have s2 := t2 0
  have r1 := t1 1
  have r2 := t2 1
  clear t1 t2 hus hua
  have hS1 : (fun X : World => (convert 22 9 u).run Try.prog X = .ok (.string (strOfNums (frm sm (body l)))) X ∧ (convert 22 9 (.slice (some ⟨b, off, none⟩) (t + 8) cap)).run Try.prog X = .ok (.string (strOfNums (l.take (t + 8)))) X) w2.drew := ⟨r1, r2⟩
  have hS0 : (fun X : World => (convert 22 9 u).run Try.prog X = .ok (.string (strOfNums (frm sm (body l)))) X ∧ (convert 22 9 (.slice (some ⟨b, off, none⟩) (t + 8) cap)).run Try.prog X = .ok (.string (strOfNums (l.take (t + 8)))) X) w2 := ⟨s1, s2⟩
  generalize strOfNums (frm sm (body l)) = sa at *
  generalize strOfNums (l.take (t + 8)) = sb at *
  go_region_held3 (fun X => (convert 22 9 u).run Try.prog X = .ok (.string sa) X ∧ (convert 22 9 (.slice (some ⟨b, off, none⟩) (t + 8) cap)).run Try.prog X = .ok (.string sb) X) (first | assumption | go_keep) (fail)
  have HB3 : Hid (Below w.heap.size w w2.drew) := HB2.out.drew
  generalize w2.drew = w3 at *
  by_cases hq : sa.toList = sb.toList
  · have hbq : (sa.toList == sb.toList) = true := beq_iff_eq.2 hq
    have we := wt_empty w3
    have hbe : Bs (w3.alloc (.cells #[] 5)) (some ⟨b, off + 8, none⟩) t (body l) := HBd.out _ (HBs.out.below (HB3.out.alloc HB3.out.size _))
    have hST := HQ.out.2 hq
    have HST : Hid (Std sm l) := hST
    rw [hbq, Bool.not_true]
    clear hq hST hbq
    go_wp2_with
      (refine append_wt rfl (.tmp 48) (.tmp 52) rfl (.slice (some ⟨w3.heap.size, 0, none⟩) 0 0) [] rfl we (some ⟨b, off + 8, none⟩) t (cap - 8) (body l) rfl (fun h => by cases h) hbe (by rw [List.length_nil]; omega) ?_; intro v3 w4 hw3 hg3 ho3)
    go_ret
    exact ⟨.inl ⟨HST.out, v3, rfl, hw3, (own_at _ _ _ _ _ HB3.out.size).next (by have := HB3.out.size; simp; omega) ho3⟩, (HB3.out.alloc HB3.out.size _).grown hg3 (by have := HB3.out.size; simp; omega) (fun k hk => by cases hk; exact HB3.out.size)⟩
  · have hbq : (sa.toList == sb.toList) = false := beq_eq_false_iff_ne.2 hq
    have HST : Hid (¬ Std sm l) := fun h => hq (HQ.out.1 h)
    rw [hbq, Bool.not_false]
    clear hq hbq
    go_wp2
    go_ret
    exact ⟨.inr ⟨HST.out, rfl⟩, HB3.out⟩

set_option maxHeartbeats 4000000 in
theorem might_any (a : Option Addr) (len cap : Nat) (l : List Int) (w : World) (hb : Bs w a len l) :
    Calls Try.prog 27 #[.slice a len cap] w fun e w' => e = .returned (.bool (mgtB l)) ∧ Below w.heap.size w w' := by
  have hbb := hb.byte
  have hll := hb.1
  have yes : Mgt l → mgtB l = true := mgtB_iff.2
  have no : ¬ Mgt l → mgtB l = false := fun h => by
    cases hq : mgtB l with
    | false => rfl
    | true => exact absurd (mgtB_iff.1 hq) h
  have HY : Hid (Mgt l → mgtB l = true) := yes
  have HN : Hid (¬ Mgt l → mgtB l = false) := no
  clear yes no
  rcases Nat.eq_zero_or_pos len with h0 | h0
  · have e := HY.out ⟨fun h => absurd h (by omega), fun h => absurd h (by omega), fun h => absurd h (by omega), fun h => absurd h (by omega)⟩
    rw [e]
    subst h0
    clear hb hbb hll HY HN e
    go_enter Try.func27, Try.ntmps27
    go_wp2
    go_ret
    exact ⟨rfl, Below.refl _ _⟩
  obtain ⟨b, off, rfl, hc⟩ := hb.2.2 h0
  have q0 := hc 0 h0
  rw [Nat.add_zero] at q0
  by_cases e0 : l.getD 0 0 = 102
  case neg =>
    have e := HN.out fun h => e0 (h.1 (by omega))
    rw [e]
    clear hb hbb hll hc HY HN e
    generalize l.getD 0 0 = x at *
    go_enter Try.func27, Try.ntmps27
    go_wp2
    go_ret
    exact ⟨rfl, Below.refl _ _⟩
  rw [e0] at q0
  rcases Nat.lt_or_ge len 2 with h1 | h1
  · have e := HY.out ⟨fun _ => e0, fun h => absurd h (by omega), fun h => absurd h (by omega), fun h => absurd h (by omega)⟩
    rw [e]
    clear hb hbb hll hc HY HN e e0
    go_enter Try.func27, Try.ntmps27
    go_wp2
    go_ret
    exact ⟨rfl, Below.refl _ _⟩
  have q1 := hc 1 (by omega)
  by_cases e1 : l.getD 1 0 = 76
  case neg =>
    have e := HN.out fun h => e1 (h.2.1 (by omega))
    rw [e]
    clear hb hbb hll hc HY HN e e0
    generalize l.getD 1 0 = x at *
    go_enter Try.func27, Try.ntmps27
    go_wp2
    go_ret
    exact ⟨rfl, Below.refl _ _⟩
  rw [e1] at q1
  rcases Nat.lt_or_ge len 3 with h2 | h2
  · have e := HY.out ⟨fun _ => e0, fun _ => e1, fun h => absurd h (by omega), fun h => absurd h (by omega)⟩
    rw [e]
    clear hb hbb hll hc HY HN e e0 e1
    go_enter Try.func27, Try.ntmps27
    go_wp2
    go_ret
    exact ⟨rfl, Below.refl _ _⟩
  have q2 := hc 2 (by omega)
  by_cases e2 : l.getD 2 0 ≤ 2
  case neg =>
    have e := HN.out fun h => e2 (h.2.2.1 (by omega))
    rw [e]
    clear hb hbb hll hc HY HN e e0 e1
    generalize l.getD 2 0 = x at *
    go_enter Try.func27, Try.ntmps27
    go_wp2
    go_ret
    exact ⟨rfl, Below.refl _ _⟩
  rcases Nat.lt_or_ge len 4 with h3 | h3
  · have e := HY.out ⟨fun _ => e0, fun _ => e1, fun _ => e2, fun h => absurd h (by omega)⟩
    rw [e]
    clear hb hbb hll hc HY HN e e0 e1
    generalize l.getD 2 0 = x at *
    go_enter Try.func27, Try.ntmps27
    go_wp2
    go_ret
    exact ⟨rfl, Below.refl _ _⟩
  have q3 := hc 3 (by omega)
  have ht := told_at hbb
  obtain ⟨x0, x1⟩ := hbb 2
  obtain ⟨y0, y1⟩ := hbb 3
  have i2 : (2 : Int) < (len : Int) := by omega
  have i3 : (3 : Int) < (len : Int) := by omega
  have HB : Hid (mgtB l = decide (1 ≤ l.getD 2 0 * 256 + l.getD 3 0 ∧ l.getD 2 0 * 256 + l.getD 3 0 ≤ 512 ∧ (len : Int) < l.getD 2 0 * 256 + l.getD 3 0 + 8)) := by
    by_cases hm : 1 ≤ told l ∧ told l ≤ 512 ∧ len < told l + 8
    · rw [HY.out ⟨fun _ => e0, fun _ => e1, fun _ => e2, fun _ => by rw [hll]; exact hm⟩]
      exact (decide_eq_true ⟨by omega, by omega, by omega⟩).symm
    · rw [HN.out fun h => hm (by rw [← hll]; exact h.2.2.2 (by omega))]
      exact (decide_eq_false fun h => hm ⟨by omega, by omega, by omega⟩).symm
  rw [HB.out]
  clear hb hbb hll hc HY HN ht e0 e1 HB
  generalize l.getD 2 0 = x at *
  generalize l.getD 3 0 = y at *
  generalize hz : x * 256 + y = z
  have HZ : Hid (x * 256 + y = z) := hz
  clear hz
  by_cases k1 : 1 ≤ z
  · by_cases k2 : z ≤ 512
    · go_enter Try.func27, Try.ntmps27
      go_upto_region 5 with fail
      go_quiet (fail)
      go_upto_region 6 with fail
      rw [HZ.out]
      go_wp2
      go_ret
      exact ⟨ret_bool (by simp [k1, k2]), below_drewN _ _⟩
    · go_enter Try.func27, Try.ntmps27
      go_upto_region 5 with fail
      go_quiet (fail)
      go_upto_region 6 with fail
      rw [HZ.out]
      go_wp2
      go_ret
      exact ⟨ret_bool (by simp; omega), below_drewN _ _⟩
  · go_enter Try.func27, Try.ntmps27
    go_upto_region 5 with fail
    go_quiet (fail)
    go_upto_region 6 with fail
    rw [HZ.out]
    go_wp2
    go_ret
    exact ⟨ret_bool (by simp; omega), below_drewN _ _⟩

end Go.Proofs.Ytfjipaalelkpjaa
