/-
  A part of a row parted by one of its numbers.
-/
import Derived.Test.YtifddbfcongepaaSrt0
namespace Go.Proofs.Ytifddbfcongepaa
open Go.RowKit
open Go.Sort (swp size_swp PermIn SortedIn)

/-- what two searchers have left behind: the less ahead of i, the others behind j. -/
structure Pt (a b i j n : Nat) (d dk : Array Int) : Prop where
  sz : dk.size = n
  perm : PermIn a b d dk
  lo : ∀ k, a < k → k < i → ltZ dk[k]! dk[a]! = true
  hi : ∀ k, j < k → k < b → ltZ dk[k]! dk[a]! = false
  ai : a < i
  ij : i ≤ j + 1
  jb : j < b
  bn : b ≤ n

section
variable {a b i j n : Nat} {d dk : Array Int}
theorem Pt.up (h : Pt a b i j n d dk) (hl : i ≤ j) (ht : ltZ dk[i]! dk[a]! = true) : Pt a b (i + 1) j n d dk :=
  ⟨h.sz, h.perm, fun k h1 h2 => by
    rcases Nat.lt_or_ge k i with h3 | h3
    · exact h.lo k h1 h3
    · rw [show k = i by omega]; exact ht, h.hi, by have := h.ai; omega, by omega, h.jb, h.bn⟩
theorem Pt.down (h : Pt a b i j n d dk) (hl : i ≤ j) (ht : ltZ dk[j]! dk[a]! = false) : Pt a b i (j - 1) n d dk :=
  ⟨h.sz, h.perm, h.lo, fun k h1 h2 => by
    rcases Nat.lt_or_ge j k with h3 | h3
    · exact h.hi k h3 h2
    · rw [show k = j by have := h.ai; omega]; exact ht, h.ai, by have := h.ai; omega, by have := h.jb; omega, h.bn⟩
theorem Pt.swap (h : Pt a b i j n d dk) (hl : i < j) (h1 : ltZ dk[i]! dk[a]! = false) (h2 : ltZ dk[j]! dk[a]! = true) : Pt a b (i + 1) (j - 1) n d (swp dk i j) := by
  have h3 := h.ai; have h4 := h.jb; have h5 := h.bn; have h6 := h.sz
  have ea : (swp dk i j)[a]! = dk[a]! := Go.Sort.swp_other dk i j a (by omega) (by omega)
  refine ⟨by rw [size_swp]; exact h.sz, Go.Sort.permIn_trans _ _ _ _ _ h.perm (Go.Sort.swp_permIn dk a b i j (by omega) (by omega) (by omega) h4 (by omega)), fun k k1 k2 => ?_, fun k k1 k2 => ?_, by omega, by omega, by omega, h5⟩
  · rw [ea]
    rcases Nat.lt_or_ge k i with k3 | k3
    · rw [Go.Sort.swp_other dk i j k (by omega) (by omega)]; exact h.lo k k1 k3
    · rw [show k = i by omega, Go.Sort.swp_left dk i j (by omega) (by omega)]; exact h2
  · rw [ea]
    rcases Nat.lt_or_ge j k with k3 | k3
    · rw [Go.Sort.swp_other dk i j k (by omega) (by omega)]; exact h.hi k k3 k2
    · rw [show k = j by omega, Go.Sort.swp_right dk i j (by omega)]; exact h1

/-- a part is parted at m. -/
structure Prt (a b m n : Nat) (d d' : Array Int) : Prop where
  sz : d'.size = n
  perm : PermIn a b d d'
  am : a ≤ m
  mb : m < b
  lo : ∀ k, a ≤ k → k < m → ltZ d'[k]! d'[m]! = true
  hi : ∀ k, m < k → k < b → ltZ d'[k]! d'[m]! = false
theorem Pt.fin (h : Pt a b i j n d dk) (hl : ¬ i ≤ j) : Prt a b j n d (swp dk j a) := by
  have h3 := h.ai; have h4 := h.jb; have h5 := h.bn; have h6 := h.sz; have h7 := h.ij
  have em : (swp dk j a)[j]! = dk[a]! := by
    by_cases e : j = a
    · rw [e, Go.Sort.swp_right dk a a (by omega)]
    · exact Go.Sort.swp_left dk j a (by omega) e
  refine ⟨by rw [size_swp]; exact h.sz, Go.Sort.permIn_trans _ _ _ _ _ h.perm (Go.Sort.swp_permIn dk a b j a (by omega) (by omega) (by omega) (by omega) (by omega)), by omega, h4, fun k k1 k2 => ?_, fun k k1 k2 => ?_⟩
  · rw [em]
    rcases Nat.eq_or_lt_of_le k1 with k3 | k3
    · rw [← k3, Go.Sort.swp_right dk j a (by omega)]; exact h.lo j (by omega) (by omega)
    · rw [Go.Sort.swp_other dk j a k (by omega) (by omega)]; exact h.lo k k3 (by omega)
  · rw [em, Go.Sort.swp_other dk j a k (by omega) (by omega)]; exact h.hi k k1 k2
end

def Prd (w : World) (g a b n : Nat) (tl : List Value) (d : Array Int) (e : Ending) (w' : World) : Prop :=
  ∃ (m q : Nat) (d' : Array Int), e = .returned (.tuple #[.int .i64 m, .bool (q == 1)]) ∧ Prt a b m n d d' ∧ Sw w g tl d' w'

set_option maxHeartbeats 16000000 in
set_option maxRecDepth 8000 in
theorem part_any (g n cap a b p : Nat) (tl : List Value) (d : Array Int) (w : World) (h : Blk w g 31 (cellsA d ++ tl)) (hd : d.size = n) (hap : a ≤ p) (hpb : p < b) (hb : b ≤ n) (hn : n ≤ 1000) :
    Calls Try.prog 36 #[.slice (some ⟨g, 0, none⟩) n cap, .int .i64 a, .int .i64 b, .int .i64 p] w fun e w' => Prd w g a b n tl d e w' := by
  have S0 : Hid (Sw w g tl d w) := Sw.refl h
  obtain ⟨j0, hj0⟩ : ∃ j : Nat, (b : Int) - 1 = j := ⟨b - 1, by omega⟩
  have hj1 : j0 < b := by omega
  have hj2 : b ≤ j0 + 1 := by omega
  obtain ⟨x1o, HX1o⟩ : ∃ x, Hid (d[a]! = x) := ⟨_, rfl⟩
  obtain ⟨x2o, HX2o⟩ : ∃ x, Hid (d[p]! = x) := ⟨_, rfl⟩
  have c1o : w.cell? ⟨g, a, none⟩ = some (.int .u64 x1o) := HX1o.out ▸ S0.out.cell a (by omega)
  have c2o : w.cell? ⟨g, p, none⟩ = some (.int .u64 x2o) := HX2o.out ▸ S0.out.cell p (by omega)
  have f1o : w.frozen? ⟨g, a, none⟩ = false := S0.out.f _
  have f2o : w.frozen? ⟨g, p, none⟩ = false := S0.out.f _
  obtain ⟨v2o, c3o⟩ : ∃ u, (w.setCell ⟨g, a, none⟩ (.int .u64 x2o)).cell? ⟨g, p, none⟩ = some u := ⟨_, (S0.out.set a _ (by omega)).cell p (by simp; omega)⟩
  have f3o : (w.setCell ⟨g, a, none⟩ (.int .u64 x2o)).frozen? ⟨g, p, none⟩ = false := (S0.out.set a _ (by omega)).f _
  have SZo : Hid (Sw w g tl (swp d a p) (((w.setCell ⟨g, a, none⟩ (.int .u64 x2o)).setCell ⟨g, p, none⟩ (.int .u64 x1o)).drew)) := HX1o.out ▸ HX2o.out ▸ (S0.out.swap a p (by omega) (by omega)).drew
  have b1o : (a : Int) < (n : Int) := by omega
  have b2o : (p : Int) < (n : Int) := by omega
  clear h
  go_enter Try.func36, Try.ntmps36
  go_wp2
  go_big_region
  go_wp2_with fail
  generalize ((w.setCell ⟨g, a, none⟩ (.int .u64 x2o)).setCell ⟨g, p, none⟩ (.int .u64 x1o)).drew = wso at *
  clear c1o c2o f1o f2o c3o f3o
  have H0 : Hid (Pt a b (a + 1) j0 n d (swp d a p)) := ⟨by rw [size_swp]; exact hd, Go.Sort.swp_permIn d a b a p (by omega) (by omega) (by omega) (by omega) (by omega), fun k h1 h2 => by omega, fun k h1 h2 => by omega, by omega, by omega, by omega, hb⟩
  generalize swp d a p = d0 at *
  try rw [hj0]
  clear hj0
  go_loopw [10] (fun v wz => ∃ (ipa : Nat), v = .int .i64 ipa ∧ Pt a b ipa j0 n d d0 ∧ Sw w g tl d0 wz) (fun v _ => j0 + 1 - (intOf v).toNat)
  case atStart => exact ⟨a + 1, by go_num, H0.out, SZo.out⟩
  case round =>
    obtain ⟨ipa, rfl, hptpa, hswpa⟩ := hrel
    have haipa := hptpa.ai
    have hijpa := hptpa.ij
    have hjbpa := hptpa.jb
    have HPTpa : Hid (Pt a b ipa j0 n d d0) := hptpa
    have Spa : Hid (Sw w g tl d0 wr) := hswpa
    skip
    clear hptpa hswpa
    by_cases hlepa : ipa ≤ j0
    · have l0pa : decide ((ipa : Int) ≤ (j0 : Int)) = true := decide_eq_true (by omega)
      have l1pa : (ipa : Int) ≤ (j0 : Int) := by omega
      have l2pa : decide (ipa ≤ j0) = true := decide_eq_true (by omega)
      have bkpa : (ipa : Int) < (n : Int) := by omega
      have bapa : (a : Int) < (n : Int) := by omega
      obtain ⟨xkpa, HXkpa⟩ : ∃ x, Hid (d0[ipa]! = x) := ⟨_, rfl⟩
      obtain ⟨xapa, HXapa⟩ : ∃ x, Hid (d0[a]! = x) := ⟨_, rfl⟩
      have ckpa : wr.cell? ⟨g, ipa, none⟩ = some (.int .u64 xkpa) := HXkpa.out ▸ Spa.out.cell ipa (by have := HPTpa.out.sz; omega)
      have capa : wr.cell? ⟨g, a, none⟩ = some (.int .u64 xapa) := HXapa.out ▸ Spa.out.cell a (by have := HPTpa.out.sz; omega)
      rcases Bool.eq_false_or_eq_true (ltZ xkpa xapa) with hlpa | hlpa
      · have HQpa : Hid (∀ W, Calls Try.prog 34 #[.int .u64 xkpa, .int .u64 xapa] W fun e w' => e = .returned (.bool true) ∧ w' = W) := fun W => hlpa ▸ lessU_any _ _ W
        go_wp2_with fail
        go_quiet ((go_at_call 34; refine Calls.quiet_of_same (HQpa.out _)))
        go_wp2_with fail
        go_roundw
        case rel => exact ⟨ipa + 1, by go_num, HPTpa.out.up hlepa (by rw [HXkpa.out, HXapa.out]; exact hlpa), Spa.out.drewN _⟩
        case measure => simp [intOf] <;> omega
      · have HQpa : Hid (∀ W, Calls Try.prog 34 #[.int .u64 xkpa, .int .u64 xapa] W fun e w' => e = .returned (.bool false) ∧ w' = W) := fun W => hlpa ▸ lessU_any _ _ W
        skip
        go_wp2_with fail
        go_quiet ((go_at_call 34; refine Calls.quiet_of_same (HQpa.out _)))
        go_wp2_with fail
        have HSTpa : Hid (ltZ d0[ipa]! d0[a]! = false) := by show _ = _; rw [HXkpa.out, HXapa.out]; exact hlpa
        have SQpa : Hid (Sw w g tl d0 (wr.drewN nq)) := Spa.out.drewN nq
        clear ckpa capa HQpa hlpa
        generalize wr.drewN nq = wqpa at *
        go_loopw [11] (fun v wz => ∃ (jpb : Nat), v = .int .i64 jpb ∧ Pt a b ipa jpb n d d0 ∧ (ipa ≤ jpb → ltZ d0[ipa]! d0[a]! = false) ∧ Sw w g tl d0 wz) (fun v _ => (intOf v).toNat + 1 - ipa)
        case atStart => exact ⟨j0, rfl, HPTpa.out, fun _ => HSTpa.out, SQpa.out⟩
        case round =>
          obtain ⟨jpb, rfl, hptpb, hexpb, hswpb⟩ := hrel
          have haipb := hptpb.ai
          have hijpb := hptpb.ij
          have hjbpb := hptpb.jb
          have HPTpb : Hid (Pt a b ipa jpb n d d0) := hptpb
          have Spb : Hid (Sw w g tl d0 wr) := hswpb
          have HEXpb : Hid ((ipa ≤ jpb → ltZ d0[ipa]! d0[a]! = false)) := hexpb
          clear hptpb hswpb hexpb
          by_cases hlepb : ipa ≤ jpb
          · have l0pb : decide ((ipa : Int) ≤ (jpb : Int)) = true := decide_eq_true (by omega)
            have l1pb : (ipa : Int) ≤ (jpb : Int) := by omega
            have l2pb : decide (ipa ≤ jpb) = true := decide_eq_true (by omega)
            have bkpb : (jpb : Int) < (n : Int) := by omega
            have bapb : (a : Int) < (n : Int) := by omega
            obtain ⟨xkpb, HXkpb⟩ : ∃ x, Hid (d0[jpb]! = x) := ⟨_, rfl⟩
            obtain ⟨xapb, HXapb⟩ : ∃ x, Hid (d0[a]! = x) := ⟨_, rfl⟩
            have ckpb : wr.cell? ⟨g, jpb, none⟩ = some (.int .u64 xkpb) := HXkpb.out ▸ Spb.out.cell jpb (by have := HPTpb.out.sz; omega)
            have capb : wr.cell? ⟨g, a, none⟩ = some (.int .u64 xapb) := HXapb.out ▸ Spb.out.cell a (by have := HPTpb.out.sz; omega)
            rcases Bool.eq_false_or_eq_true (ltZ xkpb xapb) with hlpb | hlpb
            · have HQpb : Hid (∀ W, Calls Try.prog 34 #[.int .u64 xkpb, .int .u64 xapb] W fun e w' => e = .returned (.bool true) ∧ w' = W) := fun W => hlpb ▸ lessU_any _ _ W
              have ggpb : ¬ (jpb : Int) < (ipa : Int) := by omega
              have ghpb : decide (jpb < ipa) = false := decide_eq_false (by omega)
              go_wp2_with fail
              go_quiet ((go_at_call 34; refine Calls.quiet_of_same (HQpb.out _)))
              go_wp2_with fail
              have HSTpb : Hid (ltZ d0[jpb]! d0[a]! = true) := by show _ = _; rw [HXkpb.out, HXapb.out]; exact hlpb
              have SQpb : Hid (Sw w g tl d0 (wr.drewN nq)) := Spb.out.drewN nq
              clear ckpb capb HQpb hlpb
              generalize wr.drewN nq = wqpb at *
              have szpb : d0.size = n := HPTpb.out.sz
              have hnepb : ipa < jpb := by
                rcases Nat.eq_or_lt_of_le hlepb with hh | hh
                · have e1 := HEXpb.out hlepb
                  have e2 := HSTpb.out
                  rw [hh] at e1; rw [e1] at e2; cases e2
                · exact hh
              obtain ⟨x1s, HX1s⟩ : ∃ x, Hid (d0[ipa]! = x) := ⟨_, rfl⟩
              obtain ⟨x2s, HX2s⟩ : ∃ x, Hid (d0[jpb]! = x) := ⟨_, rfl⟩
              have c1s : wqpb.cell? ⟨g, ipa, none⟩ = some (.int .u64 x1s) := HX1s.out ▸ SQpb.out.cell ipa (by omega)
              have c2s : wqpb.cell? ⟨g, jpb, none⟩ = some (.int .u64 x2s) := HX2s.out ▸ SQpb.out.cell jpb (by omega)
              have f1s : wqpb.frozen? ⟨g, ipa, none⟩ = false := SQpb.out.f _
              have f2s : wqpb.frozen? ⟨g, jpb, none⟩ = false := SQpb.out.f _
              obtain ⟨v2s, c3s⟩ : ∃ u, (wqpb.setCell ⟨g, ipa, none⟩ (.int .u64 x2s)).cell? ⟨g, jpb, none⟩ = some u := ⟨_, (SQpb.out.set ipa _ (by omega)).cell jpb (by simp; omega)⟩
              have f3s : (wqpb.setCell ⟨g, ipa, none⟩ (.int .u64 x2s)).frozen? ⟨g, jpb, none⟩ = false := (SQpb.out.set ipa _ (by omega)).f _
              have SZs : Hid (Sw w g tl (swp d0 ipa jpb) (((wqpb.setCell ⟨g, ipa, none⟩ (.int .u64 x2s)).setCell ⟨g, jpb, none⟩ (.int .u64 x1s)).drew)) := HX1s.out ▸ HX2s.out ▸ (SQpb.out.swap ipa jpb (by omega) (by omega)).drew
              have b1s : (ipa : Int) < (n : Int) := by omega
              have b2s : (jpb : Int) < (n : Int) := by omega
              have H1 : Hid (Pt a b (ipa + 1) (jpb - 1) n d (swp d0 ipa jpb)) := HPTpb.out.swap hnepb (HEXpb.out hlepb) HSTpb.out
              go_big_region
              go_wp2_with fail
              generalize ((wqpb.setCell ⟨g, ipa, none⟩ (.int .u64 x2s)).setCell ⟨g, jpb, none⟩ (.int .u64 x1s)).drew = wss at *
              clear c1s c2s f1s f2s c3s f3s
              generalize swp d0 ipa jpb = d1 at *
              go_loopw [10, 11] (fun v10 v11 wz => ∃ (i3 j3 : Nat) (dk : Array Int), v10 = .int .i64 i3 ∧ v11 = .int .i64 j3 ∧ Pt a b i3 j3 n d dk ∧ Sw w g tl dk wz) (fun v10 v11 _ => (intOf v11).toNat + 1 - (intOf v10).toNat)
              case atStart => exact ⟨ipa + 1, jpb - 1, d1, by go_num, by congr 1; omega, H1.out, SZs.out⟩
              case round =>
                obtain ⟨i3, j3, dk, rfl, rfl, hp3, hs3⟩ := hrel
                have HP3 : Hid (Pt a b i3 j3 n d dk) := hp3
                have S3 : Hid (Sw w g tl dk wr) := hs3
                have hai3 := hp3.ai
                have hij3 := hp3.ij
                have hjb3 := hp3.jb
                clear hp3 hs3
                go_wp2_with fail
                go_loopw [10] (fun v wz => ∃ (iqa : Nat), v = .int .i64 iqa ∧ Pt a b iqa j3 n d dk ∧ (i3 ≤ iqa ∧ j3 ≤ j3) ∧ Sw w g tl dk wz) (fun v _ => j3 + 1 - (intOf v).toNat)
                case atStart => exact ⟨i3, rfl, HP3.out, by omega, S3.out⟩
                case round =>
                  obtain ⟨iqa, rfl, hptqa, hbdqa, hswqa⟩ := hrel
                  have haiqa := hptqa.ai
                  have hijqa := hptqa.ij
                  have hjbqa := hptqa.jb
                  have HPTqa : Hid (Pt a b iqa j3 n d dk) := hptqa
                  have Sqa : Hid (Sw w g tl dk wr) := hswqa
                  skip
                  clear hptqa hswqa
                  by_cases hleqa : iqa ≤ j3
                  · have l0qa : decide ((iqa : Int) ≤ (j3 : Int)) = true := decide_eq_true (by omega)
                    have l1qa : (iqa : Int) ≤ (j3 : Int) := by omega
                    have l2qa : decide (iqa ≤ j3) = true := decide_eq_true (by omega)
                    have bkqa : (iqa : Int) < (n : Int) := by omega
                    have baqa : (a : Int) < (n : Int) := by omega
                    obtain ⟨xkqa, HXkqa⟩ : ∃ x, Hid (dk[iqa]! = x) := ⟨_, rfl⟩
                    obtain ⟨xaqa, HXaqa⟩ : ∃ x, Hid (dk[a]! = x) := ⟨_, rfl⟩
                    have ckqa : wr.cell? ⟨g, iqa, none⟩ = some (.int .u64 xkqa) := HXkqa.out ▸ Sqa.out.cell iqa (by have := HPTqa.out.sz; omega)
                    have caqa : wr.cell? ⟨g, a, none⟩ = some (.int .u64 xaqa) := HXaqa.out ▸ Sqa.out.cell a (by have := HPTqa.out.sz; omega)
                    rcases Bool.eq_false_or_eq_true (ltZ xkqa xaqa) with hlqa | hlqa
                    · have HQqa : Hid (∀ W, Calls Try.prog 34 #[.int .u64 xkqa, .int .u64 xaqa] W fun e w' => e = .returned (.bool true) ∧ w' = W) := fun W => hlqa ▸ lessU_any _ _ W
                      go_wp2_with fail
                      go_quiet ((go_at_call 34; refine Calls.quiet_of_same (HQqa.out _)))
                      go_wp2_with fail
                      go_roundw
                      case rel => exact ⟨iqa + 1, by go_num, HPTqa.out.up hleqa (by rw [HXkqa.out, HXaqa.out]; exact hlqa), by omega, Sqa.out.drewN _⟩
                      case measure => simp [intOf] <;> omega
                    · have HQqa : Hid (∀ W, Calls Try.prog 34 #[.int .u64 xkqa, .int .u64 xaqa] W fun e w' => e = .returned (.bool false) ∧ w' = W) := fun W => hlqa ▸ lessU_any _ _ W
                      skip
                      go_wp2_with fail
                      go_quiet ((go_at_call 34; refine Calls.quiet_of_same (HQqa.out _)))
                      go_wp2_with fail
                      have HSTqa : Hid (ltZ dk[iqa]! dk[a]! = false) := by show _ = _; rw [HXkqa.out, HXaqa.out]; exact hlqa
                      have SQqa : Hid (Sw w g tl dk (wr.drewN nq)) := Sqa.out.drewN nq
                      clear ckqa caqa HQqa hlqa
                      generalize wr.drewN nq = wqqa at *
                      go_loopw [11] (fun v wz => ∃ (jqb : Nat), v = .int .i64 jqb ∧ Pt a b iqa jqb n d dk ∧ (i3 ≤ iqa ∧ jqb ≤ j3) ∧ (iqa ≤ jqb → ltZ dk[iqa]! dk[a]! = false) ∧ Sw w g tl dk wz) (fun v _ => (intOf v).toNat + 1 - iqa)
                      case atStart => exact ⟨j3, rfl, HPTqa.out, by omega, fun _ => HSTqa.out, SQqa.out⟩
                      case round =>
                        obtain ⟨jqb, rfl, hptqb, hbdqb, hexqb, hswqb⟩ := hrel
                        have haiqb := hptqb.ai
                        have hijqb := hptqb.ij
                        have hjbqb := hptqb.jb
                        have HPTqb : Hid (Pt a b iqa jqb n d dk) := hptqb
                        have Sqb : Hid (Sw w g tl dk wr) := hswqb
                        have HEXqb : Hid ((iqa ≤ jqb → ltZ dk[iqa]! dk[a]! = false)) := hexqb
                        clear hptqb hswqb hexqb
                        by_cases hleqb : iqa ≤ jqb
                        · have l0qb : decide ((iqa : Int) ≤ (jqb : Int)) = true := decide_eq_true (by omega)
                          have l1qb : (iqa : Int) ≤ (jqb : Int) := by omega
                          have l2qb : decide (iqa ≤ jqb) = true := decide_eq_true (by omega)
                          have bkqb : (jqb : Int) < (n : Int) := by omega
                          have baqb : (a : Int) < (n : Int) := by omega
                          obtain ⟨xkqb, HXkqb⟩ : ∃ x, Hid (dk[jqb]! = x) := ⟨_, rfl⟩
                          obtain ⟨xaqb, HXaqb⟩ : ∃ x, Hid (dk[a]! = x) := ⟨_, rfl⟩
                          have ckqb : wr.cell? ⟨g, jqb, none⟩ = some (.int .u64 xkqb) := HXkqb.out ▸ Sqb.out.cell jqb (by have := HPTqb.out.sz; omega)
                          have caqb : wr.cell? ⟨g, a, none⟩ = some (.int .u64 xaqb) := HXaqb.out ▸ Sqb.out.cell a (by have := HPTqb.out.sz; omega)
                          rcases Bool.eq_false_or_eq_true (ltZ xkqb xaqb) with hlqb | hlqb
                          · have HQqb : Hid (∀ W, Calls Try.prog 34 #[.int .u64 xkqb, .int .u64 xaqb] W fun e w' => e = .returned (.bool true) ∧ w' = W) := fun W => hlqb ▸ lessU_any _ _ W
                            have ggqb : ¬ (jqb : Int) < (iqa : Int) := by omega
                            have ghqb : decide (jqb < iqa) = false := decide_eq_false (by omega)
                            go_wp2_with fail
                            go_quiet ((go_at_call 34; refine Calls.quiet_of_same (HQqb.out _)))
                            go_wp2_with fail
                            have HSTqb : Hid (ltZ dk[jqb]! dk[a]! = true) := by show _ = _; rw [HXkqb.out, HXaqb.out]; exact hlqb
                            have SQqb : Hid (Sw w g tl dk (wr.drewN nq)) := Sqb.out.drewN nq
                            clear ckqb caqb HQqb hlqb
                            generalize wr.drewN nq = wqqb at *
                            have szqb : dk.size = n := HPTqb.out.sz
                            have hneqb : iqa < jqb := by
                              rcases Nat.eq_or_lt_of_le hleqb with hh | hh
                              · have e1 := HEXqb.out hleqb
                                have e2 := HSTqb.out
                                rw [hh] at e1; rw [e1] at e2; cases e2
                              · exact hh
                            obtain ⟨x1y, HX1y⟩ : ∃ x, Hid (dk[iqa]! = x) := ⟨_, rfl⟩
                            obtain ⟨x2y, HX2y⟩ : ∃ x, Hid (dk[jqb]! = x) := ⟨_, rfl⟩
                            have c1y : wqqb.cell? ⟨g, iqa, none⟩ = some (.int .u64 x1y) := HX1y.out ▸ SQqb.out.cell iqa (by omega)
                            have c2y : wqqb.cell? ⟨g, jqb, none⟩ = some (.int .u64 x2y) := HX2y.out ▸ SQqb.out.cell jqb (by omega)
                            have f1y : wqqb.frozen? ⟨g, iqa, none⟩ = false := SQqb.out.f _
                            have f2y : wqqb.frozen? ⟨g, jqb, none⟩ = false := SQqb.out.f _
                            obtain ⟨v2y, c3y⟩ : ∃ u, (wqqb.setCell ⟨g, iqa, none⟩ (.int .u64 x2y)).cell? ⟨g, jqb, none⟩ = some u := ⟨_, (SQqb.out.set iqa _ (by omega)).cell jqb (by simp; omega)⟩
                            have f3y : (wqqb.setCell ⟨g, iqa, none⟩ (.int .u64 x2y)).frozen? ⟨g, jqb, none⟩ = false := (SQqb.out.set iqa _ (by omega)).f _
                            have SZy : Hid (Sw w g tl (swp dk iqa jqb) (((wqqb.setCell ⟨g, iqa, none⟩ (.int .u64 x2y)).setCell ⟨g, jqb, none⟩ (.int .u64 x1y)).drew)) := HX1y.out ▸ HX2y.out ▸ (SQqb.out.swap iqa jqb (by omega) (by omega)).drew
                            have b1y : (iqa : Int) < (n : Int) := by omega
                            have b2y : (jqb : Int) < (n : Int) := by omega
                            have H2 : Hid (Pt a b (iqa + 1) (jqb - 1) n d (swp dk iqa jqb)) := HPTqb.out.swap hneqb (HEXqb.out hleqb) HSTqb.out
                            go_big_region
                            go_wp2_with fail
                            go_roundw
                            case rel => exact ⟨iqa + 1, jqb - 1, _, by go_num, by congr 1; omega, H2.out, SZy.out⟩
                            case measure => simp [intOf] <;> omega
                          · have HQqb : Hid (∀ W, Calls Try.prog 34 #[.int .u64 xkqb, .int .u64 xaqb] W fun e w' => e = .returned (.bool false) ∧ w' = W) := fun W => hlqb ▸ lessU_any _ _ W
                            go_wp2_with fail
                            go_quiet ((go_at_call 34; refine Calls.quiet_of_same (HQqb.out _)))
                            go_wp2_with fail
                            go_roundw
                            case rel => exact ⟨jqb - 1, by congr 1; omega, HPTqb.out.down hleqb (by rw [HXkqb.out, HXaqb.out]; exact hlqb), by omega, fun hh => HEXqb.out (by omega), Sqb.out.drewN _⟩
                            case measure => simp [intOf] <;> omega
                        · have l0qb : decide ((iqa : Int) ≤ (jqb : Int)) = false := decide_eq_false (by omega)
                          have l1qb : ¬ (iqa : Int) ≤ (jqb : Int) := by omega
                          have l2qb : decide (iqa ≤ jqb) = false := decide_eq_false (by omega)
                          have ggqb : (jqb : Int) < (iqa : Int) := by omega
                          have ghqb : decide (jqb < iqa) = true := decide_eq_true (by omega)
                          go_wp2_with fail
                          go_quiet (fail)
                          go_wp2_with fail
                          have SQqb : Hid (Sw w g tl dk (wr.drewN nq)) := Sqb.out.drewN nq
                          generalize wr.drewN nq = wqqb at *
                          have szqb : dk.size = n := HPTqb.out.sz
                          obtain ⟨x1zqb, HX1zqb⟩ : ∃ x, Hid (dk[jqb]! = x) := ⟨_, rfl⟩
                          obtain ⟨x2zqb, HX2zqb⟩ : ∃ x, Hid (dk[a]! = x) := ⟨_, rfl⟩
                          have c1zqb : wqqb.cell? ⟨g, jqb, none⟩ = some (.int .u64 x1zqb) := HX1zqb.out ▸ SQqb.out.cell jqb (by omega)
                          have c2zqb : wqqb.cell? ⟨g, a, none⟩ = some (.int .u64 x2zqb) := HX2zqb.out ▸ SQqb.out.cell a (by omega)
                          have f1zqb : wqqb.frozen? ⟨g, jqb, none⟩ = false := SQqb.out.f _
                          have f2zqb : wqqb.frozen? ⟨g, a, none⟩ = false := SQqb.out.f _
                          obtain ⟨v2zqb, c3zqb⟩ : ∃ u, (wqqb.setCell ⟨g, jqb, none⟩ (.int .u64 x2zqb)).cell? ⟨g, a, none⟩ = some u := ⟨_, (SQqb.out.set jqb _ (by omega)).cell a (by simp; omega)⟩
                          have f3zqb : (wqqb.setCell ⟨g, jqb, none⟩ (.int .u64 x2zqb)).frozen? ⟨g, a, none⟩ = false := (SQqb.out.set jqb _ (by omega)).f _
                          have SZzqb : Hid (Sw w g tl (swp dk jqb a) (((wqqb.setCell ⟨g, jqb, none⟩ (.int .u64 x2zqb)).setCell ⟨g, a, none⟩ (.int .u64 x1zqb)).drew)) := HX1zqb.out ▸ HX2zqb.out ▸ (SQqb.out.swap jqb a (by omega) (by omega)).drew
                          have b1zqb : (jqb : Int) < (n : Int) := by omega
                          have b2zqb : (a : Int) < (n : Int) := by omega
                          go_big_region
                          go_wp2_with fail
                          go_ret2
                          exact ⟨jqb, 0, _, rfl, HPTqb.out.fin (by omega), SZzqb.out⟩
                  · have l0qa : decide ((iqa : Int) ≤ (j3 : Int)) = false := decide_eq_false (by omega)
                    have l1qa : ¬ (iqa : Int) ≤ (j3 : Int) := by omega
                    have l2qa : decide (iqa ≤ j3) = false := decide_eq_false (by omega)
                    have ggqa : (j3 : Int) < (iqa : Int) := by omega
                    have ghqa : decide (j3 < iqa) = true := decide_eq_true (by omega)
                    go_wp2_with fail
                    go_quiet (fail)
                    go_wp2_with fail
                    have SQqa : Hid (Sw w g tl dk (wr.drewN nq)) := Sqa.out.drewN nq
                    generalize wr.drewN nq = wqqa at *
                    go_loopw [11] (fun v wz => v = .int .i64 j3 ∧ Sw w g tl dk wz) (fun _ _ => 0)
                    case atStart => exact ⟨rfl, SQqa.out⟩
                    case round =>
                      obtain ⟨rfl, hswqc⟩ := hrel
                      have Sqc : Hid (Sw w g tl dk wr) := hswqc
                      clear hswqc
                      go_wp2_with fail
                      go_quiet (fail)
                      go_wp2_with fail
                      have SQqc : Hid (Sw w g tl dk (wr.drewN nq)) := Sqc.out.drewN nq
                      generalize wr.drewN nq = wqqc at *
                      have szqc : dk.size = n := HPTqa.out.sz
                      obtain ⟨x1zqc, HX1zqc⟩ : ∃ x, Hid (dk[j3]! = x) := ⟨_, rfl⟩
                      obtain ⟨x2zqc, HX2zqc⟩ : ∃ x, Hid (dk[a]! = x) := ⟨_, rfl⟩
                      have c1zqc : wqqc.cell? ⟨g, j3, none⟩ = some (.int .u64 x1zqc) := HX1zqc.out ▸ SQqc.out.cell j3 (by omega)
                      have c2zqc : wqqc.cell? ⟨g, a, none⟩ = some (.int .u64 x2zqc) := HX2zqc.out ▸ SQqc.out.cell a (by omega)
                      have f1zqc : wqqc.frozen? ⟨g, j3, none⟩ = false := SQqc.out.f _
                      have f2zqc : wqqc.frozen? ⟨g, a, none⟩ = false := SQqc.out.f _
                      obtain ⟨v2zqc, c3zqc⟩ : ∃ u, (wqqc.setCell ⟨g, j3, none⟩ (.int .u64 x2zqc)).cell? ⟨g, a, none⟩ = some u := ⟨_, (SQqc.out.set j3 _ (by omega)).cell a (by simp; omega)⟩
                      have f3zqc : (wqqc.setCell ⟨g, j3, none⟩ (.int .u64 x2zqc)).frozen? ⟨g, a, none⟩ = false := (SQqc.out.set j3 _ (by omega)).f _
                      have SZzqc : Hid (Sw w g tl (swp dk j3 a) (((wqqc.setCell ⟨g, j3, none⟩ (.int .u64 x2zqc)).setCell ⟨g, a, none⟩ (.int .u64 x1zqc)).drew)) := HX1zqc.out ▸ HX2zqc.out ▸ (SQqc.out.swap j3 a (by omega) (by omega)).drew
                      have b1zqc : (j3 : Int) < (n : Int) := by omega
                      have b2zqc : (a : Int) < (n : Int) := by omega
                      go_big_region
                      go_wp2_with fail
                      go_ret2
                      exact ⟨j3, 0, _, rfl, HPTqa.out.fin (by omega), SZzqc.out⟩
            · have HQpb : Hid (∀ W, Calls Try.prog 34 #[.int .u64 xkpb, .int .u64 xapb] W fun e w' => e = .returned (.bool false) ∧ w' = W) := fun W => hlpb ▸ lessU_any _ _ W
              go_wp2_with fail
              go_quiet ((go_at_call 34; refine Calls.quiet_of_same (HQpb.out _)))
              go_wp2_with fail
              go_roundw
              case rel => exact ⟨jpb - 1, by congr 1; omega, HPTpb.out.down hlepb (by rw [HXkpb.out, HXapb.out]; exact hlpb), fun hh => HEXpb.out (by omega), Spb.out.drewN _⟩
              case measure => simp [intOf] <;> omega
          · have l0pb : decide ((ipa : Int) ≤ (jpb : Int)) = false := decide_eq_false (by omega)
            have l1pb : ¬ (ipa : Int) ≤ (jpb : Int) := by omega
            have l2pb : decide (ipa ≤ jpb) = false := decide_eq_false (by omega)
            have ggpb : (jpb : Int) < (ipa : Int) := by omega
            have ghpb : decide (jpb < ipa) = true := decide_eq_true (by omega)
            go_wp2_with fail
            go_quiet (fail)
            go_wp2_with fail
            have SQpb : Hid (Sw w g tl d0 (wr.drewN nq)) := Spb.out.drewN nq
            generalize wr.drewN nq = wqpb at *
            have szpb : d0.size = n := HPTpb.out.sz
            obtain ⟨x1zpb, HX1zpb⟩ : ∃ x, Hid (d0[jpb]! = x) := ⟨_, rfl⟩
            obtain ⟨x2zpb, HX2zpb⟩ : ∃ x, Hid (d0[a]! = x) := ⟨_, rfl⟩
            have c1zpb : wqpb.cell? ⟨g, jpb, none⟩ = some (.int .u64 x1zpb) := HX1zpb.out ▸ SQpb.out.cell jpb (by omega)
            have c2zpb : wqpb.cell? ⟨g, a, none⟩ = some (.int .u64 x2zpb) := HX2zpb.out ▸ SQpb.out.cell a (by omega)
            have f1zpb : wqpb.frozen? ⟨g, jpb, none⟩ = false := SQpb.out.f _
            have f2zpb : wqpb.frozen? ⟨g, a, none⟩ = false := SQpb.out.f _
            obtain ⟨v2zpb, c3zpb⟩ : ∃ u, (wqpb.setCell ⟨g, jpb, none⟩ (.int .u64 x2zpb)).cell? ⟨g, a, none⟩ = some u := ⟨_, (SQpb.out.set jpb _ (by omega)).cell a (by simp; omega)⟩
            have f3zpb : (wqpb.setCell ⟨g, jpb, none⟩ (.int .u64 x2zpb)).frozen? ⟨g, a, none⟩ = false := (SQpb.out.set jpb _ (by omega)).f _
            have SZzpb : Hid (Sw w g tl (swp d0 jpb a) (((wqpb.setCell ⟨g, jpb, none⟩ (.int .u64 x2zpb)).setCell ⟨g, a, none⟩ (.int .u64 x1zpb)).drew)) := HX1zpb.out ▸ HX2zpb.out ▸ (SQpb.out.swap jpb a (by omega) (by omega)).drew
            have b1zpb : (jpb : Int) < (n : Int) := by omega
            have b2zpb : (a : Int) < (n : Int) := by omega
            go_big_region
            go_wp2_with fail
            go_ret2
            exact ⟨jpb, 1, _, rfl, HPTpb.out.fin (by omega), SZzpb.out⟩
    · have l0pa : decide ((ipa : Int) ≤ (j0 : Int)) = false := decide_eq_false (by omega)
      have l1pa : ¬ (ipa : Int) ≤ (j0 : Int) := by omega
      have l2pa : decide (ipa ≤ j0) = false := decide_eq_false (by omega)
      have ggpa : (j0 : Int) < (ipa : Int) := by omega
      have ghpa : decide (j0 < ipa) = true := decide_eq_true (by omega)
      go_wp2_with fail
      go_quiet (fail)
      go_wp2_with fail
      have SQpa : Hid (Sw w g tl d0 (wr.drewN nq)) := Spa.out.drewN nq
      generalize wr.drewN nq = wqpa at *
      go_loopw [11] (fun v wz => v = .int .i64 j0 ∧ Sw w g tl d0 wz) (fun _ _ => 0)
      case atStart => exact ⟨rfl, SQpa.out⟩
      case round =>
        obtain ⟨rfl, hswpc⟩ := hrel
        have Spc : Hid (Sw w g tl d0 wr) := hswpc
        clear hswpc
        go_wp2_with fail
        go_quiet (fail)
        go_wp2_with fail
        have SQpc : Hid (Sw w g tl d0 (wr.drewN nq)) := Spc.out.drewN nq
        generalize wr.drewN nq = wqpc at *
        have szpc : d0.size = n := HPTpa.out.sz
        obtain ⟨x1zpc, HX1zpc⟩ : ∃ x, Hid (d0[j0]! = x) := ⟨_, rfl⟩
        obtain ⟨x2zpc, HX2zpc⟩ : ∃ x, Hid (d0[a]! = x) := ⟨_, rfl⟩
        have c1zpc : wqpc.cell? ⟨g, j0, none⟩ = some (.int .u64 x1zpc) := HX1zpc.out ▸ SQpc.out.cell j0 (by omega)
        have c2zpc : wqpc.cell? ⟨g, a, none⟩ = some (.int .u64 x2zpc) := HX2zpc.out ▸ SQpc.out.cell a (by omega)
        have f1zpc : wqpc.frozen? ⟨g, j0, none⟩ = false := SQpc.out.f _
        have f2zpc : wqpc.frozen? ⟨g, a, none⟩ = false := SQpc.out.f _
        obtain ⟨v2zpc, c3zpc⟩ : ∃ u, (wqpc.setCell ⟨g, j0, none⟩ (.int .u64 x2zpc)).cell? ⟨g, a, none⟩ = some u := ⟨_, (SQpc.out.set j0 _ (by omega)).cell a (by simp; omega)⟩
        have f3zpc : (wqpc.setCell ⟨g, j0, none⟩ (.int .u64 x2zpc)).frozen? ⟨g, a, none⟩ = false := (SQpc.out.set j0 _ (by omega)).f _
        have SZzpc : Hid (Sw w g tl (swp d0 j0 a) (((wqpc.setCell ⟨g, j0, none⟩ (.int .u64 x2zpc)).setCell ⟨g, a, none⟩ (.int .u64 x1zpc)).drew)) := HX1zpc.out ▸ HX2zpc.out ▸ (SQpc.out.swap j0 a (by omega) (by omega)).drew
        have b1zpc : (j0 : Int) < (n : Int) := by omega
        have b2zpc : (a : Int) < (n : Int) := by omega
        go_big_region
        go_wp2_with fail
        go_ret2
        exact ⟨j0, 1, _, rfl, HPTpa.out.fin (by omega), SZzpc.out⟩

end Go.Proofs.Ytifddbfcongepaa
