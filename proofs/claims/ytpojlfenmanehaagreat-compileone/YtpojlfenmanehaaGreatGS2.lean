/-
  Sorting.
-/
import Derived.Test.YtpojlfenmanehaaGreatGS1
import Derived.Deep.LoopGhost
import Derived.Deep.DeepCutAuto
namespace Go.Proofs.YtpojlfenmanehaaGreat.M
open Go.RowKit
open Go.Sort (swp size_swp PermIn SortedIn)

/-- what two searchers have left behind: the less ahead of i, the others behind j. -/
structure Pt (a b i j n : Nat) (d dk : Array Int) : Prop where
  sz : dk.size = n
  perm : PermIn a b d dk
  lo : ∀ k, a < k → k < i → ltZ dk[k]! dk[a]! = true
  hi : ∀ k, j < k → k < b → ltZ dk[k]! dk[a]! = false
  ai : a < i
  ij : i ≤ j + 1
  jb : j < b
  bn : b ≤ n

section
variable {a b i j n : Nat} {d dk : Array Int}
theorem Pt.up (h : Pt a b i j n d dk) (hl : i ≤ j) (ht : ltZ dk[i]! dk[a]! = true) : Pt a b (i + 1) j n d dk :=
  ⟨h.sz, h.perm, fun k h1 h2 => by
    rcases Nat.lt_or_ge k i with h3 | h3
    · exact h.lo k h1 h3
    · rw [show k = i by omega]; exact ht, h.hi, by have := h.ai; omega, by omega, h.jb, h.bn⟩
theorem Pt.down (h : Pt a b i j n d dk) (hl : i ≤ j) (ht : ltZ dk[j]! dk[a]! = false) : Pt a b i (j - 1) n d dk :=
  ⟨h.sz, h.perm, h.lo, fun k h1 h2 => by
    rcases Nat.lt_or_ge j k with h3 | h3
    · exact h.hi k h3 h2
    · rw [show k = j by have := h.ai; omega]; exact ht, h.ai, by have := h.ai; omega, by have := h.jb; omega, h.bn⟩
theorem Pt.swap (h : Pt a b i j n d dk) (hl : i < j) (h1 : ltZ dk[i]! dk[a]! = false) (h2 : ltZ dk[j]! dk[a]! = true) : Pt a b (i + 1) (j - 1) n d (swp dk i j) := by
  have h3 := h.ai; have h4 := h.jb; have h5 := h.bn; have h6 := h.sz
  have ea : (swp dk i j)[a]! = dk[a]! := Go.Sort.swp_other dk i j a (by omega) (by omega)
  refine ⟨by rw [size_swp]; exact h.sz, Go.Sort.permIn_trans _ _ _ _ _ h.perm (Go.Sort.swp_permIn dk a b i j (by omega) (by omega) (by omega) h4 (by omega)), fun k k1 k2 => ?_, fun k k1 k2 => ?_, by omega, by omega, by omega, h5⟩
  · rw [ea]
    rcases Nat.lt_or_ge k i with k3 | k3
    · rw [Go.Sort.swp_other dk i j k (by omega) (by omega)]; exact h.lo k k1 k3
    · rw [show k = i by omega, Go.Sort.swp_left dk i j (by omega) (by omega)]; exact h2
  · rw [ea]
    rcases Nat.lt_or_ge j k with k3 | k3
    · rw [Go.Sort.swp_other dk i j k (by omega) (by omega)]; exact h.hi k k3 k2
    · rw [show k = j by omega, Go.Sort.swp_right dk i j (by omega)]; exact h1

/-- a part is parted at m. -/
structure Prt (a b m n : Nat) (d d' : Array Int) : Prop where
  sz : d'.size = n
  perm : PermIn a b d d'
  am : a ≤ m
  mb : m < b
  lo : ∀ k, a ≤ k → k < m → ltZ d'[k]! d'[m]! = true
  hi : ∀ k, m < k → k < b → ltZ d'[k]! d'[m]! = false
theorem Pt.fin (h : Pt a b i j n d dk) (hl : ¬ i ≤ j) : Prt a b j n d (swp dk j a) := by
  have h3 := h.ai; have h4 := h.jb; have h5 := h.bn; have h6 := h.sz; have h7 := h.ij
  have em : (swp dk j a)[j]! = dk[a]! := by
    by_cases e : j = a
    · rw [e, Go.Sort.swp_right dk a a (by omega)]
    · exact Go.Sort.swp_left dk j a (by omega) e
  refine ⟨by rw [size_swp]; exact h.sz, Go.Sort.permIn_trans _ _ _ _ _ h.perm (Go.Sort.swp_permIn dk a b j a (by omega) (by omega) (by omega) (by omega) (by omega)), by omega, h4, fun k k1 k2 => ?_, fun k k1 k2 => ?_⟩
  · rw [em]
    rcases Nat.eq_or_lt_of_le k1 with k3 | k3
    · rw [← k3, Go.Sort.swp_right dk j a (by omega)]; exact h.lo j (by omega) (by omega)
    · rw [Go.Sort.swp_other dk j a k (by omega) (by omega)]; exact h.lo k k3 (by omega)
  · rw [em, Go.Sort.swp_other dk j a k (by omega) (by omega)]; exact h.hi k k1 k2
end

def Prd (w : World) (g a b n : Nat) (tl : List Value) (d : Array Int) (e : Ending) (w' : World) : Prop :=
  ∃ (m q : Nat) (d' : Array Int), e = .returned (.tuple #[.int .i64 m, .bool (q == 1)]) ∧ Prt a b m n d d' ∧ Sw w g tl d' w'

set_option maxHeartbeats 16000000 in
set_option maxRecDepth 8000 in
theorem part_any (g n cap a b p : Nat) (tl : List Value) (d : Array Int) (w : World) (h : Blk w g 37 (cellsA d ++ tl)) (hd : d.size = n) (hap : a ≤ p) (hpb : p < b) (hb : b ≤ n) (hn : n ≤ 1000) :
    Calls Tryz.prog 137 #[.slice (some ⟨g, 0, none⟩) n cap, .int .i64 a, .int .i64 b, .int .i64 p] w fun e w' => Prd w g a b n tl d e w' := by
  have S0 : Hid (Sw w g tl d w) := Sw.refl h
  obtain ⟨j0, hj0⟩ : ∃ j : Nat, (b : Int) - 1 = j := ⟨b - 1, by omega⟩
  have hj1 : j0 < b := by omega
  have hj2 : b ≤ j0 + 1 := by omega
  obtain ⟨x1o, HX1o⟩ : ∃ x, Hid (d[a]! = x) := ⟨_, rfl⟩
  obtain ⟨x2o, HX2o⟩ : ∃ x, Hid (d[p]! = x) := ⟨_, rfl⟩
  have c1o : w.cell? ⟨g, a, none⟩ = some (.int .u32 x1o) := HX1o.out ▸ S0.out.cell a (by omega)
  have c2o : w.cell? ⟨g, p, none⟩ = some (.int .u32 x2o) := HX2o.out ▸ S0.out.cell p (by omega)
  have f1o : w.frozen? ⟨g, a, none⟩ = false := S0.out.f _
  have f2o : w.frozen? ⟨g, p, none⟩ = false := S0.out.f _
  obtain ⟨v2o, c3o⟩ : ∃ u, (w.setCell ⟨g, a, none⟩ (.int .u32 x2o)).cell? ⟨g, p, none⟩ = some u := ⟨_, (S0.out.set a _ (by omega)).cell p (by simp; omega)⟩
  have f3o : (w.setCell ⟨g, a, none⟩ (.int .u32 x2o)).frozen? ⟨g, p, none⟩ = false := (S0.out.set a _ (by omega)).f _
  have SZo : Hid (Sw w g tl (swp d a p) (((w.setCell ⟨g, a, none⟩ (.int .u32 x2o)).setCell ⟨g, p, none⟩ (.int .u32 x1o)).drew)) := HX1o.out ▸ HX2o.out ▸ (S0.out.swap a p (by omega) (by omega)).drew
  have b1o : (a : Int) < (n : Int) := by omega
  have b2o : (p : Int) < (n : Int) := by omega
  clear h
  go_enter Tryz.func137, Tryz.ntmps137
  go_wp2
  go_big_region
  go_wp2_with fail
  generalize ((w.setCell ⟨g, a, none⟩ (.int .u32 x2o)).setCell ⟨g, p, none⟩ (.int .u32 x1o)).drew = wso at *
  clear c1o c2o f1o f2o c3o f3o
  have H0 : Hid (Pt a b (a + 1) j0 n d (swp d a p)) := ⟨by rw [size_swp]; exact hd, Go.Sort.swp_permIn d a b a p (by omega) (by omega) (by omega) (by omega) (by omega), fun k h1 h2 => by omega, fun k h1 h2 => by omega, by omega, by omega, by omega, hb⟩
  generalize swp d a p = d0 at *
  try rw [hj0]
  clear hj0
  go_loopw [10] (fun v wz => ∃ (ipa : Nat), v = .int .i64 ipa ∧ Pt a b ipa j0 n d d0 ∧ Sw w g tl d0 wz) (fun v _ => j0 + 1 - (intOf v).toNat)
  case atStart => exact ⟨a + 1, by go_num, H0.out, SZo.out⟩
  case round =>
    obtain ⟨ipa, rfl, hptpa, hswpa⟩ := hrel
    have haipa := hptpa.ai
    have hijpa := hptpa.ij
    have hjbpa := hptpa.jb
    have HPTpa : Hid (Pt a b ipa j0 n d d0) := hptpa
    have Spa : Hid (Sw w g tl d0 wr) := hswpa
    skip
    clear hptpa hswpa
    by_cases hlepa : ipa ≤ j0
    · have l0pa : decide ((ipa : Int) ≤ (j0 : Int)) = true := decide_eq_true (by omega)
      have l1pa : (ipa : Int) ≤ (j0 : Int) := by omega
      have l2pa : decide (ipa ≤ j0) = true := decide_eq_true (by omega)
      have bkpa : (ipa : Int) < (n : Int) := by omega
      have bapa : (a : Int) < (n : Int) := by omega
      obtain ⟨xkpa, HXkpa⟩ : ∃ x, Hid (d0[ipa]! = x) := ⟨_, rfl⟩
      obtain ⟨xapa, HXapa⟩ : ∃ x, Hid (d0[a]! = x) := ⟨_, rfl⟩
      have ckpa : wr.cell? ⟨g, ipa, none⟩ = some (.int .u32 xkpa) := HXkpa.out ▸ Spa.out.cell ipa (by have := HPTpa.out.sz; omega)
      have capa : wr.cell? ⟨g, a, none⟩ = some (.int .u32 xapa) := HXapa.out ▸ Spa.out.cell a (by have := HPTpa.out.sz; omega)
      rcases Bool.eq_false_or_eq_true (ltZ xkpa xapa) with hlpa | hlpa
      · have HQpa : Hid (∀ W, Calls Tryz.prog 135 #[.int .u32 xkpa, .int .u32 xapa] W fun e w' => e = .returned (.bool true) ∧ w' = W) := fun W => hlpa ▸ lessU_any _ _ W
        go_wp2_with fail
        go_quiet ((go_at_call 135; refine Calls.quiet_of_same (HQpa.out _)))
        go_wp2_with fail
        go_roundw
        case rel => exact ⟨ipa + 1, by go_num, HPTpa.out.up hlepa (by rw [HXkpa.out, HXapa.out]; exact hlpa), Spa.out.drewN _⟩
        case measure => simp [intOf] <;> omega
      · have HQpa : Hid (∀ W, Calls Tryz.prog 135 #[.int .u32 xkpa, .int .u32 xapa] W fun e w' => e = .returned (.bool false) ∧ w' = W) := fun W => hlpa ▸ lessU_any _ _ W
        skip
        go_wp2_with fail
        go_quiet ((go_at_call 135; refine Calls.quiet_of_same (HQpa.out _)))
        go_wp2_with fail
        have HSTpa : Hid (ltZ d0[ipa]! d0[a]! = false) := by show _ = _; rw [HXkpa.out, HXapa.out]; exact hlpa
        have SQpa : Hid (Sw w g tl d0 (wr.drewN nq)) := Spa.out.drewN nq
        clear ckpa capa HQpa hlpa
        generalize wr.drewN nq = wqpa at *
        go_loopw [11] (fun v wz => ∃ (jpb : Nat), v = .int .i64 jpb ∧ Pt a b ipa jpb n d d0 ∧ (ipa ≤ jpb → ltZ d0[ipa]! d0[a]! = false) ∧ Sw w g tl d0 wz) (fun v _ => (intOf v).toNat + 1 - ipa)
        case atStart => exact ⟨j0, rfl, HPTpa.out, fun _ => HSTpa.out, SQpa.out⟩
        case round =>
          obtain ⟨jpb, rfl, hptpb, hexpb, hswpb⟩ := hrel
          have haipb := hptpb.ai
          have hijpb := hptpb.ij
          have hjbpb := hptpb.jb
          have HPTpb : Hid (Pt a b ipa jpb n d d0) := hptpb
          have Spb : Hid (Sw w g tl d0 wr) := hswpb
          have HEXpb : Hid ((ipa ≤ jpb → ltZ d0[ipa]! d0[a]! = false)) := hexpb
          clear hptpb hswpb hexpb
          by_cases hlepb : ipa ≤ jpb
          · have l0pb : decide ((ipa : Int) ≤ (jpb : Int)) = true := decide_eq_true (by omega)
            have l1pb : (ipa : Int) ≤ (jpb : Int) := by omega
            have l2pb : decide (ipa ≤ jpb) = true := decide_eq_true (by omega)
            have bkpb : (jpb : Int) < (n : Int) := by omega
            have bapb : (a : Int) < (n : Int) := by omega
            obtain ⟨xkpb, HXkpb⟩ : ∃ x, Hid (d0[jpb]! = x) := ⟨_, rfl⟩
            obtain ⟨xapb, HXapb⟩ : ∃ x, Hid (d0[a]! = x) := ⟨_, rfl⟩
            have ckpb : wr.cell? ⟨g, jpb, none⟩ = some (.int .u32 xkpb) := HXkpb.out ▸ Spb.out.cell jpb (by have := HPTpb.out.sz; omega)
            have capb : wr.cell? ⟨g, a, none⟩ = some (.int .u32 xapb) := HXapb.out ▸ Spb.out.cell a (by have := HPTpb.out.sz; omega)
            rcases Bool.eq_false_or_eq_true (ltZ xkpb xapb) with hlpb | hlpb
            · have HQpb : Hid (∀ W, Calls Tryz.prog 135 #[.int .u32 xkpb, .int .u32 xapb] W fun e w' => e = .returned (.bool true) ∧ w' = W) := fun W => hlpb ▸ lessU_any _ _ W
              have ggpb : ¬ (jpb : Int) < (ipa : Int) := by omega
              have ghpb : decide (jpb < ipa) = false := decide_eq_false (by omega)
              go_wp2_with fail
              go_quiet ((go_at_call 135; refine Calls.quiet_of_same (HQpb.out _)))
              go_wp2_with fail
              have HSTpb : Hid (ltZ d0[jpb]! d0[a]! = true) := by show _ = _; rw [HXkpb.out, HXapb.out]; exact hlpb
              have SQpb : Hid (Sw w g tl d0 (wr.drewN nq)) := Spb.out.drewN nq
              clear ckpb capb HQpb hlpb
              generalize wr.drewN nq = wqpb at *
              have szpb : d0.size = n := HPTpb.out.sz
              have hnepb : ipa < jpb := by
                rcases Nat.eq_or_lt_of_le hlepb with hh | hh
                · have e1 := HEXpb.out hlepb
                  have e2 := HSTpb.out
                  rw [hh] at e1; rw [e1] at e2; cases e2
                · exact hh
              obtain ⟨x1s, HX1s⟩ : ∃ x, Hid (d0[ipa]! = x) := ⟨_, rfl⟩
              obtain ⟨x2s, HX2s⟩ : ∃ x, Hid (d0[jpb]! = x) := ⟨_, rfl⟩
              have c1s : wqpb.cell? ⟨g, ipa, none⟩ = some (.int .u32 x1s) := HX1s.out ▸ SQpb.out.cell ipa (by omega)
              have c2s : wqpb.cell? ⟨g, jpb, none⟩ = some (.int .u32 x2s) := HX2s.out ▸ SQpb.out.cell jpb (by omega)
              have f1s : wqpb.frozen? ⟨g, ipa, none⟩ = false := SQpb.out.f _
              have f2s : wqpb.frozen? ⟨g, jpb, none⟩ = false := SQpb.out.f _
              obtain ⟨v2s, c3s⟩ : ∃ u, (wqpb.setCell ⟨g, ipa, none⟩ (.int .u32 x2s)).cell? ⟨g, jpb, none⟩ = some u := ⟨_, (SQpb.out.set ipa _ (by omega)).cell jpb (by simp; omega)⟩
              have f3s : (wqpb.setCell ⟨g, ipa, none⟩ (.int .u32 x2s)).frozen? ⟨g, jpb, none⟩ = false := (SQpb.out.set ipa _ (by omega)).f _
              have SZs : Hid (Sw w g tl (swp d0 ipa jpb) (((wqpb.setCell ⟨g, ipa, none⟩ (.int .u32 x2s)).setCell ⟨g, jpb, none⟩ (.int .u32 x1s)).drew)) := HX1s.out ▸ HX2s.out ▸ (SQpb.out.swap ipa jpb (by omega) (by omega)).drew
              have b1s : (ipa : Int) < (n : Int) := by omega
              have b2s : (jpb : Int) < (n : Int) := by omega
              have H1 : Hid (Pt a b (ipa + 1) (jpb - 1) n d (swp d0 ipa jpb)) := HPTpb.out.swap hnepb (HEXpb.out hlepb) HSTpb.out
              go_big_region
              go_wp2_with fail
              generalize ((wqpb.setCell ⟨g, ipa, none⟩ (.int .u32 x2s)).setCell ⟨g, jpb, none⟩ (.int .u32 x1s)).drew = wss at *
              clear c1s c2s f1s f2s c3s f3s
              generalize swp d0 ipa jpb = d1 at *
              go_loopw [10, 11] (fun v10 v11 wz => ∃ (i3 j3 : Nat) (dk : Array Int), v10 = .int .i64 i3 ∧ v11 = .int .i64 j3 ∧ Pt a b i3 j3 n d dk ∧ Sw w g tl dk wz) (fun v10 v11 _ => (intOf v11).toNat + 1 - (intOf v10).toNat)
              case atStart => exact ⟨ipa + 1, jpb - 1, d1, by go_num, by congr 1; omega, H1.out, SZs.out⟩
              case round =>
                obtain ⟨i3, j3, dk, rfl, rfl, hp3, hs3⟩ := hrel
                have HP3 : Hid (Pt a b i3 j3 n d dk) := hp3
                have S3 : Hid (Sw w g tl dk wr) := hs3
                have hai3 := hp3.ai
                have hij3 := hp3.ij
                have hjb3 := hp3.jb
                clear hp3 hs3
                go_wp2_with fail
                go_loopw [10] (fun v wz => ∃ (iqa : Nat), v = .int .i64 iqa ∧ Pt a b iqa j3 n d dk ∧ (i3 ≤ iqa ∧ j3 ≤ j3) ∧ Sw w g tl dk wz) (fun v _ => j3 + 1 - (intOf v).toNat)
                case atStart => exact ⟨i3, rfl, HP3.out, by omega, S3.out⟩
                case round =>
                  obtain ⟨iqa, rfl, hptqa, hbdqa, hswqa⟩ := hrel
                  have haiqa := hptqa.ai
                  have hijqa := hptqa.ij
                  have hjbqa := hptqa.jb
                  have HPTqa : Hid (Pt a b iqa j3 n d dk) := hptqa
                  have Sqa : Hid (Sw w g tl dk wr) := hswqa
                  skip
                  clear hptqa hswqa
                  by_cases hleqa : iqa ≤ j3
                  · have l0qa : decide ((iqa : Int) ≤ (j3 : Int)) = true := decide_eq_true (by omega)
                    have l1qa : (iqa : Int) ≤ (j3 : Int) := by omega
                    have l2qa : decide (iqa ≤ j3) = true := decide_eq_true (by omega)
                    have bkqa : (iqa : Int) < (n : Int) := by omega
                    have baqa : (a : Int) < (n : Int) := by omega
                    obtain ⟨xkqa, HXkqa⟩ : ∃ x, Hid (dk[iqa]! = x) := ⟨_, rfl⟩
                    obtain ⟨xaqa, HXaqa⟩ : ∃ x, Hid (dk[a]! = x) := ⟨_, rfl⟩
                    have ckqa : wr.cell? ⟨g, iqa, none⟩ = some (.int .u32 xkqa) := HXkqa.out ▸ Sqa.out.cell iqa (by have := HPTqa.out.sz; omega)
                    have caqa : wr.cell? ⟨g, a, none⟩ = some (.int .u32 xaqa) := HXaqa.out ▸ Sqa.out.cell a (by have := HPTqa.out.sz; omega)
                    rcases Bool.eq_false_or_eq_true (ltZ xkqa xaqa) with hlqa | hlqa
                    · have HQqa : Hid (∀ W, Calls Tryz.prog 135 #[.int .u32 xkqa, .int .u32 xaqa] W fun e w' => e = .returned (.bool true) ∧ w' = W) := fun W => hlqa ▸ lessU_any _ _ W
                      go_wp2_with fail
                      go_quiet ((go_at_call 135; refine Calls.quiet_of_same (HQqa.out _)))
                      go_wp2_with fail
                      go_roundw
                      case rel => exact ⟨iqa + 1, by go_num, HPTqa.out.up hleqa (by rw [HXkqa.out, HXaqa.out]; exact hlqa), by omega, Sqa.out.drewN _⟩
                      case measure => simp [intOf] <;> omega
                    · have HQqa : Hid (∀ W, Calls Tryz.prog 135 #[.int .u32 xkqa, .int .u32 xaqa] W fun e w' => e = .returned (.bool false) ∧ w' = W) := fun W => hlqa ▸ lessU_any _ _ W
                      skip
                      go_wp2_with fail
                      go_quiet ((go_at_call 135; refine Calls.quiet_of_same (HQqa.out _)))
                      go_wp2_with fail
                      have HSTqa : Hid (ltZ dk[iqa]! dk[a]! = false) := by show _ = _; rw [HXkqa.out, HXaqa.out]; exact hlqa
                      have SQqa : Hid (Sw w g tl dk (wr.drewN nq)) := Sqa.out.drewN nq
                      clear ckqa caqa HQqa hlqa
                      generalize wr.drewN nq = wqqa at *
                      go_loopw [11] (fun v wz => ∃ (jqb : Nat), v = .int .i64 jqb ∧ Pt a b iqa jqb n d dk ∧ (i3 ≤ iqa ∧ jqb ≤ j3) ∧ (iqa ≤ jqb → ltZ dk[iqa]! dk[a]! = false) ∧ Sw w g tl dk wz) (fun v _ => (intOf v).toNat + 1 - iqa)
                      case atStart => exact ⟨j3, rfl, HPTqa.out, by omega, fun _ => HSTqa.out, SQqa.out⟩
                      case round =>
                        obtain ⟨jqb, rfl, hptqb, hbdqb, hexqb, hswqb⟩ := hrel
                        have haiqb := hptqb.ai
                        have hijqb := hptqb.ij
                        have hjbqb := hptqb.jb
                        have HPTqb : Hid (Pt a b iqa jqb n d dk) := hptqb
                        have Sqb : Hid (Sw w g tl dk wr) := hswqb
                        have HEXqb : Hid ((iqa ≤ jqb → ltZ dk[iqa]! dk[a]! = false)) := hexqb
                        clear hptqb hswqb hexqb
                        by_cases hleqb : iqa ≤ jqb
                        · have l0qb : decide ((iqa : Int) ≤ (jqb : Int)) = true := decide_eq_true (by omega)
                          have l1qb : (iqa : Int) ≤ (jqb : Int) := by omega
                          have l2qb : decide (iqa ≤ jqb) = true := decide_eq_true (by omega)
                          have bkqb : (jqb : Int) < (n : Int) := by omega
                          have baqb : (a : Int) < (n : Int) := by omega
                          obtain ⟨xkqb, HXkqb⟩ : ∃ x, Hid (dk[jqb]! = x) := ⟨_, rfl⟩
                          obtain ⟨xaqb, HXaqb⟩ : ∃ x, Hid (dk[a]! = x) := ⟨_, rfl⟩
                          have ckqb : wr.cell? ⟨g, jqb, none⟩ = some (.int .u32 xkqb) := HXkqb.out ▸ Sqb.out.cell jqb (by have := HPTqb.out.sz; omega)
                          have caqb : wr.cell? ⟨g, a, none⟩ = some (.int .u32 xaqb) := HXaqb.out ▸ Sqb.out.cell a (by have := HPTqb.out.sz; omega)
                          rcases Bool.eq_false_or_eq_true (ltZ xkqb xaqb) with hlqb | hlqb
                          · have HQqb : Hid (∀ W, Calls Tryz.prog 135 #[.int .u32 xkqb, .int .u32 xaqb] W fun e w' => e = .returned (.bool true) ∧ w' = W) := fun W => hlqb ▸ lessU_any _ _ W
                            have ggqb : ¬ (jqb : Int) < (iqa : Int) := by omega
                            have ghqb : decide (jqb < iqa) = false := decide_eq_false (by omega)
                            go_wp2_with fail
                            go_quiet ((go_at_call 135; refine Calls.quiet_of_same (HQqb.out _)))
                            go_wp2_with fail
                            have HSTqb : Hid (ltZ dk[jqb]! dk[a]! = true) := by show _ = _; rw [HXkqb.out, HXaqb.out]; exact hlqb
                            have SQqb : Hid (Sw w g tl dk (wr.drewN nq)) := Sqb.out.drewN nq
                            clear ckqb caqb HQqb hlqb
                            generalize wr.drewN nq = wqqb at *
                            have szqb : dk.size = n := HPTqb.out.sz
                            have hneqb : iqa < jqb := by
                              rcases Nat.eq_or_lt_of_le hleqb with hh | hh
                              · have e1 := HEXqb.out hleqb
                                have e2 := HSTqb.out
                                rw [hh] at e1; rw [e1] at e2; cases e2
                              · exact hh
                            obtain ⟨x1y, HX1y⟩ : ∃ x, Hid (dk[iqa]! = x) := ⟨_, rfl⟩
                            obtain ⟨x2y, HX2y⟩ : ∃ x, Hid (dk[jqb]! = x) := ⟨_, rfl⟩
                            have c1y : wqqb.cell? ⟨g, iqa, none⟩ = some (.int .u32 x1y) := HX1y.out ▸ SQqb.out.cell iqa (by omega)
                            have c2y : wqqb.cell? ⟨g, jqb, none⟩ = some (.int .u32 x2y) := HX2y.out ▸ SQqb.out.cell jqb (by omega)
                            have f1y : wqqb.frozen? ⟨g, iqa, none⟩ = false := SQqb.out.f _
                            have f2y : wqqb.frozen? ⟨g, jqb, none⟩ = false := SQqb.out.f _
                            obtain ⟨v2y, c3y⟩ : ∃ u, (wqqb.setCell ⟨g, iqa, none⟩ (.int .u32 x2y)).cell? ⟨g, jqb, none⟩ = some u := ⟨_, (SQqb.out.set iqa _ (by omega)).cell jqb (by simp; omega)⟩
                            have f3y : (wqqb.setCell ⟨g, iqa, none⟩ (.int .u32 x2y)).frozen? ⟨g, jqb, none⟩ = false := (SQqb.out.set iqa _ (by omega)).f _
                            have SZy : Hid (Sw w g tl (swp dk iqa jqb) (((wqqb.setCell ⟨g, iqa, none⟩ (.int .u32 x2y)).setCell ⟨g, jqb, none⟩ (.int .u32 x1y)).drew)) := HX1y.out ▸ HX2y.out ▸ (SQqb.out.swap iqa jqb (by omega) (by omega)).drew
                            have b1y : (iqa : Int) < (n : Int) := by omega
                            have b2y : (jqb : Int) < (n : Int) := by omega
                            have H2 : Hid (Pt a b (iqa + 1) (jqb - 1) n d (swp dk iqa jqb)) := HPTqb.out.swap hneqb (HEXqb.out hleqb) HSTqb.out
                            go_big_region
                            go_wp2_with fail
                            go_roundw
                            case rel => exact ⟨iqa + 1, jqb - 1, _, by go_num, by congr 1; omega, H2.out, SZy.out⟩
                            case measure => simp [intOf] <;> omega
                          · have HQqb : Hid (∀ W, Calls Tryz.prog 135 #[.int .u32 xkqb, .int .u32 xaqb] W fun e w' => e = .returned (.bool false) ∧ w' = W) := fun W => hlqb ▸ lessU_any _ _ W
                            go_wp2_with fail
                            go_quiet ((go_at_call 135; refine Calls.quiet_of_same (HQqb.out _)))
                            go_wp2_with fail
                            go_roundw
                            case rel => exact ⟨jqb - 1, by congr 1; omega, HPTqb.out.down hleqb (by rw [HXkqb.out, HXaqb.out]; exact hlqb), by omega, fun hh => HEXqb.out (by omega), Sqb.out.drewN _⟩
                            case measure => simp [intOf] <;> omega
                        · have l0qb : decide ((iqa : Int) ≤ (jqb : Int)) = false := decide_eq_false (by omega)
                          have l1qb : ¬ (iqa : Int) ≤ (jqb : Int) := by omega
                          have l2qb : decide (iqa ≤ jqb) = false := decide_eq_false (by omega)
                          have ggqb : (jqb : Int) < (iqa : Int) := by omega
                          have ghqb : decide (jqb < iqa) = true := decide_eq_true (by omega)
                          go_wp2_with fail
                          go_quiet (fail)
                          go_wp2_with fail
                          have SQqb : Hid (Sw w g tl dk (wr.drewN nq)) := Sqb.out.drewN nq
                          generalize wr.drewN nq = wqqb at *
                          have szqb : dk.size = n := HPTqb.out.sz
                          obtain ⟨x1zqb, HX1zqb⟩ : ∃ x, Hid (dk[jqb]! = x) := ⟨_, rfl⟩
                          obtain ⟨x2zqb, HX2zqb⟩ : ∃ x, Hid (dk[a]! = x) := ⟨_, rfl⟩
                          have c1zqb : wqqb.cell? ⟨g, jqb, none⟩ = some (.int .u32 x1zqb) := HX1zqb.out ▸ SQqb.out.cell jqb (by omega)
                          have c2zqb : wqqb.cell? ⟨g, a, none⟩ = some (.int .u32 x2zqb) := HX2zqb.out ▸ SQqb.out.cell a (by omega)
                          have f1zqb : wqqb.frozen? ⟨g, jqb, none⟩ = false := SQqb.out.f _
                          have f2zqb : wqqb.frozen? ⟨g, a, none⟩ = false := SQqb.out.f _
                          obtain ⟨v2zqb, c3zqb⟩ : ∃ u, (wqqb.setCell ⟨g, jqb, none⟩ (.int .u32 x2zqb)).cell? ⟨g, a, none⟩ = some u := ⟨_, (SQqb.out.set jqb _ (by omega)).cell a (by simp; omega)⟩
                          have f3zqb : (wqqb.setCell ⟨g, jqb, none⟩ (.int .u32 x2zqb)).frozen? ⟨g, a, none⟩ = false := (SQqb.out.set jqb _ (by omega)).f _
                          have SZzqb : Hid (Sw w g tl (swp dk jqb a) (((wqqb.setCell ⟨g, jqb, none⟩ (.int .u32 x2zqb)).setCell ⟨g, a, none⟩ (.int .u32 x1zqb)).drew)) := HX1zqb.out ▸ HX2zqb.out ▸ (SQqb.out.swap jqb a (by omega) (by omega)).drew
                          have b1zqb : (jqb : Int) < (n : Int) := by omega
                          have b2zqb : (a : Int) < (n : Int) := by omega
                          go_big_region
                          go_wp2_with fail
                          go_ret2
                          exact ⟨jqb, 0, _, rfl, HPTqb.out.fin (by omega), SZzqb.out⟩
                  · have l0qa : decide ((iqa : Int) ≤ (j3 : Int)) = false := decide_eq_false (by omega)
                    have l1qa : ¬ (iqa : Int) ≤ (j3 : Int) := by omega
                    have l2qa : decide (iqa ≤ j3) = false := decide_eq_false (by omega)
                    have ggqa : (j3 : Int) < (iqa : Int) := by omega
                    have ghqa : decide (j3 < iqa) = true := decide_eq_true (by omega)
                    go_wp2_with fail
                    go_quiet (fail)
                    go_wp2_with fail
                    have SQqa : Hid (Sw w g tl dk (wr.drewN nq)) := Sqa.out.drewN nq
                    generalize wr.drewN nq = wqqa at *
                    go_loopw [11] (fun v wz => v = .int .i64 j3 ∧ Sw w g tl dk wz) (fun _ _ => 0)
                    case atStart => exact ⟨rfl, SQqa.out⟩
                    case round =>
                      obtain ⟨rfl, hswqc⟩ := hrel
                      have Sqc : Hid (Sw w g tl dk wr) := hswqc
                      clear hswqc
                      go_wp2_with fail
                      go_quiet (fail)
                      go_wp2_with fail
                      have SQqc : Hid (Sw w g tl dk (wr.drewN nq)) := Sqc.out.drewN nq
                      generalize wr.drewN nq = wqqc at *
                      have szqc : dk.size = n := HPTqa.out.sz
                      obtain ⟨x1zqc, HX1zqc⟩ : ∃ x, Hid (dk[j3]! = x) := ⟨_, rfl⟩
                      obtain ⟨x2zqc, HX2zqc⟩ : ∃ x, Hid (dk[a]! = x) := ⟨_, rfl⟩
                      have c1zqc : wqqc.cell? ⟨g, j3, none⟩ = some (.int .u32 x1zqc) := HX1zqc.out ▸ SQqc.out.cell j3 (by omega)
                      have c2zqc : wqqc.cell? ⟨g, a, none⟩ = some (.int .u32 x2zqc) := HX2zqc.out ▸ SQqc.out.cell a (by omega)
                      have f1zqc : wqqc.frozen? ⟨g, j3, none⟩ = false := SQqc.out.f _
                      have f2zqc : wqqc.frozen? ⟨g, a, none⟩ = false := SQqc.out.f _
                      obtain ⟨v2zqc, c3zqc⟩ : ∃ u, (wqqc.setCell ⟨g, j3, none⟩ (.int .u32 x2zqc)).cell? ⟨g, a, none⟩ = some u := ⟨_, (SQqc.out.set j3 _ (by omega)).cell a (by simp; omega)⟩
                      have f3zqc : (wqqc.setCell ⟨g, j3, none⟩ (.int .u32 x2zqc)).frozen? ⟨g, a, none⟩ = false := (SQqc.out.set j3 _ (by omega)).f _
                      have SZzqc : Hid (Sw w g tl (swp dk j3 a) (((wqqc.setCell ⟨g, j3, none⟩ (.int .u32 x2zqc)).setCell ⟨g, a, none⟩ (.int .u32 x1zqc)).drew)) := HX1zqc.out ▸ HX2zqc.out ▸ (SQqc.out.swap j3 a (by omega) (by omega)).drew
                      have b1zqc : (j3 : Int) < (n : Int) := by omega
                      have b2zqc : (a : Int) < (n : Int) := by omega
                      go_big_region
                      go_wp2_with fail
                      go_ret2
                      exact ⟨j3, 0, _, rfl, HPTqa.out.fin (by omega), SZzqc.out⟩
            · have HQpb : Hid (∀ W, Calls Tryz.prog 135 #[.int .u32 xkpb, .int .u32 xapb] W fun e w' => e = .returned (.bool false) ∧ w' = W) := fun W => hlpb ▸ lessU_any _ _ W
              go_wp2_with fail
              go_quiet ((go_at_call 135; refine Calls.quiet_of_same (HQpb.out _)))
              go_wp2_with fail
              go_roundw
              case rel => exact ⟨jpb - 1, by congr 1; omega, HPTpb.out.down hlepb (by rw [HXkpb.out, HXapb.out]; exact hlpb), fun hh => HEXpb.out (by omega), Spb.out.drewN _⟩
              case measure => simp [intOf] <;> omega
          · have l0pb : decide ((ipa : Int) ≤ (jpb : Int)) = false := decide_eq_false (by omega)
            have l1pb : ¬ (ipa : Int) ≤ (jpb : Int) := by omega
            have l2pb : decide (ipa ≤ jpb) = false := decide_eq_false (by omega)
            have ggpb : (jpb : Int) < (ipa : Int) := by omega
            have ghpb : decide (jpb < ipa) = true := decide_eq_true (by omega)
            go_wp2_with fail
            go_quiet (fail)
            go_wp2_with fail
            have SQpb : Hid (Sw w g tl d0 (wr.drewN nq)) := Spb.out.drewN nq
            generalize wr.drewN nq = wqpb at *
            have szpb : d0.size = n := HPTpb.out.sz
            obtain ⟨x1zpb, HX1zpb⟩ : ∃ x, Hid (d0[jpb]! = x) := ⟨_, rfl⟩
            obtain ⟨x2zpb, HX2zpb⟩ : ∃ x, Hid (d0[a]! = x) := ⟨_, rfl⟩
            have c1zpb : wqpb.cell? ⟨g, jpb, none⟩ = some (.int .u32 x1zpb) := HX1zpb.out ▸ SQpb.out.cell jpb (by omega)
            have c2zpb : wqpb.cell? ⟨g, a, none⟩ = some (.int .u32 x2zpb) := HX2zpb.out ▸ SQpb.out.cell a (by omega)
            have f1zpb : wqpb.frozen? ⟨g, jpb, none⟩ = false := SQpb.out.f _
            have f2zpb : wqpb.frozen? ⟨g, a, none⟩ = false := SQpb.out.f _
            obtain ⟨v2zpb, c3zpb⟩ : ∃ u, (wqpb.setCell ⟨g, jpb, none⟩ (.int .u32 x2zpb)).cell? ⟨g, a, none⟩ = some u := ⟨_, (SQpb.out.set jpb _ (by omega)).cell a (by simp; omega)⟩
            have f3zpb : (wqpb.setCell ⟨g, jpb, none⟩ (.int .u32 x2zpb)).frozen? ⟨g, a, none⟩ = false := (SQpb.out.set jpb _ (by omega)).f _
            have SZzpb : Hid (Sw w g tl (swp d0 jpb a) (((wqpb.setCell ⟨g, jpb, none⟩ (.int .u32 x2zpb)).setCell ⟨g, a, none⟩ (.int .u32 x1zpb)).drew)) := HX1zpb.out ▸ HX2zpb.out ▸ (SQpb.out.swap jpb a (by omega) (by omega)).drew
            have b1zpb : (jpb : Int) < (n : Int) := by omega
            have b2zpb : (a : Int) < (n : Int) := by omega
            go_big_region
            go_wp2_with fail
            go_ret2
            exact ⟨jpb, 1, _, rfl, HPTpb.out.fin (by omega), SZzpb.out⟩
    · have l0pa : decide ((ipa : Int) ≤ (j0 : Int)) = false := decide_eq_false (by omega)
      have l1pa : ¬ (ipa : Int) ≤ (j0 : Int) := by omega
      have l2pa : decide (ipa ≤ j0) = false := decide_eq_false (by omega)
      have ggpa : (j0 : Int) < (ipa : Int) := by omega
      have ghpa : decide (j0 < ipa) = true := decide_eq_true (by omega)
      go_wp2_with fail
      go_quiet (fail)
      go_wp2_with fail
      have SQpa : Hid (Sw w g tl d0 (wr.drewN nq)) := Spa.out.drewN nq
      generalize wr.drewN nq = wqpa at *
      go_loopw [11] (fun v wz => v = .int .i64 j0 ∧ Sw w g tl d0 wz) (fun _ _ => 0)
      case atStart => exact ⟨rfl, SQpa.out⟩
      case round =>
        obtain ⟨rfl, hswpc⟩ := hrel
        have Spc : Hid (Sw w g tl d0 wr) := hswpc
        clear hswpc
        go_wp2_with fail
        go_quiet (fail)
        go_wp2_with fail
        have SQpc : Hid (Sw w g tl d0 (wr.drewN nq)) := Spc.out.drewN nq
        generalize wr.drewN nq = wqpc at *
        have szpc : d0.size = n := HPTpa.out.sz
        obtain ⟨x1zpc, HX1zpc⟩ : ∃ x, Hid (d0[j0]! = x) := ⟨_, rfl⟩
        obtain ⟨x2zpc, HX2zpc⟩ : ∃ x, Hid (d0[a]! = x) := ⟨_, rfl⟩
        have c1zpc : wqpc.cell? ⟨g, j0, none⟩ = some (.int .u32 x1zpc) := HX1zpc.out ▸ SQpc.out.cell j0 (by omega)
        have c2zpc : wqpc.cell? ⟨g, a, none⟩ = some (.int .u32 x2zpc) := HX2zpc.out ▸ SQpc.out.cell a (by omega)
        have f1zpc : wqpc.frozen? ⟨g, j0, none⟩ = false := SQpc.out.f _
        have f2zpc : wqpc.frozen? ⟨g, a, none⟩ = false := SQpc.out.f _
        obtain ⟨v2zpc, c3zpc⟩ : ∃ u, (wqpc.setCell ⟨g, j0, none⟩ (.int .u32 x2zpc)).cell? ⟨g, a, none⟩ = some u := ⟨_, (SQpc.out.set j0 _ (by omega)).cell a (by simp; omega)⟩
        have f3zpc : (wqpc.setCell ⟨g, j0, none⟩ (.int .u32 x2zpc)).frozen? ⟨g, a, none⟩ = false := (SQpc.out.set j0 _ (by omega)).f _
        have SZzpc : Hid (Sw w g tl (swp d0 j0 a) (((wqpc.setCell ⟨g, j0, none⟩ (.int .u32 x2zpc)).setCell ⟨g, a, none⟩ (.int .u32 x1zpc)).drew)) := HX1zpc.out ▸ HX2zpc.out ▸ (SQpc.out.swap j0 a (by omega) (by omega)).drew
        have b1zpc : (j0 : Int) < (n : Int) := by omega
        have b2zpc : (a : Int) < (n : Int) := by omega
        go_big_region
        go_wp2_with fail
        go_ret2
        exact ⟨j0, 1, _, rfl, HPTpa.out.fin (by omega), SZzpc.out⟩

end Go.Proofs.YtpojlfenmanehaaGreat.M

namespace Go.Proofs.YtpojlfenmanehaaGreat.M
open Go.RowKit
open Go.Sort (PermIn SortedIn)

theorem ltZ_false {x y : Int} : ltZ x y = false ↔ y ≤ x := by unfold ltZ; rw [decide_eq_false_iff_not]; omega
theorem ltZ_true {x y : Int} : ltZ x y = true ↔ x < y := by unfold ltZ; rw [decide_eq_true_iff]

/-- no two alike. -/
def Dst (a b : Nat) (d : Array Int) : Prop := ∀ i j, a ≤ i → i < j → j < b → d[i]! ≠ d[j]!
/-- what lies just ahead is less. -/
def Ahd (a b : Nat) (d : Array Int) : Prop := a = 0 ∨ ∀ k, a ≤ k → k < b → d[a - 1]! < d[k]!

theorem dst_nodup (a b : Nat) (d : Array Int) (hb : b ≤ d.size) : Dst a b d ↔ (d.extract a b).toList.Nodup := by
  rw [Go.Sort.extract_toList d a b hb, List.Nodup, List.pairwise_map, List.pairwise_iff_getElem]
  constructor
  · intro h i j hi hj hij
    simp only [List.getElem_range']
    simp only [List.length_range'] at hi hj
    exact h _ _ (by omega) (by omega) (by omega)
  · intro h i j h1 h2 h3
    have := h (i - a) (j - a) (by simp; omega) (by simp; omega) (by omega)
    simp only [List.getElem_range'] at this
    rw [show a + 1 * (i - a) = i by omega, show a + 1 * (j - a) = j by omega] at this
    exact this
theorem Dst.perm {a b : Nat} {d d' : Array Int} (h : Dst a b d) (hp : PermIn a b d d') (hb : b ≤ d.size) : Dst a b d' := by
  rw [dst_nodup a b d' (by rw [hp.1]; exact hb)]
  exact hp.2.2.nodup_iff.2 ((dst_nodup a b d hb).1 h)
theorem Dst.sub {a b a' b' : Nat} {d : Array Int} (h : Dst a b d) (h1 : a ≤ a') (h2 : b' ≤ b) : Dst a' b' d := fun i j k1 k2 k3 => h i j (by omega) k2 (by omega)
theorem Ahd.perm {a b : Nat} {d d' : Array Int} (h : Ahd a b d) (hp : PermIn a b d d') (hb : b ≤ d.size) : Ahd a b d' := by
  rcases h with h | h
  · exact .inl h
  · by_cases ha : a = 0
    · exact .inl ha
    · refine .inr fun k k1 k2 => ?_
      rw [hp.2.1 (a - 1) (.inl (by omega))]
      exact Go.Sort.permIn_all d d' a b (fun x => d[a - 1]! < x) hb hp h k k1 k2

/-- a window of the part is still to be sorted; all else lies right. -/
structure St (a b x y n : Nat) (d dk : Array Int) : Prop where
  sz : dk.size = n
  perm : PermIn a b d dk
  dst : Dst x y dk
  fr : Ahd x y dk
  out : ∀ i j, a ≤ i → i < j → j < b → (i < x ∨ y ≤ j) → dk[i]! ≤ dk[j]!
  ax : a ≤ x
  xy : x ≤ y
  yb : y ≤ b
  bn : b ≤ n

section
variable {a b x y n m : Nat} {d dk d2 d3 : Array Int}
theorem St.start (hd : d.size = n) (h1 : Dst a b d) (h2 : Ahd a b d) (hab : a ≤ b) (hb : b ≤ n) : St a b a b n d d :=
  ⟨hd, Go.Sort.permIn_refl _ _ _, h1, h2, fun i j k1 k2 k3 k4 => by omega, Nat.le_refl _, hab, Nat.le_refl _, hb⟩
theorem St.dsz (h : St a b x y n d dk) : d.size = n := h.perm.1.symm.trans h.sz
theorem St.turn (h : St a b x y n d dk) (hp : PermIn x y dk d2) : St a b x y n d d2 := by
  have h1 := h.ax; have h2 := h.xy; have h3 := h.yb; have h4 := h.bn; have h5 := h.sz
  refine ⟨hp.1.trans h5, Go.Sort.permIn_trans _ _ _ _ _ h.perm (Go.Sort.permIn_mono _ _ _ _ _ _ h1 h3 (by omega) hp), h.dst.perm hp (by omega), h.fr.perm hp (by omega), fun i j k1 k2 k3 k4 => ?_, h1, h2, h3, h4⟩
  by_cases hi : x ≤ i ∧ i < y
  · by_cases hj : x ≤ j ∧ j < y
    · omega
    · rw [hp.2.1 j (by omega)]
      exact Go.Sort.permIn_all dk d2 x y (fun v => v ≤ dk[j]!) (by omega) hp (fun k c1 c2 => h.out k j (by omega) (by omega) k3 (.inr (by omega))) i hi.1 hi.2
  · rw [hp.2.1 i (by omega)]
    by_cases hj : x ≤ j ∧ j < y
    · exact Go.Sort.permIn_all dk d2 x y (fun v => dk[i]! ≤ v) (by omega) hp (fun k c1 c2 => h.out i k k1 (by omega) (by omega) (.inl (by omega))) j hj.1 hj.2
    · rw [hp.2.1 j (by omega)]
      exact h.out i j k1 k2 k3 k4
theorem St.done (h : St a b x y n d dk) (hs : SortedIn ltZ x y dk) : SortedIn ltZ a b dk := fun i j k1 k2 k3 => by
  by_cases hc : i < x ∨ y ≤ j
  · exact ltZ_false.2 (h.out i j k1 k2 k3 hc)
  · exact hs i j (by omega) k2 (by omega)
/-- behind a parting: the left part, for the call of itself. -/
theorem St.leftDst (h : St a b x y n d dk) (hp : Prt x y m n dk d2) : Dst x m d2 := ((h.turn hp.perm).dst).sub (Nat.le_refl _) (by have := hp.mb; omega)
theorem St.leftFr (h : St a b x y n d dk) (hp : Prt x y m n dk d2) : Ahd x m d2 := by
  rcases (h.turn hp.perm).fr with c | c
  · exact .inl c
  · exact .inr fun k k1 k2 => c k k1 (by have := hp.mb; omega)
theorem St.rightDst (h : St a b x y n d dk) (hp : Prt x y m n dk d2) : Dst (m + 1) y d2 := ((h.turn hp.perm).dst).sub (by have := hp.am; omega) (Nat.le_refl _)
theorem St.gt (h : St a b x y n d dk) (hp : Prt x y m n dk d2) (k : Nat) (k1 : m < k) (k2 : k < y) : d2[m]! < d2[k]! := by
  have c1 := ltZ_false.1 (hp.hi k k1 k2)
  have c2 := (h.turn hp.perm).dst m k hp.am k1 k2
  omega
theorem St.rightFr (h : St a b x y n d dk) (hp : Prt x y m n dk d2) : Ahd (m + 1) y d2 := .inr fun k k1 k2 => h.gt hp k (by omega) k2
theorem St.left (h : St a b x y n d dk) (hp : Prt x y m n dk d2) (h3 : PermIn x m d2 d3) (hs : SortedIn ltZ x m d3) : St a b (m + 1) y n d d3 := by
  have ha := hp.am; have hb := hp.mb; have hn := h.bn; have hy := h.yb; have e2 := hp.sz
  have h4 := (h.turn hp.perm).turn (Go.Sort.permIn_mono _ _ _ _ _ _ (Nat.le_refl x) (show m ≤ y by omega) (by omega) h3)
  have kl : ∀ k, x ≤ k → k < m → d3[k]! < d2[m]! := fun k c1 c2 => Go.Sort.permIn_all d2 d3 x m (fun v => v < d2[m]!) (by omega) h3 (fun k c1 c2 => ltZ_true.1 (hp.lo k c1 c2)) k c1 c2
  have kr : ∀ k, m ≤ k → d3[k]! = d2[k]! := fun k c => h3.2.1 k (.inr c)
  refine ⟨h4.sz, h4.perm, h4.dst.sub (by omega) (Nat.le_refl _), .inr fun k k1 k2 => ?_, fun i j k1 k2 k3 k4 => ?_, by have := h.ax; omega, by omega, hy, hn⟩
  · rw [show m + 1 - 1 = m by omega, kr m (Nat.le_refl _), kr k (by omega)]
    exact h.gt hp k (by omega) k2
  · by_cases hc : i < x ∨ y ≤ j
    · exact h4.out i j k1 k2 k3 hc
    · have hi : i ≤ m := by omega
      by_cases hj : j < m
      · exact ltZ_false.1 (hs i j (by omega) k2 hj)
      · have c1 : d3[i]! ≤ d2[m]! := by
          by_cases e : i = m
          · rw [e, kr m (Nat.le_refl _)]; exact Int.le_refl _
          · exact Int.le_of_lt (kl i (by omega) (by omega))
        have c2 : d2[m]! ≤ d3[j]! := by
          rw [kr j (by omega)]
          by_cases e : j = m
          · rw [e]; exact Int.le_refl _
          · exact Int.le_of_lt (h.gt hp j (by omega) (by omega))
        omega
theorem St.right (h : St a b x y n d dk) (hp : Prt x y m n dk d2) (h3 : PermIn (m + 1) y d2 d3) (hs : SortedIn ltZ (m + 1) y d3) : St a b x m n d d3 := by
  have ha := hp.am; have hb := hp.mb; have hn := h.bn; have hy := h.yb; have e2 := hp.sz; have hx := h.ax
  have h4 := (h.turn hp.perm).turn (Go.Sort.permIn_mono _ _ _ _ _ _ (show x ≤ m + 1 by omega) (Nat.le_refl y) (by omega) h3)
  have kr : ∀ k, m < k → k < y → d2[m]! < d3[k]! := fun k c1 c2 => Go.Sort.permIn_all d2 d3 (m + 1) y (fun v => d2[m]! < v) (by omega) h3 (fun k c1 c2 => h.gt hp k (by omega) c2) k (by omega) c2
  have kl : ∀ k, k ≤ m → d3[k]! = d2[k]! := fun k c => h3.2.1 k (.inl (by omega))
  refine ⟨h4.sz, h4.perm, h4.dst.sub (Nat.le_refl _) (by omega), ?_, fun i j k1 k2 k3 k4 => ?_, hx, by omega, by omega, hn⟩
  · rcases h4.fr with c | c
    · exact .inl c
    · exact .inr fun k k1 k2 => c k k1 (by omega)
  · by_cases hc : i < x ∨ y ≤ j
    · exact h4.out i j k1 k2 k3 hc
    · by_cases hi : m < i
      · exact ltZ_false.1 (hs i j (by omega) k2 (by omega))
      · have c1 : d3[i]! ≤ d2[m]! := by
          rw [kl i (by omega)]
          by_cases e : i = m
          · rw [e]; exact Int.le_refl _
          · exact Int.le_of_lt (ltZ_true.1 (hp.lo i (by omega) (by omega)))
        have c2 : d2[m]! ≤ d3[j]! := by
          by_cases e : j = m
          · rw [e, kl m (Nat.le_refl _)]; exact Int.le_refl _
          · exact Int.le_of_lt (kr j (by omega) (by omega))
        omega
end

end Go.Proofs.YtpojlfenmanehaaGreat.M

namespace Go.Proofs.YtpojlfenmanehaaGreat.M
open Go.RowKit
open Go.Sort (swp size_swp PermIn SortedIn)

/-- a part of the row is sorted. -/
def Srd (w : World) (g a b : Nat) (tl : List Value) (d : Array Int) (e : Ending) (w' : World) : Prop :=
  e = .returned (.tuple #[]) ∧ ∃ d', PermIn a b d d' ∧ SortedIn ltZ a b d' ∧ Sw w g tl d' w'

set_option maxHeartbeats 16000000 in
set_option maxRecDepth 8000 in
theorem pdq_any (g n cap : Nat) (tl : List Value) (hn : n ≤ 49) : ∀ (k a b : Nat) (l : Int) (d : Array Int) (w : World), b - a ≤ k → Blk w g 37 (cellsA d ++ tl) → d.size = n → a ≤ b → b ≤ n → Dst a b d → Ahd a b d →
    Calls Tryz.prog 107 #[.slice (some ⟨g, 0, none⟩) n cap, .int .i64 a, .int .i64 b, .int .i64 l] w fun e w' => Srd w g a b tl d e w' := by
  intro k
  induction k using Nat.strongRecOn with
  | _ k ih =>
  intro a b l d w hk hblk hd hab hb hdst hfr
  have HREC : Hid (∀ (a' b' : Nat) (l' : Int) (d' : Array Int) (W : World), b' - a' < b - a → Blk W g 37 (cellsA d' ++ tl) → d'.size = n → a' ≤ b' → b' ≤ n → Dst a' b' d' → Ahd a' b' d' →
    Calls Tryz.prog 107 #[.slice (some ⟨g, 0, none⟩) n cap, .int .i64 a', .int .i64 b', .int .i64 l'] W fun e w' => Srd W g a' b' tl d' e w') :=
    fun a' b' l' d' W c1 c2 c3 c4 c5 c6 c7 => ih (b' - a') (by omega) a' b' l' d' W (Nat.le_refl _) c2 c3 c4 c5 c6 c7
  have H0 : Hid (St a b a b n d d) := St.start hd hdst hfr hab hb
  have S0 : Hid (Sw w g tl d w) := Sw.refl hblk
  clear ih hblk hdst hfr hk
  go_enter Tryz.func107, Tryz.ntmps107
  go_wp2_with fail
  go_loopg [1, 2, 3, 8, 9] (b - a) (fun k v1 v2 v3 v8 v9 wr => ∃ (x y : Nat) (l : Int) (q8 q9 : Bool) (dk : Array Int), v1 = .int .i64 x ∧ v2 = .int .i64 y ∧ v3 = .int .i64 l ∧ v8 = .bool q8 ∧ v9 = .bool q9 ∧ y - x ≤ k ∧ St a b x y n d dk ∧ Sw w g tl dk wr)
  case atStart => exact ⟨a, b, l, true, true, d, rfl, rfl, rfl, rfl, rfl, Nat.le_refl _, H0.out, S0.out⟩
  case round =>
    obtain ⟨x, y, l1, q8, q9, dk, rfl, rfl, rfl, rfl, rfl, hm, hst, hsw⟩ := hrel
    have hax := hst.ax
    have hxy := hst.xy
    have hyb := hst.yb
    have HST : Hid (St a b x y n d dk) := hst
    have SK : Hid (Sw w g tl dk wr) := hsw
    clear hst hsw H0 S0
    obtain ⟨L, hL⟩ : ∃ L, y - x = L := ⟨_, rfl⟩
    have e8 : (y : Int) - (x : Int) = (L : Int) := by omega
    have w8 : IntKind.i64.wrap ((y : Int) - (x : Int)) = (L : Int) := by rw [IntKind.wrap_i64]; omega
    by_cases hs : L ≤ 12
    · have hs1 : (L : Int) ≤ 12 := by omega
      have HC : Hid (Calls Tryz.prog 129 #[.slice (some ⟨g, 0, none⟩) n cap, .int .i64 x, .int .i64 y] wr fun e w' => e = .returned (.tuple #[]) ∧ Sw wr g tl (Go.Sort.insertionSort ltZ dk x y) w') := ins_any g n cap x y tl dk wr SK.out.blk HST.out.sz hxy (by omega) (by omega)
      have HI : Hid (PermIn x y dk (Go.Sort.insertionSort ltZ dk x y) ∧ SortedIn ltZ x y (Go.Sort.insertionSort ltZ dk x y)) := Go.Sort.insertionSort_holds swoZ dk x y hxy (by rw [HST.out.sz]; omega)
      go_wp2_with fail
      refine HC.out.mono ?_
      rintro e w1 ⟨rfl, s1⟩
      have S1 : Hid (Sw w g tl (Go.Sort.insertionSort ltZ dk x y) w1) := SK.out.trans s1
      clear s1
      go_wp2_with fail
      (try simp only [Exit.inBlock, Exit.then])
      refine bodyPost_ret (results_none rfl _ _ _) rfl ?_
      exact ⟨rfl, _, (HST.out.turn HI.out.1).perm, (HST.out.turn HI.out.1).done HI.out.2, S1.out⟩
    · have hs1 : ¬ (L : Int) ≤ 12 := by omega
      by_cases hl0 : l1 = 0
      · have hl1 : (l1 == 0) = true := by simp [hl0]
        have HC : Hid (Calls Tryz.prog 130 #[.slice (some ⟨g, 0, none⟩) n cap, .int .i64 x, .int .i64 y] wr fun e w' => e = .returned (.tuple #[]) ∧ Sw wr g tl (Go.Sort.heapSort ltZ dk x y) w') := heap_any g n cap x y tl dk wr SK.out.blk HST.out.sz (by omega) (by omega) (by omega)
        have HI : Hid (PermIn x y dk (Go.Sort.heapSort ltZ dk x y) ∧ SortedIn ltZ x y (Go.Sort.heapSort ltZ dk x y)) := Go.Sort.heapSort_holds swoZ dk x y hxy (by rw [HST.out.sz]; omega)
        go_wp2_with fail
        refine HC.out.mono ?_
        rintro e w1 ⟨rfl, s1⟩
        have S1 : Hid (Sw w g tl (Go.Sort.heapSort ltZ dk x y) w1) := SK.out.trans s1
        clear s1
        go_wp2_with fail
        (try simp only [Exit.inBlock, Exit.then])
        refine bodyPost_ret (results_none rfl _ _ _) rfl ?_
        exact ⟨rfl, _, (HST.out.turn HI.out.1).perm, (HST.out.turn HI.out.1).done HI.out.2, S1.out⟩
      · have hl1 : (l1 == 0) = false := by simp [hl0]
        go_upto_if 35 with fail
        go_cut [3] (fun v wc => ∃ (l2 : Int) (d1 : Array Int), v = .int .i64 l2 ∧ PermIn x y dk d1 ∧ Sw w g tl d1 wc)
        case first =>
          cases q8 with
          | true =>
            go_wp2_with fail
            go_meet
            exact ⟨l1, dk, rfl, Go.Sort.permIn_refl _ _ _, SK.out⟩
          | false =>
            have HC : Hid (Calls Tryz.prog 131 #[.slice (some ⟨g, 0, none⟩) n cap, .int .i64 x, .int .i64 y] wr fun e w' => Ord wr g x y tl dk e w') := break_any g n cap x y tl dk wr SK.out.blk HST.out.sz (by omega) (by omega) hn
            go_wp2_with fail
            refine HC.out.mono ?_
            rintro e w1 ⟨rfl, d1, hp1, s1⟩
            have S1 : Hid (PermIn x y dk d1 ∧ Sw w g tl d1 w1) := ⟨hp1, SK.out.trans s1⟩
            clear s1 hp1
            go_wp2_with fail
            go_meet
            exact ⟨_, d1, rfl, S1.out.1, S1.out.2⟩
        case rest =>
          obtain ⟨l2, d1, rfl, hp1, hs1'⟩ := hcut
          have HST1 : Hid (St a b x y n d d1) := HST.out.turn hp1
          have SK1 : Hid (Sw w g tl d1 wc) := hs1'
          clear hp1 hs1' HST SK
          have HC : Hid (Calls Tryz.prog 132 #[.slice (some ⟨g, 0, none⟩) n cap, .int .i64 x, .int .i64 y] wc fun e w' => Pv x y wc e w') := pivot_any g n cap x y tl d1 wc SK1.out.blk HST1.out.sz (by omega) (by omega) hn
          go_upto_if 50 with (first | (go_at_call 132; refine HC.out.mono ?_; rintro e w2 ⟨p, t, rfl, hp1, hp2, hbw⟩))
          have SK2 : Hid (Sw w g tl d1 w2) := SK1.out.over hbw
          clear hbw SK1 HC
          go_cut [11, 12] (fun v11 v12 wc => ∃ (p2 : Nat) (t2 : Int) (d2 : Array Int), v11 = .int .i64 p2 ∧ v12 = .int .i64 t2 ∧ (x ≤ p2 ∧ p2 < y) ∧ PermIn x y d1 d2 ∧ Sw w g tl d2 wc)
          case first =>
            rcases Bool.eq_false_or_eq_true (t == 2) with ht | ht
            · have HC : Hid (Calls Tryz.prog 133 #[.slice (some ⟨g, 0, none⟩) n cap, .int .i64 x, .int .i64 y] w2 fun e w' => Ord w2 g x y tl d1 e w') := rev_any g n cap x y tl d1 w2 SK2.out.blk HST1.out.sz (by omega) (by omega) (by omega)
              obtain ⟨P, hP⟩ : ∃ P : Nat, (y : Int) - 1 - ((p : Int) - (x : Int)) = P := ⟨y - 1 - (p - x), by omega⟩
              have wP : IntKind.i64.wrap ((y : Int) - 1 - ((p : Int) - (x : Int))) = (P : Int) := by rw [IntKind.wrap_i64]; omega
              have hP1 : x ≤ P ∧ P < y := by omega
              go_wp2_with fail
              refine HC.out.mono ?_
              rintro e w3 ⟨rfl, d2, hpp, s3⟩
              have S3 : Hid (PermIn x y d1 d2 ∧ Sw w g tl d2 w3) := ⟨hpp, SK2.out.trans s3⟩
              clear s3 hpp
              go_wp2_with fail
              go_meet
              exact ⟨P, 1, d2, rfl, rfl, hP1, S3.out.1, S3.out.2⟩
            · go_wp2_with fail
              go_meet
              exact ⟨p, t, d1, rfl, rfl, ⟨hp1, hp2⟩, Go.Sort.permIn_refl _ _ _, SK2.out⟩
          case rest =>
            obtain ⟨p2, t2, d2, rfl, rfl, hp3, hpp, s3⟩ := hcut
            have HST2 : Hid (St a b x y n d d2) := HST1.out.turn hpp
            have SK3 : Hid (Sw w g tl d2 wc) := s3
            clear hpp s3 HST1 SK2 hp1 hp2
            obtain ⟨hp1, hp2⟩ := hp3
            go_upto_region 15 with fail
            go_cut [68] (fun v wd => (∃ q : Bool, v = .bool q) ∧ Sw w g tl d2 wd)
            case first =>
              cases q8 with
              | true =>
                cases q9 with
                | true =>
                  go_wp2_with fail
                  go_meet
                  exact ⟨⟨_, rfl⟩, SK3.out⟩
                | false =>
                  go_wp2_with fail
                  go_meet
                  exact ⟨⟨_, rfl⟩, SK3.out⟩
              | false =>
                go_wp2_with fail
                go_meet
                exact ⟨⟨_, rfl⟩, SK3.out⟩
            case rest =>
              obtain ⟨⟨q, rfl⟩, hwd⟩ := hcut
              have SK4 : Hid (Sw w g tl d2 wc) := hwd
              clear hwd SK3
              go_upto_if 68 with fail
              go_cut [68] (fun _ wc => Sw w g tl d2 wc)
              case first =>
                cases q with
                | false =>
                  go_wp2_with fail
                  go_meet
                  exact SK4.out
                | true =>
                  have HC : Hid (Calls Tryz.prog 134 #[.slice (some ⟨g, 0, none⟩) n cap, .int .i64 x, .int .i64 y] wc fun e w' => Psr wc x y d2 e w') := partial_any g n cap x y tl d2 wc SK4.out.blk HST2.out.sz (by omega) (by omega) hn
                  go_wp2_with fail
                  refine HC.out.mono ?_
                  rintro e w4 ⟨qq, rfl, hqq, hbw⟩
                  have S4 : Hid ((qq = 1 → SortedIn ltZ x y d2) ∧ Sw w g tl d2 w4) := ⟨hqq, SK4.out.over hbw⟩
                  clear hqq hbw
                  by_cases h1 : qq = 1
                  · have h2 : (qq == 1) = true := by simp [h1]
                    go_wp2_with fail
                    (try simp only [Exit.inBlock, Exit.then])
                    refine bodyPost_ret (results_none rfl _ _ _) rfl ?_
                    exact ⟨rfl, _, HST2.out.perm, HST2.out.done (S4.out.1 h1), S4.out.2⟩
                  · have h2 : (qq == 1) = false := by simp [h1]
                    go_wp2_with fail
                    go_meet
                    exact S4.out.2
              case rest =>
                have SK5 : Hid (Sw w g tl d2 wc) := hcut
                clear hcut SK4
                go_upto_region 17 with fail
                go_cut [87] (fun v wc => v = .bool false ∧ Sw w g tl d2 wc)
                case first =>
                  have HBD : Hid (∀ m, Sw w g tl d2 (wc.drewN m)) := fun m => SK5.out.drewN m
                  rcases Nat.eq_zero_or_pos x with hx0 | hx0
                  · have l0 : decide ((0 : Int) < (x : Int)) = false := decide_eq_false (by omega)
                    have l1' : ¬ (0 : Int) < (x : Int) := by omega
                    have l2' : decide (0 < x) = false := decide_eq_false (by omega)
                    clear hx0
                    go_wp2_with fail
                    go_quiet (fail)
                    go_wp2_with fail
                    go_meet
                    exact ⟨rfl, HBD.out _⟩
                  · have l0 : decide ((0 : Int) < (x : Int)) = true := decide_eq_true (by omega)
                    have l1' : (0 : Int) < (x : Int) := by omega
                    have l2' : decide (0 < x) = true := decide_eq_true (by omega)
                    obtain ⟨x1, HX1⟩ : ∃ v, Hid (d2[x - 1]! = v) := ⟨_, rfl⟩
                    obtain ⟨x2, HX2⟩ : ∃ v, Hid (d2[p2]! = v) := ⟨_, rfl⟩
                    have hsz : d2.size = n := HST2.out.sz
                    have c1 : wc.cell? ⟨g, x - 1, none⟩ = some (.int .u32 x1) := HX1.out ▸ SK5.out.cell (x - 1) (by omega)
                    have c2 : wc.cell? ⟨g, p2, none⟩ = some (.int .u32 x2) := HX2.out ▸ SK5.out.cell p2 (by omega)
                    have hlt : ltZ x1 x2 = true := by
                      rcases HST2.out.fr with c | c
                      · omega
                      · rw [← HX1.out, ← HX2.out]; exact ltZ_true.2 (c p2 hp1 hp2)
                    have HQ : Hid (∀ W, Calls Tryz.prog 135 #[.int .u32 x1, .int .u32 x2] W fun e w' => e = .returned (.bool true) ∧ w' = W) := fun W => hlt ▸ lessU_any _ _ W
                    have b1 : (x : Int) - 1 < (n : Int) := by omega
                    have b2 : (p2 : Int) < (n : Int) := by omega
                    clear hlt
                    go_wp2_with fail
                    go_quiet ((go_at_call 135; refine Calls.quiet_of_same (HQ.out _)))
                    go_wp2_with fail
                    go_meet
                    exact ⟨rfl, HBD.out _⟩
                case rest =>
                  obtain ⟨rfl, s6⟩ := hcut
                  have SK6 : Hid (Sw w g tl d2 wc) := s6
                  clear s6 SK5
                  have HC : Hid (Calls Tryz.prog 137 #[.slice (some ⟨g, 0, none⟩) n cap, .int .i64 x, .int .i64 y, .int .i64 p2] wc fun e w' => Prd wc g x y n tl d2 e w') := part_any g n cap x y p2 tl d2 wc SK6.out.blk HST2.out.sz hp1 hp2 (by omega) (by omega)
                  go_upto_if 113 with (first | (go_at_call 137; refine HC.out.mono ?_; rintro e w5 ⟨m, qm, d3, rfl, hprt, s5⟩; obtain ⟨A, hA, wA⟩ : ∃ A : Nat, (m : Int) - (x : Int) = A ∧ IntKind.i64.wrap ((m : Int) - (x : Int)) = A := ⟨m - x, by have := hprt.am; omega, by rw [IntKind.wrap_i64]; have := hprt.am; have := hprt.mb; omega⟩; obtain ⟨B, hB, wB⟩ : ∃ B : Nat, (y : Int) - (m : Int) = B ∧ IntKind.i64.wrap ((y : Int) - (m : Int)) = B := ⟨y - m, by have := hprt.mb; omega, by rw [IntKind.wrap_i64]; have := hprt.am; have := hprt.mb; omega⟩))
                  have HPRT : Hid (Prt x y m n d2 d3) := hprt
                  have SK7 : Hid (Sw w g tl d3 w5) := SK6.out.trans s5
                  have hm1 := hprt.am
                  have hm2 := hprt.mb
                  clear hprt s5 SK6 HC
                  by_cases hAB : A < B
                  · have hAB1 : (A : Int) < (B : Int) := by omega
                    have hAB2 : decide (A < B) = true := decide_eq_true hAB
                    have HC : Hid (Calls Tryz.prog 107 #[.slice (some ⟨g, 0, none⟩) n cap, .int .i64 x, .int .i64 m, .int .i64 l2] w5 fun e w' => Srd w5 g x m tl d3 e w') := HREC.out x m l2 d3 w5 (by omega) SK7.out.blk HPRT.out.sz hm1 (by omega) (HST2.out.leftDst HPRT.out) (HST2.out.leftFr HPRT.out)
                    go_wp2_with fail
                    refine HC.out.mono ?_
                    rintro e w6 ⟨rfl, d4, hp4, hs4, s6⟩
                    have S8 : Hid (St a b (m + 1) y n d d4 ∧ Sw w g tl d4 w6) := ⟨HST2.out.left HPRT.out hp4 hs4, SK7.out.trans s6⟩
                    clear hp4 hs4 s6 HC
                    go_wp2_with fail
                    go_roundg (y - (m + 1))
                    case measure => omega
                    case rel => exact ⟨m + 1, y, l2, _, _, d4, by go_num, rfl, rfl, rfl, rfl, Nat.le_refl _, S8.out.1, S8.out.2⟩
                  · have hAB1 : ¬ (A : Int) < (B : Int) := by omega
                    have hAB2 : decide (A < B) = false := decide_eq_false hAB
                    have HC : Hid (Calls Tryz.prog 107 #[.slice (some ⟨g, 0, none⟩) n cap, .int .i64 ((m : Int) + 1), .int .i64 y, .int .i64 l2] w5 fun e w' => Srd w5 g (m + 1) y tl d3 e w') := by
                      have := HREC.out (m + 1) y l2 d3 w5 (by omega) SK7.out.blk HPRT.out.sz (by omega) (by omega) (HST2.out.rightDst HPRT.out) (HST2.out.rightFr HPRT.out)
                      rw [show ((m + 1 : Nat) : Int) = (m : Int) + 1 from by omega] at this
                      exact this
                    go_wp2_with fail
                    refine HC.out.mono ?_
                    rintro e w6 ⟨rfl, d4, hp4, hs4, s6⟩
                    have S8 : Hid (St a b x m n d d4 ∧ Sw w g tl d4 w6) := ⟨HST2.out.right HPRT.out hp4 hs4, SK7.out.trans s6⟩
                    clear hp4 hs4 s6 HC
                    go_wp2_with fail
                    go_roundg (m - x)
                    case measure => omega
                    case rel => exact ⟨x, m, l2, _, _, d4, rfl, rfl, rfl, rfl, rfl, Nat.le_refl _, S8.out.1, S8.out.2⟩

end Go.Proofs.YtpojlfenmanehaaGreat.M

namespace Go.Proofs.YtpojlfenmanehaaGreat.M
open Go.RowKit
open Go.Sort (PermIn SortedIn)

set_option maxHeartbeats 2000000 in
theorem sort_any (g n cap : Nat) (tl : List Value) (d : Array Int) (w : World) (h : Blk w g 37 (cellsA d ++ tl)) (hd : d.size = n) (hn : n ≤ 49) (hD : Dst 0 n d) :
    Calls Tryz.prog 66 #[.slice (some ⟨g, 0, none⟩) n cap] w fun e w' => Srd w g 0 n tl d e w' := by
  have HP : Hid (∀ l : Int, Calls Tryz.prog 107 #[.slice (some ⟨g, 0, none⟩) n cap, .int .i64 0, .int .i64 n, .int .i64 l] w fun e w' => Srd w g 0 n tl d e w') := fun l => pdq_any g n cap tl hn n 0 n l d w (by omega) h hd (Nat.zero_le _) (Nat.le_refl _) hD (.inl rfl)
  have HL : Hid (∀ W, Calls Tryz.prog 108 #[.int .u64 (n : Int)] W fun e w' => e = .returned (.int .i64 (Lib.bitLen (n : Int).toNat)) ∧ w' = W) := fun W => Tryz.bits_Len n W (by omega) (by omega)
  clear h hD
  go_enter Tryz.func66, Tryz.ntmps66
  go_wp2_with (first | (go_at_call 108; refine (HL.out _).mono ?_; rintro e w1 ⟨rfl, hw⟩; subst w1))
  refine (HP.out _).mono ?_
  rintro e w1 ⟨rfl, hr⟩
  have HR : Hid (∃ d', PermIn 0 n d d' ∧ SortedIn ltZ 0 n d' ∧ Sw w g tl d' w1) := hr
  clear hr
  go_wp2_with fail
  go_end0
  exact ⟨rfl, HR.out⟩

/-- of none. -/
theorem ins_nil (w : World) : Calls Tryz.prog 129 #[.slice none 0 0, .int .i64 0, .int .i64 0] w fun e w' => e = .returned (.tuple #[]) ∧ w' = w := by
  go_enter Tryz.func129, Tryz.ntmps129
  go_wp2
  go_loopw [6] (fun vi wr => vi = .int .i64 1 ∧ wr = w) (fun _ _ => 0)
  case atStart => exact ⟨rfl, rfl⟩
  case round =>
    obtain ⟨rfl, hw⟩ := hrel
    subst hw
    go_wp2_with fail
    go_end0
    exact ⟨rfl, rfl⟩
theorem pdq_nil (l : Int) (w : World) : Calls Tryz.prog 107 #[.slice none 0 0, .int .i64 0, .int .i64 0, .int .i64 l] w fun e w' => e = .returned (.tuple #[]) ∧ w' = w := by
  have HI : Hid (∀ W, Calls Tryz.prog 129 #[.slice none 0 0, .int .i64 0, .int .i64 0] W fun e w' => e = .returned (.tuple #[]) ∧ w' = W) := ins_nil
  go_enter Tryz.func107, Tryz.ntmps107
  go_wp2_with fail
  go_loopw [1, 2] (fun v v2 wr => v = .int .i64 0 ∧ v2 = .int .i64 0 ∧ wr = w) (fun _ _ _ => 0)
  case atStart => exact ⟨rfl, rfl, rfl⟩
  case round =>
    obtain ⟨rfl, rfl, hw⟩ := hrel
    subst hw
    go_wp2_with fail
    refine (HI.out _).mono ?_
    rintro e w1 ⟨rfl, rfl⟩
    go_wp2_with fail
    (try simp only [Exit.inBlock, Exit.then])
    refine bodyPost_ret (results_none rfl _ _ _) rfl ?_
    exact ⟨rfl, rfl⟩
theorem sort_nil (w : World) : Calls Tryz.prog 66 #[.slice none 0 0] w fun e w' => e = .returned (.tuple #[]) ∧ w' = w := by
  have HP : Hid (∀ (l : Int) W, Calls Tryz.prog 107 #[.slice none 0 0, .int .i64 0, .int .i64 0, .int .i64 l] W fun e w' => e = .returned (.tuple #[]) ∧ w' = W) := pdq_nil
  have HL : Hid (∀ W, Calls Tryz.prog 108 #[.int .u64 0] W fun e w' => e = .returned (.int .i64 (Lib.bitLen (0 : Int).toNat)) ∧ w' = W) := fun W => Tryz.bits_Len 0 W (by omega) (by omega)
  go_enter Tryz.func66, Tryz.ntmps66
  go_wp2_with (first | (go_at_call 108; refine (HL.out _).mono ?_; rintro e w1 ⟨rfl, rfl⟩))
  refine (HP.out _ _).mono ?_
  rintro e w1 ⟨rfl, rfl⟩
  go_wp2_with fail
  go_end0
  exact ⟨rfl, rfl⟩

end Go.Proofs.YtpojlfenmanehaaGreat.M

