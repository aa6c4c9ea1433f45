/-
  The program's Names: a closure that hands out what stands between the slashes.
-/
import Derived.Test.YtilemgpopjlchaaDoorTCut
namespace Go.Proofs.YtilemgpopjlchaaDoor
open Go.RowKit Go.Shelf

attribute [local go_sem] Oper.semAt_some

theorem tright_in (s : ByteArray) (W : World) (n : Nat) : CallsIn Fence.wide n Tryd.prog 26 #[.string s] W fun e w' => e = .returned (.bool (rightP (lst s))) ∧ w' = W := callsIn_wide.2 (tright_any s W)
theorem Below.grows {W w' : World} (h : Below W.heap.size W w') : W.grownBy w' none := ⟨h.os, h.tape, h.output, h.size, fun k hk _ => h.block k hk⟩
theorem abides_below {β : Type} {B : Nat} {J : β → World → Prop} (h : AbidesFrom B J) {s : β} {W w' : World} (hs : J s W) (hb : Below W.heap.size W w') : J s w' :=
  h s W w' none hs (Below.grows hb) fun r e => by cases e
/-- how long a text is. -/
def strLen : Value → Nat
  | .string s => s.size
  | _ => 0
theorem namesP_all {l : List UInt8} (h : rightP l = true) : namesP l = namesA [] l := by
  obtain ⟨_, ⟨r, rfl⟩, _⟩ := right_iff.1 h
  unfold namesP
  rw [if_pos h, namesA_sl, if_neg (c := goodN [] = true) (by decide)]
  rfl

set_option maxRecDepth 100000 in
set_option maxHeartbeats 8000000 in
theorem names1_in (s : ByteArray) (hs : s.size ≤ 5000) (l c B : Nat) (Kp : World → World → Prop) (J Jx : List (List UInt8) → World → Prop) (W : World) (hJ : AbidesFrom B J)
    (hY : ∀ pre x W1, J pre W1 → pre.length < (namesP (lst s)).length → YieldAt Fence.wide 1 Tryd.prog l (encT x) W1 fun e W' =>
      (e = .returned (.bool true) ∧ J (pre ++ [x]) W' ∧ Kp W1 W') ∨ (e = .returned (.bool false) ∧ Jx (pre ++ [x]) W'))
    (hc : W.cell? ⟨c, 0, none⟩ = some (.string s)) (h0 : J [] W) :
    CallsIn Fence.wide 2 Tryd.prog 34 #[.func (.yield l) #[] #[], .pointer (some ⟨c, 0, none⟩)] W fun e W' => (∃ v, e = .returned v) ∧
      ((∃ ys, ys = namesP (lst s) ∧ J ys W') ∨ (∃ pre, pre <+: namesP (lst s) ∧ Jx pre W')) := by
  have HS : Hid (s.size ≤ 5000) := hs
  have HA : Hid (AbidesFrom B J) := hJ
  have HY : Hid (∀ pre x W1, J pre W1 → pre.length < (namesP (lst s)).length → YieldAt Fence.wide 1 Tryd.prog l (encT x) W1 fun e W' =>
      (e = .returned (.bool true) ∧ J (pre ++ [x]) W' ∧ Kp W1 W') ∨ (e = .returned (.bool false) ∧ Jx (pre ++ [x]) W')) := hY
  have H0 : Hid (J [] W) := h0
  clear hY h0 hJ
  cases hr : rightP (lst s) with
  | false =>
    have HN : Hid (namesP (lst s) = []) := by show _ = _; unfold namesP; rw [hr]; rfl
    have HR : Hid (∀ W, CallsIn Fence.wide 1 Tryd.prog 26 #[.string s] W fun e w' => e = .returned (.bool false) ∧ w' = W) := fun W => hr ▸ tright_in s W 1
    clear hr hs
    refine callsIn_of_wp Tryd.func34 rfl trivial ?_ rfl
    simp only [Tryd.ntmps34, List.size_toArray, List.length_cons, List.length_nil, Nat.reduceAdd, Nat.reduceSub, Array.replicate_succ, Array.replicate_zero, List.push_toArray, List.append_toArray, List.nil_append, List.cons_append]
    gi_wp2_with fail
    refine ⟨trivial, (HR.out _).mono ?_⟩
    rintro e w1 ⟨rfl, hw1⟩; subst w1
    gi_wp2_with fail
    refine bodyPost_ret (results_none rfl _ _ _) rfl ?_
    exact ⟨⟨_, rfl⟩, .inl ⟨[], HN.out.symm, H0.out⟩⟩
  | true =>
    have HN : Hid (namesP (lst s) = namesA [] (lst s)) := namesP_all hr
    have HR : Hid (∀ W, CallsIn Fence.wide 1 Tryd.prog 26 #[.string s] W fun e w' => e = .returned (.bool true) ∧ w' = W) := fun W => hr ▸ tright_in s W 1
    clear hr hs
    refine callsIn_of_wp Tryd.func34 rfl trivial ?_ rfl
    simp only [Tryd.ntmps34, List.size_toArray, List.length_cons, List.length_nil, Nat.reduceAdd, Nat.reduceSub, Array.replicate_succ, Array.replicate_zero, List.push_toArray, List.append_toArray, List.nil_append, List.cons_append]
    gi_wp2_with fail
    refine ⟨trivial, (HR.out _).mono ?_⟩
    rintro e w1 ⟨rfl, hw1⟩; subst w1
    gi_wp2_with fail
    gi_loopw [3, 4] (fun v3 _v4 wr => ∃ (t : ByteArray) (pre : List (List UInt8)), v3 = .string t ∧ t.size ≤ 5000 ∧ namesP (lst s) = pre ++ namesA [] (lst t) ∧ J pre wr) (fun v3 _ _ => strLen v3)
    case atStart => exact ⟨s, [], rfl, HS.out, HN.out, H0.out⟩
    case round =>
      clear hc
      obtain ⟨t, pre, rfl, ht, hni, hj⟩ := hrel
      have HT : Hid (t.size ≤ 5000 ∧ namesP (lst s) = pre ++ namesA [] (lst t) ∧ J pre wr) := ⟨ht, hni, hj⟩
      clear ht hni hj
      by_cases hz : lst t = []
      · have hem : t.toList.isEmpty = true := by rw [ByteArray.toList_eq]; show (lst t).isEmpty = true; rw [hz]; rfl
        have HE : Hid (namesP (lst s) = pre) := by
          show _ = _
          rw [HT.out.2.1, hz]
          show pre ++ namesA [] [] = pre
          rw [namesA_nil, if_neg (c := goodN [] = true) (by decide), List.append_nil]
        clear hz
        gi_wp2_with fail
        go_end0
        exact ⟨⟨_, rfl⟩, .inl ⟨pre, HE.out.symm, HT.out.2.2⟩⟩
      · have hem : t.toList.isEmpty = false := by
          rw [ByteArray.toList_eq]
          show (lst t).isEmpty = false
          cases hq : lst t with
          | nil => exact absurd hq hz
          | cons => rfl
        have HC : Hid (∀ W, CallsIn Fence.wide 1 Tryd.prog 35 #[.string t, .string ⟨#[47]⟩] W fun e w' => (∃ f, e = .returned (.tuple #[.string (bar (cutA (lst t)).1), .string (bar (cutA (lst t)).2), .bool f])) ∧ ∃ n, w' = W.drewN n) := fun W => callsIn_wide.2 (tcut_any t W (by have := HT.out.1; omega))
        have hless := cutA_less hz
        have hfst := cutA_first (lst t)
        rw [lst_length] at hless hfst
        have hcut := namesA_cut [] (lst t)
        rw [List.nil_append] at hcut
        obtain ⟨x, hx⟩ : ∃ x, (cutA (lst t)).1 = x := ⟨_, rfl⟩
        obtain ⟨r, hr⟩ : ∃ r, (cutA (lst t)).2 = r := ⟨_, rfl⟩
        rw [hx, hr] at hcut HC
        rw [hx] at hfst
        rw [hr] at hless
        have HL : Hid ((bar r).size < t.size ∧ (bar r).size ≤ 5000 ∧ (bar x).size ≤ 5000) := by
          have := HT.out.1
          rw [bar_size, bar_size]
          exact ⟨hless, by omega, by omega⟩
        have HQ : Hid (namesA [] (lst t) = (if goodN x = true then [x] else []) ++ namesA [] r) := hcut
        clear hz hx hr hcut hless hfst
        by_cases hx0 : x = []
        · have hem2 : (bar x).toList.isEmpty = true := by rw [toList_bar, hx0]; rfl
          have HX : Hid (namesP (lst s) = pre ++ namesA [] (lst (bar r))) := by
            show _ = _
            rw [HT.out.2.1, HQ.out, hx0, lst_bar]
            rfl
          clear hx0
          gi_wp2_with fail
          refine ⟨trivial, (HC.out _).mono ?_⟩
          rintro e w1 ⟨⟨f, rfl⟩, n, hw1⟩
          have HJ : Hid (J pre w1) := abides_below HA.out HT.out.2.2 (by rw [hw1]; exact below_drewN wr n)
          clear hw1
          gi_wp2_with fail
          go_roundw
          case rel => exact ⟨bar r, pre, rfl, HL.out.2.1, HX.out, HJ.out⟩
          case measure => exact HL.out.1
        · have hem2 : (bar x).toList.isEmpty = false := by
            rw [toList_bar]
            cases hq : x with
            | nil => exact absurd hq hx0
            | cons => rfl
          by_cases hx1 : x = [46]
          · have hcm : ((bar x).toList == [46]) = true := by rw [toList_bar, hx1]; rfl
            have HX : Hid (namesP (lst s) = pre ++ namesA [] (lst (bar r))) := by
              show _ = _
              rw [HT.out.2.1, HQ.out, hx1, lst_bar]
              rfl
            clear hx0 hx1
            gi_wp2_with fail
            refine ⟨trivial, (HC.out _).mono ?_⟩
            rintro e w1 ⟨⟨f, rfl⟩, n, hw1⟩
            have HJ : Hid (J pre w1) := abides_below HA.out HT.out.2.2 (by rw [hw1]; exact below_drewN wr n)
            clear hw1
            gi_wp2_with fail
            go_roundw
            case rel => exact ⟨bar r, pre, rfl, HL.out.2.1, HX.out, HJ.out⟩
            case measure => exact HL.out.1
          · have hcm : ((bar x).toList == [46]) = false := by rw [toList_bar]; exact beq_eq_false_iff_ne.2 hx1
            have hg : goodN x = true := by
              unfold goodN
              cases hz : x with
              | nil => exact absurd hz hx0
              | cons c r =>
                rw [hz] at hx1
                simpa using hx1
            have HX : Hid (namesP (lst s) = (pre ++ [x]) ++ namesA [] (lst (bar r)) ∧ pre.length < (namesP (lst s)).length) := by
              have e : namesP (lst s) = (pre ++ [x]) ++ namesA [] (lst (bar r)) := by
                rw [HT.out.2.1, HQ.out, if_pos hg, lst_bar, List.append_assoc]
              refine ⟨e, ?_⟩
              rw [e]
              simp
            have HCL : Hid (∀ W, CallsIn Fence.wide 1 Tryd.prog 25 #[.string (bar x)] W fun e w' => e = .returned (.string (bar x)) ∧ Below W.heap.size W w') := fun W => callsIn_wide.2 (tclone_any (bar x) W (by have := HL.out.2.2; omega))
            clear hx0 hx1 hg
            gi_wp2_with fail
            refine ⟨trivial, (HC.out _).mono ?_⟩
            rintro e w1 ⟨⟨f, rfl⟩, n, hw1⟩
            have HJ1 : Hid (J pre w1) := abides_below HA.out HT.out.2.2 (by rw [hw1]; exact below_drewN wr n)
            clear hw1
            gi_wp2_with fail
            refine ⟨trivial, (HCL.out _).mono ?_⟩
            rintro e w2 ⟨rfl, hb2⟩
            have HJ2 : Hid (J pre w2) := abides_below HA.out HJ1.out hb2
            clear hb2
            have hyz := HY.out pre x w2 HJ2.out HX.out.2
            dsimp only [encT] at hyz
            obtain ⟨fn, tmps, assign, body, hy, hR⟩ := hyz
            gi_wp2_with fail
            refine hR.mono ?_
            rintro e W3 (⟨rfl, hJ3, hk3⟩ | ⟨rfl, hx3⟩)
            · have HJ3 : Hid (J (pre ++ [x]) W3) := hJ3
              clear hJ3 hk3
              gi_wp2_with fail
              go_roundw
              case rel => exact ⟨bar r, pre ++ [x], rfl, HL.out.2.1, HX.out.1, HJ3.out⟩
              case measure => exact HL.out.1
            · have HX3 : Hid (Jx (pre ++ [x]) W3) := hx3
              clear hx3
              gi_wp2_with fail
              refine bodyPost_ret (results_none rfl _ _ _) rfl ?_
              exact ⟨⟨_, rfl⟩, .inr ⟨pre ++ [x], ⟨_, HX.out.1.symm⟩, HX3.out⟩⟩

/-- what Names hands back, in a fence. -/
theorem names_in (s : ByteArray) (W : World) (n : Nat) : CallsIn Fence.wide n Tryd.prog 18 #[.string s] W fun e w' => e = .returned (.func (.func 34) #[] #[.pointer (some ⟨W.heap.size, 0, none⟩)]) ∧ w' = W.alloc (.cells #[.string s] 9) := by
  refine callsIn_of_wp Tryd.func18 rfl trivial ?_ rfl
  simp only [Tryd.ntmps18, List.size_toArray, List.length_cons, List.length_nil, Nat.reduceAdd, Nat.reduceSub, Array.replicate_succ, Array.replicate_zero, List.push_toArray, List.append_toArray, List.nil_append, List.cons_append]
  gi_wp2
  go_ret
  exact ⟨rfl, rfl⟩
/-- the text in a box stays. -/
def KeepC (c : Nat) (s : ByteArray) (A B : World) : Prop := A.cell? ⟨c, 0, none⟩ = some (.string s) → B.cell? ⟨c, 0, none⟩ = some (.string s)
theorem names_stops (s : ByteArray) (hs : s.size ≤ 5000) (c : Nat) (w : World) (hc : w.cell? ⟨c, 0, none⟩ = some (.string s)) :
    SeqStopsK Fence.wide 2 Tryd.prog 34 #[.pointer (some ⟨c, 0, none⟩)] encT (KeepC c s) (fun ys => ys = namesP (lst s)) (fun pre => pre <+: namesP (lst s)) (namesP (lst s)).length w := fun l J Jx W1 hW hJ _ hY h0 =>
  names1_in s hs l c _ (KeepC c s) J Jx W1 hJ hY ((hW.cell (p := ⟨c, 0, none⟩) (World.block_lt_of_cell? w _ hc)).trans hc) h0
theorem names_any (s : ByteArray) (W : World) (hs : s.size ≤ 5000) : Calls Tryd.prog 18 #[.string s] W fun e w' => ∃ gf lb, e = .returned (.func (.func gf) #[] lb) ∧ Below W.heap.size W w' ∧ SeqN w' (lst s) gf lb := by
  have HB : Hid (Below W.heap.size W (W.alloc (.cells #[.string s] 9))) := below_new W _
  have HC : Hid (Boxed (W.alloc (.cells #[.string s] 9)) W.heap.size 9 (.string s)) := Boxed.new W _ _
  have HS : Hid (s.size ≤ 5000) := hs
  clear hs
  go_enter Tryd.func18, Tryd.ntmps18
  go_wp2_with fail
  go_ret
  refine ⟨_, _, rfl, HB.out, ⟨enters_of Tryd.func34 (by kernel_rfl) rfl, ?_⟩⟩
  intro l J Jx W1 hW hJ _ hY h0
  have hc1 : W1.cell? ⟨W.heap.size, 0, none⟩ = some (.string s) := (boxed_over HC.out hW).cell
  exact names1_in s HS.out l W.heap.size _ _ J Jx W1 hJ hY hc1 h0

end Go.Proofs.YtilemgpopjlchaaDoor
