/-
  The program's Clean, Up, Within.
-/
import Derived.Test.YtkhojihmnplmcaaTJn
namespace Go.Proofs.Ytkhojihmnplmcaa
open Go.RowKit Go.Shelf

set_option maxHeartbeats 4000000 in
theorem tclean_any (s : ByteArray) (w : World) (hs : s.size ≤ 5000) :
    Calls Try.prog 10 #[.string s] w (Tells w (.tuple #[.string (bar (cleanP (lst s))), .int .i64 (errP (lst s))])) := by
  have HR : Hid (Calls Try.prog 14 #[.string s] w fun e w' => e = .returned (.bool (rightP (lst s))) ∧ w' = w) := tright_any s w
  have HL : Hid (Calls Try.prog 22 #[.string s] w fun e w' => RowR w (leftP (lst s)) e w') := tleft_any s w hs
  have HC : Hid (Cl (leftP (lst s))) := cl_left _
  cases hr : rightP (lst s) with
  | false =>
    have HE : Hid (cleanP (lst s) = [] ∧ errP (lst s) = 1) := ⟨by unfold cleanP; rw [hr]; rfl, by unfold errP; rw [hr]; rfl⟩
    rw [hr] at HR
    clear hr
    go_enter Try.func10, Try.ntmps10
    go_wp2_with fail
    refine HR.out.mono ?_
    rintro e w1 ⟨rfl, hw1⟩; subst w1
    go_wp2_with fail
    go_ret2
    exact ⟨tup (by rw [HE.out.1]; rfl) HE.out.2.symm, Below.refl _ _⟩
  | true =>
    have HE : Hid (cleanP (lst s) = joinP (leftP (lst s)) ∧ errP (lst s) = 0) := ⟨if_pos hr, if_pos hr⟩
    rw [hr] at HR
    clear hr
    go_enter Try.func10, Try.ntmps10
    go_wp2_with fail
    refine HR.out.mono ?_
    rintro e w1 ⟨rfl, hw1⟩; subst w1
    go_wp2_with fail
    refine HL.out.mono ?_
    rintro e w2 ⟨v2, rfl, hown, hb⟩
    have HJ : Hid (Calls Try.prog 18 #[v2] w2 (Tells w2 (.string (bar (joinP (leftP (lst s))))))) := tjoin_any v2 _ _ w2 hown (by have h1 := HC.out.len; have h2 := len_joinF (leftP (lst s)); omega) (by have h1 := HC.out.len; omega)
    have HB : Hid (Below w.heap.size w w2) := hb
    clear hown hb
    go_wp2_with fail
    refine HJ.out.mono ?_
    rintro e w3 ⟨rfl, hb3⟩
    have HB3 : Hid (Below w.heap.size w w3) := HB.out.trans (hb3.mono HB.out.size)
    clear hb3
    go_wp2_with fail
    go_ret2
    exact ⟨tup (by rw [HE.out.1]) HE.out.2.symm, HB3.out⟩

set_option maxHeartbeats 4000000 in
theorem tup_any (s : ByteArray) (w : World) (hs : s.size ≤ 5000) :
    Calls Try.prog 12 #[.string s] w (Tells w (.tuple #[.string (bar (upP (lst s))), .int .i64 (errP (lst s))])) := by
  have HR : Hid (Calls Try.prog 14 #[.string s] w fun e w' => e = .returned (.bool (rightP (lst s))) ∧ w' = w) := tright_any s w
  have HL : Hid (Calls Try.prog 22 #[.string s] w fun e w' => RowR w (leftP (lst s)) e w') := tleft_any s w hs
  have HC : Hid (Cl (leftP (lst s))) := cl_left _
  cases hr : rightP (lst s) with
  | false =>
    have HE : Hid (upP (lst s) = [] ∧ errP (lst s) = 1) := ⟨by unfold upP; rw [hr]; rfl, by unfold errP; rw [hr]; rfl⟩
    rw [hr] at HR
    clear hr
    go_enter Try.func12, Try.ntmps12
    go_wp2_with fail
    refine HR.out.mono ?_
    rintro e w1 ⟨rfl, hw1⟩; subst w1
    go_wp2_with fail
    go_ret2
    exact ⟨tup (by rw [HE.out.1]; rfl) HE.out.2.symm, Below.refl _ _⟩
  | true =>
    have HE : Hid (upP (lst s) = joinP (leftP (lst s)).dropLast ∧ errP (lst s) = 0) := ⟨if_pos hr, if_pos hr⟩
    rw [hr] at HR
    clear hr
    generalize leftP (lst s) = L at *
    go_enter Try.func12, Try.ntmps12
    go_wp2_with fail
    refine HR.out.mono ?_
    rintro e w1 ⟨rfl, hw1⟩; subst w1
    go_wp2_with fail
    refine HL.out.mono ?_
    rintro e w2 ⟨v2, rfl, hown, hb⟩
    have HW : Hid (Calls Try.prog 24 #[v2] w2 fun e w' => (∃ x, e = .returned x ∧ w2.ownsRow w.heap.size 9 1 x L.dropLast.length (cellsT L.dropLast)) ∧ w' = w2) := row_wol hown (by have h1 := HC.out.len; have h2 := len_joinF L; omega)
    have HB : Hid (Below w.heap.size w w2) := hb
    clear hown hb
    go_wp2_with fail
    refine HW.out.mono ?_
    rintro e w3 ⟨⟨x, rfl, hx⟩, hw3⟩; subst w3
    have HJ : Hid (Calls Try.prog 18 #[x] w2 (Tells w2 (.string (bar (joinP L.dropLast))))) := tjoin_any x _ _ w2 hx (by have h1 := HC.out.drop.len; have h2 := len_joinF L.dropLast; omega) (by have h1 := HC.out.drop.len; omega)
    clear hx
    go_wp2_with fail
    refine HJ.out.mono ?_
    rintro e w3 ⟨rfl, hb3⟩
    have HB3 : Hid (Below w.heap.size w w3) := HB.out.trans (hb3.mono HB.out.size)
    clear hb3
    go_wp2_with fail
    go_ret2
    exact ⟨tup (by rw [HE.out.1]) HE.out.2.symm, HB3.out⟩

/-- a row, cut from above. -/
theorem cut_row {W : World} {base n c : Nat} {p : Option Addr} {xs : List Value} (h : W.ownsRow base 9 1 (.slice p n c) n xs) (i : Nat) (hi : i ≤ n) :
    ∀ w, (Instr.sliceAt 30 (.slice p n c) none (some (.int .i64 i)) none).run Try.prog w = .ok (.slice p i c) w := by
  have hu : Try.prog.underlying 30 = some (.slice (Try.prog.elem 30)) := by rw [ety_s.el]; exact ety_s.ht
  rcases id h.2 with ⟨e, h0⟩ | ⟨g, cap, cur, e, _, _, hc, _⟩
  · injection e with e1 e2 e3
    subst e1 e3
    obtain rfl : i = 0 := by omega
    intro w
    rw [run_sliceAt_slice w 30 _ _ _ _ hu, run_slice_h w 30 _ _ _ hu .i64 ((0 : Nat) : Int) (by omega) (by omega), ety_s.el, ety_s.sz]
    simp [Result.andThen, sliced]
  · injection e with e1 e2 e3
    subst e1 e3
    intro w
    rw [run_sliceAt_slice w 30 _ _ _ _ hu, run_slice_h w 30 _ _ _ hu .i64 i (by omega) (by omega), ety_s.el, ety_s.sz]
    simp only [Result.andThen_ok, sliced, Int.toNat_natCast, Nat.sub_zero, Nat.zero_mul]
    by_cases h0 : c = 0
    · rw [if_pos h0]
    · rw [if_neg h0, Option.map_some, Addr.add_lit, Nat.add_zero]

theorem cell_getD {L : List (List UInt8)} {j : Nat} (hj : j < L.length) : (cellsT L)[j]? = some (.string ((L.map bar).getD j ByteArray.empty)) := by
  unfold cellsT
  rw [List.getElem?_map, List.getElem?_eq_getElem hj]
  simp [List.getD, List.getElem?_map, List.getElem?_eq_getElem hj]
theorem take_prefix (A D : List (List UInt8)) (h : D.length ≤ A.length) : decide ((A.map bar).take D.length = (D.map bar).take D.length) = D.isPrefixOf A := by
  rw [Bool.eq_iff_iff, decide_eq_true_iff, List.isPrefixOf_iff_prefix, List.prefix_iff_eq_take, ← List.map_take, ← List.map_take, List.take_of_length_le (Nat.le_refl D.length)]
  constructor
  · intro e
    refine List.ext_getElem (by rw [List.length_take]; omega) fun k h1 h2 => ?_
    have h3 : ((A.take D.length).map bar)[k]? = (D.map bar)[k]? := by rw [e]
    rw [List.getElem?_map, List.getElem?_map, List.getElem?_eq_getElem h1, List.getElem?_eq_getElem h2] at h3
    exact (bar_inj (Option.some.inj h3)).symm
  · intro e
    rw [← e]

theorem teq_any {W : World} {b1 b2 : Nat} {p2 p3 : Option Addr} {c2 c3 : Nat} (A D : List (List UInt8)) (h2 : W.ownsRow b1 9 1 (.slice p2 A.length c2) A.length (cellsT A)) (h3 : W.ownsRow b2 9 1 (.slice p3 D.length c3) D.length (cellsT D)) (hl : D.length ≤ A.length) (ha : A.length ≤ 5000) :
    Calls Try.prog 31 #[.slice p2 D.length c2, .slice p3 D.length c3] W fun e w' => e = .returned (.bool (D.isPrefixOf A)) ∧ ∃ q, w' = W.drewN q := by
  rcases id h3.2 with ⟨e, h0⟩ | ⟨g3, cap3, cur3, e3, _, hg3, hc3, _⟩
  · have hD : D = [] := List.eq_nil_of_length_eq_zero h0
    subst hD
    exact (Try.slices_Equal_string_empty p2 p3 c2 0 c3 W (by decide)).mono fun e w' ⟨h1, h2⟩ => ⟨h1, 0, h2⟩
  · rcases id h2.2 with ⟨e, h0⟩ | ⟨g2, cap2, cur2, e2, _, hg2, hc2, _⟩
    · have hD : D = [] := List.eq_nil_of_length_eq_zero (by omega)
      subst hD
      exact (Try.slices_Equal_string_empty p2 p3 c2 0 c3 W (by decide)).mono fun e w' ⟨h1, h2⟩ => ⟨h1, 0, h2⟩
    · injection e2 with e2 _ _
      injection e3 with e3 _ _
      subst e2 e3
      have h := Try.slices_Equal_string g2 0 D.length c2 g3 0 D.length c3 (A.map bar) (D.map bar) W (by rw [List.length_map]; exact hl) (by rw [List.length_map]; exact Nat.le_refl _) (by omega) (by omega)
        (fun j hj => by
          rw [List.length_map] at hj
          have := h2.cells (g := g2) rfl j _ (cell_getD hj)
          rw [Addr.add_lit] at this
          exact this)
        (fun j hj => by
          rw [List.length_map] at hj
          have := h3.cells (g := g3) rfl j _ (cell_getD hj)
          rw [Addr.add_lit] at this
          exact this)
      rw [take_prefix A D hl] at h
      exact h

set_option maxHeartbeats 8000000 in
theorem twithin_any (s d : ByteArray) (w : World) (hs : s.size ≤ 5000) (hd : d.size ≤ 5000) :
    Calls Try.prog 20 #[.string s, .string d] w (Tells w (.bool (withinP (lst s) (lst d)))) := by
  have HR : Hid (Calls Try.prog 14 #[.string s] w fun e w' => e = .returned (.bool (rightP (lst s))) ∧ w' = w) := tright_any s w
  have HR2 : Hid (Calls Try.prog 14 #[.string d] w fun e w' => e = .returned (.bool (rightP (lst d))) ∧ w' = w) := tright_any d w
  have HL : Hid (Calls Try.prog 22 #[.string s] w fun e w' => RowR w (leftP (lst s)) e w') := tleft_any s w hs
  have HL2 : Hid (∀ W, Calls Try.prog 22 #[.string d] W fun e w' => RowR W (leftP (lst d)) e w') := fun W => tleft_any d W hd
  have HC : Hid (Cl (leftP (lst s)) ∧ Cl (leftP (lst d))) := ⟨cl_left _, cl_left _⟩
  cases hr : rightP (lst s) with
  | false =>
    have HE : Hid (withinP (lst s) (lst d) = false) := by show _ = _; unfold withinP; rw [hr]; rfl
    rw [hr] at HR
    clear hr hs hd
    go_enter Try.func20, Try.ntmps20
    go_wp2_with fail
    refine HR.out.mono ?_
    rintro e w1 ⟨rfl, hw1⟩; subst w1
    go_wp2_with fail
    go_ret
    exact ⟨by rw [HE.out]; rfl, Below.refl _ _⟩
  | true =>
    rw [hr] at HR
    cases hr2 : rightP (lst d) with
    | false =>
      have HE : Hid (withinP (lst s) (lst d) = false) := by show _ = _; unfold withinP; rw [hr, hr2]; rfl
      rw [hr2] at HR2
      clear hr hr2 hs hd
      go_enter Try.func20, Try.ntmps20
      go_wp2_with fail
      refine HR.out.mono ?_
      rintro e w1 ⟨rfl, hw1⟩; subst w1
      go_wp2_with fail
      refine HR2.out.mono ?_
      rintro e w1 ⟨rfl, hw1⟩; subst w1
      go_wp2_with fail
      go_ret
      exact ⟨by rw [HE.out]; rfl, Below.refl _ _⟩
    | true =>
      have HE : Hid (withinP (lst s) (lst d) = (leftP (lst d)).isPrefixOf (leftP (lst s))) := by show _ = _; unfold withinP; rw [hr, hr2]; rfl
      rw [hr2] at HR2
      clear hr hr2 hs hd
      generalize leftP (lst s) = A at *
      generalize leftP (lst d) = D at *
      go_enter Try.func20, Try.ntmps20
      go_wp2_with fail
      refine HR.out.mono ?_
      rintro e w1 ⟨rfl, hw1⟩; subst w1
      go_wp2_with fail
      refine HR2.out.mono ?_
      rintro e w1 ⟨rfl, hw1⟩; subst w1
      go_wp2_with fail
      refine HL.out.mono ?_
      rintro e w2 ⟨v2, rfl, hown2, hb2⟩
      obtain ⟨p2, c2, rfl⟩ := row_form hown2
      have HC2 : Hid (Calls Try.prog 22 #[.string d] w2 fun e w' => RowR w2 D e w') := HL2.out w2
      have H2 : Hid (w2.ownsRow w.heap.size 9 1 (.slice p2 A.length c2) A.length (cellsT A) ∧ Below w.heap.size w w2) := ⟨hown2, hb2⟩
      clear hown2 hb2
      go_wp2_with fail
      refine HC2.out.mono ?_
      rintro e w3 ⟨v3, rfl, hown3, hb3⟩
      obtain ⟨p3, c3, rfl⟩ := row_form hown3
      have H3 : Hid (w3.ownsRow w.heap.size 9 1 (.slice p2 A.length c2) A.length (cellsT A) ∧ Below w.heap.size w w3 ∧ w3.ownsRow w2.heap.size 9 1 (.slice p3 D.length c3) D.length (cellsT D)) := ⟨owns_below H2.out.1 hb3 (Nat.le_refl _), H2.out.2.trans (hb3.mono H2.out.2.size), hown3⟩
      clear hown3 hb3
      obtain ⟨n, hn⟩ : ∃ n, A.length = n := ⟨_, rfl⟩
      obtain ⟨m, hm⟩ : ∃ m, D.length = m := ⟨_, rfl⟩
      have HNM : Hid (A.length = n ∧ D.length = m ∧ n ≤ 256 ∧ m ≤ 256) := by
        have h1 := HC.out.1.len
        have h2 := len_joinF A
        have h3 := HC.out.2.len
        have h4 := len_joinF D
        exact ⟨hn, hm, by omega, by omega⟩
      by_cases hlt : n < m
      · have r1 : decide ((m : Int) ≤ (n : Int)) = false := decide_eq_false (by omega)
        have r1' : ¬ (m : Int) ≤ (n : Int) := by omega
        have HF : Hid (D.isPrefixOf A = false) := prefix_not (.inl (by rw [HNM.out.1, HNM.out.2.1]; exact hlt))
        rw [hn, hm]
        clear hn hm
        go_wp2_with fail
        go_ret
        exact ⟨by rw [HE.out, HF.out]; rfl, H3.out.2.1⟩
      · have r1 : decide ((m : Int) ≤ (n : Int)) = true := decide_eq_true (by omega)
        have r1' : (m : Int) ≤ (n : Int) := by omega
        have HQ : Hid (Calls Try.prog 31 #[.slice p2 m c2, .slice p3 m c3] w3 fun e w' => e = .returned (.bool (D.isPrefixOf A)) ∧ ∃ q, w' = w3.drewN q) := by
          have h := teq_any A D H3.out.1 H3.out.2.2 (by omega) (by have := HNM.out; omega)
          rw [hm] at h
          exact h
        have hcut : ∀ w, (Instr.sliceAt 30 (.slice p2 n c2) none (some (.int .i64 m)) none).run Try.prog w = .ok (.slice p2 m c2) w := by
          have h := H3.out.1
          rw [hn] at h
          exact cut_row h m (by omega)
        rw [hn, hm]
        clear hn hm
        go_wp2_with fail
        refine HQ.out.mono ?_
        rintro e w4 ⟨rfl, q, hw4⟩
        have HB4 : Hid (Below w.heap.size w w4) := by rw [hw4]; exact H3.out.2.1.trans ((below_drewN w3 q).mono H3.out.2.1.size)
        clear hw4
        generalize D.isPrefixOf A = bb at *
        go_wp2_with fail
        go_ret
        exact ⟨by rw [HE.out]; rfl, HB4.out⟩

theorem ifn : Ifn where
  base := {
    right := fun s W _ => (tright_any s W).mono fun _ _ ⟨h1, h2⟩ => ⟨h1, h2 ▸ Below.refl _ _⟩
    clean := fun s W hs => tclean_any s W hs
    up := fun s W hs => tup_any s W hs
    within := fun s d W hs hd => twithin_any s d W hs hd }
  names := fun s W hs => names_any s W hs
  join := fun v L base W h hl hj => tjoin_any v L base W h hl hj

end Go.Proofs.Ytkhojihmnplmcaa
