/-
  The program's Join; a row without its last name.
-/
import Derived.Test.YtilemgpopjlchaaDoorTLf
import Derived.Lib.Join
namespace Go.Proofs.YtilemgpopjlchaaDoor
open Go.RowKit Go.Shelf

theorem joinP_cons (L : List (List UInt8)) : joinP L = 47 :: Lib.join L [47] := by
  cases L with
  | nil => rfl
  | cons x r =>
    rw [Lib.join_cons]
    unfold joinP
    rw [if_neg (by simp)]
    have e : joinF r = Lib.joinTail [47] r := by
      unfold joinF Lib.joinTail
      rw [List.flatMap_def]
      rfl
    show 47 :: (x ++ joinF r) = 47 :: (x ++ Lib.joinTail [47] r)
    rw [e]
theorem map_bar (L : List (List UInt8)) : (L.map bar).map (fun b => b.data.toList) = L := by
  rw [List.map_map]
  conv => rhs; rw [← List.map_id L]
  exact List.map_congr_left fun x _ => lst_bar x

set_option maxHeartbeats 4000000 in
theorem tjoin_any (v : Value) (L : List (List UInt8)) (base : Nat) (w : World) (h : w.ownsRow base 9 1 v L.length (cellsT L)) (hl : L.length ≤ 100000) (hj : (joinF L).length ≤ 1000000) :
    Calls Tryd.prog 32 #[v] w (Tells w (.string (bar (joinP L)))) := by
  have HB : Hid ((bar (Lib.join L [47])).size ≤ 1000000 ∧ ByteArray.append ⟨#[47]⟩ (bar (Lib.join L [47])) = bar (joinP L)) := by
    have e := joinP_cons L
    refine ⟨?_, ?_⟩
    · rw [bar_size]
      unfold joinP at e
      split at e
      · have := congrArg List.length e
        simp only [List.length_cons, List.length_nil] at this
        omega
      · have := congrArg List.length e
        rw [List.length_cons] at this
        omega
    · apply lst_inj
      rw [e, lst_bar]
      exact (lst_app _ _).trans (by rw [lst_bar]; rfl)
  have HC : Hid (Calls Tryd.prog 50 #[v, .string ⟨#[47]⟩] w fun e w' => e = .returned (.string (bar (Lib.join L [47]))) ∧ Below w.heap.size w w') := by
    rcases id h.2 with ⟨rfl, h0⟩ | ⟨g, cap, cur, rfl, _, hg, hc, _⟩
    · have hL : L = [] := List.eq_nil_of_length_eq_zero h0
      subst hL
      exact (Tryd.strings_Join_none none 0 ⟨#[47]⟩ w).mono fun e w' ⟨h1, h2⟩ => ⟨h1, h2 ▸ Below.refl _ _⟩
    · have hs := Tryd.strings_Join g 0 cap (L.map bar) ⟨#[47]⟩ w (fun j x hx => by
          have := h.cells (g := g) rfl j (.string x) (by
            unfold cellsT
            rw [List.getElem?_map] at hx ⊢
            cases hq : L[j]? with
            | none => rw [hq] at hx; cases hx
            | some y =>
              rw [hq] at hx
              cases hx
              rfl)
          rw [Addr.add_lit] at this
          exact this) (Array.getElem?_eq_some_iff.1 hg).1 (by rw [List.length_map]; omega) (by rw [List.length_map]; exact hc) (by
          rw [map_bar]
          have := HB.out.1
          rw [bar_size] at this
          exact Nat.le_trans this (by decide))
      rw [map_bar, List.length_map] at hs
      exact hs
  generalize bar (Lib.join L [47]) = b at *
  have hb1 : ¬ 9223372036854775807 < 1 + b.size := by have := HB.out.1; omega
  clear h hl hj
  go_enter Tryd.func32, Tryd.ntmps32
  go_wp2_with fail
  refine HC.out.mono ?_
  rintro e w1 ⟨rfl, hw1⟩
  have HW : Hid (Below w.heap.size w w1) := hw1
  clear hw1
  go_wp2_with fail
  go_ret
  exact ⟨congrArg (fun x => Ending.returned (.string x)) HB.out.2, HW.out⟩

/-- a row without its last name. -/
theorem row_wol {W : World} {base : Nat} {v : Value} {L : List (List UInt8)} (h : W.ownsRow base 9 1 v L.length (cellsT L)) (hl : L.length ≤ 5000) :
    Calls Tryd.prog 51 #[v] W fun e w' => (∃ x, e = .returned x ∧ W.ownsRow base 9 1 x L.dropLast.length (cellsT L.dropLast)) ∧ w' = W := by
  by_cases h0 : L.length = 0
  · have hL : L = [] := List.eq_nil_of_length_eq_zero h0
    subst hL
    rcases id h.2 with ⟨rfl, _⟩ | ⟨g, cap, cur, rfl, _⟩
    · exact (twol_none W).mono fun e w' ⟨h1, h2⟩ => ⟨⟨_, h1, h⟩, h2⟩
    · exact (twol_empty g cap W).mono fun e w' ⟨h1, h2⟩ => ⟨⟨_, h1, h⟩, h2⟩
  · obtain ⟨m, hm⟩ : ∃ m, L.length = m + 1 := ⟨L.length - 1, by omega⟩
    obtain ⟨p, c, rfl⟩ := row_form h
    obtain ⟨g, hp, hnc, hcut⟩ := own_cut h (m := m) (by omega) (by omega)
    subst hp
    have e1 : (cellsT L).take m = cellsT L.dropLast := by
      unfold cellsT
      rw [← List.map_take, List.dropLast_eq_take, hm]
      rfl
    have e2 : L.dropLast.length = m := by rw [List.length_dropLast]; omega
    rw [e1] at hcut
    rw [e2]
    have ht := twol_some g m c W (by omega) (by omega)
    rw [← hm] at ht
    exact ht.mono fun e w' ⟨h1, h2⟩ => ⟨⟨_, h1, hcut⟩, h2⟩

end Go.Proofs.YtilemgpopjlchaaDoor
