/-
  Rows of texts that may begin anywhere: cut from above and from below.
-/
import Derived.Test.YtilemgpopjlchaaDoorVIfc
namespace Go.Proofs.YtilemgpopjlchaaDoor
open Go.RowKit

/-- texts that a slice leads to, its room known. -/
def TxN (w : World) (v : Value) (L : List Nm) : Prop :=
  ∃ p c, v = .slice p L.length c ∧ (p = none → c = 0) ∧ L.length ≤ c ∧ (0 < c → ∃ b o, p = some ⟨b, o, none⟩ ∧ ∀ (i : Nat) (x : Nm), L[i]? = some x → w.cell? ⟨b, o + i, none⟩ = some (.string (bar x)))
theorem TxN.over {w w' : World} {v : Value} {L : List Nm} (h : TxN w v L) (hb : Below w.heap.size w w') : TxN w' v L := by
  obtain ⟨p, c, e, h1, h2, h3⟩ := h
  refine ⟨p, c, e, h1, h2, fun h0 => ?_⟩
  obtain ⟨b, o, e2, hc⟩ := h3 h0
  refine ⟨b, o, e2, fun i x hi => ?_⟩
  have := hc i x hi
  rw [hb.cell (p := ⟨b, o + i, none⟩) (World.block_lt_of_cell? w _ this)]
  exact this
theorem TxN.form {w : World} {v : Value} {L : List Nm} (h : TxN w v L) : ∃ p c, v = .slice p L.length c := by
  obtain ⟨p, c, e, _⟩ := h
  exact ⟨p, c, e⟩
theorem TxN.nil (w : World) : TxN w (.slice none 0 0) [] := ⟨none, 0, rfl, fun _ => rfl, Nat.le_refl _, fun h => absurd h (Nat.lt_irrefl 0)⟩
theorem TxN.txR {w : World} {v : Value} {L : List Nm} (h : TxN w v L) : TxR w v L := by
  obtain ⟨p, c, e, h1, h2, h3⟩ := h
  refine ⟨p, c, by rw [cellsT_len]; exact e, fun hp => ?_, fun a ha j u hu => ?_⟩
  · have hc := h1 hp
    have : L = [] := List.eq_nil_of_length_eq_zero (by omega)
    exact ⟨by rw [this]; rfl, hc⟩
  · unfold cellsT at hu
    rw [List.getElem?_map] at hu
    cases hj : L[j]? with
    | none => rw [hj] at hu; cases hu
    | some x =>
      rw [hj] at hu
      cases hu
      have hl := (List.getElem?_eq_some_iff.1 hj).1
      obtain ⟨b, o, e2, hc⟩ := h3 (by omega)
      rw [ha] at e2
      cases e2
      rw [Addr.add_lit]
      exact hc j x hj
theorem tx_own {w : World} {base n : Nat} {v : Value} {L : List Nm} (h : w.ownsRow base 9 1 v n (cellsT L)) : TxN w v L := by
  have hn : L.length = n := by have := h.1; rw [cellsT_len] at this; omega
  subst hn
  rcases id h.2 with ⟨rfl, h0⟩ | ⟨g, cap, cur, rfl, _, _, h3, _⟩
  · exact ⟨none, 0, by rw [h0], fun _ => rfl, by omega, fun h => absurd h (Nat.lt_irrefl 0)⟩
  · refine ⟨_, cap, rfl, (fun e => by cases e), h3, fun _ => ⟨g, 0, rfl, fun i x hi => ?_⟩⟩
    have := h.cells (g := g) rfl i (.string (bar x)) (by unfold cellsT; rw [List.getElem?_map, hi]; rfl)
    rw [Addr.add_lit] at this
    exact this
theorem TxN.at {w : World} {p : Option Addr} {n c i : Nat} {L : List Nm} (h : TxN w (.slice p n c) L) (hi : i < L.length) : ∃ b o, p = some ⟨b, o, none⟩ ∧ w.cell? ⟨b, o + i, none⟩ = some (.string (bar L[i])) := by
  obtain ⟨p', c', e, h1, h2, h3⟩ := h
  cases e
  obtain ⟨b, o, e2, hc⟩ := h3 (by omega)
  exact ⟨b, o, e2, hc i _ (List.getElem?_eq_getElem hi)⟩
/-- cut from above. -/
theorem TxN.hi {W : World} {p : Option Addr} {n c : Nat} {L : List Nm} (h : TxN W (.slice p n c) L) (i : Nat) (hi : i ≤ n) :
    TxN W (.slice p i c) (L.take i) ∧ ∀ w, (Instr.sliceAt 52 (.slice p n c) none (some (.int .i64 i)) none).run Tryd.prog w = .ok (.slice p i c) w := by
  have hu : Tryd.prog.underlying 52 = some (.slice (Tryd.prog.elem 52)) := by rw [ety_s.el]; exact ety_s.ht
  obtain ⟨p', c', e, h1, h2, h3⟩ := h
  injection e with e1 e2 e3
  subst e1 e2 e3
  have hl : (L.take i).length = i := by rw [List.length_take]; omega
  refine ⟨⟨p, c, by rw [hl], h1, by omega, fun h0 => ?_⟩, fun w => ?_⟩
  · obtain ⟨b, o, e2, hc⟩ := h3 h0
    refine ⟨b, o, e2, fun j x hj => hc j x ?_⟩
    rw [List.getElem?_take] at hj
    split at hj
    · exact hj
    · cases hj
  · rw [run_sliceAt_slice w 52 _ _ _ _ hu, run_slice_h w 52 _ _ _ hu .i64 i (by omega) (by omega), ety_s.el, ety_s.sz]
    simp only [Result.andThen_ok, sliced, Int.toNat_natCast, Nat.sub_zero, Nat.zero_mul]
    by_cases h0 : c = 0
    · rw [if_pos h0]
    · rw [if_neg h0]
      obtain ⟨b, o, e2, _⟩ := h3 (by omega)
      subst e2
      rw [Option.map_some, Addr.add_lit, Nat.add_zero]
/-- cut from below. -/
theorem TxN.lo {W : World} {p : Option Addr} {n c : Nat} {L : List Nm} (h : TxN W (.slice p n c) L) (i : Nat) (hi : i ≤ n) :
    ∃ x, TxN W x (L.drop i) ∧ ∀ w, (Instr.sliceAt 52 (.slice p n c) (some (.int .i64 i)) none none).run Tryd.prog w = .ok x w := by
  have hu : Tryd.prog.underlying 52 = some (.slice (Tryd.prog.elem 52)) := by rw [ety_s.el]; exact ety_s.ht
  obtain ⟨p', c', e, h1, h2, h3⟩ := h
  injection e with e1 e2 e3
  subst e1 e2 e3
  refine ⟨sliced p i L.length c 1, ?_, fun w => ?_⟩
  · unfold sliced
    by_cases h0 : c = i
    · have hd : L.drop i = [] := List.drop_of_length_le (by omega)
      rw [if_pos h0, hd, show c - i = 0 by omega]
      by_cases hc0 : c = 0
      · exact ⟨_, 0, by rw [show L.length - i = 0 by omega]; rfl, fun _ => rfl, Nat.le_refl _, fun h => absurd h (Nat.lt_irrefl 0)⟩
      · exact ⟨_, 0, by rw [show L.length - i = 0 by omega]; rfl, fun _ => rfl, Nat.le_refl _, fun h => absurd h (Nat.lt_irrefl 0)⟩
    · rw [if_neg h0]
      obtain ⟨b, o, e2, hc⟩ := h3 (by omega)
      subst e2
      rw [Option.map_some, Nat.mul_one, Addr.add_lit]
      refine ⟨_, c - i, by rw [List.length_drop], (fun e => by cases e), by rw [List.length_drop]; omega, fun _ => ⟨b, o + i, rfl, fun j x hj => ?_⟩⟩
      rw [List.getElem?_drop] at hj
      rw [Nat.add_assoc]
      exact hc (i + j) x hj
  · rw [run_sliceAt_slice w 52 _ _ _ _ hu, run_slice_l w 52 _ _ _ hu .i64 i (by omega) (by omega), ety_s.el, ety_s.sz]
    rfl

end Go.Proofs.YtilemgpopjlchaaDoor
