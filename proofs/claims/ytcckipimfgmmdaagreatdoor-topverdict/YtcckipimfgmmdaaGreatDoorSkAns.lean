/-
  What filters answer, as numbers.
-/
import Derived.Test.YtcckipimfgmmdaaGreatDoorSkRow
import Derived.Test.YtcckipimfgmmdaaGreatDoorSkMath
import Derived.Test.YtcckipimfgmmdaaGreatDoorVVRun
import Derived.Test.YtcckipimfgmmdaaGreatDoorAMem
namespace Go.Proofs.YtcckipimfgmmdaaGreatDoor.S
open Go.RowKit

/-- numbers as cells. -/
def cellsZ (l : List Int) : List Value := l.map (Value.int .u32)
theorem Tryz.infoU : (Tryz.prog.info? 23).map (fun i => (i.zero, i.size, i.bytes)) = some (some (.int .u32 0), 1, 4) := by kernel_rfl
theorem runV_ok (l : List V.In) (d : V.Da) (ho : ∀ x ∈ l, x.ok) (hd : d.ok) (n : Nat) : ∀ (p : Nat) (s : V.St), s.ok → (V.runV l d n p s).2.ok := by
  induction n with
  | zero => intro p s hs; exact hs
  | succ n ih =>
    intro p s hs
    unfold V.runV
    cases hx : l[p]? with
    | none => exact hs
    | some x => exact ih _ _ (V.nextV_ok _ d x p s hd (ho x (List.mem_of_getElem? hx)) hs)
theorem ansV_u (l : List V.In) (d : V.Da) (ho : ∀ x ∈ l, x.ok) (hd : d.ok) : A.U32 (V.ansV l d) := by
  unfold V.ansV
  split
  · exact (runV_ok l d ho hd _ 0 _ V.zero_st).2.2.1
  · exact ⟨by decide, by decide⟩
/-- what the filters answer, the newest first. -/
def ansL (ls : List (List V.In)) (d : V.Da) : List Int := (ls.map fun l => V.ansV l d).reverse
theorem ans_step {ls : List (List V.In)} {d : V.Da} {j : Nat} (h : j < ls.length) : ansL (ls.drop j) d = ansL (ls.drop (j + 1)) d ++ [V.ansV ls[j] d] := by
  unfold ansL
  rw [List.drop_eq_getElem_cons h, List.map_cons, List.reverse_cons]
theorem ansL_len (ls : List (List V.In)) (d : V.Da) : (ansL ls d).length = ls.length := by unfold ansL; rw [List.length_reverse, List.length_map]

theorem nine_of (d : V.Da) (h : d.ok) : ∃ d1 d2 d3 d4 d5 d6 d7 d8, d.cells = [.int .u32 d.n, d1, d2, d3, d4, d5, d6, d7, d8] := by
  obtain ⟨n, a, p, g⟩ := d
  obtain ⟨_, _, _, h6, _⟩ := h
  match g, h6 with
  | [g0, g1, g2, g3, g4, g5], _ => exact ⟨_, _, _, _, _, _, _, _, rfl⟩
theorem ns_of_own {w : World} {b : Nat} {v : Value} {l : List Int} (h : w.ownsRow b 23 1 v l.length (cellsZ l)) : ∃ a cap, v = .slice a l.length cap ∧ A.Ns .u32 w a l.length l ∧ l.length ≤ cap := by
  rcases h.2 with ⟨rfl, h0⟩ | ⟨g, cap, cur, rfl, hb, hg, hn, hm, _⟩
  · refine ⟨none, 0, by rw [h0], ?_, by omega⟩
    exact ⟨rfl, fun h1 => by omega⟩
  · refine ⟨_, cap, rfl, ⟨rfl, fun h1 => ⟨g, 0, rfl, fun i hi => ?_⟩⟩, hn⟩
    have := h.cells (g := g) rfl i (.int .u32 l[i]) (by unfold cellsZ; rw [List.getElem?_map, List.getElem?_eq_getElem hi]; rfl)
    rw [Addr.add_lit] at this
    rw [List.getD_eq_getElem?_getD, List.getElem?_eq_getElem hi]
    exact this
theorem find_none_at {L : List Int} {x : Int} {i : Nat} (h : ¬ i < L.length) (ha : ∀ j (hj : j < L.length), j < i → L[j] ≠ x) : L.findIdx? (fun y => y == x) = none := by
  rw [List.findIdx?_eq_none_iff]
  intro y hy
  obtain ⟨j, hj, rfl⟩ := List.getElem_of_mem hy
  simpa using ha j hj (by omega)
theorem find_some_at {L : List Int} {x : Int} {i : Nat} (h : i < L.length) (hx : L[i] = x) (ha : ∀ j (hj : j < L.length), j < i → L[j] ≠ x) : L.findIdx? (fun y => y == x) = some i := by
  rw [List.findIdx?_eq_some_iff_getElem]
  exact ⟨h, by rw [hx]; simp, fun j hj => by simpa using ha j (by omega) hj⟩

end Go.Proofs.YtcckipimfgmmdaaGreatDoor.S
