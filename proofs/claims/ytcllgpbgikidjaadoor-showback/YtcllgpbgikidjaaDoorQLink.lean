/-
  What Parse tells, for whoever shows it.
-/
import Derived.Test.YtcllgpbgikidjaaDoorQBound
import Derived.Test.YtcllgpbgikidjaaDoorPar
namespace Go.Proofs.YtcllgpbgikidjaaDoor
open Go.RowKit

theorem addr_add (g i : Nat) : (⟨g, 0, none⟩ : Addr).add i = ⟨g, i, none⟩ := by unfold Addr.add; split <;> simp_all

theorem owns_strR {w : World} {base : Nat} {v : Value} {l : List (List UInt8)} (h : w.ownsRow base 9 1 v l.length (cellsN l)) : StrR w v (l.map bar) := by
  rcases h.2 with ⟨rfl, h0⟩ | ⟨g, cap, cur, rfl, hb, hg, hnc, hcm, hcs, htake⟩
  · exact ⟨none, 0, by rw [List.length_map, h0], by rw [List.length_map, h0]; exact Nat.le_refl _, by decide, fun h => absurd h (by rw [List.length_map]; omega)⟩
  · refine ⟨_, cap, by rw [List.length_map], by rw [List.length_map]; exact hnc, by unfold maxLen at hcm; omega, fun _ => ⟨g, 0, rfl, fun i s hs => ?_⟩⟩
    rw [List.getElem?_map] at hs
    cases hj : l[i]? with
    | none => rw [hj] at hs; cases hs
    | some y =>
      rw [hj] at hs
      cases hs
      have := h.cells (g := g) rfl i (.string (bar y)) (by simp [cellsN, hj, nameC])
      rw [addr_add] at this
      rw [Nat.zero_add]
      exact this

theorem owns_cdR {w : World} {base : Nat} {v : Value} {l : List Cd} (h : w.ownsRow base 39 4 v l.length (cellsC l)) : CdR w v (l.map ofC) := by
  rcases h.2 with ⟨rfl, h0⟩ | ⟨g, cap, cur, rfl, hb, hg, hnc, hcm, hcs, htake⟩
  · exact ⟨none, 0, by rw [List.length_map, h0], by rw [List.length_map, h0]; exact Nat.le_refl _, by decide, fun h => absurd h (by rw [List.length_map]; omega)⟩
  · refine ⟨_, cap, by rw [List.length_map], by rw [List.length_map]; exact hnc, by unfold maxLen at hcm; omega, fun _ => ⟨g, 0, rfl, fun i s hs => ?_⟩⟩
    rw [List.getElem?_map] at hs
    cases hj : l[i]? with
    | none => rw [hj] at hs; cases hs
    | some y =>
      rw [hj] at hs
      cases hs
      have key : ∀ c u, c < 4 → y.cells[c]? = some u → w.cell? ⟨g, i * 4 + c, none⟩ = some u := by
        intro c u hc hu
        have := h.cells (g := g) rfl (i * 4 + c) u (by rw [cellsC_get l i y c hj hc]; exact hu)
        rw [addr_add] at this
        exact this
      rw [Nat.zero_add]
      exact ⟨key 0 _ (by decide) rfl, key 1 _ (by decide) rfl, key 2 _ (by decide) rfl, key 3 _ (by decide) rfl⟩

/-- a rule as it lies, for whoever shows it. -/
def ofV (x : Rv) : Xr := ⟨ofR x.r, x.vn, x.vc⟩

theorem owns_rlR {w : World} {base : Nat} {v : Value} {rv : List Rv} (h : w.ownsRow base 42 4 v rv.length (cellsR rv)) (hr : ∀ x ∈ rv, Rows2 w base x) : RlR w v (rv.map ofV) := by
  have hs : ∀ x ∈ rv.map ofV, StrR w x.vn x.r.names ∧ CdR w x.vc x.r.conds := by
    intro x hx
    obtain ⟨y, hy, rfl⟩ := List.mem_map.1 hx
    exact ⟨owns_strR (hr y hy).1, owns_cdR (hr y hy).2⟩
  rcases h.2 with ⟨rfl, h0⟩ | ⟨g, cap, cur, rfl, hb, hg, hnc, hcm, hcs, htake⟩
  · exact ⟨none, 0, by rw [List.length_map, h0], by rw [List.length_map, h0]; exact Nat.le_refl _, by decide, fun h => absurd h (by rw [List.length_map]; omega), hs⟩
  · refine ⟨_, cap, by rw [List.length_map], by rw [List.length_map]; exact hnc, by unfold maxLen at hcm; omega, fun _ => ⟨g, 0, rfl, fun i s hs => ?_⟩, hs⟩
    rw [List.getElem?_map] at hs
    cases hj : rv[i]? with
    | none => rw [hj] at hs; cases hs
    | some y =>
      rw [hj] at hs
      cases hs
      have key : ∀ c u, c < 4 → y.cells[c]? = some u → w.cell? ⟨g, i * 4 + c, none⟩ = some u := by
        intro c u hc hu
        have := h.cells (g := g) rfl (i * 4 + c) u (by rw [cellsR_get rv i y c hj hc]; exact hu)
        rw [addr_add] at this
        exact this
      rw [Nat.zero_add]
      exact ⟨key 0 _ (by decide) rfl, key 1 _ (by decide) rfl, key 2 _ (by decide) rfl, key 3 _ (by decide) rfl⟩

/-- what is told of a text, for whoever shows it. -/
def ParX (r : Except (Nat × Nat) (Ac × List Rl)) (e : Ending) (w' : World) : Prop :=
  match r with
  | .error (c, p) => e = .returned (.tuple #[.agg #[.int .i64 0, .int .i64 0, .slice none 0 0], .int .i64 c, .int .i64 p])
  | .ok (d, rs) => ∃ v l, l.map Xr.r = rs.map ofR ∧ e = .returned (.tuple #[.agg #[.int .i64 d.k, .int .i64 d.a, v], .int .i64 0, .int .i64 (-1)]) ∧ RlR w' v l

theorem parseX (s : ByteArray) (w : World) (hv : Vars w) :
    Calls Tryd.prog 9 #[.string s] w fun e w' => Below w.heap.size w w' ∧ ParX (prs (lst s)) e w' := by
  refine (parse_any s w hv).mono ?_
  rintro e w' ⟨hb, h⟩
  refine ⟨hb, ?_⟩
  generalize prs (lst s) = R at *
  obtain ⟨c, p⟩ | ⟨d, rs⟩ := R
  · exact h
  · obtain ⟨v, rv, rfl, h2, h3, h4⟩ := h
    exact ⟨v, rv.map ofV, by rw [List.map_map, List.map_map]; rfl, h2, owns_rlR h3 h4⟩

end Go.Proofs.YtcllgpbgikidjaaDoor
