/-
  TpPar.
-/
import Derived.Test.YtmcgcbgblgmmkaaGreatDoorQ24
import Derived.Test.YtmcgcbgblgmmkaaGreatDoorQ36
namespace Go.Proofs.YtmcgcbgblgmmkaaGreatDoor
open Go.RowKit
def ofC (c : P.Cd) : M.Xc := ⟨c.arg, c.op, c.mask, c.val⟩
def ofR (r : P.Rl) : M.Xl := ⟨r.act.k, r.act.a, r.names.map M.bar, r.conds.map ofC⟩
theorem addr_add (g i : Nat) : (⟨g, 0, none⟩ : Addr).add i = ⟨g, i, none⟩ := by unfold Addr.add; split <;> simp_all
theorem owns_strR {w : World} {base : Nat} {v : Value} {l : List (List UInt8)} (h : w.ownsRow base 9 1 v l.length (P.cellsN l)) : M.StrR w v (l.map M.bar) := by
 rcases h.2 with ⟨rfl, h0⟩ | ⟨g, cap, cur, rfl, hb, hg, hnc, hcm, hcs, htake⟩
 ·exact ⟨none, 0, by rw [List.length_map, h0], by rw [List.length_map, h0]; exact Nat.le_refl _, by decide, fun h => absurd h (by rw [List.length_map]; omega)⟩
 ·refine ⟨_, cap, by rw [List.length_map], by rw [List.length_map]; exact hnc, by unfold maxLen at hcm; omega, fun _ => ⟨g, 0, rfl, fun i s hs => ?_⟩⟩
  rw [List.getElem?_map] at hs
  cases hj : l[i]? with
  | none => rw [hj] at hs; cases hs
  | some y =>
   rw [hj] at hs
   cases hs
   have := h.cells (g := g) rfl i (.string (M.bar y)) (by simp [P.cellsN, hj, P.nameC])
   rw [addr_add] at this
   rw [Nat.zero_add]
   exact this
theorem owns_cdR {w : World} {base : Nat} {v : Value} {l : List P.Cd} (h : w.ownsRow base 222 4 v l.length (P.cellsC l)) : M.CdR w v (l.map ofC) := by
 rcases h.2 with ⟨rfl, h0⟩ | ⟨g, cap, cur, rfl, hb, hg, hnc, hcm, hcs, htake⟩
 ·exact ⟨none, 0, by rw [List.length_map, h0], by rw [List.length_map, h0]; exact Nat.le_refl _, by decide, fun h => absurd h (by rw [List.length_map]; omega)⟩
 ·refine ⟨_, cap, by rw [List.length_map], by rw [List.length_map]; exact hnc, by unfold maxLen at hcm; omega, fun _ => ⟨g, 0, rfl, fun i s hs => ?_⟩⟩
  rw [List.getElem?_map] at hs
  cases hj : l[i]? with
  | none => rw [hj] at hs; cases hs
  | some y =>
   rw [hj] at hs
   cases hs
   have key : ∀ c u, c < 4 -> y.cells[c]? = some u -> w.cell? ⟨g, i * 4 + c, none⟩ = some u := by
    intro c u hc hu
    have := h.cells (g := g) rfl (i * 4 + c) u (by rw [P.cellsC_get l i y c hj hc]; exact hu)
    rw [addr_add] at this
    exact this
   rw [Nat.zero_add]
   exact ⟨key 0 _ (by decide) rfl, key 1 _ (by decide) rfl, key 2 _ (by decide) rfl, key 3 _ (by decide) rfl⟩
def ofV (x : P.Rv) : M.Xr := ⟨ofR x.r, x.vn, x.vc⟩
theorem owns_rlR {w : World} {base : Nat} {v : Value} {rv : List P.Rv} (h : w.ownsRow base 150 4 v rv.length (P.cellsR rv)) (hr : ∀ x ∈ rv, P.Rows2 w base x) : M.RlR w v (rv.map ofV) := by
 have hs : ∀ x ∈ rv.map ofV, M.StrR w x.vn x.r.names /\ M.CdR w x.vc x.r.conds := by
  intro x hx
  obtain ⟨y, hy, rfl⟩ := List.mem_map.1 hx
  exact ⟨owns_strR (hr y hy).1, owns_cdR (hr y hy).2⟩
 rcases h.2 with ⟨rfl, h0⟩ | ⟨g, cap, cur, rfl, hb, hg, hnc, hcm, hcs, htake⟩
 ·exact ⟨none, 0, by rw [List.length_map, h0], by rw [List.length_map, h0]; exact Nat.le_refl _, by decide, fun h => absurd h (by rw [List.length_map]; omega), hs⟩
 ·refine ⟨_, cap, by rw [List.length_map], by rw [List.length_map]; exact hnc, by unfold maxLen at hcm; omega, fun _ => ⟨g, 0, rfl, fun i s hs => ?_⟩, hs⟩
  rw [List.getElem?_map] at hs
  cases hj : rv[i]? with
  | none => rw [hj] at hs; cases hs
  | some y =>
   rw [hj] at hs
   cases hs
   have key : ∀ c u, c < 4 -> y.cells[c]? = some u -> w.cell? ⟨g, i * 4 + c, none⟩ = some u := by
    intro c u hc hu
    have := h.cells (g := g) rfl (i * 4 + c) u (by rw [P.cellsR_get rv i y c hj hc]; exact hu)
    rw [addr_add] at this
    exact this
   rw [Nat.zero_add]
   exact ⟨key 0 _ (by decide) rfl, key 1 _ (by decide) rfl, key 2 _ (by decide) rfl, key 3 _ (by decide) rfl⟩
def ParM (r : Except (Nat × Nat) (P.Ac × List P.Rl)) (e : Ending) (w' : World) : Prop :=
 match r with
 | .error (c, p) => c ≠ 0 /\ e = .returned (.tuple #[.agg #[.int .i64 0, .int .i64 0, .slice none 0 0], .int .i64 c, .int .i64 p])
 | .ok (d, rs) => ∃ v l, l.map M.Xr.r = rs.map ofR /\ e = .returned (.tuple #[.agg #[.int .i64 d.k, .int .i64 d.a, v], .int .i64 0, .int .i64 (-1)]) /\ M.RlR w' v l /\ Few l /\ Fits0 l
theorem prs_code {l : List UInt8} {c p : Nat} (h : P.prs l = .error (c, p)) : c ≠ 0 := by
 by_cases hl : l.length <= 8192
 ·have := (P.prs_place h hl).1
  omega
 ·unfold P.prs P.all at h
  rw [if_pos (by omega)] at h
  cases h
  decide
theorem few_of {l : List UInt8} {d : P.Ac} {rs : List P.Rl} (h : P.prs l = .ok (d, rs)) {rv : List P.Rv} (hr : rs = rv.map P.Rv.r) : Few (rv.map ofV) /\ Fits0 (rv.map ofV) := by
 obtain ⟨_, h1, h2⟩ := P.prs_bound h
 obtain ⟨_, h3⟩ := P.prs_Z h
 dsimp only at h1 h2 h3
 subst hr
 refine ⟨⟨by rw [List.length_map] at h1 ⊢; omega, fun x hx => ?_⟩, fun x hx c hc => ?_⟩
 ·obtain ⟨y, hy, rfl⟩ := List.mem_map.1 hx
  have := h2 y.r (List.mem_map.2 ⟨y, hy, rfl⟩)
  have a1 := this.n16
  have a2 := this.c8
  exact ⟨by show (y.r.names.map M.bar).length <= 40; rw [List.length_map]; omega, by show (y.r.conds.map ofC).length <= 40; rw [List.length_map]; omega, trivial⟩
 ·obtain ⟨y, hy, rfl⟩ := List.mem_map.1 hx
  obtain ⟨u, hu, rfl⟩ := List.mem_map.1 hc
  obtain ⟨a1, a2⟩ := (h3 y.r (List.mem_map.2 ⟨y, hy, rfl⟩)).2 u hu
  exact ⟨⟨by show (0 : Int) <= (u.mask : Int); omega, by show (u.mask : Int) <= 18446744073709551615; omega⟩, ⟨by show (0 : Int) <= (u.val : Int); omega, by show (u.val : Int) <= 18446744073709551615; omega⟩⟩
theorem parseM (s : ByteArray) (w : World) (hv : P.Vars w) :
  Calls Tryz.prog 14 #[.string s] w fun e w' => Below w.heap.size w w' /\ ParM (P.prs (M.lst s)) e w' := by
 refine (P.parse_any s w hv).mono ?_
 rintro e w' ⟨hb, h⟩
 refine ⟨hb, ?_⟩
 rcases hR : P.prs (M.lst s) with ⟨c, p⟩ | ⟨d, rs⟩
 ·rw [hR] at h
  exact ⟨prs_code hR, h⟩
 ·rw [hR] at h
  obtain ⟨v, rv, h1, h2, h3, h4⟩ := h
  obtain ⟨f1, f2⟩ := few_of hR h1
  exact ⟨v, rv.map ofV, by rw [h1, List.map_map, List.map_map]; rfl, h2, owns_rlR h3 h4, f1, f2⟩
end Go.Proofs.YtmcgcbgblgmmkaaGreatDoor
