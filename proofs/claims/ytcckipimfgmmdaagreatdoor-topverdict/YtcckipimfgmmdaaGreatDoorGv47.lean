/-
  Texts of this seat, joined: TpPar.
-/
import Derived.Test.YtcckipimfgmmdaaGreatDoorGv12
import Derived.Test.YtcckipimfgmmdaaGreatDoorGv2
import Derived.Test.YtcckipimfgmmdaaGreatDoorGv46

namespace Go.Proofs.YtcckipimfgmmdaaGreatDoor.P
open Go

def AcZ (a : Ac) : Prop := numK a.k = false → a.a = 0
def CdZ (c : Cd) : Prop := c.mask < 18446744073709551616 ∧ c.val < 18446744073709551616
def RlZ (r : Rl) : Prop := AcZ r.act ∧ ∀ c ∈ r.conds, CdZ c
def RsZ (rs : List Rl) : Prop := ∀ r ∈ rs, RlZ r
def CsZ (cs : List Cd) : Prop := ∀ c ∈ cs, CdZ c

theorem RsZ.snoc {rs : List Rl} {r : Rl} (h : RsZ rs) (hr : RlZ r) : RsZ (rs ++ [r]) := by
  intro x hx
  rcases List.mem_append.1 hx with h1 | h1
  · exact h x h1
  · have : x = r := by simpa using h1
    subst this
    exact hr
theorem CsZ.snoc {cs : List Cd} {c : Cd} (h : CsZ cs) (hc : CdZ c) : CsZ (cs ++ [c]) := by
  intro x hx
  rcases List.mem_append.1 hx with h1 | h1
  · exact h x h1
  · have : x = c := by simpa using h1
    subst this
    exact hc
theorem csZ_nil : CsZ [] := fun c hc => by cases hc

def InvZ : St → Prop
  | .inl () => True
  | .inr (.inl ()) => True
  | .inr (.inr (.inl k)) => numK k = true
  | .inr (.inr (.inr (.inl d))) => AcZ d
  | .inr (.inr (.inr (.inr (.inl (d, rs))))) => AcZ d ∧ RsZ rs
  | .inr (.inr (.inr (.inr (.inr (.inl (d, rs, k)))))) => AcZ d ∧ RsZ rs ∧ numK k = true
  | .inr (.inr (.inr (.inr (.inr (.inr (.inl (d, rs, a, _))))))) => AcZ d ∧ RsZ rs ∧ AcZ a
  | .inr (.inr (.inr (.inr (.inr (.inr (.inr (.inl (d, rs, a, _)))))))) => AcZ d ∧ RsZ rs ∧ AcZ a
  | .inr (.inr (.inr (.inr (.inr (.inr (.inr (.inr (.inl (d, rs, a, _, cs))))))))) => AcZ d ∧ RsZ rs ∧ AcZ a ∧ CsZ cs
  | .inr (.inr (.inr (.inr (.inr (.inr (.inr (.inr (.inr (.inl (d, rs, a, _, cs, _)))))))))) => AcZ d ∧ RsZ rs ∧ AcZ a ∧ CsZ cs
  | .inr (.inr (.inr (.inr (.inr (.inr (.inr (.inr (.inr (.inr (.inl (d, rs, a, _, cs, _))))))))))) => AcZ d ∧ RsZ rs ∧ AcZ a ∧ CsZ cs
  | .inr (.inr (.inr (.inr (.inr (.inr (.inr (.inr (.inr (.inr (.inr (.inl (d, rs, a, _, cs, _, m)))))))))))) => AcZ d ∧ RsZ rs ∧ AcZ a ∧ CsZ cs ∧ m < 18446744073709551616
  | .inr (.inr (.inr (.inr (.inr (.inr (.inr (.inr (.inr (.inr (.inr (.inr (.inl (d, rs, a, _, cs, _, m, _))))))))))))) => AcZ d ∧ RsZ rs ∧ AcZ a ∧ CsZ cs ∧ m < 18446744073709551616
  | .inr (.inr (.inr (.inr (.inr (.inr (.inr (.inr (.inr (.inr (.inr (.inr (.inr (d, rs, a, _, cs))))))))))))) => AcZ d ∧ RsZ rs ∧ AcZ a ∧ CsZ cs

theorem acz_num {k n : Nat} (h : numK k = true) : AcZ ⟨k, n⟩ := fun h2 => by
  have : numK k = false := h2
  rw [h] at this
  cases this
theorem acz_zero (k : Nat) : AcZ ⟨k, 0⟩ := fun _ => rfl

theorem step_invZ {S S' : St} {x : Tok} (h : InvZ S) (hx : x.n < 18446744073709551616) (hs : step S x = .ok S') : InvZ S' := by
  cases S using St.every <;> simp only [step] at hs
  case s0 => split at hs <;> cases hs; trivial
  case s1 =>
    split at hs
    · split at hs
      · next h1 => cases hs; exact h1
      · cases hs; exact acz_zero _
    · cases hs
  case s2 k =>
    split at hs
    · split at hs
      · cases hs
      · cases hs; exact acz_num h
    · cases hs
  case s3 d =>
    split at hs
    · cases hs; exact ⟨h, fun r hr => by cases hr⟩
    · cases hs
  case s4 d rs =>
    split at hs
    · split at hs
      · cases hs
      · split at hs
        · next h1 => cases hs; exact ⟨h.1, h.2, h1⟩
        · cases hs; exact ⟨h.1, h.2, acz_zero _⟩
    · cases hs
  case s5 d rs k =>
    split at hs
    · split at hs
      · cases hs
      · cases hs; exact ⟨h.1, h.2.1, acz_num h.2.2⟩
    · cases hs
  case s6 d rs a ns =>
    split at hs
    · split at hs
      · cases hs
      · cases hs; exact h
    · cases hs
  case s7 d rs a ns =>
    split at hs
    · cases hs; exact h
    · split at hs
      · cases hs; exact ⟨h.1, h.2.1, h.2.2, csZ_nil⟩
      · split at hs
        · cases hs; exact ⟨h.1, h.2.1.snoc ⟨h.2.2, csZ_nil⟩⟩
        · cases hs
  case s8 d rs a ns cs =>
    split at hs
    · split at hs
      · cases hs
      · cases hs; exact h
    · cases hs
  case s9 d rs a ns cs g =>
    split at hs
    · cases hs; exact h
    · split at hs
      · cases hs; exact ⟨h.1, h.2.1, h.2.2.1, h.2.2.2, by decide⟩
      · cases hs
  case s10 d rs a ns cs g =>
    split at hs
    · cases hs; exact ⟨h.1, h.2.1, h.2.2.1, h.2.2.2, hx⟩
    · cases hs
  case s11 d rs a ns cs g m =>
    split at hs
    · cases hs; exact h
    · cases hs
  case s12 d rs a ns cs g m o =>
    split at hs
    · cases hs; exact ⟨h.1, h.2.1, h.2.2.1, h.2.2.2.1.snoc ⟨h.2.2.2.2, hx⟩⟩
    · cases hs
  case s13 d rs a ns cs =>
    split at hs
    · cases hs; exact h
    · split at hs
      · cases hs; exact ⟨h.1, h.2.1.snoc ⟨h.2.2.1, h.2.2.2⟩⟩
      · cases hs

theorem run_invZ : ∀ (ts : List Tok) (S : St) (v : Ac × List Rl), InvZ S → (∀ x ∈ ts, x.n < 18446744073709551616) → run S ts = .ok v → AcZ v.1 ∧ RsZ v.2 := by
  intro ts
  induction ts with
  | nil => intro S v _ _ h; cases h
  | cons x ts ih =>
    intro S v hS hx h
    by_cases h4 : x.k = 4
    · rw [run_end h4] at h
      cases S using St.every <;> simp [done] at h
      subst h
      exact hS
    · cases hs : step S x with
      | error c => rw [run_err h4 hs] at h; cases h
      | ok S' =>
        rw [run_step h4 hs] at h
        exact ih S' v (step_invZ hS (hx x List.mem_cons_self) hs) (fun y hy => hx y (List.mem_cons_of_mem _ hy)) h

theorem prs_Z {l : List UInt8} {v : Ac × List Rl} (h : prs l = .ok v) : AcZ v.1 ∧ RsZ v.2 := by
  obtain ⟨ts, h1, h2⟩ := prs_ok h
  exact run_invZ ts .s0 v trivial (fun x hx => (all_tk h1 x hx).n) h2

end Go.Proofs.YtcckipimfgmmdaaGreatDoor.P
namespace Go.Proofs.YtcckipimfgmmdaaGreatDoor
open Go.RowKit

def ofC (c : P.Cd) : M.Xc := ⟨c.arg, c.op, c.mask, c.val⟩
def ofR (r : P.Rl) : M.Xl := ⟨r.act.k, r.act.a, r.names.map P.bar, r.conds.map ofC⟩
theorem addr_add (g i : Nat) : (⟨g, 0, none⟩ : Addr).add i = ⟨g, i, none⟩ := by unfold Addr.add; split <;> simp_all

theorem owns_strR {w : World} {base : Nat} {v : Value} {l : List (List UInt8)} (h : w.ownsRow base 9 1 v l.length (P.cellsN l)) : M.StrR w v (l.map P.bar) := by
  rcases h.2 with ⟨rfl, h0⟩ | ⟨g, cap, cur, rfl, hb, hg, hnc, hcm, hcs, htake⟩
  · exact ⟨none, 0, by rw [List.length_map, h0], by rw [List.length_map, h0]; exact Nat.le_refl _, by decide, fun h => absurd h (by rw [List.length_map]; omega)⟩
  · refine ⟨_, cap, by rw [List.length_map], by rw [List.length_map]; exact hnc, by unfold maxLen at hcm; omega, fun _ => ⟨g, 0, rfl, fun i s hs => ?_⟩⟩
    rw [List.getElem?_map] at hs
    cases hj : l[i]? with
    | none => rw [hj] at hs; cases hs
    | some y =>
      rw [hj] at hs
      cases hs
      have := h.cells (g := g) rfl i (.string (P.bar y)) (by simp [P.cellsN, hj, P.nameC])
      rw [addr_add] at this
      rw [Nat.zero_add]
      exact this

theorem owns_cdR {w : World} {base : Nat} {v : Value} {l : List P.Cd} (h : w.ownsRow base 139 4 v l.length (P.cellsC l)) : M.CdR w v (l.map ofC) := by
  rcases h.2 with ⟨rfl, h0⟩ | ⟨g, cap, cur, rfl, hb, hg, hnc, hcm, hcs, htake⟩
  · exact ⟨none, 0, by rw [List.length_map, h0], by rw [List.length_map, h0]; exact Nat.le_refl _, by decide, fun h => absurd h (by rw [List.length_map]; omega)⟩
  · refine ⟨_, cap, by rw [List.length_map], by rw [List.length_map]; exact hnc, by unfold maxLen at hcm; omega, fun _ => ⟨g, 0, rfl, fun i s hs => ?_⟩⟩
    rw [List.getElem?_map] at hs
    cases hj : l[i]? with
    | none => rw [hj] at hs; cases hs
    | some y =>
      rw [hj] at hs
      cases hs
      have key : ∀ c u, c < 4 → y.cells[c]? = some u → w.cell? ⟨g, i * 4 + c, none⟩ = some u := by
        intro c u hc hu
        have := h.cells (g := g) rfl (i * 4 + c) u (by rw [P.cellsC_get l i y c hj hc]; exact hu)
        rw [addr_add] at this
        exact this
      rw [Nat.zero_add]
      exact ⟨key 0 _ (by decide) rfl, key 1 _ (by decide) rfl, key 2 _ (by decide) rfl, key 3 _ (by decide) rfl⟩

def ofV (x : P.Rv) : M.Xr := ⟨ofR x.r, x.vn, x.vc⟩

theorem owns_rlR {w : World} {base : Nat} {v : Value} {rv : List P.Rv} (h : w.ownsRow base 87 4 v rv.length (P.cellsR rv)) (hr : ∀ x ∈ rv, P.Rows2 w base x) : M.RlR w v (rv.map ofV) := by
  have hs : ∀ x ∈ rv.map ofV, M.StrR w x.vn x.r.names ∧ M.CdR w x.vc x.r.conds := by
    intro x hx
    obtain ⟨y, hy, rfl⟩ := List.mem_map.1 hx
    exact ⟨owns_strR (hr y hy).1, owns_cdR (hr y hy).2⟩
  rcases h.2 with ⟨rfl, h0⟩ | ⟨g, cap, cur, rfl, hb, hg, hnc, hcm, hcs, htake⟩
  · exact ⟨none, 0, by rw [List.length_map, h0], by rw [List.length_map, h0]; exact Nat.le_refl _, by decide, fun h => absurd h (by rw [List.length_map]; omega), hs⟩
  · refine ⟨_, cap, by rw [List.length_map], by rw [List.length_map]; exact hnc, by unfold maxLen at hcm; omega, fun _ => ⟨g, 0, rfl, fun i s hs => ?_⟩, hs⟩
    rw [List.getElem?_map] at hs
    cases hj : rv[i]? with
    | none => rw [hj] at hs; cases hs
    | some y =>
      rw [hj] at hs
      cases hs
      have key : ∀ c u, c < 4 → y.cells[c]? = some u → w.cell? ⟨g, i * 4 + c, none⟩ = some u := by
        intro c u hc hu
        have := h.cells (g := g) rfl (i * 4 + c) u (by rw [P.cellsR_get rv i y c hj hc]; exact hu)
        rw [addr_add] at this
        exact this
      rw [Nat.zero_add]
      exact ⟨key 0 _ (by decide) rfl, key 1 _ (by decide) rfl, key 2 _ (by decide) rfl, key 3 _ (by decide) rfl⟩

def ParM (r : Except (Nat × Nat) (P.Ac × List P.Rl)) (e : Ending) (w' : World) : Prop :=
  match r with
  | .error (c, p) => c ≠ 0 ∧ e = .returned (.tuple #[.agg #[.int .i64 0, .int .i64 0, .slice none 0 0], .int .i64 c, .int .i64 p])
  | .ok (d, rs) => ∃ v l, l.map M.Xr.r = rs.map ofR ∧ e = .returned (.tuple #[.agg #[.int .i64 d.k, .int .i64 d.a, v], .int .i64 0, .int .i64 (-1)]) ∧ M.RlR w' v l ∧ Few l ∧ Fits l

theorem prs_code {l : List UInt8} {c p : Nat} (h : P.prs l = .error (c, p)) : c ≠ 0 := by
  by_cases hl : l.length ≤ 8192
  · have := (P.prs_place h hl).1
    omega
  · unfold P.prs P.all at h
    rw [if_pos (by omega)] at h
    cases h
    decide

theorem few_of {l : List UInt8} {d : P.Ac} {rs : List P.Rl} (h : P.prs l = .ok (d, rs)) {rv : List P.Rv} (hr : rs = rv.map P.Rv.r) : Few (rv.map ofV) ∧ Fits (rv.map ofV) := by
  obtain ⟨_, h1, h2⟩ := P.prs_bound h
  obtain ⟨_, h3⟩ := P.prs_Z h
  dsimp only at h1 h2 h3
  subst hr
  refine ⟨⟨by rw [List.length_map] at h1 ⊢; omega, fun x hx => ?_⟩, fun x hx c hc => ?_⟩
  · obtain ⟨y, hy, rfl⟩ := List.mem_map.1 hx
    have := h2 y.r (List.mem_map.2 ⟨y, hy, rfl⟩)
    have a1 := this.n16
    have a2 := this.c8
    exact ⟨by show (y.r.names.map P.bar).length ≤ 40; rw [List.length_map]; omega, by show (y.r.conds.map ofC).length ≤ 40; rw [List.length_map]; omega, trivial⟩
  · obtain ⟨y, hy, rfl⟩ := List.mem_map.1 hx
    obtain ⟨u, hu, rfl⟩ := List.mem_map.1 hc
    obtain ⟨a1, a2⟩ := (h3 y.r (List.mem_map.2 ⟨y, hy, rfl⟩)).2 u hu
    exact ⟨⟨by show (0 : Int) ≤ (u.mask : Int); omega, by show (u.mask : Int) ≤ 18446744073709551615; omega⟩, ⟨by show (0 : Int) ≤ (u.val : Int); omega, by show (u.val : Int) ≤ 18446744073709551615; omega⟩⟩

theorem parseM (s : ByteArray) (w : World) (hv : P.Vars w) :
    Calls Tryz.prog 6 #[.string s] w fun e w' => Below w.heap.size w w' ∧ ParM (P.prs (P.lst s)) e w' := by
  refine (P.parse_any s w hv).mono ?_
  rintro e w' ⟨hb, h⟩
  refine ⟨hb, ?_⟩
  rcases hR : P.prs (P.lst s) with ⟨c, p⟩ | ⟨d, rs⟩
  · rw [hR] at h
    exact ⟨prs_code hR, h⟩
  · rw [hR] at h
    obtain ⟨v, rv, h1, h2, h3, h4⟩ := h
    obtain ⟨f1, f2⟩ := few_of hR h1
    exact ⟨v, rv.map ofV, by rw [h1, List.map_map, List.map_map]; rfl, h2, owns_rlR h3 h4, f1, f2⟩

end Go.Proofs.YtcckipimfgmmdaaGreatDoor
