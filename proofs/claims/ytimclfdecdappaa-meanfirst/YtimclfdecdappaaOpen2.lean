/-
  Rules and pairs of lists of names that come in, with what their slices are.
-/
import Derived.Test.YtimclfdecdappaaSOpen
import Derived.Test.YtimclfdecdappaaApp
namespace Go.Proofs.Ytimclfdecdappaa
open Go.ChangeShapes Go.WideShapes Go.ChangeAt Go.RowKit Go.Deep

section
variable {H : Type} {enc : TypeId × Value → H} {w : World} {base : Nat} {spare : Nat → Bool} {held : Bool} {n : Nat} {x : DataW H × List MemPlace}
theorem okS_of {t e : TypeId} {v : Value} (hu : Try.prog.underlying t = some (.slice e)) (h : DataW.trod enc Try.prog w base spare held n t [v] = some x) : okS v := by
  rcases open_slice hu h with ⟨h0, _⟩ | ⟨a', len', cap', _, _, _, _, hcs, _⟩
  · simp at h0
    exact .inr h0
  · simp at hcs
    exact .inl ⟨_, _, _, hcs⟩
end

set_option maxRecDepth 8000 in
theorem open_rules2 {H : Type} {enc : TypeId × Value → H} {w : World} {base b0 : Nat} {spare : Nat → Bool} {held : Bool} {r : Reach} {v : Value} {d : DataW H} {p : List MemPlace}
    (hv : Value.okWide Try.prog w r b0 33 v) (h : DataW.Trod enc Try.prog w base spare held 33 v d p) : ∃ y : Xin, v = .agg #[.int .i64 y.k, .int .i64 y.a, y.v] ∧ RlR w y.v y.l ∧ okS y.v := by
  unfold Value.okWide at hv
  rw [Try.underlying33] at hv
  obtain ⟨cs, rfl, hsz, _⟩ := hv
  obtain ⟨fuel, hf⟩ := h
  rw [cellsOfX] at hsz
  obtain ⟨cl⟩ := cs
  match cl, hsz with
  | [v0, v1, v2], _ =>
    obtain ⟨xs, k, _, _, _, hxl, hf⟩ := DataW.trod_struct Try.underlying33 hf
    match xs, hxl with
    | [y0, y1], _ =>
      have g0 := hf 0 _ rfl
      have g1 := hf 1 _ rfl
      simp [cellsOfA, cellsOfL, Value.cells] at g0 g1
      obtain ⟨zs, k2, _, _, _, hzl, hz⟩ := DataW.trod_struct Try.underlying30 g0
      match zs, hzl with
      | [z0, z1], _ =>
        have i0 := hz 0 _ rfl
        have i1 := hz 1 _ rfl
        simp [cellsOf3] at i0 i1
        obtain ⟨a, ha, _, _⟩ := DataW.trod_int Try.underlying3 i0
        obtain ⟨b, hb, _, _⟩ := DataW.trod_int Try.underlying3 i1
        simp at ha hb
        subst ha hb
        obtain ⟨l, hl⟩ := open_list g1
        exact ⟨⟨a, b, v2, l⟩, rfl, hl.1, okS_of Try.underlying31 g1⟩


end Go.Proofs.Ytimclfdecdappaa
