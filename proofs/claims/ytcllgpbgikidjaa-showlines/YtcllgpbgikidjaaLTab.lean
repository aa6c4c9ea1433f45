/-
  The table of tens: whatever numbers it holds.
-/
import Derived.Test.YtcllgpbgikidjaaSFmtMath
namespace Go.Proofs.Ytcllgpbgikidjaa

theorem tab_zero : ((begin Try.prog (fun _ _ => 0) default).world.heap[1]?).bind Obj.row? = some (Array.replicate 20 (.int .u64 0), 105) := by kernel_rfl
theorem tab_types : Try.prog.cellTypes Try.prog.depth 105 = some (List.replicate 20 34) := by kernel_rfl
theorem tab_build : Try.prog.buildable 105 = true := by kernel_rfl

theorem tb_of_shaped {w : World} (h : w.ShapedOpen Try.prog) : ∃ T, Tb T w := by
  obtain ⟨cs, hh, hs, hr⟩ := h.1 1 _ _ (by decide +kernel) tab_zero
  obtain ⟨ts, hts, _, hall⟩ := hr tab_build
  rw [tab_types] at hts
  cases hts
  have hsz : cs.size = 20 := by rw [hs]; simp
  have key : ∀ i, i < 20 → ∃ m : Int, w.cell? ⟨1, i, none⟩ = some (.int .u64 m) := by
    intro i hi
    have h1 : i < cs.size := by omega
    obtain ⟨u, hu', hok⟩ := hall i cs[i] (by simp [h1])
    have : u = 34 := by
      rw [List.length_replicate, Nat.mod_eq_of_lt hi, List.getElem?_replicate, if_pos hi] at hu'
      exact (Option.some.inj hu').symm
    subst this
    have hcell : w.cell? ⟨1, i, none⟩ = some cs[i] := by simp [World.cell?, hh, h1]
    rw [hcell]
    unfold Cell.ok at hok
    rw [Try.underlying34] at hok
    cases hv : cs[i] <;> rw [hv] at hok <;> simp at hok
    case int k' n => exact ⟨n, by rw [hok.1]⟩
  have hf : ∃ f : Nat → Int, ∀ i, i < 20 → w.cell? ⟨1, i, none⟩ = some (.int .u64 (f i)) := by
    refine ⟨fun i => match w.cell? ⟨1, i, none⟩ with | some (.int _ m) => m | _ => 0, fun i hi => ?_⟩
    obtain ⟨m, hm⟩ := key i hi
    simp only [hm]
  obtain ⟨f, hf⟩ := hf
  refine ⟨(List.range 20).map f, fun i hi => ?_⟩
  rw [hf i hi]
  have : ((List.range 20).map f).getD i 0 = f i := by
    rw [List.getD_eq_getElem?_getD, List.getElem?_map, List.getElem?_range hi]
    rfl
  rw [this]

end Go.Proofs.Ytcllgpbgikidjaa
