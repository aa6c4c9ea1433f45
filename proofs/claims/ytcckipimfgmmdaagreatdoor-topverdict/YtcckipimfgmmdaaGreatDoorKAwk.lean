/-
  awake: a program that allows.
-/
import Derived.Test.YtcckipimfgmmdaaGreatDoorKCmp
namespace Go.Proofs.YtcckipimfgmmdaaGreatDoor
open Go.RowKit

theorem own_ins {w : World} {b : Nat} {v : Value} {l : List V.In} (h : w.ownsRow b 60 4 v l.length (V.cellsI l)) (hl : ∀ x ∈ l, x.ok) : ∃ a cap, v = .slice a l.length cap ∧ V.Ins w a l.length l := V.owns_ins h hl

/-- a call of a machine, of a program of rules. -/
theorem run_prog (d : M.Da) (hd : d.ok) (ns : List Int) (k a : Int) (rs : List M.Xr) (h : Nrs ns rs) (hR : Rok rs) (h4 : (progI ns k a (rs.map M.Xr.r)).length ≤ 4096) (W : World) (v : Value) (b : Nat) (ho : W.ownsRow b 60 4 v (progI ns k a (rs.map M.Xr.r)).length (V.cellsI (progI ns k a (rs.map M.Xr.r)))) :
    Calls Tryz.prog 20 #[v, .agg d.cells.toArray] W fun e w' => ∃ n : Nat, n ≤ 16 + mostR d.n (rs.map M.Xr.r) ∧ e = .returned (.tuple #[.int .u32 (meanZ d k a (rs.map M.Xr.r)), .int .i64 n, .int .i64 0]) ∧ Below W.heap.size W w' := by
  have hw : M.wgt rs ≤ 100000000 := by
    have h1 := sum_wg1 rs hR
    have h2 : M.wgt rs = 8 + (rs.map fun x => M.wg1 x.r).sum := rfl
    omega
  obtain ⟨e1, e2, e3⟩ := prog_ans d hd ns k a rs h hR.ok hw h4
  obtain ⟨aa, cap, rfl, hi⟩ := own_ins ho (prog_gd ns k a rs h hR.ok hw).ok
  refine (V.run_any aa _ cap _ (toV d) W (by unfold maxLen; omega) hi hd).mono ?_
  rintro e w' ⟨rfl, hb⟩
  exact ⟨_, e3, by rw [e1, e2], hb⟩

theorem rl_nil (w : World) : M.RlR w (.slice none 0 0) [] := ⟨none, 0, rfl, Nat.le_refl _, by decide, fun h => absurd h (by decide), fun x hx => absurd hx List.not_mem_nil⟩
theorem lt_nil : M.Lt [] := ⟨by decide, fun x hx => by cases hx⟩
theorem mean_nil (d : M.Da) : meanZ d 8 0 ([].map M.Xr.r) = if d.a = 3221225534 then 2147418112 else 2147483648 := by
  have h : M.verdP d 8 0 ([].map M.Xr.r) = (8, 0) := by unfold M.verdP; split <;> rfl
  unfold meanZ
  rw [h]
  rfl
theorem check_nil : (M.checkP 8 0 ([].map M.Xr.r)).1 = 0 := by decide +kernel

end Go.Proofs.YtcckipimfgmmdaaGreatDoor
