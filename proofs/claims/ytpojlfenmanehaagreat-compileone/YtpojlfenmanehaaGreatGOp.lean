/-
  Arguments of laws; the number of an act.
-/
import Derived.Test.YtpojlfenmanehaaGreatGM4
import Derived.Test.YtpojlfenmanehaaGreatGK1
import Derived.BigQuiet
namespace Go.Proofs.YtpojlfenmanehaaGreat
open Go.ChangeShapes Go.WideShapes Go.ChangeAt Go.RowKit Go.Deep

/-- the calls that a slice leads to. -/
def DaR (w : World) (v : Value) (l : List M.Da) : Prop :=
  ∃ a cap, v = .slice a l.length cap ∧ l.length ≤ cap ∧ cap ≤ 9223372036854775807 ∧ (0 < l.length → ∃ b o, a = some ⟨b, o, none⟩ ∧ ∀ (i : Nat) (d : M.Da), l[i]? = some d → ∀ (j : Nat) (x : Value), d.cells[j]? = some x → w.cell? ⟨b, o + i * 9 + j, none⟩ = some x)
theorem DaR.below {w w' : World} {v : Value} {l : List M.Da} (h : DaR w v l) (hb : Below w.heap.size w w') : DaR w' v l := by
  obtain ⟨a, cap, rfl, h1, h2, hc⟩ := h
  refine ⟨a, cap, rfl, h1, h2, fun h0 => ?_⟩
  obtain ⟨b, o, rfl, hx⟩ := hc h0
  exact ⟨b, o, rfl, fun i d hi j x hj => M.cellS (hx i d hi j x hj) (hb.block b (World.block_lt_of_cell? w _ (hx i d hi j x hj)))⟩

section
variable {H : Type} {enc : TypeId × Value → H} {w : World} {base : Nat} {spare : Nat → Bool} {held : Bool} {n : Nat} {x : DataW H × List MemPlace}
theorem open_datas {v : Value} (h : DataW.trod enc Tryz.prog w base spare held n 47 [v] = some x) : ∃ l, DaR w v l ∧ ∀ d ∈ l, d.ok := by
  rcases open_slice Tryz.underlying47 h with ⟨h0, _⟩ | ⟨a', len', cap', m, n, D, Pl, hcs, hb, hl, hm, hmm, _, hx⟩
  · simp at h0
    subst h0
    exact ⟨[], ⟨none, 0, rfl, Nat.le_refl _, by decide, fun h => absurd h (by decide)⟩, fun c hc => by cases hc⟩
  · simp at hcs
    subst hcs
    have hlm : len' ≤ m := by rw [hmm]; split <;> omega
    haveI : Inhabited M.Da := ⟨⟨0, 0, 0, []⟩⟩
    obtain ⟨f, hf⟩ := choose_lt (α := M.Da) (n := len') (p := fun i y => y.ok ∧ w.cells? base (a'.add (i * 9)) 9 = some y.cells) (fun i hi => by
      obtain ⟨cs', h1, h2⟩ := hx i (by omega)
      rw [M.cellsOfDa] at h1
      obtain ⟨_, hlen, _⟩ := World.cells?_some h1
      obtain ⟨y, hy, rfl⟩ := M.open_dcells hlen h2
      exact ⟨y, hy, h1⟩)
    refine ⟨(List.range len').map f, ⟨a', cap', by simp, by simpa using hl, by unfold maxLen at hm; omega, fun h0 => ?_⟩, fun c hc => ?_⟩
    · have h0' : 0 < len' := by simpa using h0
      obtain ⟨b, off, spot⟩ := a'
      have hl0 := (f 0).cells_len (hf 0 h0').1
      have c0 := (World.cells?_some (hf 0 h0').2).2.2 0 (by omega)
      have hspot : spot = none := by
        have : (({ block := b, off := off, spot := spot } : Addr).add (0 * 9)).add 0 = ⟨b, off, spot⟩ := by cases spot <;> simp [Addr.add]
        rw [this] at c0
        have c1 : w.cell? ⟨b, off, spot⟩ = some (.int .u32 (f 0).n) := c0
        simpa using World.cell?_spot c1
      subst hspot
      refine ⟨b, off, rfl, fun i y hi j x hj => ?_⟩
      have hil : i < len' := by
        have := (List.getElem?_eq_some_iff.1 hi).1
        simpa using this
      simp [hil] at hi
      subst hi
      obtain ⟨_, _, hc⟩ := World.cells?_some (hf i hil).2
      have hj9 : j < 9 := by
        have := (List.getElem?_eq_some_iff.1 hj).1
        rw [(f i).cells_len (hf i hil).1] at this
        exact this
      have k0 := hc j (by omega)
      rw [Addr.add_lit, Addr.add_lit] at k0
      rw [k0]
      exact hj
    · obtain ⟨i, hi, rfl⟩ := List.mem_map.1 hc
      exact (hf i (by simpa using hi)).1
end

theorem cellsOfCo : Tryz.prog.cellsOf 54 = 4 := by kernel_rfl
/-- a condition, as a value. -/
def Cv (c : M.Xc) : Value := .agg #[.int .i64 c.arg, .int .i64 c.op, .int .u64 c.mask, .int .u64 c.val]
set_option maxRecDepth 20000 in
theorem open_cond {H : Type} {enc : TypeId × Value → H} {w : World} {base b0 : Nat} {spare : Nat → Bool} {held : Bool} {r : Reach} {v : Value} {d : DataW H} {p : List MemPlace}
    (hv : Value.okWide Tryz.prog w r b0 54 v) (h : DataW.Trod enc Tryz.prog w base spare held 54 v d p) : ∃ y : M.Xc, v = Cv y ∧ V.U64 y.mask ∧ V.U64 y.val := by
  unfold Value.okWide at hv
  rw [Tryz.underlying54] at hv
  obtain ⟨cs, rfl, hsz, _⟩ := hv
  obtain ⟨fuel, hf⟩ := h
  rw [cellsOfCo] at hsz
  obtain ⟨y, hy, e⟩ := M.open_xc (cs := cs.toList) (by simpa using hsz) hf
  refine ⟨y, ?_, hy.1, hy.2⟩
  unfold Cv
  congr 1
  apply Array.ext'
  rw [e]

end Go.Proofs.YtpojlfenmanehaaGreat

namespace Go.Proofs.YtpojlfenmanehaaGreat
open Go.RowKit

def tb9 : List Value := [.int .u32 0, .int .u32 2147483648, .int .u32 0, .int .u32 196608, .int .u32 327680, .int .u32 2143289344, .int .u32 2146435072, .int .u32 2147221504, .int .u32 2147418112]

set_option maxRecDepth 8000 in
set_option maxHeartbeats 2000000 in
theorem valueL_any (k a : Int) (w : World) (h : A.rightB k a = true) : Calls Tryz.prog 20 #[.agg #[.int .i64 k, .int .i64 a]] w fun e w' => e = .returned (.int .u32 (A.valZ k a)) ∧ Below w.heap.size w w' := by
  obtain ⟨h1, h8, a0, a1, _⟩ := A.right_bd h
  have HV : Hid (A.valZ k a = A.numK k + a) := by unfold Hid A.valZ; rw [if_pos h]
  have hn := A.numK_top h1 h8
  obtain ⟨n, rfl⟩ := Int.eq_ofNat_of_zero_le (show 0 ≤ k by omega)
  have hn9 : n < 9 := by omega
  have hB : Hid (∀ m, Below w.heap.size w (((w.alloc (Obj.cells #[.int .i64 (n : Int), .int .i64 a] 23)).alloc (Obj.cells tb9.toArray 37)).drewN m)) := fun m => (below_two w _ _).trans ((M.below_drewN _ m).mono (below_two w _ _).size)
  have hcl : ((w.alloc (Obj.cells #[.int .i64 (n : Int), .int .i64 a] 23)).alloc (Obj.cells tb9.toArray 37)).cell? ⟨w.heap.size + 1, n, none⟩ = some (.int .u32 (A.numK n)) := by
    have := (V.blk_new' w (Obj.cells #[.int .i64 (n : Int), .int .i64 a] 23) tb9.toArray 37).cell n
    rw [this]
    have key : ∀ m : Fin 9, tb9[m.val]? = some (.int .u32 (A.numK (m.val : Int))) := by
      intro m
      match m with
      | 0 => rfl
      | 1 => rfl
      | 2 => rfl
      | 3 => rfl
      | 4 => rfl
      | 5 => rfl
      | 6 => rfl
      | 7 => rfl
      | 8 => rfl
    exact key ⟨n, hn9⟩
  have e1 : IntKind.u32.wrap a = a := by rw [IntKind.wrap_u32]; omega
  have e2 : IntKind.u32.wrap (A.numK n + a) = A.numK n + a := by rw [IntKind.wrap_u32]; omega
  have l0 : ¬ (n : Int) < 0 := by omega
  have l8 : ¬ (8 : Int) < (n : Int) := by omega
  have l9 : (n : Int) < 9 := by omega
  unfold tb9 at hB hcl
  generalize A.numK n = q at *
  clear h hn
  go_enter Tryz.func20, Tryz.ntmps20
  go_wp2_with fail
  go_quiet (fail)
  go_wp2_with fail
  go_ret
  exact ⟨by rw [HV.out]; rfl, hB.out _⟩

end Go.Proofs.YtpojlfenmanehaaGreat

