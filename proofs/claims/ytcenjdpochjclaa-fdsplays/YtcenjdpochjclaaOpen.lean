/-
  Slices of calls that come in.
-/
import Derived.Test.YtcenjdpochjclaaMem
import Derived.OpenShut
import Derived.ProofKit
import Derived.Deep.Slices
import Derived.Deep.Fields
namespace Go.Proofs.Ytcenjdpochjclaa
open Go.ChangeShapes Go.WideShapes Go.ChangeAt Go.RowKit Go.Deep

/-- calls that a slice leads to: what is done, and with which number. -/
def OpsR (w : World) (a : Option Addr) (len : Nat) (l : List (Int × Int)) : Prop :=
  l.length = len ∧ len ≤ maxLen ∧ (0 < len → ∃ b o, a = some ⟨b, o, none⟩ ∧ ∀ (i : Nat) (p : Int × Int), l[i]? = some p → w.cell? ⟨b, o + i * 2, none⟩ = some (.int .i64 p.1) ∧ w.cell? ⟨b, o + i * 2 + 1, none⟩ = some (.int .i64 p.2))
theorem OpsR.below {w w' : World} {a : Option Addr} {len : Nat} {l : List (Int × Int)} (h : OpsR w a len l) (hb : Below w.heap.size w w') : OpsR w' a len l := by
  obtain ⟨h1, h2, h4⟩ := h
  refine ⟨h1, h2, fun h0 => ?_⟩
  obtain ⟨b, o, e, hc⟩ := h4 h0
  refine ⟨b, o, e, fun i z hi => ?_⟩
  obtain ⟨c1, c2⟩ := hc i z hi
  rw [hb.cell (p := ⟨b, o + i * 2, none⟩) (World.block_lt_of_cell? w _ c1), hb.cell (p := ⟨b, o + i * 2 + 1, none⟩) (World.block_lt_of_cell? w _ c2)]
  exact ⟨c1, c2⟩
theorem OpsR.at {w : World} {a : Option Addr} {len : Nat} {l : List (Int × Int)} (h : OpsR w a len l) {i : Nat} (hi : i < l.length) : ∃ b o, a = some ⟨b, o, none⟩ ∧ w.cell? ⟨b, o + i * 2, none⟩ = some (.int .i64 l[i].1) ∧ w.cell? ⟨b, o + i * 2 + 1, none⟩ = some (.int .i64 l[i].2) := by
  obtain ⟨h1, h2, h4⟩ := h
  obtain ⟨b, o, e, hc⟩ := h4 (by omega)
  obtain ⟨c1, c2⟩ := hc i _ (List.getElem?_eq_getElem hi)
  exact ⟨b, o, e, c1, c2⟩

theorem cellsOp : Try.prog.cellsOf 30 = 2 := by kernel_rfl
theorem cellsI : Try.prog.cellsOf 3 = 1 := by kernel_rfl

theorem open_op {H : Type} {enc : TypeId × Value → H} {w : World} {base : Nat} {spare : Nat → Bool} {held : Bool} {n : Nat} {cs : List Value} {x : DataW H × List MemPlace} (hl : cs.length = 2) (h : DataW.trod enc Try.prog w base spare held n 30 cs = some x) :
    ∃ y : Int × Int, cs = [.int .i64 y.1, .int .i64 y.2] := by
  obtain ⟨xs, k, _, _, _, hxl, hf⟩ := DataW.trod_struct Try.underlying30 h
  match xs, hxl, cs, hl with
  | [y0, y1], _, [v0, v1], _ =>
    have g0 := hf 0 _ rfl
    have g1 := hf 1 _ rfl
    simp [cellsI] at g0 g1
    obtain ⟨a, ha, _, _⟩ := DataW.trod_int Try.underlying3 g0
    obtain ⟨b, hb, _, _⟩ := DataW.trod_int Try.underlying3 g1
    simp at ha hb
    subst ha hb
    exact ⟨⟨a, b⟩, rfl⟩

theorem open_ops {H : Type} {enc : TypeId × Value → H} {w : World} {base : Nat} {spare : Nat → Bool} {held : Bool} {fuel : Nat} {x : DataW H × List MemPlace} {a : Option Addr} {len cap : Nat} (h : DataW.trod enc Try.prog w base spare held fuel 22 [.slice a len cap] = some x) :
    ∃ l, OpsR w a len l := by
  rcases open_slice Try.underlying22 h with ⟨h0, _⟩ | ⟨a', len', cap', m, n, D, Pl, hcs, hb, hl, hm, hmm, _, hx⟩
  · simp at h0
    obtain ⟨rfl, rfl, rfl⟩ := h0
    exact ⟨[], rfl, Nat.zero_le _, fun h => absurd h (by omega)⟩
  · simp at hcs
    obtain ⟨rfl, rfl, rfl⟩ := hcs
    have hlm : len ≤ m := by rw [hmm]; split <;> omega
    obtain ⟨f, hf⟩ := choose_lt (α := Int × Int) (n := len) (p := fun i y => w.cells? base (a'.add (i * 2)) 2 = some [.int .i64 y.1, .int .i64 y.2]) (fun i hi => by
      obtain ⟨cs', h1, h2⟩ := hx i (by omega)
      rw [cellsOp] at h1
      obtain ⟨_, hlen, _⟩ := World.cells?_some h1
      obtain ⟨y, rfl⟩ := open_op hlen h2
      exact ⟨y, h1⟩)
    refine ⟨(List.range len).map f, by simp, by omega, fun h0 => ?_⟩
    · obtain ⟨b, off, spot⟩ := a'
      have c0 := (World.cells?_some (hf 0 h0)).2.2 0 (by omega)
      have hspot : spot = none := by
        have : (({ block := b, off := off, spot := spot } : Addr).add (0 * 2)).add 0 = ⟨b, off, spot⟩ := by cases spot <;> simp [Addr.add]
        rw [this] at c0
        simpa using World.cell?_spot c0
      subst hspot
      refine ⟨b, off, rfl, fun i y hi => ?_⟩
      have hil : i < len := by
        have := (List.getElem?_eq_some_iff.1 hi).1
        simpa using this
      simp [hil] at hi
      subst hi
      obtain ⟨_, _, hc⟩ := World.cells?_some (hf i hil)
      have key : ∀ c, (({ block := b, off := off, spot := none } : Addr).add (i * 2)).add c = ⟨b, off + i * 2 + c, none⟩ := by intro c; rw [Addr.add_lit, Addr.add_lit]
      have k0 := hc 0 (by decide)
      have k1 := hc 1 (by decide)
      rw [key] at k0 k1
      exact ⟨k0, k1⟩

end Go.Proofs.Ytcenjdpochjclaa
