/-
  What a slice of instructions that comes in leads to.
-/
import Derived.Test.YtcckipimfgmmdaaGreatDoorVBase
import Derived.OpenShut
import Derived.ProofKit
import Derived.Deep.Slices
import Derived.Deep.Fields
namespace Go.Proofs.YtcckipimfgmmdaaGreatDoor.V
open Go.ChangeShapes Go.WideShapes Go.ChangeAt Go.RowKit Go.Deep

theorem cells42 : Tryz.prog.cellsOf 60 = 4 := by kernel_rfl
theorem cells40 : Tryz.prog.cellsOf 58 = 1 := by kernel_rfl
theorem cells5 : Tryz.prog.cellsOf 5 = 1 := by kernel_rfl
theorem cells23 : Tryz.prog.cellsOf 23 = 1 := by kernel_rfl

set_option maxRecDepth 20000 in
theorem open_cells {H : Type} {enc : TypeId × Value → H} {w : World} {base : Nat} {spare : Nat → Bool} {held : Bool} {n : Nat} {cs : List Value} {x : DataW H × List MemPlace} (hl : cs.length = 4) (h : DataW.trod enc Tryz.prog w base spare held n 60 cs = some x) :
    ∃ y : In, y.ok ∧ cs = [.int .u16 y.c, .int .u8 y.t, .int .u8 y.f, .int .u32 y.k] := by
  obtain ⟨xs, k, _, _, _, hxl, hf⟩ := DataW.trod_struct Tryz.underlying60 h
  match xs, hxl, cs, hl with
  | [y0, y1, y2, y3], _, [v0, v1, v2, v3], _ =>
    have g0 := hf 0 _ rfl
    have g1 := hf 1 _ rfl
    have g2 := hf 2 _ rfl
    have g3 := hf 3 _ rfl
    simp [cells40, cells5, cells23] at g0 g1 g2 g3
    obtain ⟨a, ha, _, wa⟩ := DataW.trod_int Tryz.underlying58 g0
    obtain ⟨b, hb, _, wb⟩ := DataW.trod_int Tryz.underlying5 g1
    obtain ⟨c, hc, _, wc⟩ := DataW.trod_int Tryz.underlying5 g2
    obtain ⟨d, hd, _, wd⟩ := DataW.trod_int Tryz.underlying23 g3
    simp at ha hb hc hd
    subst ha hb hc hd
    exact ⟨⟨a, b, c, d⟩, ⟨bounds_u16 wa, bounds_u8 wb, bounds_u8 wc, bounds_u32 wd⟩, rfl⟩

set_option maxRecDepth 20000 in
theorem open_in {H : Type} {enc : TypeId × Value → H} {w : World} {base b0 : Nat} {spare : Nat → Bool} {held : Bool} {r : Reach} {v : Value} {d : DataW H} {p : List MemPlace}
    (hv : Value.okWide Tryz.prog w r b0 60 v) (h : DataW.Trod enc Tryz.prog w base spare held 60 v d p) : ∃ y : In, v = y.val ∧ y.ok := by
  unfold Value.okWide at hv
  rw [Tryz.underlying60] at hv
  obtain ⟨cs, rfl, hsz, _⟩ := hv
  obtain ⟨fuel, hf⟩ := h
  rw [cells42] at hsz
  obtain ⟨y, hy, e⟩ := open_cells (cs := cs.toList) (by simpa using hsz) hf
  refine ⟨y, ?_, hy⟩
  unfold In.val
  congr 1
  cases cs
  simp at e
  simp [e]

set_option maxRecDepth 20000 in
theorem open_ins {H : Type} {enc : TypeId × Value → H} {w : World} {base : Nat} {spare : Nat → Bool} {held : Bool} {fuel : Nat} {x : DataW H × List MemPlace} {a : Option Addr} {len cap : Nat} (h : DataW.trod enc Tryz.prog w base spare held fuel 30 [.slice a len cap] = some x) :
    ∃ its, Ins w a len its ∧ len ≤ maxLen ∧ len ≤ cap ∧ (a = none → cap = 0) := by
  rcases open_slice Tryz.underlying30 h with ⟨h0, _⟩ | ⟨a', len', cap', m, n, D, Pl, hcs, hb, hl, hm, hmm, _, hx⟩
  · simp at h0
    obtain ⟨rfl, rfl, rfl⟩ := h0
    exact ⟨[], ⟨rfl, by simp, fun h => absurd h (by omega)⟩, Nat.zero_le _, Nat.le_refl _, fun _ => rfl⟩
  · simp at hcs
    obtain ⟨rfl, rfl, rfl⟩ := hcs
    have hlm : len ≤ m := by rw [hmm]; split <;> omega
    haveI : Inhabited In := ⟨In.zero⟩
    obtain ⟨f, hf⟩ := choose_lt (α := In) (n := len) (p := fun i y => y.ok ∧ w.cells? base (a'.add (i * 4)) 4 = some [.int .u16 y.c, .int .u8 y.t, .int .u8 y.f, .int .u32 y.k]) (fun i hi => by
      obtain ⟨cs', h1, h2⟩ := hx i (by omega)
      rw [cells42] at h1
      obtain ⟨_, hlen, _⟩ := World.cells?_some h1
      obtain ⟨y, hy, rfl⟩ := open_cells hlen h2
      exact ⟨y, hy, h1⟩)
    refine ⟨(List.range len).map f, ⟨by simp, ?_, fun h0 => ?_⟩, Nat.le_trans hl hm, hl, fun h => by cases h⟩
    · intro y hy
      obtain ⟨i, hi, rfl⟩ := List.mem_map.1 hy
      exact (hf i (by simpa using hi)).1
    · obtain ⟨b, off, spot⟩ := a'
      have c0 := (World.cells?_some (hf 0 h0).2).2.2 0 (by omega)
      have hspot : spot = none := by
        have : (({ block := b, off := off, spot := spot } : Addr).add (0 * 4)).add 0 = ⟨b, off, spot⟩ := by cases spot <;> simp [Addr.add]
        rw [this] at c0
        simpa using World.cell?_spot c0
      subst hspot
      refine ⟨b, off, rfl, fun i y hi => ?_⟩
      have hil : i < len := by
        have := (List.getElem?_eq_some_iff.1 hi).1
        simpa using this
      simp [hil] at hi
      subst hi
      obtain ⟨_, _, hc⟩ := World.cells?_some (hf i hil).2
      have key : ∀ c, (({ block := b, off := off, spot := none } : Addr).add (i * 4)).add c = ⟨b, off + i * 4 + c, none⟩ := by intro c; rw [Addr.add_lit, Addr.add_lit]
      have k0 := hc 0 (by decide)
      have k1 := hc 1 (by decide)
      have k2 := hc 2 (by decide)
      have k3 := hc 3 (by decide)
      rw [key] at k0 k1 k2 k3
      exact ⟨k0, k1, k2, k3⟩

end Go.Proofs.YtcckipimfgmmdaaGreatDoor.V
