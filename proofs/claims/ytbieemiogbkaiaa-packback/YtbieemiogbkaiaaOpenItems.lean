/-
  What a slice of items that comes in leads to.
-/
import Derived.Test.YtbieemiogbkaiaaAwake
import Derived.OpenShut
import Derived.Deep.Slices
import Derived.Deep.Fields
namespace Go.Proofs.Ytbieemiogbkaiaa
open Go.RowKit Go.Deep

theorem cells32 : Try.prog.cellsOf 32 = 4 := by kernel_rfl
theorem cells30 : Try.prog.cellsOf 30 = 1 := by kernel_rfl
theorem cells3 : Try.prog.cellsOf 3 = 1 := by kernel_rfl
theorem cells4 : Try.prog.cellsOf 4 = 1 := by kernel_rfl
theorem cells9 : Try.prog.cellsOf 9 = 1 := by kernel_rfl

theorem open_item {H : Type} {enc : TypeId × Value → H} {w : World} {base : Nat} {spare : Nat → Bool} {held : Bool} {n : Nat} {cs : List Value} {x : DataW H × List MemPlace} (hl : cs.length = 4) (h : DataW.trod enc Try.prog w base spare held n 32 cs = some x) :
    ∃ y : It, y.ok ∧ cs = [.int .u64 y.n, .int .i64 y.size, .bool y.isText, .string y.text] := by
  obtain ⟨xs, k, _, _, _, hxl, hf⟩ := DataW.trod_struct Try.underlying32 h
  match xs, hxl, cs, hl with
  | [y0, y1, y2, y3], _, [v0, v1, v2, v3], _ =>
    have g0 := hf 0 _ rfl
    have g1 := hf 1 _ rfl
    have g2 := hf 2 _ rfl
    have g3 := hf 3 _ rfl
    simp [cells30, cells3, cells4, cells9] at g0 g1 g2 g3
    obtain ⟨a, ha, _, wa⟩ := DataW.trod_int Try.underlying30 g0
    obtain ⟨b, hb, _, _⟩ := DataW.trod_int Try.underlying3 g1
    obtain ⟨c, hc, _⟩ := DataW.trod_bool Try.underlying4 g2
    obtain ⟨d, hd, _, _⟩ := DataW.trod_string Try.underlying9 g3
    simp at ha hb hc hd
    subst ha hb hc hd
    exact ⟨⟨a, b, c, d⟩, bounds_u64 wa, rfl⟩

theorem open_items {H : Type} {enc : TypeId × Value → H} {w : World} {base : Nat} {spare : Nat → Bool} {held : Bool} {fuel : Nat} {x : DataW H × List MemPlace} {a : Option Addr} {len cap : Nat} (h : DataW.trod enc Try.prog w base spare held fuel 22 [.slice a len cap] = some x) :
    ∃ its, Items w a len its := by
  rcases open_slice Try.underlying22 h with ⟨h0, _⟩ | ⟨a', len', cap', m, n, D, Pl, hcs, hb, hl, hm, hmm, _, hx⟩
  · simp at h0
    obtain ⟨rfl, rfl, rfl⟩ := h0
    exact ⟨[], rfl, by simp, fun h => absurd h (by omega)⟩
  · simp at hcs
    obtain ⟨rfl, rfl, rfl⟩ := hcs
    have hlm : len ≤ m := by rw [hmm]; split <;> omega
    haveI : Inhabited It := ⟨⟨0, 0, false, ⟨#[]⟩⟩⟩
    obtain ⟨f, hf⟩ := choose_lt (α := It) (n := len) (p := fun i y => y.ok ∧ w.cells? base (a'.add (i * 4)) 4 = some [.int .u64 y.n, .int .i64 y.size, .bool y.isText, .string y.text]) (fun i hi => by
      obtain ⟨cs', h1, h2⟩ := hx i (by omega)
      rw [cells32] at h1
      obtain ⟨_, hlen, _⟩ := World.cells?_some h1
      obtain ⟨y, hy, rfl⟩ := open_item hlen h2
      exact ⟨y, hy, h1⟩)
    refine ⟨(List.range len).map f, by simp, ?_, fun h0 => ?_⟩
    · intro y hy
      obtain ⟨i, hi, rfl⟩ := List.mem_map.1 hy
      exact (hf i (by simpa using hi)).1
    · obtain ⟨b, off, spot⟩ := a'
      have c0 := (World.cells?_some (hf 0 h0).2).2.2 0 (by omega)
      have hspot : spot = none := by
        have : (({ block := b, off := off, spot := spot } : Addr).add (0 * 4)).add 0 = ⟨b, off, spot⟩ := by cases spot <;> simp [Addr.add]
        rw [this] at c0
        simpa using World.cell?_spot c0
      subst hspot
      refine ⟨b, off, rfl, fun i y hi => ?_⟩
      have hil : i < len := by
        have := (List.getElem?_eq_some_iff.1 hi).1
        simpa using this
      simp [hil] at hi
      subst hi
      obtain ⟨_, _, hc⟩ := World.cells?_some (hf i hil).2
      have key : ∀ c, (({ block := b, off := off, spot := none } : Addr).add (i * 4)).add c = ⟨b, off + i * 4 + c, none⟩ := by intro c; rw [Addr.add_lit, Addr.add_lit]
      have k0 := hc 0 (by decide)
      have k1 := hc 1 (by decide)
      have k2 := hc 2 (by decide)
      have k3 := hc 3 (by decide)
      rw [key] at k0 k1 k2 k3
      exact ⟨k0, k1, k2, k3⟩

end Go.Proofs.Ytbieemiogbkaiaa
