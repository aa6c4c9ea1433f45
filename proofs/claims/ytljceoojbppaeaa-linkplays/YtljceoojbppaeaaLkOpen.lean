/-
  What comes in: bytes, rows of bytes, truths, calls.
-/
import Derived.Test.YtljceoojbppaeaaLkTake
import Derived.Deep.Slices
import Derived.Deep.Fields
import Derived.Deep.Grids
import Derived.ProofKit
import Derived.OpenShut
import Derived.ChangeOld
namespace Go.Proofs.Ytljceoojbppaeaa
open Go.ChangeShapes Go.WideShapes Go.ChangeAt Go.RowKit Go.Deep D

/-- bytes that a slice leads to stand where nothing old is turned. -/
theorem PcV.over {w w' : World} {v : Value} {l : List Int} (h : PcV w v l) (hb : Below w.heap.size w w') : PcV w' v l := by
  obtain ⟨a, cap, rfl, h1, h2⟩ := h
  exact ⟨a, cap, rfl, h1.below hb, h2⟩
/-- rows of bytes that a slice leads to. -/
def PcR (w : World) (v : Value) (ls : List (List Int)) : Prop :=
  ∃ a cap, v = .slice a ls.length cap ∧ (0 < ls.length → ∃ b o, a = some ⟨b, o, none⟩ ∧ ∀ (i : Nat) (l : List Int), ls[i]? = some l → ∃ u, w.cell? ⟨b, o + i, none⟩ = some u ∧ PcV w u l)
theorem PcR.over {w w' : World} {v : Value} {ls : List (List Int)} (h : PcR w v ls) (hb : Below w.heap.size w w') : PcR w' v ls := by
  obtain ⟨a, cap, rfl, hc⟩ := h
  refine ⟨a, cap, rfl, fun h0 => ?_⟩
  obtain ⟨b, o, rfl, hx⟩ := hc h0
  refine ⟨b, o, rfl, fun i l hi => ?_⟩
  obtain ⟨u, h3, h4⟩ := hx i l hi
  exact ⟨u, cellK h3 hb, h4.over hb⟩
theorem pcR_at {w : World} {p : Option Addr} {n c i : Nat} {ls : List (List Int)} (h : PcR w (.slice p n c) ls) (hi : i < ls.length) : ∃ b o a' c', p = some ⟨b, o, none⟩ ∧ w.cell? ⟨b, o + i, none⟩ = some (.slice a' ls[i].length c') ∧ Bs w a' ls[i].length ls[i] ∧ (a' = none → c' = 0) := by
  obtain ⟨a, cap, e, hc⟩ := h
  cases e
  obtain ⟨b, o, hb, hx⟩ := hc (by omega)
  obtain ⟨u, h3, a', c', rfl, h4, h5⟩ := hx i _ (List.getElem?_eq_getElem hi)
  exact ⟨b, o, a', c', hb, h3, h4, h5⟩
/-- truths that a slice leads to. -/
def BoR (w : World) (v : Value) (bs : List Bool) : Prop := ∃ a cap, v = .slice a bs.length cap ∧ ∀ i, i < bs.length → ∃ b o, a = some ⟨b, o, none⟩ ∧ w.cell? ⟨b, o + i, none⟩ = some (.bool (bs.getD i false))
theorem BoR.over {w w' : World} {v : Value} {bs : List Bool} (h : BoR w v bs) (hb : Below w.heap.size w w') : BoR w' v bs := by
  obtain ⟨a, cap, rfl, hc⟩ := h
  refine ⟨a, cap, rfl, fun i hi => ?_⟩
  obtain ⟨b, o, rfl, hx⟩ := hc i hi
  exact ⟨b, o, rfl, cellK hx hb⟩
/-- a call, as numbers and bytes; calls that a slice leads to. -/
structure Cal where
  act : Int
  n : Int
  bit : Int
  up : Bool
  b : List Int
structure CalV (w : World) (b o : Nat) (u : Value) (c : Cal) : Prop where
  c0 : w.cell? ⟨b, o, none⟩ = some (.int .i64 c.act)
  c1 : w.cell? ⟨b, o + 1, none⟩ = some (.int .i64 c.n)
  c2 : w.cell? ⟨b, o + 2, none⟩ = some (.int .i64 c.bit)
  c3 : w.cell? ⟨b, o + 3, none⟩ = some (.bool c.up)
  c4 : w.cell? ⟨b, o + 4, none⟩ = some u
  pc : PcV w u c.b
  wf : c.n < 9223372036854775808
theorem CalV.over {w w' : World} {b o : Nat} {u : Value} {c : Cal} (h : CalV w b o u c) (hb : Below w.heap.size w w') : CalV w' b o u c := ⟨cellK h.c0 hb, cellK h.c1 hb, cellK h.c2 hb, cellK h.c3 hb, cellK h.c4 hb, h.pc.over hb, h.wf⟩
def CalR (w : World) (v : Value) (cs : List Cal) : Prop :=
  ∃ a cap, v = .slice a cs.length cap ∧ (0 < cs.length → ∃ b o, a = some ⟨b, o, none⟩ ∧ ∀ (i : Nat) (c : Cal), cs[i]? = some c → ∃ u, CalV w b (o + i * 5) u c)
theorem CalR.over {w w' : World} {v : Value} {cs : List Cal} (h : CalR w v cs) (hb : Below w.heap.size w w') : CalR w' v cs := by
  obtain ⟨a, cap, rfl, hc⟩ := h
  refine ⟨a, cap, rfl, fun h0 => ?_⟩
  obtain ⟨b, o, rfl, hx⟩ := hc h0
  refine ⟨b, o, rfl, fun i l hi => ?_⟩
  obtain ⟨u, h3⟩ := hx i l hi
  exact ⟨u, h3.over hb⟩

theorem cellsOf3 : Try.prog.cellsOf 3 = 1 := by kernel_rfl
theorem cellsOf4 : Try.prog.cellsOf 4 = 1 := by kernel_rfl
theorem cellsOf37 : Try.prog.cellsOf 37 = 1 := by kernel_rfl
theorem cellsOf39 : Try.prog.cellsOf 39 = 5 := by kernel_rfl

section
variable {H : Type} {enc : TypeId × Value → H} {w : World} {base : Nat} {spare : Nat → Bool} {held : Bool} {n : Nat} {x : DataW H × List MemPlace}
theorem open_piece {v : Value} (h : DataW.trod enc Try.prog w base spare held n 37 [v] = some x) : ∃ l, PcV w v l := by
  rcases open_ints Try.underlying37 Try.underlying5 (by kernel_rfl) h with ⟨hcs, _⟩ | ⟨x, l, c, zs, hcs, _, hl, hm, hz, _, hcell, hwz⟩
  · simp at hcs
    subst hcs
    exact ⟨[], pc_nil w⟩
  · simp at hcs
    subst hcs
    have hlz : l ≤ zs.length := by rw [hz]; split <;> omega
    have hlen : (zs.take l).length = l := by rw [List.length_take]; omega
    refine ⟨zs.take l, some x, c, by rw [hlen], ⟨rfl, fun n hn => bounds_u8 (hwz n (List.mem_of_mem_take hn)), fun h0 => ?_⟩, fun h => by cases h⟩
    rw [hlen] at h0 ⊢
    obtain ⟨b, off, spot⟩ := x
    have hc := hcell 0 (by omega)
    have hspot : spot = none := by simpa [Addr.add] using World.cell?_spot hc
    subst hspot
    refine ⟨b, off, rfl, fun i hi => ?_⟩
    have := hcell i (by omega)
    rw [show (⟨b, off + i, none⟩ : Addr) = (⟨b, off, none⟩ : Addr).add i from by unfold Addr.add; split <;> simp_all, this]
    simp [hi]
theorem open_pieces {v : Value} (h : DataW.trod enc Try.prog w base spare held n 32 [v] = some x) : ∃ ls, PcR w v ls := by
  rcases open_slice Try.underlying32 h with ⟨h0, _⟩ | ⟨a', len', cap', m, n, D, Pl, hcs, hb, hl, hm, hmm, _, hx⟩
  · simp at h0
    subst h0
    exact ⟨[], ⟨none, 0, rfl, fun h => absurd h (by decide)⟩⟩
  · simp at hcs
    subst hcs
    have hlm : len' ≤ m := by rw [hmm]; split <;> omega
    obtain ⟨f, hf⟩ := choose_lt (α := List Int) (n := len') (p := fun i y => ∃ u, w.cells? base (a'.add (i * 1)) 1 = some [u] ∧ PcV w u y) (fun i hi => by
      obtain ⟨cs', h1, h2⟩ := hx i (by omega)
      rw [cellsOf37] at h1
      obtain ⟨_, hlen, _⟩ := World.cells?_some h1
      match cs', hlen with
      | [u], _ =>
        obtain ⟨l, hl⟩ := open_piece h2
        exact ⟨l, u, h1, hl⟩)
    refine ⟨(List.range len').map f, a', cap', by simp, fun h0 => ?_⟩
    have h0' : 0 < len' := by simpa using h0
    obtain ⟨b, off, spot⟩ := a'
    have hspot : spot = none := by
      obtain ⟨u, h1, _⟩ := hf 0 h0'
      have c0 := (World.cells?_some h1).2.2 0 (by decide)
      have : (({ block := b, off := off, spot := spot } : Addr).add (0 * 1)).add 0 = ⟨b, off, spot⟩ := by cases spot <;> simp [Addr.add]
      rw [this] at c0
      simpa using World.cell?_spot c0
    subst hspot
    refine ⟨b, off, rfl, fun i y hi => ?_⟩
    have hil : i < len' := by
      have := (List.getElem?_eq_some_iff.1 hi).1
      simpa using this
    simp [hil] at hi
    subst hi
    obtain ⟨u, h1, h2⟩ := hf i hil
    have c0 := (World.cells?_some h1).2.2 0 (by decide)
    rw [Addr.add_lit, Addr.add_lit, Nat.mul_one, Nat.add_zero] at c0
    exact ⟨u, c0, h2⟩
set_option maxRecDepth 8000 in
theorem open_cal {cs : List Value} (hl : cs.length = 5) (h : DataW.trod enc Try.prog w base spare held n 39 cs = some x) :
    ∃ (y : Cal) (u : Value), (PcV w u y.b ∧ y.n < 9223372036854775808) ∧ cs = [.int .i64 y.act, .int .i64 y.n, .int .i64 y.bit, .bool y.up, u] := by
  obtain ⟨xs, k, _, _, _, hxl, hf⟩ := DataW.trod_struct Try.underlying39 h
  match xs, hxl, cs, hl with
  | [y0, y1, y2, y3, y4], _, [v0, v1, v2, v3, v4], _ =>
    have g0 := hf 0 _ rfl
    have g1 := hf 1 _ rfl
    have g2 := hf 2 _ rfl
    have g3 := hf 3 _ rfl
    have g4 := hf 4 _ rfl
    simp [cellsOf3, cellsOf4, cellsOf37] at g0 g1 g2 g3 g4
    obtain ⟨a, ha, _, wa⟩ := DataW.trod_int Try.underlying3 g0
    obtain ⟨b, hb, _, wb⟩ := DataW.trod_int Try.underlying3 g1
    obtain ⟨c, hc, _, wc⟩ := DataW.trod_int Try.underlying3 g2
    obtain ⟨d, hd, _⟩ := DataW.trod_bool Try.underlying4 g3
    obtain ⟨l, hl⟩ := open_piece g4
    simp at ha hb hc hd
    subst ha hb hc hd
    refine ⟨⟨a, b, c, d, l⟩, v4, ⟨hl, ?_⟩, rfl⟩
    have := bounds_i64 wb
    show b < 9223372036854775808
    omega
set_option maxRecDepth 8000 in
theorem open_cals {v : Value} (h : DataW.trod enc Try.prog w base spare held n 22 [v] = some x) : ∃ cs, CalR w v cs := by
  rcases open_slice Try.underlying22 h with ⟨h0, _⟩ | ⟨a', len', cap', m, n, D, Pl, hcs, hb, hl, hm, hmm, _, hx⟩
  · simp at h0
    subst h0
    exact ⟨[], ⟨none, 0, rfl, fun h => absurd h (by decide)⟩⟩
  · simp at hcs
    subst hcs
    have hlm : len' ≤ m := by rw [hmm]; split <;> omega
    haveI : Inhabited Cal := ⟨⟨0, 0, 0, false, []⟩⟩
    obtain ⟨f, hf⟩ := choose_lt (α := Cal) (n := len') (p := fun i y => ∃ u, (PcV w u y.b ∧ y.n < 9223372036854775808) ∧ w.cells? base (a'.add (i * 5)) 5 = some [.int .i64 y.act, .int .i64 y.n, .int .i64 y.bit, .bool y.up, u]) (fun i hi => by
      obtain ⟨cs', h1, h2⟩ := hx i (by omega)
      rw [cellsOf39] at h1
      obtain ⟨_, hlen, _⟩ := World.cells?_some h1
      obtain ⟨y, u, hy, rfl⟩ := open_cal hlen h2
      exact ⟨y, u, hy, h1⟩)
    refine ⟨(List.range len').map f, a', cap', by simp, fun h0 => ?_⟩
    have h0' : 0 < len' := by simpa using h0
    obtain ⟨b, off, spot⟩ := a'
    have hspot : spot = none := by
      obtain ⟨u, _, h1⟩ := hf 0 h0'
      have c0 := (World.cells?_some h1).2.2 0 (by decide)
      have : (({ block := b, off := off, spot := spot } : Addr).add (0 * 5)).add 0 = ⟨b, off, spot⟩ := by cases spot <;> simp [Addr.add]
      rw [this] at c0
      simpa using World.cell?_spot c0
    subst hspot
    refine ⟨b, off, rfl, fun i y hi => ?_⟩
    have hil : i < len' := by
      have := (List.getElem?_eq_some_iff.1 hi).1
      simpa using this
    simp [hil] at hi
    subst hi
    obtain ⟨u, h2, h1⟩ := hf i hil
    obtain ⟨_, _, hc⟩ := World.cells?_some h1
    have key : ∀ c, (({ block := b, off := off, spot := none } : Addr).add (i * 5)).add c = ⟨b, off + i * 5 + c, none⟩ := by intro c; rw [Addr.add_lit, Addr.add_lit]
    have k0 := hc 0 (by decide)
    have k1 := hc 1 (by decide)
    have k2 := hc 2 (by decide)
    have k3 := hc 3 (by decide)
    have k4 := hc 4 (by decide)
    rw [key] at k0 k1 k2 k3 k4
    exact ⟨u, k0, k1, k2, k3, k4, h2.1, h2.2⟩
end
theorem open_truths {H : Type} {enc : TypeId × Value → H} {w : World} {base : Nat} {held : Bool} {n : Nat} {x : DataW H × List MemPlace} {v : Value} (h : DataW.trod enc Try.prog w base (fun _ => true) held n 42 [v] = some x) : ∃ bs, BoR w v bs := by
  rcases open_bools Try.underlying42 Try.underlying4 (by kernel_rfl) h with ⟨hcs, _⟩ | ⟨a, len, cap, B, hcs, _, hl, hm, _, hcell⟩
  · simp at hcs
    subst hcs
    exact ⟨[], none, 0, rfl, fun i hi => absurd hi (Nat.not_lt_zero _)⟩
  · simp at hcs
    subst hcs
    refine ⟨(List.range len).map B, some a, cap, by simp, fun i hi => ?_⟩
    have hi' : i < len := by simpa using hi
    obtain ⟨b, off, spot⟩ := a
    have h0 := hcell 0 (by omega)
    have hspot : spot = none := by simpa [Addr.add] using World.cell?_spot h0
    subst hspot
    refine ⟨b, off, rfl, ?_⟩
    have := hcell i (by omega)
    rw [Addr.add_lit] at this
    rw [this]
    simp [hi']

end Go.Proofs.Ytljceoojbppaeaa
