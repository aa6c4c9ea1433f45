/-
  Rules as they lie for whoever reads them: whatever numbers, wherever the slices begin.
-/
import Derived.Test.YtcckipimfgmmdaaGreatDoorMSize
import Derived.Deep.Slices
namespace Go.Proofs.YtcckipimfgmmdaaGreatDoor.M
open Go.RowKit

/-- a condition, a rule, as numbers and texts; a rule with its slices. -/
structure Xc where
  arg : Int
  op : Int
  mask : Int
  val : Int
structure Xl where
  k : Int
  a : Int
  names : List ByteArray
  conds : List Xc
structure Xr where
  r : Xl
  vn : Value
  vc : Value

theorem cellS {w w' : World} {a : Addr} {v : Value} (h : w.cell? a = some v) (hb : w'.heap[a.block]? = w.heap[a.block]?) : w'.cell? a = some v := by
  rw [World.cell?_of_block hb]
  exact h

/-- the texts that a slice leads to. -/
def StrR (w : World) (v : Value) (l : List ByteArray) : Prop :=
  ∃ a cap, v = .slice a l.length cap ∧ l.length ≤ cap ∧ cap ≤ 9223372036854775807 ∧ (0 < l.length → ∃ b o, a = some ⟨b, o, none⟩ ∧ ∀ (i : Nat) (s : ByteArray), l[i]? = some s → w.cell? ⟨b, o + i, none⟩ = some (.string s))

/-- the conditions that a slice leads to. -/
def Xc.at (x : Xc) (w : World) (b o : Nat) : Prop :=
  w.cell? ⟨b, o, none⟩ = some (.int .i64 x.arg) ∧ w.cell? ⟨b, o + 1, none⟩ = some (.int .i64 x.op) ∧ w.cell? ⟨b, o + 2, none⟩ = some (.int .u64 x.mask) ∧ w.cell? ⟨b, o + 3, none⟩ = some (.int .u64 x.val)
def CdR (w : World) (v : Value) (l : List Xc) : Prop :=
  ∃ a cap, v = .slice a l.length cap ∧ l.length ≤ cap ∧ cap ≤ 9223372036854775807 ∧ (0 < l.length → ∃ b o, a = some ⟨b, o, none⟩ ∧ ∀ (i : Nat) (x : Xc), l[i]? = some x → x.at w b (o + i * 4))

/-- the rules that a slice leads to. -/
def Xr.at (x : Xr) (w : World) (b o : Nat) : Prop :=
  w.cell? ⟨b, o, none⟩ = some (.int .i64 x.r.k) ∧ w.cell? ⟨b, o + 1, none⟩ = some (.int .i64 x.r.a) ∧ w.cell? ⟨b, o + 2, none⟩ = some x.vn ∧ w.cell? ⟨b, o + 3, none⟩ = some x.vc
def RlR (w : World) (v : Value) (l : List Xr) : Prop :=
  ∃ a cap, v = .slice a l.length cap ∧ l.length ≤ cap ∧ cap ≤ 9223372036854775807 ∧ (0 < l.length → ∃ b o, a = some ⟨b, o, none⟩ ∧ ∀ (i : Nat) (x : Xr), l[i]? = some x → x.at w b (o + i * 4)) ∧ ∀ x ∈ l, StrR w x.vn x.r.names ∧ CdR w x.vc x.r.conds

theorem Xc.at.below {x : Xc} {w w' : World} {b o : Nat} (h : x.at w b o) (hb : Below w.heap.size w w') : x.at w' b o := by
  have q := hb.block b (World.block_lt_of_cell? w _ h.1)
  exact ⟨cellS h.1 q, cellS h.2.1 q, cellS h.2.2.1 q, cellS h.2.2.2 q⟩
theorem Xr.at.below {x : Xr} {w w' : World} {b o : Nat} (h : x.at w b o) (hb : Below w.heap.size w w') : x.at w' b o := by
  have q := hb.block b (World.block_lt_of_cell? w _ h.1)
  exact ⟨cellS h.1 q, cellS h.2.1 q, cellS h.2.2.1 q, cellS h.2.2.2 q⟩
theorem StrR.below {w w' : World} {v : Value} {l : List ByteArray} (h : StrR w v l) (hb : Below w.heap.size w w') : StrR w' v l := by
  obtain ⟨a, cap, rfl, h1, h2, hc⟩ := h
  refine ⟨a, cap, rfl, h1, h2, fun h0 => ?_⟩
  obtain ⟨b, o, rfl, hx⟩ := hc h0
  exact ⟨b, o, rfl, fun i x hi => cellS (hx i x hi) (hb.block b (World.block_lt_of_cell? w _ (hx i x hi)))⟩
theorem CdR.below {w w' : World} {v : Value} {l : List Xc} (h : CdR w v l) (hb : Below w.heap.size w w') : CdR w' v l := by
  obtain ⟨a, cap, rfl, h1, h2, hc⟩ := h
  refine ⟨a, cap, rfl, h1, h2, fun h0 => ?_⟩
  obtain ⟨b, o, rfl, hx⟩ := hc h0
  exact ⟨b, o, rfl, fun i x hi => (hx i x hi).below hb⟩
theorem RlR.below {w w' : World} {v : Value} {l : List Xr} (h : RlR w v l) (hb : Below w.heap.size w w') : RlR w' v l := by
  obtain ⟨a, cap, rfl, h1, h2, hc, hr⟩ := h
  refine ⟨a, cap, rfl, h1, h2, fun h0 => ?_, fun x hx => ⟨(hr x hx).1.below hb, (hr x hx).2.below hb⟩⟩
  obtain ⟨b, o, rfl, hx⟩ := hc h0
  exact ⟨b, o, rfl, fun i x hi => (hx i x hi).below hb⟩

theorem strR_at {w : World} {p : Option Addr} {n c i : Nat} {l : List ByteArray} (h : StrR w (.slice p n c) l) (hi : i < l.length) : ∃ b o, p = some ⟨b, o, none⟩ ∧ w.cell? ⟨b, o + i, none⟩ = some (.string l[i]) := by
  obtain ⟨a, cap, e, _, _, hc⟩ := h
  cases e
  obtain ⟨b, o, hb, hx⟩ := hc (by omega)
  exact ⟨b, o, hb, hx i _ (List.getElem?_eq_getElem hi)⟩
theorem cdR_at {w : World} {p : Option Addr} {n c i : Nat} {l : List Xc} (h : CdR w (.slice p n c) l) (hi : i < l.length) : ∃ b o, p = some ⟨b, o, none⟩ ∧ l[i].at w b (o + i * 4) := by
  obtain ⟨a, cap, e, _, _, hc⟩ := h
  cases e
  obtain ⟨b, o, hb, hx⟩ := hc (by omega)
  exact ⟨b, o, hb, hx i _ (List.getElem?_eq_getElem hi)⟩
theorem rlR_at {w : World} {p : Option Addr} {n c i : Nat} {l : List Xr} (h : RlR w (.slice p n c) l) (hi : i < l.length) : ∃ b o, p = some ⟨b, o, none⟩ ∧ l[i].at w b (o + i * 4) := by
  obtain ⟨a, cap, e, _, _, hc, _⟩ := h
  cases e
  obtain ⟨b, o, hb, hx⟩ := hc (by omega)
  exact ⟨b, o, hb, hx i _ (List.getElem?_eq_getElem hi)⟩

/-- texts as cells. -/
def cellsB (l : List ByteArray) : List Value := l.map .string

theorem owns_new {w : World} {base : Nat} (t : TypeId) (l : List Value) (hb : base ≤ w.heap.size) (h0 : 0 < l.length) (hl : l.length ≤ 1000) : (w.alloc (Obj.cells l.toArray t)).ownsRow base t 1 (.slice (some ⟨w.heap.size, 0, none⟩) l.length l.length) l.length l := by
  refine ⟨by omega, .inr ⟨w.heap.size, l.length, l.toArray, rfl, hb, heap_alloc_new _ _, Nat.le_refl _, by unfold maxLen; omega, by simp, by simp⟩⟩

theorem owns_cells1 {w : World} {base : Nat} {t : TypeId} {g n cap : Nat} {l : List Value} (h : w.ownsRow base t 1 (.slice (some ⟨g, 0, none⟩) n cap) n l) : ∀ (i : Nat) (x : Value), l[i]? = some x → w.cell? ⟨g, i, none⟩ = some x := by
  intro i x hx
  have := h.cells (g := g) rfl i x hx
  rw [show (⟨g, i, none⟩ : Addr) = (⟨g, 0, none⟩ : Addr).add i from by unfold Addr.add; split <;> simp_all]
  exact this

/-- a row that is not empty has an address. -/
theorem owns_addr {w : World} {base sz : Nat} {t : TypeId} {n : Nat} {v : Value} {l : List Value} (h : w.ownsRow base t sz v n l) (h0 : 0 < n) : ∃ g cap, v = .slice (some ⟨g, 0, none⟩) n cap ∧ base ≤ g ∧ g < w.heap.size ∧ n ≤ cap := by
  rcases h.2 with ⟨_, h1⟩ | ⟨g, cap, cur, rfl, hb, hg, hnc, _⟩
  · omega
  · exact ⟨g, cap, rfl, hb, lt_of_block hg, hnc⟩

theorem Tryz.infoB : (Tryz.prog.info? 9).map (fun i => (i.zero, i.size, i.bytes)) = some (some (.string ⟨#[]⟩), 1, 16) := by kernel_rfl

/-- behind an append to a row of the call's own nothing old has turned. -/
theorem below_grown {w X Y : World} {base sz : Nat} {t : TypeId} {n : Nat} {v : Value} {l : List Value} (hb : Below base w X) (hown : X.ownsRow base t sz v n l) (hg : X.grownBy Y v.ownBlock) (hB : base ≤ X.heap.size) : Below base w Y :=
  hb.grown hg hB (owns_block hown)

end Go.Proofs.YtcckipimfgmmdaaGreatDoor.M
