/-
  Rows of a call's own, blocks, and what may have turned behind a call.
-/
import Derived.Test.YtilemgpopjlchaaDoorChecked
import Derived.WalkKit
import Derived.WalkSpells
import Derived.WalkLawsBesides
import Derived.Laws.AppendOwnNone
import Derived.Laws.MakeOwn
import Derived.Laws.OwnMore
import Derived.Laws.Rows
import Derived.Laws.Tables
import Derived.Laws.CopyOwn
import Derived.Laws.StructEq
import Derived.Laws.RangeString
import Derived.Laws.RangeAny
import Derived.Laws.IdiomStrings
namespace Go.Proofs.YtilemgpopjlchaaDoor
open Go.RowKit


theorem ret_int {k : IntKind} {a b : Int} (h : a = b) : Ending.returned (.int k a) = .returned (.int k b) := by rw [h]
theorem ret_bool {a b : Bool} (h : a = b) : Ending.returned (.bool a) = .returned (.bool b) := by rw [h]

theorem owns_block {w : World} {base sz : Nat} {t : TypeId} {v : Value} {n : Nat} {xs : List Value} (h : w.ownsRow base t sz v n xs) : ∀ k, v.ownBlock = some k → base ≤ k := by
  intro k hk
  rcases h.2 with ⟨rfl, rfl⟩ | ⟨g, cap, cur, rfl, hb, _⟩
  · cases hk
  · cases hk; exact hb

theorem owns_lower {w : World} {B B' sz : Nat} {t : TypeId} {v : Value} {n : Nat} {xs : List Value} (h : w.ownsRow B t sz v n xs) (hB : B' ≤ B) : w.ownsRow B' t sz v n xs := by
  refine ⟨h.1, ?_⟩
  rcases h.2 with hn | ⟨g, cap, cur, hv, hg, r⟩
  · exact .inl hn
  · exact .inr ⟨g, cap, cur, hv, Nat.le_trans hB hg, r⟩

/-- a row stays where no block below a bound is touched, and it lies below. -/
theorem owns_below {w w' : World} {base sz B : Nat} {t : TypeId} {v : Value} {n : Nat} {xs : List Value} (h : w.ownsRow base t sz v n xs) (hb : Below B w w') (hB : w.heap.size ≤ B) : w'.ownsRow base t sz v n xs := by
  refine ⟨h.1, ?_⟩
  rcases h.2 with hn | ⟨g, cap, cur, hv, hg, hh, r⟩
  · exact .inl hn
  · exact .inr ⟨g, cap, cur, hv, hg, by rw [hb.block g (Nat.lt_of_lt_of_le (lt_of_block hh) hB)]; exact hh, r⟩

theorem size_alloc' (w : World) (o : Obj) : (w.alloc o).heap.size = w.heap.size + 1 := by
  show (w.heap.push o).size = _
  simp

theorem below_drewN (w : World) (n : Nat) : Below w.heap.size w (w.drewN n) := by
  induction n with
  | zero => exact Below.refl _ _
  | succ n ih => exact ih.drew

/-- a block of cells that nobody froze. -/
def Blk (w : World) (b : Nat) (t : TypeId) (l : List Value) : Prop := w.heap[b]? = some (.cells l.toArray t (0, 0))

section
variable {w : World} {b : Nat} {t : TypeId} {l : List Value}
theorem Blk.cell (h : Blk w b t l) (i : Nat) : w.cell? ⟨b, i, none⟩ = l[i]? := by
  rw [cell_of_row w b i _ _ _ h]
  simp
theorem Blk.f (h : Blk w b t l) (i : Nat) : w.frozen? ⟨b, i, none⟩ = false := frozen_of_row w b i _ _ h
theorem Blk.lt (h : Blk w b t l) : b < w.heap.size := lt_of_block h
theorem Blk.below {w' : World} {B : Nat} (h : Blk w b t l) (hb : Below B w w') (hB : b < B) : Blk w' b t l := by unfold Blk; rw [hb.block b hB]; exact h
theorem Blk.over {w' : World} (h : Blk w b t l) (hb : Below w.heap.size w w') : Blk w' b t l := h.below hb h.lt
theorem Blk.set (h : Blk w b t l) (i : Nat) (v : Value) : Blk (w.setCell ⟨b, i, none⟩ v) b t (l.set i v) := by
  have := heap_setCell_same w b i _ _ v h
  unfold Blk
  rw [this]
  simp
theorem Blk.other (h : Blk w b t l) (a : Addr) (v : Value) (hne : b ≠ a.block) : Blk (w.setCell a v) b t l := by
  unfold Blk
  rw [heap_setCell_other w a b v hne]
  exact h
theorem Blk.row (h : Blk w b t l) (cs : Array Value) : Blk (w.setRow b cs) b t cs.toList := by
  unfold Blk
  rw [setRow_heap w b _ cs _ _ h]
theorem Blk.alloc (h : Blk w b t l) (o : Obj) : Blk (w.alloc o) b t l := by
  unfold Blk
  have hb : Below w.heap.size w (w.alloc o) := (Below.refl _ _).alloc (Nat.le_refl _) _
  rw [hb.block b h.lt]
  exact h
end

theorem blk_new (w : World) (cs : Array Value) (t : TypeId) : Blk (w.alloc (Obj.cells cs t)) w.heap.size t cs.toList := by
  unfold Blk
  rw [heap_alloc_new]

section
variable {w : World} {b : Nat} {t : TypeId} {l : List Value}
theorem Blk.drew (h : Blk w b t l) : Blk w.drew b t l := h
theorem Blk.row_other (h : Blk w b t l) (g : Nat) (cs : Array Value) (hne : b ≠ g) : Blk (w.setRow g cs) b t l := by
  unfold Blk
  rw [setRow_other w g b cs hne]
  exact h
end

theorem blk_new' (w : World) (o : Obj) (cs : Array Value) (t : TypeId) : Blk ((w.alloc o).alloc (Obj.cells cs t)) (w.heap.size + 1) t cs.toList := by
  have := blk_new (w.alloc o) cs t
  rw [size_alloc'] at this
  exact this

theorem below_new (w : World) (o : Obj) : Below w.heap.size w (w.alloc o) := (Below.refl _ _).alloc (Nat.le_refl _) _

theorem room_below (w : World) (o o' : Obj) : Below w.heap.size w ((w.alloc o).alloc o') := (below_new w o).alloc (below_new w o).size _

/-- what lies below a bound stands, and so do all blocks but some, and but those of cells of some types. -/
structure Fr (L X : List Nat) (B : Nat) (w w' : World) : Prop where
  bel : Below B w w'
  blk : ∀ (k : Nat) (o : Obj), w.heap[k]? = some o → (∀ cs t fr, o = .cells cs t fr → t ∉ L) → k ∉ X → w'.heap[k]? = some o
theorem Fr.refl (L X : List Nat) (B : Nat) (w : World) : Fr L X B w w := ⟨Below.refl _ _, fun _ _ h _ _ => h⟩
theorem Fr.trans {L X : List Nat} {B : Nat} {u w w' : World} (h : Fr L X B u w) (k : Fr L X B w w') : Fr L X B u w' := ⟨h.bel.trans k.bel, fun i o hi ht hx => k.blk i o (h.blk i o hi ht hx) ht hx⟩
theorem Fr.mono {L M X Y : List Nat} {B : Nat} {w w' : World} (h : Fr L X B w w') (hL : ∀ t ∈ L, t ∈ M) (hX : ∀ t ∈ X, t ∈ Y) : Fr M Y B w w' := ⟨h.bel, fun i o hi ht hx => h.blk i o hi (fun cs t fr e m => ht cs t fr e (hL t m)) fun e => hx (hX i e)⟩
theorem fr_below {L X : List Nat} {B : Nat} {w w' : World} (h : Below w.heap.size w w') (hB : B ≤ w.heap.size) : Fr L X B w w' := ⟨h.mono hB, fun k o hk _ _ => by rw [h.block k (Array.getElem?_eq_some_iff.1 hk).1]; exact hk⟩
theorem fr_grown {L X : List Nat} {B b : Nat} {w w' : World} (h : w.grownBy w' (some b)) (hB : B ≤ b) (hs : B ≤ w.heap.size) (hx : b ∈ X) : Fr L X B w w' :=
  ⟨⟨h.os, h.tape, h.output, h.size, fun k hk => h.block k (by omega) fun e => by cases e; omega⟩, fun k o hk _ hn => by rw [h.block k (Array.getElem?_eq_some_iff.1 hk).1 fun e => by cases e; exact hn hx]; exact hk⟩
theorem Blk.fr {L X : List Nat} {B k : Nat} {w w' : World} {t : TypeId} {l : List Value} (h : Blk w k t l) (hs : Fr L X B w w') (ht : t ∉ L) (hx : k ∉ X) : Blk w' k t l :=
  hs.blk k _ h (fun _ _ _ e => by cases e; exact ht) hx
theorem owns_fr {L X : List Nat} {B base sz : Nat} {w w' : World} {t : TypeId} {v : Value} {n : Nat} {xs : List Value} (h : w.ownsRow base t sz v n xs) (hs : Fr L X B w w') (ht : t ∉ L) (hx : ∀ k, v.ownBlock = some k → k ∉ X) : w'.ownsRow base t sz v n xs := by
  refine ⟨h.1, ?_⟩
  rcases h.2 with hn | ⟨g, cap, cur, hv, hg, hh, r⟩
  · exact .inl hn
  · exact .inr ⟨g, cap, cur, hv, hg, hs.blk g _ hh (fun _ _ _ e => by cases e; exact ht) (hx g (by rw [hv]; rfl)), r⟩

end Go.Proofs.YtilemgpopjlchaaDoor
