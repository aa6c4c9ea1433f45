/-
  The document's answer for rules: rows of names and of conditions.
-/
import Derived.Test.YtdjjlccpmfhkiaaDoorDAny
import Derived.Test.YtdjjlccpmfhkiaaDoorRows1
namespace Go.Proofs.YtdjjlccpmfhkiaaDoor.Doc
open Go.RowKit

theorem Pc.grown {X Y : World} {row : Option Nat} {b g cap n : Nat} {ts : List Tok} {c p : Int} (h : Pc X b g cap ts n c p) (hg : X.grownBy Y row) (hb : ∀ k, row = some k → b < k) (hg' : ∀ k, row = some k → g < k) : Pc Y b g cap ts n c p := by
  refine ⟨h.blk.grown hg hb, ⟨h.tok.1, fun h0 => ?_⟩, h.ne, h.len⟩
  obtain ⟨g', e, hc⟩ := h.tok.2 h0
  cases e
  refine ⟨g, rfl, fun i x hx => ?_⟩
  have q : Y.heap[g]? = X.heap[g]? := hg.block g (World.block_lt_of_cell? X _ (hc i x hx).1) (fun e => by have := hg' g e.symm; omega)
  exact ⟨cell_same (hc i x hx).1 q, cell_same (hc i x hx).2.1 q, cell_same (hc i x hx).2.2.1 q, cell_same (hc i x hx).2.2.2 q⟩

/-- a rule under way: the answer's cells, the rule's own, its two rows, and the place. -/
structure Rx (w : World) (b g cap : Nat) (ts : List Tok) (m : Nat) (c p : Int) (r B1 B2 : Nat) (k a : Int) (vn vc : Value) (ns : List (List UInt8)) (cs : List Cd) (X : World) : Prop where
  pc : Pc X b g cap ts m c p
  out : Blk X w.heap.size 43 [.int .i64 0, .int .i64 0, .slice none 0 0, .slice none 0 0]
  blk : Blk X r 43 [.int .i64 k, .int .i64 a, vn, vc]
  bt : Bt b w X
  nm : X.ownsRow B1 9 1 vn ns.length (cellsN ns)
  cd : X.ownsRow B2 45 4 vc cs.length (cellsC cs)
  lb : b < w.heap.size
  lg : g < w.heap.size
  lr : w.heap.size < r
  l1 : r < B1
  l2 : B1 ≤ B2
  ap : ∀ j, vn.ownBlock = some j → j < B2
  sz : B2 ≤ X.heap.size

section
variable {w X Y : World} {b g cap m m' r B1 B2 : Nat} {ts : List Tok} {c p c' p' k a : Int} {vn vc v' : Value} {ns : List (List UInt8)} {cs : List Cd}
theorem Rx.over (h : Rx w b g cap ts m c p r B1 B2 k a vn vc ns cs X) (hb : Below X.heap.size X Y) : Rx w b g cap ts m c p r B1 B2 k a vn vc ns cs Y :=
  ⟨h.pc.over hb, h.out.over hb, h.blk.over hb, h.bt.over hb, owns_below h.nm hb (Nat.le_refl _), owns_below h.cd hb (Nat.le_refl _), h.lb, h.lg, h.lr, h.l1, h.l2, h.ap, Nat.le_trans h.sz hb.size⟩
theorem Rx.on (h : Rx w b g cap ts m c p r B1 B2 k a vn vc ns cs X) (hb : Bt b X Y) (hp : Pc Y b g cap ts m' c' p') : Rx w b g cap ts m' c' p' r B1 B2 k a vn vc ns cs Y := by
  have l1 := h.l1
  have l2 := h.l2
  have lr := h.lr
  have lb := h.lb
  exact ⟨hp, hb.blk h.out (by omega), hb.blk h.blk (by omega), h.bt.trans hb, owns_bt h.nm hb (by omega), owns_bt h.cd hb (by omega), h.lb, h.lg, h.lr, h.l1, h.l2, h.ap, Nat.le_trans h.sz hb.size⟩
theorem Rx.next (h : Rx w b g cap ts m c p r B1 B2 k a vn vc ns cs X) : Rx w b g cap ts (m + 1) c p r B1 B2 k a vn vc ns cs (X.setCell ⟨b, 1, none⟩ (.int .i64 ((m : Int) + 1))) := h.on ((Bt.refl b X).setCell 1 _) (h.pc.set (m + 1))
/-- a name more: behind the append, and stored. -/
theorem Rx.name {t : List UInt8} (h : Rx w b g cap ts m c p r B1 B2 k a vn vc ns [] X) (hv : vc = .slice none 0 0) (ho : Y.ownsRow B1 9 1 v' (ns.length + 1) (cellsN (ns ++ [t]))) (hg : X.grownBy Y vn.ownBlock) :
    Rx w b g cap ts m c p r B1 Y.heap.size k a v' vc (ns ++ [t]) [] (Y.setCell ⟨r, 2, none⟩ v') := by
  have l1 := h.l1
  have l2 := h.l2
  have lr := h.lr
  have lb := h.lb
  have lg := h.lg
  have sz := h.sz
  have hk := owns_block h.nm
  have hsz := hg.size
  have hp : Pc Y b g cap ts m c p := h.pc.grown hg (fun k e => by have := hk k e; omega) (fun k e => by have := hk k e; omega)
  have ho2 : Blk Y w.heap.size 43 [.int .i64 0, .int .i64 0, .slice none 0 0, .slice none 0 0] := h.out.grown hg (fun k e => by have := hk k e; omega)
  have hb2 : Blk Y r 43 [.int .i64 k, .int .i64 a, vn, vc] := h.blk.grown hg (fun k e => by have := hk k e; omega)
  have hbt : Bt b w Y := h.bt.grown hg (fun k e => by have := hk k e; omega)
  have hs' : (Y.setCell ⟨r, 2, none⟩ v').heap.size = Y.heap.size := by simp
  refine ⟨hp.other (by omega) (by omega) v', ho2.other _ _ (by show _ ≠ r; omega), hb2.set 2 v', hbt.setAny (by omega) v', ?_, ?_, lb, lg, lr, l1, by omega, ?_, by rw [hs']; exact Nat.le_refl _⟩
  · rw [List.length_append]
    exact owns_set ho l1
  · subst hv
    exact ⟨rfl, .inl ⟨rfl, rfl⟩⟩
  · intro j hj
    rcases ho.2 with ⟨rfl, _⟩ | ⟨g', cap', cur, rfl, _, hh, _⟩
    · cases hj
    · cases hj
      exact lt_of_block hh
/-- a condition more. -/
theorem Rx.cond {x : Cd} (h : Rx w b g cap ts m c p r B1 B2 k a vn vc ns cs X) (ho : Y.ownsRow B2 45 4 v' (cs.length + 1) (cellsC (cs ++ [x]))) (hg : X.grownBy Y vc.ownBlock) :
    Rx w b g cap ts m c p r B1 B2 k a vn v' ns (cs ++ [x]) (Y.setCell ⟨r, 3, none⟩ v') := by
  have l1 := h.l1
  have l2 := h.l2
  have lr := h.lr
  have lb := h.lb
  have lg := h.lg
  have sz := h.sz
  have hk := owns_block h.cd
  have hsz := hg.size
  have hp : Pc Y b g cap ts m c p := h.pc.grown hg (fun k e => by have := hk k e; omega) (fun k e => by have := hk k e; omega)
  have ho2 : Blk Y w.heap.size 43 [.int .i64 0, .int .i64 0, .slice none 0 0, .slice none 0 0] := h.out.grown hg (fun k e => by have := hk k e; omega)
  have hb2 : Blk Y r 43 [.int .i64 k, .int .i64 a, vn, vc] := h.blk.grown hg (fun k e => by have := hk k e; omega)
  have hbt : Bt b w Y := h.bt.grown hg (fun k e => by have := hk k e; omega)
  have hn : Y.ownsRow B1 9 1 vn ns.length (cellsN ns) := by
    refine ⟨h.nm.1, ?_⟩
    rcases h.nm.2 with hq | ⟨g', cap', cur, hv, hg', hh, q⟩
    · exact .inl hq
    · refine .inr ⟨g', cap', cur, hv, hg', ?_, q⟩
      have hlt := h.ap g' (by rw [hv]; rfl)
      rw [hg.block g' (lt_of_block hh) (fun e => by have := hk g' e.symm; omega)]
      exact hh
  have hs' : (Y.setCell ⟨r, 3, none⟩ v').heap.size = Y.heap.size := by simp
  refine ⟨hp.other (by omega) (by omega) v', ho2.other _ _ (by show _ ≠ r; omega), hb2.set 3 v', hbt.setAny (by omega) v', owns_set hn l1, ?_, lb, lg, lr, l1, l2, h.ap, by rw [hs']; omega⟩
  rw [List.length_append]
  exact owns_set ho (by omega)
end

end Go.Proofs.YtdjjlccpmfhkiaaDoor.Doc
