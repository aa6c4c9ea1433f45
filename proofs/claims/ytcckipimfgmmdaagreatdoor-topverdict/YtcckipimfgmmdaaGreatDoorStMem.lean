/-
  A stack as it lies: its instructions in one row, and where each filter ends.
-/
import Derived.Test.YtcckipimfgmmdaaGreatDoorSkRow
import Derived.Deep.AppendSrc
namespace Go.Proofs.YtcckipimfgmmdaaGreatDoor.S
open Go.RowKit

/-- where each filter ends. -/
def endsF : Nat → List (List V.In) → List Int
  | _, [] => []
  | p, l :: ls => ((p + l.length : Nat) : Int) :: endsF (p + l.length) ls
theorem endsF_len (p : Nat) (ls : List (List V.In)) : (endsF p ls).length = ls.length := by
  induction ls generalizing p with
  | nil => rfl
  | cons l ls ih => simp only [endsF, List.length_cons, ih]
theorem endsF_snoc (p : Nat) (ls : List (List V.In)) (l : List V.In) : endsF p (ls ++ [l]) = endsF p ls ++ [((p + ls.flatten.length + l.length : Nat) : Int)] := by
  induction ls generalizing p with
  | nil => simp [endsF]
  | cons k ls ih =>
    rw [List.cons_append, endsF, endsF, ih, List.flatten_cons, List.length_append, List.cons_append, Nat.add_assoc p k.length]
theorem endsF_get (p : Nat) (ls : List (List V.In)) (i : Nat) (h : i < ls.length) : (endsF p ls)[i]? = some ((p + (ls.take (i + 1)).flatten.length : Nat) : Int) := by
  induction ls generalizing p i with
  | nil => exact absurd h (Nat.not_lt_zero _)
  | cons l ls ih =>
    cases i with
    | zero => simp [endsF]
    | succ i =>
      rw [endsF, List.getElem?_cons_succ, ih _ _ (by simpa using h), List.take_succ_cons, List.flatten_cons, List.length_append, Nat.add_assoc]
theorem take_flat {ls : List (List V.In)} {i : Nat} (h : i < ls.length) : (ls.take (i + 1)).flatten.length = (ls.take i).flatten.length + ls[i].length := by
  rw [List.take_succ_eq_append_getElem h, List.flatten_append, List.length_append]
  simp
theorem flat_le (ls : List (List V.In)) (i : Nat) : (ls.take i).flatten.length ≤ ls.flatten.length := by
  have := congrArg (fun x => (List.flatten x).length) (List.take_append_drop i ls)
  simp only [List.flatten_append, List.length_append] at this
  omega
theorem flat_at {ls : List (List V.In)} {i : Nat} (h : i < ls.length) : (ls.flatten.drop (ls.take i).flatten.length).take ls[i].length = ls[i] := by
  have e : ls.flatten = (ls.take i).flatten ++ (ls[i] ++ (ls.drop (i + 1)).flatten) := by
    have := List.take_append_drop i ls
    rw [List.drop_eq_getElem_cons h] at this
    have h2 := congrArg List.flatten this
    rw [List.flatten_append, List.flatten_cons] at h2
    exact h2.symm
  rw [e, List.drop_left, List.take_left]
theorem cost_flat (ls : List (List V.In)) : costL ls = ls.flatten.length + 4 * ls.length := by
  unfold costL
  induction ls with
  | nil => rfl
  | cons l ls ih => rw [List.map_cons, List.sum_cons, ih, List.flatten_cons, List.length_append, List.length_cons]; omega

/-- filters that may be together on a stack. -/
def OkS (ls : List (List V.In)) : Prop := (∀ l ∈ ls, (V.chk l).1 = 0 ∧ ∀ x ∈ l, x.ok) ∧ ls.length ≤ 32 ∧ costL ls ≤ 32768
theorem okS_nil : OkS [] := ⟨fun l h => (by cases h), by decide, by decide⟩
theorem costL_snoc (ls : List (List V.In)) (l : List V.In) : costL (ls ++ [l]) = costL ls + (l.length + 4) := by
  unfold costL
  rw [List.map_append, List.sum_append]
  simp
theorem chk_len {l : List V.In} (h : (V.chk l).1 = 0) : 0 < l.length ∧ l.length ≤ 4096 := by
  unfold V.chk at h
  split at h
  · cases h
  · split at h
    · cases h
    · omega
theorem okS_att {ls : List (List V.In)} {l : List V.In} (h : OkS ls) (hl : ∀ x ∈ l, x.ok) (e : attE ls l = 0) : OkS (ls ++ [l]) := by
  unfold attE at e
  split at e
  case isFalse h1 => exact absurd e h1
  case isTrue h1 =>
    split at e
    · cases e
    · rename_i h2
      refine ⟨fun k hk => ?_, by rw [List.length_append, List.length_singleton]; omega, by rw [costL_snoc]; omega⟩
      rcases List.mem_append.1 hk with hk | hk
      · exact h.1 k hk
      · rw [List.mem_singleton] at hk
        subst hk
        exact ⟨h1, hl⟩
theorem okS_attL {ls : List (List V.In)} {l : List V.In} (h : OkS ls) (hl : ∀ x ∈ l, x.ok) : OkS (attL ls l) := by
  unfold attL
  split
  · exact okS_att h hl ‹_›
  · exact h
/-- what can be attached once can be attached again. -/
theorem okS_take {ls : List (List V.In)} (h : OkS ls) (i : Nat) : OkS (ls.take i) := by
  refine ⟨fun l hl => h.1 l (List.mem_of_mem_take hl), Nat.le_trans (by rw [List.length_take]; exact Nat.min_le_right _ _) h.2.1, ?_⟩
  have h3 := h.2.2
  rw [cost_flat] at h3 ⊢
  have := flat_le ls i
  rw [List.length_take]
  omega
theorem att_again {ls : List (List V.In)} (h : OkS ls) {i : Nat} (hi : i < ls.length) : attE (ls.take i) ls[i] = 0 := by
  have h1 := (h.1 ls[i] (List.getElem_mem hi)).1
  have h2 := h.2.1
  have h3 := (okS_take h (i + 1)).2.2
  rw [costL_step hi] at h3
  unfold attE
  rw [if_pos h1, if_neg]
  rw [List.length_take]
  omega

/-- a stack. -/
structure StkV (w : World) (b : Nat) (vc ve : Value) (ls : List (List V.In)) : Prop where
  blk : V.Blk w b 33 [vc, ve]
  code : w.ownsRow 0 60 4 vc ls.flatten.length (V.cellsI ls.flatten)
  ends : w.ownsRow 0 3 1 ve ls.length (V.cellsN (endsF 0 ls))
theorem StkV.over {w w' : World} {b : Nat} {vc ve : Value} {ls : List (List V.In)} (h : StkV w b vc ve ls) (hb : Below w.heap.size w w') : StkV w' b vc ve ls := ⟨h.blk.over hb, own_over h.code hb, own_over h.ends hb⟩
theorem StkV.drew {w : World} {b : Nat} {vc ve : Value} {ls : List (List V.In)} (h : StkV w b vc ve ls) : StkV w.drew b vc ve ls := ⟨h.blk.drew, h.code.drew, h.ends.drew⟩
theorem blk_ne {X : World} {b j : Nat} {t t' : TypeId} {cs ds : List Value} (ht : t ≠ t') (h : V.Blk X b t cs) (h' : V.Blk X j t' ds) : b ≠ j := by
  rintro rfl
  unfold V.Blk at h h'
  rw [h] at h'
  simp at h'
  exact ht h'.2
/-- a row and a block of unlike types lie apart. -/
theorem row_ne {X : World} {b c s : Nat} {t t' : TypeId} {v : Value} {n : Nat} {xs cs : List Value} (ht : t ≠ t') (h : X.ownsRow c t s v n xs) (h' : V.Blk X b t' cs) : v.ownBlock = none ∨ v.ownBlock ≠ some b := by
  rcases h.2 with ⟨rfl, _⟩ | ⟨g, cap, cur, rfl, _, hg, _⟩
  · exact .inl rfl
  · refine .inr fun e => ?_
    have e2 : g = b := by simpa [Value.ownBlock] using e
    subst e2
    unfold V.Blk at h'
    rw [hg] at h'
    simp at h'
    exact ht h'.2
theorem blk_grown {w w' : World} {b : Nat} {t : TypeId} {l : List Value} {r : Option Nat} (h : V.Blk w b t l) (hg : w.grownBy w' r) (hne : some b ≠ r) : V.Blk w' b t l := by
  have hl := h.lt
  unfold V.Blk at h ⊢
  rw [hg.block b hl hne]
  exact h
/-- another stack's block was turned. -/
theorem StkV.other {X Y : World} {b j : Nat} {vc ve : Value} {ls : List (List V.In)} {cs : List Value} (h : StkV X b vc ve ls) (hj : V.Blk X j 33 cs) (hne : b ≠ j) (hg : X.grownBy Y (some j)) : StkV Y b vc ve ls :=
  ⟨blk_grown h.blk hg (fun e => hne (by simpa using e)), h.code.kept hg (row_ne (by decide) h.code hj), h.ends.kept hg (row_ne (by decide) h.ends hj)⟩
theorem grown_of_below {X Y : World} (h : Below X.heap.size X Y) (r : Option Nat) : X.grownBy Y r := ⟨h.os, h.tape, h.output, h.size, fun k hk _ => h.block k hk⟩
theorem grown_trans {X Y Z : World} {r : Option Nat} (h : X.grownBy Y r) (k : Y.grownBy Z r) : X.grownBy Z r :=
  ⟨k.os.trans h.os, k.tape.trans h.tape, k.output.trans h.output, Nat.le_trans h.size k.size, fun i hi hr => (k.block i (Nat.lt_of_lt_of_le hi h.size) hr).trans (h.block i hi hr)⟩
theorem grown_below {X Y : World} {B b : Nat} (h : X.grownBy Y (some b)) (hB : B ≤ b) (hs : B ≤ X.heap.size) : Below B X Y :=
  ⟨h.os, h.tape, h.output, h.size, fun k hk => h.block k (by omega) (by simp; omega)⟩
theorem grown_set (X : World) (b i : Nat) (v : Value) : X.grownBy (X.setCell ⟨b, i, none⟩ v) (some b) := by
  refine ⟨by simp [World.setCell], by simp [World.setCell], by simp [World.setCell], by simp, fun k hk hr => ?_⟩
  exact heap_setCell_other X ⟨b, i, none⟩ k v (fun e => hr (by rw [e]))

/-- a row to which something is appended that has no room: a new row. -/
theorem run_fresh {P : Program} (w : World) (t ty e : TypeId) (i : TypeInfo) (z : Value) (size bytes : Nat) (ht : P.underlying t = some (.slice e)) (hi : P.info? e = some i) (hz : i.zero = some z)
    (hsize : i.size = size) (hby : i.bytes = bytes) (hzs : z.cells.size = size) (a : Option Addr) (n cap : Nat) (xs : List Value) (hown : w.ownsRow 0 e size (.slice a n cap) n xs)
    (ad : Addr) (m c : Nat) (news : List Value) (hl : news.length = m * size) (hnews : ∀ j u, news[j]? = some u → w.cell? (ad.add j) = some u) (h1 : ∀ u ∈ news, u.oneCell' = true) (hm : 0 < m)
    (h63 : n + m ≤ maxLen) (hbytes : (n + m) * bytes ≤ 140737488355328) :
    ∃ cap' w', (Builtin.append_ #[t, t] ty #[.slice a n n, .slice (some ad) m c]).run P w = .ok (.slice (some ⟨w.heap.size, 0, none⟩) (n + m) cap') w' ∧
      w'.ownsRow w.heap.size e size (.slice (some ⟨w.heap.size, 0, none⟩) (n + m) cap') (n + m) (xs ++ news) ∧ Below w.heap.size w w' := by
  subst hsize
  subst hby
  have hlen : (xs ++ news).length = (n + m) * i.size := by rw [List.length_append, hown.1, hl, Nat.add_mul]
  have hold : (Builtin.firstCells i.size n (.slice a n n)).run P w.drew = .ok xs.toArray w.drew := by
    rcases hown.2 with ⟨e0, h0⟩ | ⟨g, cap2, cur, e0, _⟩
    · cases e0
      have hx : xs = [] := List.eq_nil_of_length_eq_zero (by simpa using hown.1)
      subst hx
      exact run_firstCells_none w.drew i.size 0 0 0
    · cases e0
      exact run_firstCells_some w.drew i.size n ⟨g, 0, none⟩ n n xs hown.1 (hown.cells (g := g) rfl)
  have hge := grownCap_ge w (n + m) n e
  have hcm : grownCap w (n + m) n e ≤ maxLen := grownCap_le_maxLen w (n + m) n e h63
  refine ⟨_, _, run_append_grow_src w t t ty e i z ht hi hz a n n xs hold _ m news (Src.ofSlice w ht ad m c news hl hnews h1) (by omega) (by unfold maxLen at h63; omega) (growslice_fits (by omega) hbytes), ?_, ?_⟩
  · refine ⟨hlen, .inr ⟨w.heap.size, _, _, rfl, Nat.le_refl _, heap_alloc_new w.drew _, hge, hcm, ?_, ?_⟩⟩
    · simp only [Array.size_append, List.size_toArray, size_zeroCells, hzs, hlen, ← Nat.add_mul]
      congr 1
      omega
    · rw [Array.toList_append, ← hlen]
      exact List.take_left
  · exact ((Below.refl _ _).drew).alloc (Nat.le_refl _) _

end Go.Proofs.YtcckipimfgmmdaaGreatDoor.S
