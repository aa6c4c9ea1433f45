/-
  Those that end without an answer, in plain words; rows of IDs that are sorted.
-/
import Derived.Test.YtlckconhhhllkaaTReply
import Derived.Test.YtlckconhhhllkaaSrtN
import Derived.Sort.OwnSorted
import Derived.Maps.AppendAt
namespace Go.Proofs.Ytlckconhhhllkaa
open Go.RowKit Go.Maps
open Go.Sort (PermIn SortedIn)

/-- one that waits and is meant ends. -/
def lvF (q : En → Bool) (k : Int) (x : En) : En := if x.waits && q x then x.gone k else x
def lvI (q : En → Bool) (L : List En) : List Int := (L.filter fun x => x.waits && q x).map (·.id)
theorem keeps_lvF (q : En → Bool) (k : Int) : Keeps (lvF q k) := fun x => by unfold lvF En.gone; split <;> exact ⟨rfl, rfl⟩
theorem lvF_yes {q : En → Bool} {k : Int} {x : En} (hw : x.waits = true) (hq : q x = true) : lvF q k x = x.gone k := by unfold lvF; rw [hw, hq]; rfl
theorem lvF_no {q : En → Bool} {k : Int} {x : En} (h : (x.waits && q x) = false) : lvF q k x = x := by unfold lvF; rw [h]; rfl
theorem mem_lvI {q : En → Bool} {L : List En} {z : Int} : z ∈ lvI q L ↔ ∃ x ∈ L, (x.waits && q x) = true ∧ x.id = z := by
  unfold lvI
  rw [List.mem_map]
  constructor
  · rintro ⟨x, hx, rfl⟩
    exact ⟨x, (List.mem_filter.1 hx).1, (List.mem_filter.1 hx).2, rfl⟩
  · rintro ⟨x, h1, h2, rfl⟩
    exact ⟨x, List.mem_filter.2 ⟨h1, h2⟩, rfl⟩
theorem lvI_rise {q : En → Bool} {L : List En} (hu : L.Pairwise fun x y => x.id < y.id) : (lvI q L).Pairwise (· < ·) := by
  unfold lvI
  rw [List.pairwise_map]
  exact hu.filter _
theorem len_lvI (q : En → Bool) (L : List En) : (lvI q L).length ≤ L.length := by
  unfold lvI
  rw [List.length_map]
  exact List.length_filter_le _ _
theorem rise_nd {l : List Int} (h : l.Pairwise (· < ·)) : l.Nodup := h.imp fun h => by omega
theorem rise_ext {l m : List Int} (hl : l.Pairwise (· < ·)) (hm : m.Pairwise (· < ·)) (h : ∀ z, z ∈ l ↔ z ∈ m) : l = m := by
  have hp : l.Perm m := (List.perm_ext_iff_of_nodup (rise_nd hl) (rise_nd hm)).2 h
  exact List.Perm.eq_of_pairwise (le := fun a b => a < b) (fun a b _ _ h1 h2 => by omega) hl hm hp
theorem nodup_le : ∀ (l m : List Int), l.Nodup → (∀ x ∈ l, x ∈ m) → l.length ≤ m.length
  | [], _, _, _ => Nat.zero_le _
  | x :: l, m, hn, hs => by
    have hx : x ∈ m := hs x (List.mem_cons_self ..)
    have h1 := nodup_le l (m.erase x) (List.nodup_cons.1 hn).2 fun y hy => by
      have hne : y ≠ x := fun e => (List.nodup_cons.1 hn).1 (e ▸ hy)
      exact (List.mem_erase_of_ne hne).2 (hs y (List.mem_cons_of_mem _ hy))
    rw [List.length_erase_of_mem hx] at h1
    have h2 := List.length_pos_of_mem hx
    rw [List.length_cons]
    omega

/-- the IDs met so far. -/
def ColE (q : En → Bool) (L : List En) (left : Lit → Bool) (ss : List Int) : Prop := ss.Nodup ∧ ∀ z, z ∈ ss ↔ z ∈ lvI q L ∧ left (litU z) = false
section
variable {q : En → Bool} {L : List En} {left : Lit → Bool} {ss : List Int} {x : En}
theorem ColE.start {D : De} (h : VwE D L) : ColE q L (has D) [] := ⟨List.nodup_nil, fun z => by
  constructor
  · intro h; cases h
  · rintro ⟨h1, h2⟩
    obtain ⟨x, hx, _, rfl⟩ := mem_lvI.1 h1
    rw [(h.has x.id).2 ⟨x, hx, rfl⟩] at h2
    cases h2⟩
theorem ColE.yes (h : ColE q L left ss) (hl : left (litU x.id) = true) (hx : x ∈ L) (hq : (x.waits && q x) = true) : ColE q L (fun k => left k && !k.sameKey (litU x.id)) (ss ++ [x.id]) := by
  have hn : x.id ∉ ss := fun hm => by have := ((h.2 _).1 hm).2; rw [hl] at this; cases this
  refine ⟨List.nodup_append.2 ⟨h.1, by simp, fun a ha b hb => by rw [List.mem_singleton] at hb; subst hb; intro e; subst e; exact hn ha⟩, fun y => ?_⟩
  rw [List.mem_append, List.mem_singleton, h.2 y]
  show _ ↔ y ∈ lvI q L ∧ (left (litU y) && !(litU y).sameKey (litU x.id)) = false
  rw [same_litU]
  by_cases e : y = x.id
  · subst e
    have : x.id ∈ lvI q L := mem_lvI.2 ⟨x, hx, hq, rfl⟩
    simp [this]
  · simp [e]
theorem ColE.no (h : ColE q L left ss) (hu : L.Pairwise fun x y => x.id < y.id) (hx : x ∈ L) (hq : (x.waits && q x) = false) : ColE q L (fun k => left k && !k.sameKey (litU x.id)) ss := by
  refine ⟨h.1, fun y => ?_⟩
  rw [h.2 y]
  show _ ↔ y ∈ lvI q L ∧ (left (litU y) && !(litU y).sameKey (litU x.id)) = false
  rw [same_litU]
  by_cases e : y = x.id
  · subst e
    have : x.id ∉ lvI q L := fun hm => by
      obtain ⟨x', h1, h2, h3⟩ := mem_lvI.1 hm
      have e3 := findI_of hu hx
      have e4 := findI_of hu h1
      rw [h3, e3] at e4
      cases e4
      rw [hq] at h2
      cases h2
    simp [this]
  · simp [e]
theorem ColE.done (h : ColE q L left ss) (hl : ∀ k, left k = false) (z : Int) : z ∈ ss ↔ z ∈ lvI q L := by
  rw [h.2 z]
  exact ⟨fun h => h.1, fun h => ⟨h, hl _⟩⟩
theorem ColE.len (h : ColE q L left ss) : ss.length ≤ L.length :=
  Nat.le_trans (nodup_le ss (lvI q L) h.1 fun z hz => ((h.2 z).1 hz).1) (len_lvI q L)
end
/-- the list in the middle of the round, one more turned; one that stays as it is. -/
theorem turnL_step {f : En → En} (hf : Keeps f) {left : Lit → Bool} {L : List En} (hu : L.Pairwise fun x y => x.id < y.id) {x : En} (hx : x ∈ L) :
    putL (turnL f (fun z => !left (litU z)) L) (f x) = turnL f (fun z => !(left (litU z) && !(litU z).sameKey (litU x.id))) L := by
  rw [turnL_put hf hu hx]
  congr 1
  funext z
  rw [same_litU]
  by_cases e : z = x.id <;> cases left (litU z) <;> simp [e]
theorem turnL_stay {f : En → En} {left : Lit → Bool} {L : List En} (hu : L.Pairwise fun x y => x.id < y.id) {x : En} (hx : x ∈ L) (h : f x = x) :
    turnL f (fun z => !left (litU z)) L = turnL f (fun z => !(left (litU z) && !(litU z).sameKey (litU x.id))) L := by
  unfold turnL
  refine List.map_congr_left fun y hy => ?_
  show (if (!left (litU y.id)) = true then f y else y) = if (!(left (litU y.id) && !(litU y.id).sameKey (litU x.id))) = true then f y else y
  rw [same_litU]
  by_cases e : y.id = x.id
  · have e2 := findI_of hu hx
    have e3 := findI_of hu hy
    rw [e, e2] at e3
    cases e3
    simp [h]
  · simp [e]
/-- one of those in the middle that is still to come is as it was. -/
theorem turnL_in {f : En → En} (hf : Keeps f) {left : Lit → Bool} {L : List En} {x : En} (hx : x ∈ turnL f (fun z => !left (litU z)) L) (hl : left (litU x.id) = true) : x ∈ L := by
  obtain ⟨y, hy, rfl⟩ := List.mem_map.1 hx
  have e1 : (if (!left (litU y.id)) = true then f y else y).id = y.id := by
    split
    · exact (hf y).1
    · rfl
  rw [e1] at hl
  show (if (!left (litU y.id)) = true then f y else y) ∈ L
  rw [if_neg (by rw [hl]; decide)]
  exact hy
theorem turnL_len (f : En → En) (p : Int → Bool) (L : List En) : (turnL f p L).length = L.length := by unfold turnL; rw [List.length_map]
theorem turnL_has {f : En → En} (hf : Keeps f) {p : Int → Bool} {L : List En} {x : En} (hx : x ∈ L) : ∃ y ∈ turnL f p L, y.id = x.id := by
  refine ⟨_, List.mem_map.2 ⟨x, hx, rfl⟩, ?_⟩
  split
  · exact (hf x).1
  · rfl

theorem ltZ_no {x y : Int} (h : ltZ x y = false) : y ≤ x := by unfold ltZ at h; rw [decide_eq_false_iff_not] at h; omega
theorem rise_of {ss : List Int} {d' : Array Int} (hn : ss.Nodup) (hp : PermIn 0 ss.length ss.toArray d') (hs : SortedIn ltZ 0 ss.length d') : d'.toList.Pairwise (· < ·) ∧ d'.toList.Perm ss ∧ d'.size = ss.length := by
  have hsz : d'.size = ss.length := by have := hp.1; simpa using this
  have hP : d'.toList.Perm ss := by
    have h1 := hp.2.2
    rw [show d'.extract 0 ss.length = d' from by rw [← hsz]; simp, show ss.toArray.extract 0 ss.length = ss.toArray from by simp] at h1
    exact h1
  have hN : d'.toList.Nodup := hP.nodup_iff.2 hn
  refine ⟨List.pairwise_iff_getElem.2 fun i j hi hj hij => ?_, hP, hsz⟩
  have hi' : i < d'.size := by simpa using hi
  have hj' : j < d'.size := by simpa using hj
  have h1 := hs i j (Nat.zero_le _) hij (by omega)
  rw [getElem!_pos d' i hi', getElem!_pos d' j hj'] at h1
  have h3 := ltZ_no h1
  have h2 := List.pairwise_iff_getElem.1 hN i j hi hj hij
  simp only [Array.getElem_toList] at h2 ⊢
  omega
theorem row_of_sw {w w' : World} {g n cap : Nat} {d' : Array Int} {cur : Array Value} {tl : List Value} {base : Nat} (hsw : Sw w g tl d' w') (hd : d'.size = n) (hc1 : n ≤ cap) (hc2 : cap ≤ maxLen) (hg : base ≤ g) (hcur : cur.size = cap) (htl : tl = cur.toList.drop n) : w'.ownsRow base 23 1 (.slice (some ⟨g, 0, none⟩) n cap) d'.toList.length (cellsU d'.toList) := by
  refine ⟨by simp [cellsU], .inr ⟨g, cap, (cellsA d' ++ tl).toArray, by rw [Array.length_toList, hd], hg, hsw.blk, by rw [Array.length_toList, hd]; exact hc1, hc2, ?_, ?_⟩⟩
  · have h1 : (cellsA d').length = d'.size := cellsA_len d'
    have h2 : tl.length = cap - n := by rw [htl, List.length_drop, Array.length_toList, hcur]
    simp [h1, h2]
    omega
  · have h1 : (cellsA d').length = d'.size := cellsA_len d'
    rw [Array.length_toList, Nat.mul_one]
    show (cellsA d' ++ tl).take d'.size = _
    rw [← h1, List.take_left']
    · rfl
    · rfl
theorem blk_of_row {w : World} {g : Nat} {cur : Array Value} {ss : List Int} (hb : w.heap[g]? = some (.cells cur 23 (0, 0))) (ht : cur.toList.take (ss.length * 1) = cellsU ss) : Blk w g 23 (cellsA ss.toArray ++ cur.toList.drop ss.length) := by
  unfold Blk
  rw [hb]
  have h1 : cellsA ss.toArray = cellsU ss := rfl
  rw [h1, ← ht, Nat.mul_one, List.take_append_drop]

/-- of what may have turned, what was not there yet need not be named. -/
theorem Fr.fresh {K X Y : List Nat} {C : Nat} {w w' : World} (h : Fr K X C w w') (hX : ∀ x ∈ X, x ∈ Y ∨ w.heap.size ≤ x) : Fr K Y C w w' :=
  ⟨h.bel, fun k o hk ht hy => h.blk k o hk ht fun hm => (hX k hm).elim hy fun h2 => by have := (Array.getElem?_eq_some_iff.1 hk).1; omega⟩

/-- those that ended: their IDs in a row of one's own, and the table. -/
def LvR (w : World) (b B : Nat) (s : Nt) (q : En → Bool) (k : Int) (e : Ending) (w' : World) : Prop :=
  ∃ v, e = .returned v ∧ w'.ownsRow w.heap.size 23 1 v (lvI q s.L).length (cellsU (lvI q s.L)) ∧ Rs w w' b B { s with L := s.L.map (lvF q k) }

/-- the box. -/
def TaB (W : World) (b B : Nat) (s : Nt) : Prop := Blk W b 62 [.int .i64 s.size, .int .i64 s.wait, .int .u64 s.next, .int .u64 s.ep, .map (some B)]
theorem TaB.of {w W : World} {b B r : Nat} {s : Nt} (h : TaV w b B s) (hf : Fr [] [r, B] 0 w W) (hr : b ≠ r) : TaB W b B s := h.blk.fr hf (by simp) (by have := h.ne; simp; exact ⟨hr, this⟩)
theorem TaB.c4 {W : World} {b B : Nat} {s : Nt} (h : TaB W b B s) : W.cell? ⟨b, 4, none⟩ = some (.map (some B)) := Blk.cell h 4
/-- the function's loop over the map, in memory: D is what the map holds, ss what is in the row. -/
structure LvM (w wr : World) (B r base n : Nat) (v : Value) (left : Lit → Bool) (cnt : Nat) (D : De) (ss : List Int) : Prop where
  rg : wr.ranges Try.prog 23 readE B r n D left cnt
  row : wr.ownsRow base 23 1 v ss.length (cellsU ss)
  fr : Fr [] [r, B] 0 w wr
  sz : base ≤ wr.heap.size
section
variable {w W W' : World} {B r base n cnt : Nat} {v : Value} {left : Lit → Bool} {D : De} {ss : List Int}
theorem LvM.over (h : LvM w W B r base n v left cnt D ss) (hb : Below W.heap.size W W') : LvM w W' B r base n v left cnt D ss :=
  ⟨ranges_but h.rg (fr_below (X := []) (L := []) hb (Nat.zero_le _)) (by simp) (by simp), owns_below h.row hb (Nat.le_refl _), h.fr.trans (fr_below hb (Nat.zero_le _)), Nat.le_trans h.sz hb.size⟩
theorem LvM.next {left' : Lit → Bool} {cnt' : Nat} (h : LvM w W B r base n v left cnt D ss) (hg : W.grownBy W' (some r)) (hr : r < base) (hrg : W'.ranges Try.prog 23 readE B r n D left' cnt') : LvM w W' B r base n v left' cnt' D ss := by
  have hf : Fr [] [r] 0 W W' := fr_grown hg (Nat.zero_le _) (Nat.zero_le _) (by simp)
  refine ⟨hrg, owns_fr h.row hf (by simp) (fun k hk => ?_), h.fr.trans (hf.mono (by simp) (by simp)), Nat.le_trans h.sz hg.size⟩
  have := owns_block h.row k hk
  simp
  omega
/-- a cell of a box that the call made. -/
theorem LvM.cell {e i : Nat} {u : Value} (h : LvM w W B r base n v left cnt D ss) (he : w.heap.size ≤ e) (hr : r ≠ e) (hB : B ≠ e) (hg : ∀ g, v.ownBlock = some g → g ≠ e) : LvM w (W.setCell ⟨e, i, none⟩ u) B r base n v left cnt D ss := by
  have hf : Fr [] [e] 0 W (W.setCell ⟨e, i, none⟩ u) := fr_box (by simp)
  refine ⟨ranges_but h.rg hf (by simpa using hB) (by simpa using hr), owns_fr h.row hf (by simp) (fun k hk => by simpa using hg k hk), ?_, by rw [show (W.setCell ⟨e, i, none⟩ u).heap.size = W.heap.size by simp]; exact h.sz⟩
  exact ((h.fr.mono (by simp) (fun x hx => by simp at hx ⊢; rcases hx with e | e <;> simp [e])).trans (hf.mono (by simp) (fun x hx => by simp at hx ⊢; simp [hx]))).fresh (X := [r, B, e]) (Y := [r, B]) fun x hx => by
    simp at hx ⊢
    rcases hx with rfl | rfl | rfl
    · exact .inl (.inl rfl)
    · exact .inl (.inr rfl)
    · exact .inr he
theorem LvM.turned {D' : De} (h : LvM w W B r base n v left cnt D ss) (hB : B < base) (ht : W.mapTurned W' B) (hrg : W'.ranges Try.prog 23 readE B r n D' left cnt) : LvM w W' B r base n v left cnt D' ss := by
  have hf : Fr [] [B] 0 W W' := fr_turn ht.grown (by simp)
  refine ⟨hrg, owns_fr h.row hf (by simp) (fun k hk => ?_), h.fr.trans (hf.mono (by simp) (by simp)), Nat.le_trans h.sz hf.bel.size⟩
  have := owns_block h.row k hk
  simp
  omega
theorem LvM.app {v' : Value} {z : Int} (h : LvM w W B r base n v left cnt D ss) (hb : w.heap.size ≤ base) (ha : App 23 base W W' v v' (cellsU ss ++ cellsU [z])) : LvM w W' B r base n v' left cnt D (ss ++ [z]) := by
  have hf := app_fr h.row ha h.sz
  refine ⟨ranges_but h.rg hf (by simp) (by simp), ?_, ?_, Nat.le_trans h.sz hf.bel.size⟩
  · have := ha.own
    rw [show cellsU ss ++ cellsU [z] = cellsU (ss ++ [z]) by simp [cellsU], cellsU_len] at this
    exact this
  · obtain ⟨X, hX, hf2⟩ : ∃ X : List Nat, (∀ x ∈ X, base ≤ x) ∧ Fr [] X 0 W W' := by
      have hg := ha.grow
      cases ho : v.ownBlock with
      | none =>
        rw [ho] at hg
        exact ⟨[], by simp, fr_below ⟨hg.os, hg.tape, hg.output, hg.size, fun k hk => hg.block k hk (by simp)⟩ (Nat.zero_le _)⟩
      | some g =>
        rw [ho] at hg
        exact ⟨[g], by simpa using owns_block h.row g ho, fr_grown hg (Nat.zero_le _) (Nat.zero_le _) (by simp)⟩
    exact ((h.fr.mono (by simp) (fun x hx => List.mem_append_left X hx)).trans (hf2.mono (by simp) (fun x hx => List.mem_append_right [r, B] hx))).fresh fun x hx => by
      rcases List.mem_append.1 hx with hx | hx
      · exact .inl hx
      · exact .inr (Nat.le_trans hb (hX x hx))
end

end Go.Proofs.Ytlckconhhhllkaa
