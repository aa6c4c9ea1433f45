/-
  What comes was sent: how often each frame is where.
-/
import Derived.Test.YtljceoojbppaeaaLkPair
import Derived.Test.YtljceoojbppaeaaLkTake2
import Derived.Test.YtljceoojbppaeaaLkFew
import Derived.Test.YtljceoojbppaeaaLkAwk
namespace Go.Proofs.Ytljceoojbppaeaa
open Go.RowKit D

/-- how often a frame is in both rows. -/
def Lk.cnt (s : Lk) (f : List Int) : Nat := s.u.count f + s.d.count f
def Lk.all (s : Lk) : Nat := s.u.length + s.d.length
/-- what came, and what is under way, was sent. -/
structure SentI (s : Lk) (S C : List (List Int)) : Prop where
  cnt : ∀ f, C.count f + s.cnt f ≤ S.count f
  len : C.length + s.all ≤ S.length
theorem sel_cnt (s : Lk) (up : Bool) (l : List (List Int)) (f : List Int) : (s.put up l).cnt f + (s.sel up).count f = s.cnt f + l.count f := by
  cases up
  · show s.u.count f + l.count f + s.d.count f = s.u.count f + s.d.count f + l.count f
    omega
  · show l.count f + s.d.count f + s.u.count f = s.u.count f + s.d.count f + l.count f
    omega
theorem sel_all (s : Lk) (up : Bool) (l : List (List Int)) : (s.put up l).all + (s.sel up).length = s.all + l.length := by
  cases up
  · show s.u.length + l.length + s.d.length = s.u.length + s.d.length + l.length
    omega
  · show l.length + s.d.length + s.u.length = s.u.length + s.d.length + l.length
    omega
theorem erase_cnt {l : List (List Int)} {n : Nat} (hn : n < l.length) (f : List Int) : (l.eraseIdx n).count f + [l[n]].count f = l.count f ∧ (l.eraseIdx n).length + 1 = l.length := by
  obtain ⟨p, x, q, rfl, hp, he, _⟩ := split_at hn
  subst hp
  rw [he]
  have hx : (p ++ x :: q)[p.length] = x := by simp
  rw [hx, List.count_append, List.count_append, List.length_append, List.length_append, List.length_cons]
  have h1 : (x :: q).count f = [x].count f + q.count f := by rw [← List.count_append]; rfl
  exact ⟨by omega, by omega⟩
theorem SentI.nil : SentI lk0 [] [] := ⟨fun _ => Nat.le_refl _, Nat.le_refl _⟩
theorem SentI.send {s : Lk} {S C : List (List Int)} (h : SentI s S C) (up : Bool) (f : List Int) (hm : maySend (s.sel up) f = true) : SentI (s.send up f) (S ++ [f]) C := by
  unfold Lk.send
  rw [hm, if_pos rfl]
  refine ⟨fun g => ?_, ?_⟩
  · have h1 := h.cnt g
    have h2 := sel_cnt s up (s.sel up ++ [f]) g
    rw [List.count_append] at h2 ⊢
    omega
  · have h1 := h.len
    have h2 := sel_all s up (s.sel up ++ [f])
    rw [List.length_append, List.length_singleton] at h2 ⊢
    omega
theorem SentI.took {s : Lk} {S C : List (List Int)} (h : SentI s S C) (up : Bool) (n : Int) (hn : hasN (s.sel up) n = true) : SentI (s.take up n) S (C ++ [s.came up n]) := by
  have h1 := hasN_lt hn
  have hc : s.came up n = (s.sel up)[n.toNat] := by
    unfold Lk.came
    rw [hn, if_pos rfl, List.getD_eq_getElem?_getD, List.getElem?_eq_getElem h1.2]
    rfl
  unfold Lk.take
  rw [hn, if_pos rfl, hc]
  refine ⟨fun g => ?_, ?_⟩
  · have h2 := h.cnt g
    have h3 := sel_cnt s up ((s.sel up).eraseIdx n.toNat) g
    have h4 := (erase_cnt h1.2 g).1
    rw [List.count_append]
    omega
  · have h2 := h.len
    have h3 := sel_all s up ((s.sel up).eraseIdx n.toNat)
    have h4 := (erase_cnt h1.2 []).2
    rw [List.length_append, List.length_singleton]
    omega
theorem SentI.lost {s : Lk} {S C : List (List Int)} (h : SentI s S C) (up : Bool) (n : Int) : SentI (s.take up n) S C := by
  by_cases hn : hasN (s.sel up) n = true
  · have h1 := h.took up n hn
    refine ⟨fun g => ?_, ?_⟩
    · have := h1.cnt g
      rw [List.count_append] at this
      omega
    · have := h1.len
      rw [List.length_append] at this
      omega
  · unfold Lk.take
    rw [if_neg hn]
    exact h
theorem send_no' {s : Lk} {up : Bool} {f : List Int} (h : maySend (s.sel up) f = false) : s.send up f = s := Lk.send_no h
theorem take_no {s : Lk} {up : Bool} {n : Int} (h : hasN (s.sel up) n = false) : s.take up n = s := by
  unfold Lk.take
  rw [h, if_neg (by decide)]

/-- a row more. -/
theorem Prs.app0 {B : Nat} {w w' : World} {v v' u : Value} {S C : List (List Int)} {f : List Int} (h : Prs B w v u ⟨S, C⟩) (ha : ApT B w w' v v' (S ++ [f])) (hB : B ≤ w.heap.size) : Prs B w' v' u ⟨S ++ [f], C⟩ ∧ Sk [37] B w w' := by
  have hs := ha.sk h.r0 hB
  refine ⟨⟨ha.row, h.r1.sk hs (by simp) fun k e => ha.block k (h.r1.blk k e).2.1 fun e2 => h.ap k e2 e, fun k e1 e2 => ?_⟩, hs⟩
  rcases ha.own with e | ⟨g, e, hg⟩
  · exact h.ap k (by rw [← e]; exact e1) e2
  · rw [e] at e1
    cases e1
    exact absurd (h.r1.blk _ e2).2.1 (Nat.not_lt.2 hg)
theorem Prs.app1 {B : Nat} {w w' : World} {v u' u : Value} {S C : List (List Int)} {f : List Int} (h : Prs B w v u ⟨S, C⟩) (ha : ApT B w w' u u' (C ++ [f])) (hB : B ≤ w.heap.size) : Prs B w' v u' ⟨S, C ++ [f]⟩ ∧ Sk [37] B w w' := by
  have hs := ha.sk h.r1 hB
  refine ⟨⟨h.r0.sk hs (by simp) fun k e => ha.block k (h.r0.blk k e).2.1 fun e2 => h.ap k e e2, ha.row, fun k e1 e2 => ?_⟩, hs⟩
  rcases ha.own with e | ⟨g, e, hg⟩
  · exact h.ap k e1 (by rw [← e]; exact e2)
  · rw [e] at e2
    cases e2
    exact absurd (h.r0.blk _ e1).2.1 (Nat.not_lt.2 hg)
theorem Prs.sk {L : List Nat} {B : Nat} {w w' : World} {v u : Value} {s : Lk} (h : Prs B w v u s) (hs : Sk L B w w') (h5 : 5 ∉ L) (h37 : 37 ∉ L) : Prs B w' v u s := ⟨h.r0.sk7 hs h5 h37, h.r1.sk7 hs h5 h37, h.ap⟩
theorem str_inj' {l m : List Int} (hl : Byt l) (hm : Byt m) (h : (strOfNums l).toList = (strOfNums m).toList) : l = m := by
  rw [ByteArray.toList_eq, ByteArray.toList_eq, strOfNums_data, strOfNums_data] at h
  have key : ∀ (k : List Int), Byt k → (k.map fun n => UInt8.ofNat n.toNat).map (fun b => ((b.toNat : Nat) : Int)) = k := fun k hk => by
    rw [List.map_map]
    conv => rhs; rw [← List.map_id k]
    refine List.map_congr_left fun z hz => ?_
    exact u8_back z (hk z hz)
  rw [← key l hl, h, key m hm]

end Go.Proofs.Ytljceoojbppaeaa
