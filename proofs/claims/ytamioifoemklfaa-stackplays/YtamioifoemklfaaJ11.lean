/-
  Texts of this seat, joined: AMostMath, SkMath, VVRun, SkAns, ASmall, AValue, AKind, AOf, AMost, AMostAll.
-/
import Derived.Test.YtamioifoemklfaaJ8
import Derived.Test.YtamioifoemklfaaJ9
import Derived.Deep.RegionHeld3

namespace Go.Proofs.Ytamioifoemklfaa.A

/-- of two answers, the one that forbids more, or the first. -/
def pick (m v : Int) : Int := if ki v < ki m then v else m

/-- of answers, the first one of those that forbid most. -/
def fom (m : Int) (l : List Int) : Int := l.foldl pick m
def most : List Int → Int
  | [] => 2147418112
  | m :: l => fom m l

theorem pick_assoc (x y z : Int) : pick (pick x y) z = pick x (pick y z) := by
  unfold pick
  by_cases h1 : ki y < ki x <;> by_cases h2 : ki z < ki y <;> by_cases h3 : ki z < ki x <;> simp [h1, h2, h3] <;> omega

theorem fom_pick (l : List Int) : ∀ x v, fom (pick x v) l = pick x (fom v l) := by
  induction l with
  | nil => intro x v; rfl
  | cons y l ih =>
    intro x v
    show fom (pick (pick x v) y) l = pick x (fom (pick v y) l)
    rw [pick_assoc, ih]

theorem fom_app (m : Int) (l k : List Int) : fom m (l ++ k) = fom (fom m l) k := by
  unfold fom
  rw [List.foldl_append]

theorem most_two (x y : Int) : most [x, y] = pick x y := rfl

theorem most_app (a b : List Int) (ha : a ≠ []) (hb : b ≠ []) : most (a ++ b) = most [most a, most b] := by
  match a, ha with
  | m :: a, _ =>
    match b, hb with
    | v :: b, _ =>
      rw [most_two]
      show fom m (a ++ v :: b) = pick (fom m a) (fom v b)
      rw [fom_app]
      exact fom_pick b _ _

/-- x is the first one of those in L that forbid most, and stands at p. -/
def Fst (L : List Int) (x : Int) (p : Nat) : Prop := L[p]? = some x ∧ (∀ y ∈ L, ki x ≤ ki y) ∧ ∀ j y, j < p → L[j]? = some y → ki x < ki y

theorem Fst.one {L : List Int} {x y : Int} {p q : Nat} (h : Fst L x p) (h' : Fst L y q) : x = y := by
  obtain ⟨h1, h2, h3⟩ := h
  obtain ⟨k1, k2, k3⟩ := h'
  have mx := List.mem_of_getElem? h1
  have my := List.mem_of_getElem? k1
  rcases Nat.lt_trichotomy p q with e | e | e
  · have := k3 p x e h1
    have := h2 y my
    omega
  · subst e
    rw [h1] at k1
    exact Option.some.inj k1
  · have := h3 q y e k1
    have := k2 x mx
    omega

theorem fom_fst (l : List Int) : ∀ m, ∃ p, Fst (m :: l) (fom m l) p := by
  induction l with
  | nil =>
    intro m
    refine ⟨0, rfl, ?_, fun j y h => absurd h (by omega)⟩
    intro y hy
    simp at hy
    subst hy
    exact Int.le_refl _
  | cons v l ih =>
    intro m
    obtain ⟨p, h1, h2, h3⟩ := ih (pick m v)
    have e : fom m (v :: l) = fom (pick m v) l := rfl
    rw [e]
    by_cases hv : ki v < ki m
    · have ep : pick m v = v := by unfold pick; rw [if_pos hv]
      rw [ep] at h1 h2 h3 ⊢
      have hx := h2 v (by simp)
      refine ⟨p + 1, by simpa using h1, ?_, ?_⟩
      · intro y hy
        rcases List.mem_cons.1 hy with rfl | hy
        · omega
        · exact h2 y hy
      · intro j y hj hy
        match j, hj, hy with
        | 0, _, hy => simp at hy; subst hy; omega
        | j + 1, hj, hy => exact h3 j y (by omega) (by simpa using hy)
    · have ep : pick m v = m := by unfold pick; rw [if_neg hv]
      rw [ep] at h1 h2 h3 ⊢
      have hm := h2 m (by simp)
      match p, h1, h3 with
      | 0, h1, h3 =>
        simp at h1
        refine ⟨0, by simpa using h1, ?_, fun j y h => absurd h (by omega)⟩
        intro y hy
        rcases List.mem_cons.1 hy with rfl | hy
        · exact hm
        · rcases List.mem_cons.1 hy with rfl | hy
          · omega
          · exact h2 y (by simp [hy])
      | p + 1, h1, h3 =>
        have hlt := h3 0 m (by omega) rfl
        refine ⟨p + 2, by simpa using h1, ?_, ?_⟩
        · intro y hy
          rcases List.mem_cons.1 hy with rfl | hy
          · exact hm
          · rcases List.mem_cons.1 hy with rfl | hy
            · omega
            · exact h2 y (by simp [hy])
        · intro j y hj hy
          match j, hj, hy with
          | 0, _, hy => simp at hy; subst hy; exact hlt
          | 1, _, hy => simp at hy; subst hy; omega
          | j + 2, hj, hy => exact h3 (j + 1) y (by omega) (by simpa using hy)

theorem most_fst (l : List Int) (h : l ≠ []) : ∃ p, Fst l (most l) p := by
  match l, h with
  | m :: l, _ => exact fom_fst l m

theorem most_least (l : List Int) (h : l ≠ []) (y : Int) (hy : y ∈ l) : ki (most l) ≤ ki y := by
  obtain ⟨p, _, h2, _⟩ := most_fst l h
  exact h2 y hy

theorem most_in (l : List Int) (h : l ≠ []) : most l ∈ l := by
  obtain ⟨p, h1, _, _⟩ := most_fst l h
  exact List.mem_of_getElem? h1

theorem fom_u (l : List Int) : ∀ m, U32 m → (∀ z ∈ l, U32 z) → U32 (fom m l) := by
  induction l with
  | nil => intro m h _; exact h
  | cons v l ih =>
    intro m h hl
    refine ih (pick m v) ?_ (fun z hz => hl z (by simp [hz]))
    unfold pick
    split
    · exact hl v (by simp)
    · exact h

theorem most_u (l : List Int) (hl : ∀ z ∈ l, U32 z) : U32 (most l) := by
  match l, hl with
  | [], _ => unfold most U32; decide
  | m :: l, hl => exact fom_u l m (hl m (by simp)) (fun z hz => hl z (by simp [hz]))

theorem fom_take (m : Int) (l : List Int) (k : Nat) (hk : k < l.length) : fom m (l.take (k + 1)) = pick (fom m (l.take k)) (l.getD k 0) := by
  have e1 : l.take (k + 1) = l.take k ++ [l[k]] := by rw [List.take_add_one, List.getElem?_eq_getElem hk]; rfl
  have e2 : l.getD k 0 = l[k] := by simp [hk]
  rw [e1, e2, fom_app]
  rfl

/-- is there a number of the first k that forbids more? -/
def moreB (l : List Int) (x : Int) : Bool := l.any (fun y => decide (ki y < ki x))

theorem moreB_take (l : List Int) (x : Int) (k : Nat) (hk : k < l.length) : moreB (l.take (k + 1)) x = (moreB (l.take k) x || decide (ki (l.getD k 0) < ki x)) := by
  have e1 : l.take (k + 1) = l.take k ++ [l[k]] := by rw [List.take_add_one, List.getElem?_eq_getElem hk]; rfl
  have e2 : l.getD k 0 = l[k] := by simp [hk]
  rw [e1, e2]
  unfold moreB
  rw [List.any_append]
  simp

theorem moreB_false {l : List Int} {x : Int} (h : moreB l x = false) : ∀ y ∈ l, ki x ≤ ki y := by
  intro y hy
  unfold moreB at h
  rw [List.any_eq_false] at h
  have := h y hy
  simp at this
  exact this

theorem moreB_true {l : List Int} {x : Int} (h : moreB l x = true) : ∃ y ∈ l, ki y < ki x := by
  unfold moreB at h
  rw [List.any_eq_true] at h
  obtain ⟨y, hy, h⟩ := h
  exact ⟨y, hy, by simpa using h⟩

/-- the first one that none forbids more than is what Most tells. -/
theorem most_at (l : List Int) (i : Nat) (hi : i < l.length) (hno : moreB l (l.getD i 0) = false) (hyes : ∀ j, j < i → moreB l (l.getD j 0) = true) : most l = l.getD i 0 := by
  have e2 : l.getD i 0 = l[i] := by simp [hi]
  have hne : l ≠ [] := by intro e; subst e; simp at hi
  obtain ⟨p, hp⟩ := most_fst l hne
  have hmin := moreB_false hno
  refine hp.one (q := i) ⟨by rw [e2]; exact List.getElem?_eq_getElem hi, hmin, ?_⟩
  intro j y hj hy
  have hjl : j < l.length := by omega
  have : l.getD j 0 = y := by simp [hy]
  obtain ⟨z, hz, hlt⟩ := moreB_true (hyes j hj)
  rw [this] at hlt
  have := hmin z hz
  omega

/-- among numbers that are not none, one forbids most. -/
theorem most_some (l : List Int) (h : l ≠ []) : ∃ i, i < l.length ∧ moreB l (l.getD i 0) = false := by
  obtain ⟨p, h1, h2, _⟩ := most_fst l h
  obtain ⟨hp, e⟩ := List.getElem?_eq_some_iff.1 h1
  refine ⟨p, hp, ?_⟩
  have e2 : l.getD p 0 = most l := by simp [hp, e]
  rw [e2]
  unfold moreB
  rw [List.any_eq_false]
  intro y hy
  have := h2 y hy
  simp
  omega

/-- is a number in a list? -/
def isIn (l : List Int) (c : Int) : Bool := l.contains c

theorem isIn_take (l : List Int) (c : Int) (k : Nat) (hk : k < l.length) : isIn (l.take (k + 1)) c = (isIn (l.take k) c || l.getD k 0 == c) := by
  have e1 : l.take (k + 1) = l.take k ++ [l[k]] := by rw [List.take_add_one, List.getElem?_eq_getElem hk]; rfl
  have e2 : l.getD k 0 = l[k] := by simp [hk]
  have e3 : (c == l[k]) = (l[k] == c) := Bool.beq_comm
  rw [e1, e2]
  unfold isIn
  rw [List.contains_eq_any_beq, List.contains_eq_any_beq, List.any_append, List.any_cons, List.any_nil, Bool.or_false, e3]

theorem isIn_mem {l : List Int} {c : Int} (h : c ∈ l) : isIn l c = true := by
  unfold isIn
  simpa using h

end Go.Proofs.Ytamioifoemklfaa.A

namespace Go.Proofs.Ytamioifoemklfaa

/-- the number of the first of answers, the newest first, that is the one that forbids most. -/
def plN (L : List Int) : Int := match L.findIdx? (fun y => y == A.most L) with | some i => (L.length : Int) - 1 - (i : Int) | none => -1

theorem find_fst {L : List Int} {x : Int} {p : Nat} (h : A.Fst L x p) : L.findIdx? (fun y => y == x) = some p := by
  obtain ⟨h1, h2, h3⟩ := h
  have hp := (List.getElem?_eq_some_iff.1 h1)
  obtain ⟨hp, e⟩ := hp
  rw [List.findIdx?_eq_some_iff_getElem]
  refine ⟨hp, by rw [e]; simp, fun j hj => ?_⟩
  have h4 := h3 j L[j] hj (List.getElem?_eq_getElem (by omega))
  have h5 : L[j] ≠ x := fun e => by rw [e] at h4; omega
  simpa using h5
theorem plN_fst {L : List Int} {p : Nat} (h : A.Fst L (A.most L) p) : plN L = (L.length : Int) - 1 - (p : Int) := by
  unfold plN
  rw [find_fst h]
theorem plN_nil : plN [] = -1 := rfl

/-- of answers as they were attached: the one that is told is one filter's, the newest of its kind, and none forbids more. -/
theorem stack_most (a : List Int) (h : a ≠ []) : ∃ n : Nat, plN a.reverse = n ∧ n < a.length ∧ a[n]? = some (A.most a.reverse) ∧ (∀ (i : Nat) (y : Int), a[i]? = some y → A.ki (A.most a.reverse) ≤ A.ki y) ∧ ∀ (i : Nat) (y : Int), n < i → a[i]? = some y → A.ki (A.most a.reverse) < A.ki y := by
  have hr : a.reverse ≠ [] := by simpa using h
  obtain ⟨p, hp⟩ := A.most_fst a.reverse hr
  have hpl : p < a.length := by have := (List.getElem?_eq_some_iff.1 hp.1).1; simpa using this
  have key : ∀ i, i < a.length → a.reverse[i]? = a[a.length - 1 - i]? := fun i hi => List.getElem?_reverse hi
  refine ⟨a.length - 1 - p, ?_, by omega, ?_, fun i y hy => ?_, fun i y hn hy => ?_⟩
  · rw [plN_fst hp, List.length_reverse]
    omega
  · rw [← key p hpl]
    exact hp.1
  · exact hp.2.1 y (by rw [List.mem_reverse]; exact List.mem_of_getElem? hy)
  · have hi := (List.getElem?_eq_some_iff.1 hy).1
    refine hp.2.2 (a.length - 1 - i) y (by omega) ?_
    rw [key _ (by omega), show a.length - 1 - (a.length - 1 - i) = i from by omega]
    exact hy

/-- a filter more makes no answer forbid less. -/
theorem stack_more (a : List Int) (m : Int) : A.ki (A.most (a ++ [m]).reverse) ≤ A.ki (A.most a.reverse) ∧ ((A.most (a ++ [m]).reverse = A.most a.reverse ∧ plN (a ++ [m]).reverse = plN a.reverse) ∨ plN (a ++ [m]).reverse = (a.length : Int)) := by
  rw [List.reverse_append, List.reverse_singleton, List.singleton_append]
  by_cases h : a = []
  · subst h
    refine ⟨?_, .inr ?_⟩
    · show A.ki m ≤ A.ki 2147418112
      have := A.ki_bd m
      have e : A.ki 2147418112 = 8 := rfl
      omega
    · have hf : A.Fst [m] (A.most [m]) 0 := ⟨rfl, fun y hy => by rw [List.mem_singleton] at hy; subst hy; exact Int.le_refl _, fun j y hj => absurd hj (by omega)⟩
      have := plN_fst hf
      rw [List.reverse_nil, this]
      rfl
  · have hr : a.reverse ≠ [] := by simpa using h
    have e : A.most (m :: a.reverse) = A.pick m (A.most a.reverse) := by
      have := A.most_app [m] a.reverse (by simp) hr
      rw [List.singleton_append] at this
      exact this
    obtain ⟨p, hp⟩ := A.most_fst a.reverse hr
    rw [e]
    by_cases hk : A.ki (A.most a.reverse) < A.ki m
    · have ep : A.pick m (A.most a.reverse) = A.most a.reverse := by unfold A.pick; rw [if_pos hk]
      have hf : A.Fst (m :: a.reverse) (A.most (m :: a.reverse)) (p + 1) := by
        rw [e, ep]
        refine ⟨by rw [List.getElem?_cons_succ]; exact hp.1, fun y hy => ?_, fun j y hj hy => ?_⟩
        · rcases List.mem_cons.1 hy with rfl | hy
          · omega
          · exact hp.2.1 y hy
        · match j, hj, hy with
          | 0, _, hy => simp at hy; subst hy; exact hk
          | j + 1, hj, hy => exact hp.2.2 j y (by omega) (by simpa using hy)
      rw [ep]
      refine ⟨Int.le_refl _, .inl ⟨rfl, ?_⟩⟩
      rw [plN_fst hf, plN_fst hp, List.length_cons]
      omega
    · have ep : A.pick m (A.most a.reverse) = m := by unfold A.pick; rw [if_neg hk]
      have hf : A.Fst (m :: a.reverse) (A.most (m :: a.reverse)) 0 := by
        rw [e, ep]
        refine ⟨rfl, fun y hy => ?_, fun j y hj => absurd hj (by omega)⟩
        rcases List.mem_cons.1 hy with rfl | hy
        · exact Int.le_refl _
        · have := hp.2.1 y hy
          omega
      rw [ep]
      refine ⟨by omega, .inr ?_⟩
      rw [plN_fst hf, List.length_cons, List.length_reverse]
      omega

end Go.Proofs.Ytamioifoemklfaa

namespace Go.Proofs.Ytamioifoemklfaa.V
open Go.RowKit

/-- what Run tells. -/
def RunTold (w w' : World) (e : Ending) (ins : List In) (d : Da) : Prop :=
  e = .returned (.tuple #[.int .u32 (ansV ins d), .int .i64 ((plV ins d).length : Nat), .int .i64 (errV ins)]) ∧ Below w.heap.size w w'

/-- what Trace tells. -/
def TraceTold (w w' : World) (e : Ending) (ins : List In) (d : Da) : Prop :=
  Below w.heap.size w w' ∧ ∃ v, e = .returned (.tuple #[v, .int .i64 (errV ins)]) ∧ w'.ownsRow w.heap.size 3 1 v (plV ins d).length (cellsN (plV ins d))

set_option maxHeartbeats 400000 in
theorem run_any (a : Option Addr) (len cap : Nat) (ins : List In) (d : Da) (w : World) (hlen : len ≤ maxLen) (h : Ins w a len ins) (hd : d.ok) :
    Calls Try.prog 19 #[.slice a len cap, d.val] w fun e w' => RunTold w w' e ins d := by
  have HG : Hid (∀ X, Below w.heap.size w X → Calls Try.prog 30 #[.slice a len cap, .agg d.cells.toArray] X fun e w' => GoTold X w' e ins d) := fun X hX => go_any a len cap ins d X hlen (h.below hX) hd
  have HC : Hid ((Try.prog.info? 27).map (·.size) = some d.cells.toArray.size) := by unfold Hid; rw [Try.size27]; simp [d.cells_len hd]
  have hB : Hid (Blk (w.alloc (Obj.cells d.cells.toArray 27)) w.heap.size 27 d.cells.toArray.toList) := blk_new w _ 27
  unfold Da.val RunTold
  unfold GoTold at HG
  clear h hd hlen
  generalize d.cells.toArray = A at *
  generalize ansV ins d = an at *
  generalize plV ins d = pl at *
  generalize errV ins = er at *
  go_enter Try.func19, Try.ntmps19
  go_wp2_with (first | (refine wpList_load_row rfl 27 (.tmp 3) rfl w.heap.size rfl 27 A (0, 0) _ hB.out Try.underlying27 rfl HC.out ?_) | (go_at_call 30; refine (HG.out _ (below_new _ _)).mono ?_; rintro e w2 ⟨b2, v2, rfl, o2⟩; obtain ⟨a2, c2, rfl, -⟩ := owns_ns o2))
  go_ret3
  exact ⟨rfl, (below_new w _).trans (b2.mono (below_new w _).size)⟩

end Go.Proofs.Ytamioifoemklfaa.V

namespace Go.Proofs.Ytamioifoemklfaa
open Go.RowKit

/-- numbers as cells. -/
def cellsZ (l : List Int) : List Value := l.map (Value.int .u32)
theorem Try.infoU : (Try.prog.info? 23).map (fun i => (i.zero, i.size, i.bytes)) = some (some (.int .u32 0), 1, 4) := by kernel_rfl
theorem runV_ok (l : List V.In) (d : V.Da) (ho : ∀ x ∈ l, x.ok) (hd : d.ok) (n : Nat) : ∀ (p : Nat) (s : V.St), s.ok → (V.runV l d n p s).2.ok := by
  induction n with
  | zero => intro p s hs; exact hs
  | succ n ih =>
    intro p s hs
    unfold V.runV
    cases hx : l[p]? with
    | none => exact hs
    | some x => exact ih _ _ (V.nextV_ok _ d x p s hd (ho x (List.mem_of_getElem? hx)) hs)
theorem ansV_u (l : List V.In) (d : V.Da) (ho : ∀ x ∈ l, x.ok) (hd : d.ok) : A.U32 (V.ansV l d) := by
  unfold V.ansV
  split
  · exact (runV_ok l d ho hd _ 0 _ V.zero_st).2.2.1
  · exact ⟨by decide, by decide⟩
/-- what the filters answer, the newest first. -/
def ansL (ls : List (List V.In)) (d : V.Da) : List Int := (ls.map fun l => V.ansV l d).reverse
theorem ans_step {ls : List (List V.In)} {d : V.Da} {j : Nat} (h : j < ls.length) : ansL (ls.drop j) d = ansL (ls.drop (j + 1)) d ++ [V.ansV ls[j] d] := by
  unfold ansL
  rw [List.drop_eq_getElem_cons h, List.map_cons, List.reverse_cons]
theorem ansL_len (ls : List (List V.In)) (d : V.Da) : (ansL ls d).length = ls.length := by unfold ansL; rw [List.length_reverse, List.length_map]

theorem nine_of (d : V.Da) (h : d.ok) : ∃ d1 d2 d3 d4 d5 d6 d7 d8, d.cells = [.int .u32 d.n, d1, d2, d3, d4, d5, d6, d7, d8] := by
  obtain ⟨n, a, p, g⟩ := d
  obtain ⟨_, _, _, h6, _⟩ := h
  match g, h6 with
  | [g0, g1, g2, g3, g4, g5], _ => exact ⟨_, _, _, _, _, _, _, _, rfl⟩
theorem ns_of_own {w : World} {b : Nat} {v : Value} {l : List Int} (h : w.ownsRow b 23 1 v l.length (cellsZ l)) : ∃ a cap, v = .slice a l.length cap ∧ A.Ns .u32 w a l.length l ∧ l.length ≤ cap := by
  rcases h.2 with ⟨rfl, h0⟩ | ⟨g, cap, cur, rfl, hb, hg, hn, hm, _⟩
  · refine ⟨none, 0, by rw [h0], ?_, by omega⟩
    exact ⟨rfl, fun h1 => by omega⟩
  · refine ⟨_, cap, rfl, ⟨rfl, fun h1 => ⟨g, 0, rfl, fun i hi => ?_⟩⟩, hn⟩
    have := h.cells (g := g) rfl i (.int .u32 l[i]) (by unfold cellsZ; rw [List.getElem?_map, List.getElem?_eq_getElem hi]; rfl)
    rw [Addr.add_lit] at this
    rw [List.getD_eq_getElem?_getD, List.getElem?_eq_getElem hi]
    exact this
theorem find_none_at {L : List Int} {x : Int} {i : Nat} (h : ¬ i < L.length) (ha : ∀ j (hj : j < L.length), j < i → L[j] ≠ x) : L.findIdx? (fun y => y == x) = none := by
  rw [List.findIdx?_eq_none_iff]
  intro y hy
  obtain ⟨j, hj, rfl⟩ := List.getElem_of_mem hy
  simpa using ha j hj (by omega)
theorem find_some_at {L : List Int} {x : Int} {i : Nat} (h : i < L.length) (hx : L[i] = x) (ha : ∀ j (hj : j < L.length), j < i → L[j] ≠ x) : L.findIdx? (fun y => y == x) = some i := by
  rw [List.findIdx?_eq_some_iff_getElem]
  exact ⟨h, by rw [hx]; simp, fun j hj => by simpa using ha j (by omega) hj⟩

end Go.Proofs.Ytamioifoemklfaa

namespace Go.Proofs.Ytamioifoemklfaa.A
open Go.RowKit

theorem has_any (k : Int) (w : World) :
    Calls Try.prog 29 #[.int .i64 k] w fun e w' => e = .returned (.bool (hasB k)) ∧ w' = w := by
  go_enter Try.func29, Try.ntmps29
  go_wp2
  all_goals (go_ret; exact ⟨ret_bool (by simp [hasB, *]), rfl⟩)

theorem refHas_any (k : Int) (w : World) :
    Calls Try.prog 32 #[.int .i64 k] w fun e w' => e = .returned (.bool (hasB k)) ∧ w' = w := by
  go_enter Try.func32, Try.ntmps32
  go_wp2
  all_goals (go_ret; exact ⟨ret_bool (by simp [hasB, *]), rfl⟩)

theorem numbers_any (w : World) :
    Calls Try.prog 39 #[] w fun e w' => e = .returned (.agg (cellsU tblL).toArray) ∧ Below w.heap.size w w' := by
  have e1 : ∀ o, Below w.heap.size w (w.alloc o) := fun o => (Below.refl _ _).alloc (Nat.le_refl _) _
  go_enter Try.func39, Try.ntmps39
  go_wp2
  refine bodyPost_ret (v := .agg (cellsU tblL).toArray) (by simp [results, Try.results39, go_sem, cellsU, tblL]) rfl ⟨rfl, ?_⟩
  exact e1 _

theorem tbl_at (k : Nat) (h : k < 9) : (cellsU tblL)[k]? = some (.int .u32 (tblL.getD k 0)) := by
  match k, h with
  | 0, _ | 1, _ | 2, _ | 3, _ | 4, _ | 5, _ | 6, _ | 7, _ | 8, _ => rfl

/-- the document's numbers, from 1 on. -/
def refL : List Int := [2147483648, 0, 196608, 327680, 2143289344, 2146435072, 2147221504, 2147418112]

theorem refL_at (i : Nat) (h : i < 8) : refL.getD i 0 = tblL.getD (i + 1) 0 := by
  match i, h with
  | 0, _ | 1, _ | 2, _ | 3, _ | 4, _ | 5, _ | 6, _ | 7, _ => rfl

theorem ns_ref (w : World) : Ns .u32 (w.alloc (.cells #[.int .u32 2147483648, .int .u32 0, .int .u32 196608, .int .u32 327680, .int .u32 2143289344, .int .u32 2146435072, .int .u32 2147221504, .int .u32 2147418112] 23)) (some ⟨w.heap.size, 0, none⟩) 8 refL := by
  refine ⟨rfl, fun _ => ⟨_, _, rfl, fun i hi => ?_⟩⟩
  match i, hi with
  | 0, _ | 1, _ | 2, _ | 3, _ | 4, _ | 5, _ | 6, _ | 7, _ => simp [refL]

theorem refNumbers_any (w : World) :
    Calls Try.prog 31 #[] w fun e w' => e = .returned (.slice (some ⟨w.heap.size, 0, none⟩) 8 8) ∧ Ns .u32 w' (some ⟨w.heap.size, 0, none⟩) 8 refL ∧ Below w.heap.size w w' := by
  have e1 : ∀ o, Below w.heap.size w (w.alloc o) := fun o => (Below.refl _ _).alloc (Nat.le_refl _) _
  go_enter Try.func31, Try.ntmps31
  go_wp2
  go_ret
  exact ⟨rfl, ns_ref w, e1 _⟩

set_option maxHeartbeats 400000 in
theorem right_any (k a : Int) (w : World) :
    Calls Try.prog 49 #[.agg #[.int .i64 k, .int .i64 a]] w fun e w' => e = .returned (.bool (rightB k a)) ∧ Below w.heap.size w w' := by
  have e1 : ∀ o, Below w.heap.size w (w.alloc o) := fun o => (Below.refl _ _).alloc (Nat.le_refl _) _
  have HH : Hid (∀ W : World, Calls Try.prog 29 #[.int .i64 k] W fun e w' => e = .returned (.bool (hasB k)) ∧ w' = W) := fun W => has_any k W
  by_cases h1 : k < 1
  · have er : rightB k a = false := by
      unfold rightB
      have : decide (1 ≤ k) = false := by simp; omega
      rw [this]
      rfl
    rw [er]
    clear HH er
    go_enter Try.func49, Try.ntmps49
    go_wp2
    go_ret
    exact ⟨rfl, e1 _⟩
  · by_cases h8 : 8 < k
    · have er : rightB k a = false := by
        unfold rightB
        have : decide (k ≤ 8) = false := by simp; omega
        rw [this]
        simp
      rw [er]
      clear HH er
      go_enter Try.func49, Try.ntmps49
      go_wp2
      go_ret
      exact ⟨rfl, e1 _⟩
    · have er : Hid (rightB k a = (a == 0 || hasB k && decide (0 ≤ a) && decide (a ≤ 65535))) := by
        unfold Hid rightB
        have d1 : decide (1 ≤ k) = true := by simp; omega
        have d2 : decide (k ≤ 8) = true := by simp; omega
        rw [d1, d2]
        rfl
      rw [er.out]
      have hg : hasB k = true ∨ hasB k = false := by cases hasB k <;> simp
      rcases hg with hg | hg
      · rw [hg] at HH ⊢
        clear hg
        have HZ : Hid ((a == 0 || true && decide (0 ≤ a) && decide (a ≤ 65535)) = (decide (0 ≤ a) && decide (a ≤ 65535))) := by
          unfold Hid
          by_cases h0 : a = 0
          · subst h0; rfl
          · simp [h0]
        rw [HZ.out]
        go_enter Try.func49, Try.ntmps49
        go_wp2_with (go_at_call 29; refine (HH.out _).mono ?_; rintro e w2 ⟨rfl, rfl⟩)
        all_goals (go_ret; exact ⟨ret_bool (by simp <;> omega), e1 _⟩)
      · rw [hg] at HH ⊢
        clear hg
        rw [Bool.false_and, Bool.false_and, Bool.or_false]
        go_enter Try.func49, Try.ntmps49
        go_wp2_with (go_at_call 29; refine (HH.out _).mono ?_; rintro e w2 ⟨rfl, rfl⟩)
        all_goals (go_ret; exact ⟨ret_bool (by simp), e1 _⟩)

end Go.Proofs.Ytamioifoemklfaa.A

namespace Go.Proofs.Ytamioifoemklfaa.A
open Go.RowKit

theorem value_wrong (k a : Int) (w : World) (h : rightB k a = false) :
    Calls Try.prog 36 #[.agg #[.int .i64 k, .int .i64 a]] w fun e w' => e = .returned (.tuple #[.int .u32 0, .int .i64 1]) ∧ Below w.heap.size w w' := by
  have HR : Hid (∀ W : World, Calls Try.prog 49 #[.agg #[.int .i64 k, .int .i64 a]] W fun e w' => e = .returned (.bool false) ∧ Below W.heap.size W w') := fun W => h ▸ right_any k a W
  have HB : Hid (∀ o, Below w.heap.size w (w.alloc o)) := fun o => (Below.refl _ _).alloc (Nat.le_refl _) _
  clear h
  go_enter Try.func36, Try.ntmps36
  go_wp2_with (go_at_call 49; refine (HR.out _).mono ?_; rintro e w2 ⟨rfl, b2⟩)
  go_ret2
  exact ⟨rfl, (HB.out _).trans (b2.mono (HB.out _).size)⟩

set_option maxHeartbeats 800000 in
theorem value_right (k a : Int) (w : World) (h : rightB k a = true) :
    Calls Try.prog 36 #[.agg #[.int .i64 k, .int .i64 a]] w fun e w' => e = .returned (.tuple #[.int .u32 (numK k + a), .int .i64 0]) ∧ Below w.heap.size w w' := by
  have HR : Hid (∀ W : World, Calls Try.prog 49 #[.agg #[.int .i64 k, .int .i64 a]] W fun e w' => e = .returned (.bool true) ∧ Below W.heap.size W w') := fun W => h ▸ right_any k a W
  have HB : Hid (∀ o, Below w.heap.size w (w.alloc o)) := fun o => (Below.refl _ _).alloc (Nat.le_refl _) _
  have HN : Hid (∀ W : World, Calls Try.prog 39 #[] W fun e w' => e = .returned (.agg (cellsU tblL).toArray) ∧ Below W.heap.size W w') := numbers_any
  obtain ⟨h1, h8, a0, a1, -⟩ := right_bd h
  obtain ⟨n0, n1, n2, -⟩ := numK_top h1 h8
  have ho : bits BinOp.or IntKind.u32 (numK k) a = numK k + a := or_bits _ a n0 n1 n2 a0 a1
  have hw : IntKind.u32.wrap a = a := by rw [IntKind.wrap_u32]; omega
  have hix : ∀ W : World, (Instr.index 79 (.agg (cellsU tblL).toArray) (.int .i64 k)).run Try.prog W = .ok (.int .u32 (numK k)) W := by
    obtain ⟨m, rfl⟩ := Int.eq_ofNat_of_zero_le (show 0 ≤ k by omega)
    intro W
    refine index_row 79 23 9 .i64 .u32 Try.underlying79 Try.underlying23 Try.sizeOf23 _ m _ (by omega) ?_ W
    rw [List.getElem?_toArray, tbl_at m (by omega)]
    unfold numK
    rw [Int.toNat_natCast]
  generalize (cellsU tblL).toArray = R at *
  generalize numK k = z at *
  have HK : Hid (Blk (w.alloc (Obj.cells #[.int .i64 k, .int .i64 a] 47)) w.heap.size 47 [.int .i64 k, .int .i64 a]) := blk_new w _ 47
  clear h h1 h8 n0 n1 n2
  go_enter Try.func36, Try.ntmps36
  go_wp2_with (go_at_call 49; refine (HR.out _).mono ?_; rintro e w2 ⟨rfl, b2⟩)
  have B2 : Hid (Below w.heap.size w w2) := (HB.out _).trans (b2.mono (HB.out _).size)
  have D2 : Hid (Blk w2 w.heap.size 47 [.int .i64 k, .int .i64 a]) := HK.out.over b2
  have c0 : w2.cell? ⟨w.heap.size, 0, none⟩ = some (.int .i64 k) := D2.out.cell 0
  have c1 : w2.cell? ⟨w.heap.size, 1, none⟩ = some (.int .i64 a) := D2.out.cell 1
  have HQ : Hid (Calls Try.prog 39 #[] w2.drew fun e w' => e = .returned (.agg R) ∧ ((fun X => X.cell? ⟨w.heap.size, 0, none⟩ = some (.int .i64 k) ∧ X.cell? ⟨w.heap.size, 1, none⟩ = some (.int .i64 a)) w' ∧ Hid (Below w.heap.size w w'))) := by
    refine (HN.out w2.drew).mono ?_
    rintro e w' ⟨rfl, hb⟩
    have D3 : Blk w' w.heap.size 47 [.int .i64 k, .int .i64 a] := D2.out.drew.over hb
    exact ⟨rfl, ⟨D3.cell 0, D3.cell 1⟩, B2.out.drew.trans (hb.mono B2.out.size)⟩
  clear b2
  go_region_held3 (fun X => X.cell? ⟨w.heap.size, 0, none⟩ = some (.int .i64 k) ∧ X.cell? ⟨w.heap.size, 1, none⟩ = some (.int .i64 a)) (first | assumption | go_keep) (first | (go_at_call 39; refine (HQ.out).mono ?_; rintro e w5 ⟨rfl, hS5, G5⟩))
  all_goals
    go_wp2
    go_ret2
    exact ⟨rfl, G5.out⟩

theorem value_any (k a : Int) (w : World) :
    Calls Try.prog 36 #[.agg #[.int .i64 k, .int .i64 a]] w fun e w' => e = .returned (.tuple #[.int .u32 (valZ k a), .int .i64 (errZ k a)]) ∧ Below w.heap.size w w' := by
  unfold valZ errZ
  by_cases h : rightB k a = true
  · rw [if_pos h, if_pos h]
    exact value_right k a w h
  · rw [if_neg h, if_neg h]
    exact value_wrong k a w (by simpa using h)

end Go.Proofs.Ytamioifoemklfaa.A

namespace Go.Proofs.Ytamioifoemklfaa.A
open Go.RowKit

set_option maxHeartbeats 800000 in
theorem kindOf_any (n : Int) (w : World) :
    Calls Try.prog 28 #[.int .u32 n] w fun e w' => e = .returned (.int .i64 (kiH n)) ∧ Below w.heap.size w w' := by
  have HN : Hid (∀ W : World, Calls Try.prog 39 #[] W fun e w' => e = .returned (.agg (cellsU tblL).toArray) ∧ Below W.heap.size W w') := numbers_any
  have HT : Hid (∀ k, k < 9 → (cellsU tblL)[k]? = some (.int .u32 (tblL.getD k 0))) := tbl_at
  have HSz : Hid ((Try.prog.info? 79).map (·.size) = some (cellsU tblL).toArray.size) := by unfold Hid; rw [Try.size79]; rfl
  have HSs : Hid ((List.replicate 9 (Value.int .u32 0)).toArray.size = (cellsU tblL).toArray.size) := rfl
  have H1 : Hid ((cellsU tblL).toArray.all (·.oneCell') = true) := cellsU_one _
  generalize hR : cellsU tblL = R at *
  clear hR
  go_enter Try.func28, Try.ntmps28
  go_wp2_with (first | (go_at_call 39; refine (HN.out _).mono ?_; rintro e w1 ⟨rfl, b1⟩; have hz : Hid (Blk (w1.alloc (Obj.cells (List.replicate 9 (Value.int .u32 0)).toArray 79)) w1.heap.size 79 (List.replicate 9 (Value.int .u32 0))) := blk_new w1 _ 79; have hB : Hid (Below w.heap.size w (w1.alloc (Obj.cells (List.replicate 9 (Value.int .u32 0)).toArray 79))) := b1.alloc b1.size _) | (refine wpList_store_row rfl 79 (.tmp 3) (.tmp 5) rfl w1.heap.size R.toArray rfl rfl 79 _ hz.out HSz.out HSs.out H1.out ?_))
  go_loopw [4] (fun i wr => ∃ k : Nat, 1 ≤ k ∧ k ≤ 9 ∧ i = .int .i64 k ∧ (∀ j, 1 ≤ j → j < k → tblL.getD j 0 ≠ n) ∧ Blk wr w1.heap.size 79 R ∧ Below w.heap.size w wr) (fun i _ => 9 - (intOf i).toNat)
  case atStart =>
    exact ⟨1, by omega, by omega, rfl, fun j _ _ => absurd ‹j < 1› (by omega), hz.out.row R.toArray, below_setRow hB.out b1.size _⟩
  case round =>
    obtain ⟨k, hk1, hk, rfl, hno, hb, hbr⟩ := hrel
    have HNo : Hid (∀ j, 1 ≤ j → j < k → tblL.getD j 0 ≠ n) := hno
    clear hno
    by_cases hlt : k < 9
    · have q := hb.cell k
      rw [HT.out k hlt] at q
      have HF : Hid (tblL.getD k 0 = n → kiH n = k) := fun h => kiH_found n k hk1 (by omega) HNo.out h
      have HZ : Hid (∀ z, tblL.getD k 0 = z → z ≠ n → ∀ j, 1 ≤ j → j < k + 1 → tblL.getD j 0 ≠ n) := by
        intro z hz hzn j h1 hj
        by_cases e : j = k
        · subst e; rw [hz]; exact hzn
        · exact HNo.out j h1 (by omega)
      have HB : Hid (Blk wr w1.heap.size 79 R) := hb
      clear hb HNo
      generalize tblL.getD k 0 = z at *
      have h8 : (k : Int) ≤ 8 := by omega
      by_cases hz : z = n
      · have HE : Hid (kiH n = k) := HF.out hz
        clear HF HZ
        subst hz
        go_wp2
        go_ret
        exact ⟨ret_int HE.out.symm, hbr⟩
      · have hzb : (z == n) = false := beq_eq_false_iff_ne.2 hz
        go_wp2
        go_roundw
        case rel => exact ⟨k + 1, by omega, by omega, by go_num, HZ.out z rfl hz, HB.out, hbr⟩
        case measure => simp [intOf]; omega
    · have h9 : ¬ (k : Int) ≤ 8 := by omega
      have ek : Hid (kiH n = 1) := kiH_none n (fun j h1 h2 => HNo.out j h1 (by omega))
      clear HNo hb
      go_wp2
      go_ret
      exact ⟨ret_int ek.out.symm, hbr⟩

end Go.Proofs.Ytamioifoemklfaa.A

namespace Go.Proofs.Ytamioifoemklfaa.A
open Go.RowKit

set_option maxHeartbeats 800000 in
theorem of_any (v : Int) (w : World) (hv : U32 v) :
    Calls Try.prog 18 #[.int .u32 v] w fun e w' => e = .returned (.agg #[.int .i64 (ki v), .int .i64 (ar v)]) ∧ Below w.heap.size w w' := by
  have HK : Hid (∀ W : World, Calls Try.prog 28 #[.int .u32 (top v)] W fun e w' => e = .returned (.int .i64 (ki v)) ∧ Below W.heap.size W w') := fun W => kindOf_any (top v) W
  have HH : Hid (∀ W : World, Calls Try.prog 29 #[.int .i64 (ki v)] W fun e w' => e = .returned (.bool (hasB (ki v))) ∧ w' = W) := fun W => has_any (ki v) W
  have HB : Hid (∀ o, Below w.heap.size w (w.alloc o)) := fun o => (Below.refl _ _).alloc (Nat.le_refl _) _
  have HZ : Hid (Blk (w.alloc (Obj.cells #[.int .i64 0, .int .i64 0] 47)) w.heap.size 47 [.int .i64 0, .int .i64 0]) := blk_new w _ 47
  have et : bits BinOp.andNot IntKind.u32 v 65535 = top v := top_bits v hv
  have el : bits BinOp.and IntKind.u32 v 65535 = v % 65536 := low_bits v hv
  have ew : IntKind.i64.wrap (v % 65536) = v % 65536 := by rw [IntKind.wrap_i64]; omega
  have HA : Hid (ar v = if hasB (ki v) = true then v % 65536 else 0) := rfl
  clear hv
  generalize ar v = A at *
  generalize hki : ki v = k at *
  clear hki
  generalize v % 65536 = lw at *
  generalize top v = tv at *
  generalize hasB k = p at *
  cases p with
  | true =>
    obtain rfl : A = lw := HA.out
    go_enter Try.func18, Try.ntmps18
    go_wp2_with (first | (go_at_call 28; refine (HK.out _).mono ?_; rintro e w1 ⟨rfl, b1⟩; have d1 := HZ.out.over b1; have s0 : w1.cell? ⟨w.heap.size, 0, none⟩ = some (.int .i64 0) := d1.cell 0; have s1 : w1.cell? ⟨w.heap.size, 1, none⟩ = some (.int .i64 0) := d1.cell 1; have f0 := d1.f 0; have f1 := d1.f 1; have hlt := d1.lt; have B1 : Hid (Below w.heap.size w w1) := (HB.out _).trans (b1.mono (HB.out _).size); clear d1 b1) | (go_at_call 29; refine (HH.out _).mono ?_; rintro e w2 ⟨rfl, rfl⟩))
    refine bodyPost_ret (v := .agg #[.int .i64 k, .int .i64 A]) (by simp [results, Try.results18, go_sem, s0, s1, hlt]) rfl ⟨rfl, ?_⟩
    have q := (B1.out.setCell (p := ⟨w.heap.size, 0, none⟩) (Nat.le_refl _) (.int .i64 k)).setCell (p := ⟨w.heap.size, 1, none⟩) (Nat.le_refl _) (.int .i64 A)
    exact q.alloc q.size _
  | false =>
    obtain rfl : A = 0 := HA.out
    go_enter Try.func18, Try.ntmps18
    go_wp2_with (first | (go_at_call 28; refine (HK.out _).mono ?_; rintro e w1 ⟨rfl, b1⟩; have d1 := HZ.out.over b1; have s0 : w1.cell? ⟨w.heap.size, 0, none⟩ = some (.int .i64 0) := d1.cell 0; have s1 : w1.cell? ⟨w.heap.size, 1, none⟩ = some (.int .i64 0) := d1.cell 1; have f0 := d1.f 0; have f1 := d1.f 1; have hlt := d1.lt; have B1 : Hid (Below w.heap.size w w1) := (HB.out _).trans (b1.mono (HB.out _).size); clear d1 b1) | (go_at_call 29; refine (HH.out _).mono ?_; rintro e w2 ⟨rfl, rfl⟩))
    refine bodyPost_ret (v := .agg #[.int .i64 k, .int .i64 0]) (by simp [results, Try.results18, go_sem, s0, s1, hlt]) rfl ⟨rfl, ?_⟩
    have q := (B1.out.setCell (p := ⟨w.heap.size, 0, none⟩) (Nat.le_refl _) (.int .i64 k)).setCell (p := ⟨w.heap.size, 1, none⟩) (Nat.le_refl _) (.int .i64 0)
    exact q.alloc q.size _

end Go.Proofs.Ytamioifoemklfaa.A

namespace Go.Proofs.Ytamioifoemklfaa.A
open Go.RowKit

theorem getD_u {l : List Int} (hl : ∀ z ∈ l, U32 z) (k : Nat) (hk : k < l.length) : U32 (l.getD k 0) := by
  rw [show l.getD k 0 = l[k] by simp [hk]]
  exact hl _ (List.getElem_mem hk)

set_option maxHeartbeats 800000 in
theorem fom_any (m : Int) (a : Option Addr) (len cap : Nat) (l : List Int) (w : World) (hm : U32 m) (hl : ∀ z ∈ l, U32 z) (hlen : len ≤ maxLen) (h : Ns .u32 w a len l) :
    Calls Try.prog 37 #[.int .u32 m, .slice a len cap] w fun e w' => e = .returned (.int .u32 (fom m l)) ∧ Below w.heap.size w w' := by
  unfold maxLen at hlen
  have HO : Hid (∀ (v : Int) (W : World), U32 v → Calls Try.prog 18 #[.int .u32 v] W fun e w' => e = .returned (.agg #[.int .i64 (ki v), .int .i64 (ar v)]) ∧ Below W.heap.size W w') := fun v W h => of_any v W h
  have HL : Hid (∀ z ∈ l, U32 z) := hl
  have HM : Hid (U32 m) := hm
  have hll := h.1
  have hfd : ∀ (k a : Int) (W : World), (Instr.field 47 (.agg #[.int .i64 k, .int .i64 a]) 0).run Try.prog W = .ok (.int .i64 k) W := field_act
  clear hl hm
  go_enter Try.func37, Try.ntmps37
  go_wp2_with (go_at_call 18; refine (HO.out _ _ HM.out).mono ?_; rintro e w1 ⟨rfl, b1⟩)
  go_loopw [0, 5, 14] (fun x lst i wr => ∃ k : Nat, k ≤ len ∧ i = .int .i64 k ∧ x = .int .u32 (fom m (l.take k)) ∧ lst = .int .i64 (ki (fom m (l.take k))) ∧ Below w.heap.size w wr) (fun _ _ i _ => len - (intOf i).toNat)
  case atStart => exact ⟨0, Nat.zero_le _, rfl, rfl, rfl, b1⟩
  case round =>
    obtain ⟨k, hk, rfl, rfl, rfl, hbr⟩ := hrel
    clear b1
    by_cases hlt : k < len
    · obtain ⟨b, off, rfl, hc⟩ := (h.below hbr).2 (by omega)
      have q := hc k hlt
      have HT : Hid (fom m (l.take (k + 1)) = pick (fom m (l.take k)) (l.getD k 0)) := fom_take m l k (by omega)
      have HU : Hid (U32 (l.getD k 0)) := getD_u HL.out k (by omega)
      have hi1 : (k : Int) < (len : Int) := by omega
      clear hc
      generalize l.getD k 0 = z at *
      generalize fom m (l.take k) = x at *
      by_cases hz : ki z < ki x
      · have HE : Hid (fom m (l.take (k + 1)) = z) := by unfold Hid; rw [HT.out]; unfold pick; rw [if_pos hz]
        clear HT
        go_wp2_with (go_at_call 18; refine (HO.out _ _ HU.out).mono ?_; rintro e w2 ⟨rfl, b2⟩)
        go_roundw
        case rel => exact ⟨k + 1, by omega, by go_num, by rw [HE.out], by rw [HE.out], hbr.trans (b2.mono hbr.size)⟩
        case measure => simp [intOf]; omega
      · have HE : Hid (fom m (l.take (k + 1)) = x) := by unfold Hid; rw [HT.out]; unfold pick; rw [if_neg hz]
        clear HT
        go_wp2_with (go_at_call 18; refine (HO.out _ _ HU.out).mono ?_; rintro e w2 ⟨rfl, b2⟩)
        go_roundw
        case rel => exact ⟨k + 1, by omega, by go_num, by rw [HE.out], by rw [HE.out], hbr.trans (b2.mono hbr.size)⟩
        case measure => simp [intOf]; omega
    · have hi1 : ¬ (k : Int) < (len : Int) := by omega
      have HE : Hid (l.take k = l) := List.take_of_length_le (by omega)
      go_wp2
      go_ret
      exact ⟨ret_int (by rw [HE.out]), hbr⟩

theorem val_allow : valZ 8 0 = 2147418112 ∧ errZ 8 0 = 0 := by decide

theorem most_nil (a : Option Addr) (cap : Nat) (w : World) :
    Calls Try.prog 25 #[.slice a 0 cap] w fun e w' => e = .returned (.int .u32 2147418112) ∧ Below w.heap.size w w' := by
  have HV : Hid (∀ W : World, Calls Try.prog 36 #[.agg #[.int .i64 8, .int .i64 0]] W fun e w' => e = .returned (.tuple #[.int .u32 2147418112, .int .i64 0]) ∧ Below W.heap.size W w') := by
    intro W
    have := value_any 8 0 W
    rw [val_allow.1, val_allow.2] at this
    exact this
  go_enter Try.func25, Try.ntmps25
  go_wp2_with (go_at_call 36; refine (HV.out _).mono ?_; rintro e w1 ⟨rfl, b1⟩)
  go_ret
  exact ⟨rfl, b1⟩

end Go.Proofs.Ytamioifoemklfaa.A

namespace Go.Proofs.Ytamioifoemklfaa.A
open Go.RowKit

set_option maxHeartbeats 800000 in
theorem most_cons (b off len cap : Nat) (m : Int) (l : List Int) (w : World) (hl : ∀ z ∈ m :: l, U32 z) (hlen : len ≤ maxLen) (hcap : len ≤ cap) (h : Ns .u32 w (some ⟨b, off, none⟩) len (m :: l)) :
    Calls Try.prog 25 #[.slice (some ⟨b, off, none⟩) len cap] w fun e w' => e = .returned (.int .u32 (fom m l)) ∧ Below w.heap.size w w' := by
  have hll : l.length + 1 = len := h.1
  have c0 : w.cell? ⟨b, off, none⟩ = some (.int .u32 m) := by
    obtain ⟨_, _, e, hc⟩ := h.2 (by omega)
    cases e
    exact hc 0 (by omega)
  have hb0 := World.block_lt_of_cell? w _ c0
  have HD : Hid (Ns .u32 w (some ⟨b, off + 1, none⟩) (len - 1) l) := h.drop 1 (by omega)
  have HL : Hid (∀ z ∈ l, U32 z) := fun z hz => hl z (by simp [hz])
  have HM : Hid (U32 m) := hl m (by simp)
  have h1 : (1 : Int) ≤ (len : Int) := by omega
  have h2 : 1 ≤ len := by omega
  have h0 : 0 < len := by omega
  have h3 : 1 ≤ cap := by omega
  have h4 : (1 : Int) ≤ (cap : Int) := by omega
  have hz0 : ((len : Int) == 0) = false := by rw [beq_eq_false_iff_ne]; omega
  have hz1 : ¬ (len : Int) = 0 := by omega
  have HLen : Hid (len ≤ maxLen) := hlen
  clear hl h hlen
  by_cases h5 : cap = 1
  · obtain rfl : len = 1 := by omega
    obtain rfl : l = [] := List.eq_nil_of_length_eq_zero (by omega)
    subst h5
    have HQ : Hid (∀ a' c, Calls Try.prog 37 #[.int .u32 m, .slice a' 0 c] w.drew fun e w' => e = .returned (.int .u32 m) ∧ ((fun X => X.cell? ⟨b, off, none⟩ = some (.int .u32 m)) w' ∧ Hid (Below w.heap.size w w'))) := by
      intro a' c
      refine (fom_any m a' 0 c [] w.drew HM.out HL.out (Nat.zero_le _) ⟨rfl, fun h => absurd h (by omega)⟩).mono ?_
      rintro e w' ⟨rfl, hb⟩
      exact ⟨rfl, (hb.cell (p := ⟨b, off, none⟩) hb0).trans c0, (Below.refl _ _).drew.trans hb⟩
    go_enter Try.func25, Try.ntmps25
    go_wp2_with fail
    go_region_held3 (fun X => X.cell? ⟨b, off, none⟩ = some (.int .u32 m)) (first | assumption | go_keep) (first | (go_at_call 37; refine (HQ.out _ _).mono ?_; rintro e w5 ⟨rfl, hS5, G5⟩))
    all_goals
      go_wp2
      go_ret
      exact ⟨rfl, G5.out⟩
  · have h6 : ¬ (cap : Int) = 1 := by omega
    have HQ : Hid (∀ c, Calls Try.prog 37 #[.int .u32 m, .slice (some ⟨b, off + 1, none⟩) (len - 1) c] w.drew fun e w' => e = .returned (.int .u32 (fom m l)) ∧ ((fun X => X.cell? ⟨b, off, none⟩ = some (.int .u32 m)) w' ∧ Hid (Below w.heap.size w w'))) := by
      intro c
      refine (fom_any m _ (len - 1) c l w.drew HM.out HL.out (Nat.le_trans (Nat.sub_le _ _) HLen.out) (HD.out.below (Below.refl _ _).drew)).mono ?_
      rintro e w' ⟨rfl, hb⟩
      exact ⟨rfl, (hb.cell (p := ⟨b, off, none⟩) hb0).trans c0, (Below.refl _ _).drew.trans hb⟩
    go_enter Try.func25, Try.ntmps25
    go_wp2_with fail
    go_region_held3 (fun X => X.cell? ⟨b, off, none⟩ = some (.int .u32 m)) (first | assumption | go_keep) (first | (go_at_call 37; refine (HQ.out _).mono ?_; rintro e w5 ⟨rfl, hS5, G5⟩))
    all_goals
      go_wp2
      go_ret
      exact ⟨rfl, G5.out⟩

theorem most_any (a : Option Addr) (len cap : Nat) (l : List Int) (w : World) (hl : ∀ z ∈ l, U32 z) (hlen : len ≤ maxLen) (hcap : len ≤ cap) (h : Ns .u32 w a len l) :
    Calls Try.prog 25 #[.slice a len cap] w fun e w' => e = .returned (.int .u32 (most l)) ∧ Below w.heap.size w w' := by
  match l, hl, h with
  | [], _, h =>
    obtain rfl : len = 0 := h.1.symm
    exact most_nil a cap w
  | m :: l, hl, h =>
    obtain ⟨b, off, rfl, -⟩ := h.2 (by have := h.1; simp at this; omega)
    exact most_cons b off len cap m l w hl hlen hcap h

end Go.Proofs.Ytamioifoemklfaa.A
