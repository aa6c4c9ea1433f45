/-
  A tree of files in plain words: what may be, what stands where, where names lead.
-/
import Derived.Test.YtilemgpopjlchaaDoorMath2
namespace Go.Proofs.YtilemgpopjlchaaDoor

abbrev Nm := List UInt8
/-- a node. -/
structure Nd where
  p : Nm
  k : Int
  t : Nm
def rootN : Nd := ⟨[47], 2, []⟩
def targetOk (t : Nm) : Bool := decide (t ≠ []) && decide (t.length ≤ 256) && t.all (· != 0)
def kindOk (x : Nd) : Bool := if x.k = 3 then targetOk x.t else (decide (x.k = 1) || decide (x.k = 2)) && decide (x.t = [])
def cleanOk (p : Nm) : Bool := rightP p && decide (cleanP p = p)
def findL (L : List Nd) (p : Nm) : Option Nd := L.find? fun x => x.p == p
def findN (L : List Nd) (p : Nm) : Option Nd := if p = [47] then some rootN else findL L p
def upE (A : List Nd) (x : Nd) : Int := match findN A (upP x.p) with
  | none => 17
  | some y => if y.k = 2 then 0 else 20
def wrongN (A : List Nd) (x : Nd) : Int :=
  if (cleanOk x.p && decide (x.p ≠ [47]) && kindOk x) = true then (if (findL A x.p).isSome = true then 9 else upE A x) else 1
def chkA (A : List Nd) : List Nd → Int × Int
  | [] => (0, -1)
  | x :: R => if wrongN A x = 0 then chkA (A ++ [x]) R else (wrongN A x, A.length)
def chkN (L : List Nd) : Int × Int := if 64 < L.length then (4, 64) else chkA [] L

theorem chkA_cons (A : List Nd) (x : Nd) (R : List Nd) : chkA A (x :: R) = if wrongN A x = 0 then chkA (A ++ [x]) R else (wrongN A x, (A.length : Int)) := rfl

/-- a tree that may be. -/
structure Tr (L : List Nd) : Prop where
  len : L.length ≤ 64
  each : ∀ (i : Nat) (h : i < L.length), wrongN (L.take i) L[i] = 0
theorem chkA_each {A R : List Nd} (h : (chkA A R).1 = 0) : ∀ (i : Nat) (hi : i < R.length), wrongN (A ++ R.take i) R[i] = 0 := by
  induction R generalizing A with
  | nil => intro i hi; cases hi
  | cons x R ih =>
    rw [chkA_cons] at h
    split at h
    · rename_i hw
      intro i hi
      cases i with
      | zero => rw [List.take_zero, List.append_nil]; exact hw
      | succ i =>
        have := ih h i (by simpa using hi)
        rw [List.take_succ_cons, List.getElem_cons_succ]
        rwa [List.append_assoc] at this
    · rename_i hw
      exact absurd h hw
theorem tr_of {L : List Nd} (h : (chkN L).1 = 0) : Tr L := by
  unfold chkN at h
  split at h
  · cases h
  · refine ⟨by omega, fun i hi => ?_⟩
    have := chkA_each h i hi
    rwa [List.nil_append] at this
theorem wrong_zero {A : List Nd} {x : Nd} (h : wrongN A x = 0) : cleanOk x.p = true ∧ x.p ≠ [47] ∧ kindOk x = true ∧ findL A x.p = none ∧ ∃ y, findN A (upP x.p) = some y ∧ y.k = 2 := by
  unfold wrongN at h
  split at h
  · rename_i hc
    simp only [Bool.and_eq_true, decide_eq_true_eq] at hc
    split at h
    · cases h
    · rename_i hf
      refine ⟨hc.1.1, hc.1.2, hc.2, by simpa using hf, ?_⟩
      unfold upE at h
      split at h
      · cases h
      · rename_i y hy
        split at h
        · rename_i hk
          exact ⟨y, hy, hk⟩
        · cases h
  · cases h
theorem findL_some {L : List Nd} {p : Nm} {x : Nd} (h : findL L p = some x) : x ∈ L ∧ x.p = p := by
  refine ⟨List.mem_of_find?_eq_some h, ?_⟩
  have := List.find?_some h
  simpa using this
theorem findL_more {L M : List Nd} {p : Nm} {x : Nd} (h : findL L p = some x) : findL (L ++ M) p = some x := by
  unfold findL at h ⊢
  rw [List.find?_append, h]
  rfl
theorem findN_more {L M : List Nd} {p : Nm} {x : Nd} (h : findN L p = some x) : findN (L ++ M) p = some x := by
  unfold findN at h ⊢
  split at h
  · rw [if_pos (by assumption)]
    exact h
  · rw [if_neg (by assumption)]
    exact findL_more h
theorem findN_take {L : List Nd} {i : Nat} {p : Nm} {x : Nd} (h : findN (L.take i) p = some x) : findN L p = some x := by
  have := findN_more (M := L.drop i) h
  rwa [List.take_append_drop] at this
theorem Tr.mem {L : List Nd} (h : Tr L) {x : Nd} (hx : x ∈ L) : cleanOk x.p = true ∧ x.p ≠ [47] ∧ kindOk x = true ∧ ∃ y, findN L (upP x.p) = some y ∧ y.k = 2 := by
  obtain ⟨i, hi, rfl⟩ := List.getElem_of_mem hx
  obtain ⟨h1, h2, h3, _, y, hy, hk⟩ := wrong_zero (h.each i hi)
  exact ⟨h1, h2, h3, y, findN_take hy, hk⟩
theorem clean_ok {p : Nm} (h : cleanOk p = true) : rightP p = true ∧ cleanP p = p := by
  unfold cleanOk at h
  simpa using h
theorem kind_ok {x : Nd} (h : kindOk x = true) : x.k = 1 ∨ x.k = 2 ∨ (x.k = 3 ∧ targetOk x.t = true) := by
  unfold kindOk at h
  split at h
  · rename_i hk
    exact .inr (.inr ⟨hk, h⟩)
  · simp at h
    rcases h.1 with h | h
    · exact .inl h
    · exact .inr (.inl h)
theorem target_ok {t : Nm} (h : targetOk t = true) : t ≠ [] ∧ t.length ≤ 256 ∧ ∀ c ∈ t, c ≠ 0 := by
  unfold targetOk at h
  simp only [Bool.and_eq_true, decide_eq_true_eq, List.all_eq_true, bne_iff_ne] at h
  exact ⟨h.1.1, h.1.2, h.2⟩

/-- names that are not dots. -/
structure OkG (n : Nm) : Prop where
  ok : OkN n
  dots : n ≠ [46, 46]
theorem joinP_root {a : List Nm} (h : joinP a = [47]) (ha : ∀ n ∈ a, OkN n) : a = [] := by
  unfold joinP at h
  split at h
  · assumption
  · cases a with
    | nil => rfl
    | cons n r =>
      have e : joinF (n :: r) = 47 :: (n ++ joinF r) := rfl
      rw [e] at h
      have h2 := (ha n (List.mem_cons_self ..)).good
      have h3 : n = [] := by
        have := (List.cons.inj h).2
        exact (List.append_eq_nil_iff.1 this).1
      rw [h3] at h2
      cases h2
/-- a place in a tree: what stands there is no link. -/
structure At (L : List Nd) (a : List Nm) : Prop where
  cl : Cl a
  st : ∃ y, findN L (joinP a) = some y ∧ (y.k = 1 ∨ y.k = 2)
theorem at_root (L : List Nd) : At L [] := ⟨⟨fun n h => (by cases h), fun n h => (by cases h), Nat.zero_le _⟩, rootN, rfl, .inr rfl⟩
theorem Cl.more {a : List Nm} {n : Nm} (h : Cl a) (hn : OkN n) (hd : n ≠ [46, 46]) (hl : (joinF (a ++ [n])).length ≤ 256) : Cl (a ++ [n]) := by
  refine ⟨fun m hm => ?_, fun m hm => ?_, hl⟩
  · rcases List.mem_append.1 hm with hm | hm
    · exact h.ok m hm
    · rw [List.mem_singleton.1 hm]; exact hn
  · rcases List.mem_append.1 hm with hm | hm
    · exact h.dots m hm
    · rw [List.mem_singleton.1 hm]; exact hd
theorem joinP_more (a : List Nm) (n : Nm) : joinP (a ++ [n]) = joinF (a ++ [n]) := by
  unfold joinP
  rw [if_neg (by simp)]
/-- what stands below a directory. -/
theorem step_at {L : List Nd} (hT : Tr L) {a : List Nm} {n : Nm} {x : Nd} (ha : Cl a) (hn : OkN n) (hd : n ≠ [46, 46]) (hf : findN L (joinP (a ++ [n])) = some x) :
    Cl (a ++ [n]) ∧ kindOk x = true ∧ x.p = joinP (a ++ [n]) ∧ x ∈ L := by
  have hok : ∀ m ∈ a ++ [n], OkN m := fun m hm => by
    rcases List.mem_append.1 hm with hm | hm
    · exact ha.ok m hm
    · rw [List.mem_singleton.1 hm]; exact hn
  unfold findN at hf
  split at hf
  · rename_i hr
    have := joinP_root hr hok
    simp at this
  · obtain ⟨h1, h2⟩ := findL_some hf
    obtain ⟨h3, _, h5, _⟩ := hT.mem h1
    have h6 := (right_iff.1 (clean_ok h3).1).1
    rw [h2, joinP_more] at h6
    exact ⟨ha.more hn hd h6, h5, h2, h1⟩
theorem cl_init {a : List Nm} {n : Nm} (h : Cl (a ++ [n])) : Cl a := by
  have := h.drop
  rwa [List.dropLast_concat] at this
/-- above what stands, there is a directory. -/
theorem up_dir {L : List Nd} (hT : Tr L) {a : List Nm} {n : Nm} {x : Nd} (hc : Cl (a ++ [n])) (hf : findN L (joinP (a ++ [n])) = some x) : ∃ y, findN L (joinP a) = some y ∧ y.k = 2 := by
  have hm : n ∈ a ++ [n] := List.mem_append_right _ (List.mem_singleton.2 rfl)
  obtain ⟨_, _, hp, hx⟩ := step_at hT (cl_init hc) (hc.ok n hm) (hc.dots n hm) hf
  obtain ⟨hcl, _, _, y, hy, hk⟩ := hT.mem hx
  refine ⟨y, ?_, hk⟩
  have e : upP x.p = joinP a := by
    unfold upP
    rw [if_pos (clean_ok hcl).1, hp, left_join hc, List.dropLast_concat]
  rwa [e] at hy
theorem At.up {L : List Nd} (hT : Tr L) {a : List Nm} (h : At L a) : At L a.dropLast := by
  rcases List.eq_nil_or_concat a with rfl | ⟨b, n, rfl⟩
  · exact at_root L
  · rw [List.concat_eq_append] at h ⊢
    rw [List.dropLast_concat]
    obtain ⟨x, hx, _⟩ := h.st
    obtain ⟨y, hy, hk⟩ := up_dir hT h.cl hx
    exact ⟨cl_init h.cl, y, hy, .inr hk⟩
theorem At.upK {L : List Nd} (hT : Tr L) {a : List Nm} (h : At L a) : ∃ y, findN L (joinP a.dropLast) = some y ∧ y.k = 2 := by
  rcases List.eq_nil_or_concat a with rfl | ⟨b, n, rfl⟩
  · exact ⟨rootN, rfl, rfl⟩
  · rw [List.concat_eq_append] at h ⊢
    rw [List.dropLast_concat]
    obtain ⟨x, hx, _⟩ := h.st
    exact up_dir hT h.cl hx
theorem At.step {L : List Nd} (hT : Tr L) {a : List Nm} {n : Nm} {x : Nd} (h : At L a) (hn : OkN n) (hd : n ≠ [46, 46]) (hf : findN L (joinP (a ++ [n])) = some x) (hk : x.k ≠ 3) : At L (a ++ [n]) := by
  obtain ⟨h1, h2, _, _⟩ := step_at hT h.cl hn hd hf
  refine ⟨h1, x, hf, ?_⟩
  rcases kind_ok h2 with h | h | ⟨h, _⟩
  · exact .inl h
  · exact .inr h
  · exact absurd h hk
/-- all that stands ahead of a name is a directory. -/
theorem At.ahead {L : List Nd} (hT : Tr L) {a r : List Nm} (hc : Cl (a ++ r)) (hs : ∃ y, findN L (joinP (a ++ r)) = some y) (hr : r ≠ []) : ∃ y, findN L (joinP a) = some y ∧ y.k = 2 := by
  obtain ⟨k, hk⟩ : ∃ k, r.length = k := ⟨_, rfl⟩
  induction k generalizing r with
  | zero => exact absurd (List.eq_nil_of_length_eq_zero hk) hr
  | succ k ih =>
    rcases List.eq_nil_or_concat r with rfl | ⟨b, n, rfl⟩
    · exact absurd rfl hr
    · rw [List.concat_eq_append, ← List.append_assoc] at hc hs
      obtain ⟨x, hx⟩ := hs
      obtain ⟨y, hy, hyk⟩ := up_dir hT hc hx
      by_cases hb : b = []
      · subst hb
        rw [List.append_nil] at hy
        exact ⟨y, hy, hyk⟩
      · refine ih (cl_init hc) ⟨y, hy⟩ hb ?_
        rw [List.concat_eq_append, List.length_append] at hk
        simpa using hk

def partsP (t : Nm) : List Nm := namesA [] t
/-- names gone through; what a link leads to, k tells. -/
def goV (L : List Nd) (k : List Nm → List Nm → Sum Int (List Nm)) : List Nm → List Nm → Sum Int (List Nm)
  | a, [] => .inr a
  | a, n :: r =>
    if n = [46, 46] then goV L k a.dropLast r
    else match findN L (joinP (a ++ [n])) with
      | none => .inl 17
      | some x => if x.k = 1 ∧ r ≠ [] then .inl 20
        else if x.k = 3 then k (if x.t.head? = some 47 then [] else a) (partsP x.t ++ r)
        else goV L k (a ++ [n]) r
def walkV (L : List Nd) : Nat → List Nm → List Nm → Sum Int (List Nm)
  | 0 => goV L fun _ _ => .inl 19
  | h + 1 => goV L (walkV L h)
def kindOf (L : List Nd) (a : List Nm) : Int := match findN L (joinP a) with
  | none => 0
  | some y => y.k
def endV (L : List Nd) : Sum Int (List Nm) → Nm × Int × Int
  | .inl e => ([], 0, e)
  | .inr a => (joinP a, kindOf L a, 0)
def resV (L : List Nd) (p : Nm) : Nm × Int × Int :=
  if (chkN L).1 = 0 then (if rightP p = true then endV L (walkV L 8 [] (namesP p)) else ([], 0, 1)) else ([], 0, (chkN L).1)

theorem go_nil (L : List Nd) (k : List Nm → List Nm → Sum Int (List Nm)) (a : List Nm) : goV L k a [] = .inr a := rfl
theorem go_dots (L : List Nd) (k : List Nm → List Nm → Sum Int (List Nm)) (a : List Nm) {n : Nm} (r : List Nm) (h : n = [46, 46]) : goV L k a (n :: r) = goV L k a.dropLast r := by
  show (if n = [46, 46] then _ else _) = _
  rw [if_pos h]
theorem go_none (L : List Nd) (k : List Nm → List Nm → Sum Int (List Nm)) (a : List Nm) {n : Nm} (r : List Nm) (h : n ≠ [46, 46]) (hf : findN L (joinP (a ++ [n])) = none) : goV L k a (n :: r) = .inl 17 := by
  show (if n = [46, 46] then _ else _) = _
  rw [if_neg h, hf]
theorem go_file (L : List Nd) (k : List Nm → List Nm → Sum Int (List Nm)) (a : List Nm) {n : Nm} {r : List Nm} {x : Nd} (h : n ≠ [46, 46]) (hf : findN L (joinP (a ++ [n])) = some x) (hk : x.k = 1) (hr : r ≠ []) : goV L k a (n :: r) = .inl 20 := by
  show (if n = [46, 46] then _ else _) = _
  rw [if_neg h, hf]
  show (if x.k = 1 ∧ r ≠ [] then _ else _) = _
  rw [if_pos ⟨hk, hr⟩]
theorem go_link (L : List Nd) (k : List Nm → List Nm → Sum Int (List Nm)) (a : List Nm) {n : Nm} (r : List Nm) {x : Nd} (h : n ≠ [46, 46]) (hf : findN L (joinP (a ++ [n])) = some x) (hk : x.k = 3) : goV L k a (n :: r) = k (if x.t.head? = some 47 then [] else a) (partsP x.t ++ r) := by
  show (if n = [46, 46] then _ else _) = _
  rw [if_neg h, hf]
  show (if x.k = 1 ∧ r ≠ [] then _ else _) = _
  rw [if_neg (fun e => by rw [hk] at e; exact absurd e.1 (by decide)), if_pos hk]
theorem go_on (L : List Nd) (k : List Nm → List Nm → Sum Int (List Nm)) (a : List Nm) {n : Nm} {r : List Nm} {x : Nd} (h : n ≠ [46, 46]) (hf : findN L (joinP (a ++ [n])) = some x) (hk : x.k ≠ 3) (hr : x.k = 1 → r = []) : goV L k a (n :: r) = goV L k (a ++ [n]) r := by
  show (if n = [46, 46] then _ else _) = _
  rw [if_neg h, hf]
  show (if x.k = 1 ∧ r ≠ [] then _ else _) = _
  rw [if_neg (fun e => e.2 (hr e.1)), if_neg hk]

theorem parts_ok {t : Nm} (h : ∀ c ∈ t, c ≠ 0) : ∀ n ∈ partsP t, OkN n := by
  intro n hn
  obtain ⟨h1, h2⟩ := List.mem_filter.1 hn
  refine ⟨segA_slash (by simp) h1, fun hm => ?_, h2⟩
  rcases segA_mem h1 0 hm with hm | hm
  · cases hm
  · exact h 0 hm rfl
theorem parts_names {p : Nm} (h : rightP p = true) : partsP p = namesP p := by
  unfold namesP partsP
  rw [if_pos h]
  obtain ⟨_, ⟨r, rfl⟩, _⟩ := right_iff.1 h
  unfold namesA
  rw [segA_sl]
  rfl

/-- where names lead, there stands something. -/
theorem go_at {L : List Nd} (hT : Tr L) {k : List Nm → List Nm → Sum Int (List Nm)} (hk : ∀ a N b, At L a → (∀ n ∈ N, OkN n) → k a N = .inr b → At L b) {N : List Nm} :
    ∀ {a b : List Nm}, At L a → (∀ n ∈ N, OkN n) → goV L k a N = .inr b → At L b := by
  induction N with
  | nil =>
    intro a b ha _ h
    rw [go_nil] at h
    cases h
    exact ha
  | cons n r ih =>
    intro a b ha hN h
    have hr : ∀ m ∈ r, OkN m := fun m hm => hN m (List.mem_cons_of_mem _ hm)
    by_cases hd : n = [46, 46]
    · rw [go_dots _ _ _ _ hd] at h
      exact ih (ha.up hT) hr h
    · cases hf : findN L (joinP (a ++ [n])) with
      | none => rw [go_none _ _ _ _ hd hf] at h; cases h
      | some x =>
        have hs := step_at hT ha.cl (hN n (List.mem_cons_self ..)) hd hf
        by_cases h3 : x.k = 3
        · rw [go_link _ _ _ _ hd hf h3] at h
          refine hk _ _ _ ?_ ?_ h
          · split
            · exact at_root L
            · exact ha
          · intro m hm
            rcases List.mem_append.1 hm with hm | hm
            · rcases kind_ok hs.2.1 with e | e | ⟨_, e⟩
              · rw [h3] at e; cases e
              · rw [h3] at e; cases e
              · exact parts_ok (target_ok e).2.2 m hm
            · exact hr m hm
        · by_cases h1 : x.k = 1 ∧ r ≠ []
          · rw [go_file _ _ _ hd hf h1.1 h1.2] at h
            cases h
          · rw [go_on _ _ _ hd hf h3 (fun e => by
              by_cases e2 : r = []
              · exact e2
              · exact absurd ⟨e, e2⟩ h1)] at h
            exact ih (ha.step hT (hN n (List.mem_cons_self ..)) hd hf h3) hr h
theorem walk_at {L : List Nd} (hT : Tr L) (h : Nat) : ∀ (a N b : List Nm), At L a → (∀ n ∈ N, OkN n) → walkV L h a N = .inr b → At L b := by
  induction h with
  | zero => exact fun a N b ha hN he => go_at hT (fun _ _ _ _ _ e => by cases e) ha hN he
  | succ h ih => exact fun a N b ha hN he => go_at hT ih ha hN he
/-- a place leads to itself. -/
theorem go_self {L : List Nd} (hT : Tr L) (k : List Nm → List Nm → Sum Int (List Nm)) {N : List Nm} : ∀ {a : List Nm}, At L (a ++ N) → goV L k a N = .inr (a ++ N) := by
  induction N with
  | nil => intro a _; rw [go_nil, List.append_nil]
  | cons n r ih =>
    intro a h
    have e : a ++ n :: r = (a ++ [n]) ++ r := by rw [List.append_assoc]; rfl
    rw [e] at h ⊢
    have hd : n ≠ [46, 46] := h.cl.dots n (by simp)
    by_cases hr : r = []
    · subst hr
      rw [List.append_nil] at h ⊢
      obtain ⟨x, hx, hk⟩ := h.st
      rw [go_on _ _ _ hd hx (by rcases hk with hk | hk <;> rw [hk] <;> decide) (fun _ => rfl), go_nil]
    · obtain ⟨y, hy, _⟩ := h.st
      obtain ⟨x, hx, hk⟩ := At.ahead hT h.cl ⟨y, hy⟩ hr
      rw [go_on _ _ _ hd hx (by rw [hk]; decide) (fun e => by rw [hk] at e; cases e)]
      exact ih h
theorem walk_self {L : List Nd} (hT : Tr L) (h : Nat) {b : List Nm} (hb : At L b) : walkV L h [] b = .inr b := by
  cases h with
  | zero => exact go_self hT _ (a := []) hb
  | succ h => exact go_self hT _ (a := []) hb

theorem at_kind {L : List Nd} {a : List Nm} (h : At L a) : ∃ y, findN L (joinP a) = some y ∧ y.k = kindOf L a ∧ (kindOf L a = 1 ∨ kindOf L a = 2) := by
  obtain ⟨y, hy, hk⟩ := h.st
  have e : kindOf L a = y.k := by unfold kindOf; rw [hy]
  exact ⟨y, hy, e.symm, by rw [e]; exact hk⟩
/-- an error is none of the number 0. -/
theorem go_err {L : List Nd} {k : List Nm → List Nm → Sum Int (List Nm)} (hk : ∀ a N e, k a N = .inl e → e ≠ 0) {N : List Nm} : ∀ {a : List Nm} {e : Int}, goV L k a N = .inl e → e ≠ 0 := by
  induction N with
  | nil => intro a e h; rw [go_nil] at h; cases h
  | cons n r ih =>
    intro a e h
    by_cases hd : n = [46, 46]
    · rw [go_dots _ _ _ _ hd] at h
      exact ih h
    · cases hf : findN L (joinP (a ++ [n])) with
      | none => rw [go_none _ _ _ _ hd hf] at h; cases h; decide
      | some x =>
        by_cases h3 : x.k = 3
        · rw [go_link _ _ _ _ hd hf h3] at h
          exact hk _ _ _ h
        · by_cases h1 : x.k = 1 ∧ r ≠ []
          · rw [go_file _ _ _ hd hf h1.1 h1.2] at h
            cases h
            decide
          · rw [go_on _ _ _ hd hf h3 (fun e => by
              by_cases e2 : r = []
              · exact e2
              · exact absurd ⟨e, e2⟩ h1)] at h
            exact ih h
theorem walk_err {L : List Nd} (h : Nat) : ∀ (a N : List Nm) (e : Int), walkV L h a N = .inl e → e ≠ 0 := by
  induction h with
  | zero => exact fun a N e he => go_err (fun _ _ _ h => by cases h; decide) he
  | succ h ih => exact fun a N e he => go_err ih he
theorem names_okN (p : Nm) : ∀ n ∈ namesP p, OkN n := names_ok
/-- what is told where a path leads. -/
theorem res_ok {L : List Nd} {p : Nm} (h : (resV L p).2.2 = 0) : (chkN L).1 = 0 ∧ Tr L ∧ rightP p = true ∧ ∃ b, At L b ∧ walkV L 8 [] (namesP p) = .inr b ∧ resV L p = (joinP b, kindOf L b, 0) := by
  unfold resV at h ⊢
  by_cases hc : (chkN L).1 = 0
  · rw [if_pos hc] at h ⊢
    by_cases hr : rightP p = true
    · rw [if_pos hr] at h ⊢
      cases hw : walkV L 8 [] (namesP p) with
      | inl e =>
        rw [hw] at h
        exact absurd h (walk_err 8 _ _ _ hw)
      | inr b => exact ⟨hc, tr_of hc, hr, b, walk_at (tr_of hc) 8 [] _ b (at_root L) (names_okN p) hw, rfl, rfl⟩
    · rw [if_neg hr] at h
      cases h
  · rw [if_neg hc] at h
    exact absurd h hc

end Go.Proofs.YtilemgpopjlchaaDoor
