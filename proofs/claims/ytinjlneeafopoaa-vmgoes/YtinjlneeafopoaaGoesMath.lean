/-
  Through which places a run goes, as plain numbers: rising ones, each of which the one ahead may go on to; what stands elsewhere does not matter.
-/
import Derived.Test.YtinjlneeafopoaaSMath
namespace Go.Proofs.Ytinjlneeafopoaa
open Go.RowKit

/-- how a run ends. -/
def EndsSo (x : In) (ans : Int) : Prop := (x.c = 6 ∧ ans = x.k) ∨ x.c = 22 ∨ (x.c = 60 ∧ ans = 0)

/-- places that a run goes through, one behind the other. -/
def Ch (ins : List In) : List Nat → Int → Prop
  | [], _ => False
  | [p], ans => ∃ x, ins[p]? = some x ∧ EndsSo x ans
  | p :: q :: r, ans => (∃ x, ins[p]? = some x ∧ p < q ∧ (q : Int) ∈ goOn p (ins.length - 1 - p) (skipsL x)) ∧ Ch ins (q :: r) ans
theorem Ch.last {ins : List In} {p : Nat} {x : In} {ans : Int} (hx : ins[p]? = some x) (he : EndsSo x ans) : Ch ins [p] ans := ⟨x, hx, he⟩
theorem Ch.cons {ins : List In} {p q : Nat} {x : In} {r : List Nat} {ans : Int} (hx : ins[p]? = some x) (h1 : p < q) (h2 : (q : Int) ∈ goOn p (ins.length - 1 - p) (skipsL x)) (hr : Ch ins (q :: r) ans) : Ch ins (p :: q :: r) ans := ⟨⟨x, hx, h1, h2⟩, hr⟩
theorem Ch.ind {ins : List In} {motive : (l : List Nat) → (ans : Int) → Ch ins l ans → Prop}
    (last : ∀ {p : Nat} {x : In} {ans : Int} (hx : ins[p]? = some x) (he : EndsSo x ans), motive [p] ans (Ch.last hx he))
    (cons : ∀ {p q : Nat} {x : In} {r : List Nat} {ans : Int} (hx : ins[p]? = some x) (h1 : p < q) (h2 : (q : Int) ∈ goOn p (ins.length - 1 - p) (skipsL x)) (hr : Ch ins (q :: r) ans), motive (q :: r) ans hr → motive (p :: q :: r) ans (Ch.cons hx h1 h2 hr)) :
    ∀ {l : List Nat} {ans : Int} (h : Ch ins l ans), motive l ans h := by
  intro l
  induction l with
  | nil => intro ans h; exact False.elim h
  | cons p l ih =>
    intro ans h
    cases l with
    | nil =>
      obtain ⟨x, hx, he⟩ := id h
      exact last hx he
    | cons q r =>
      obtain ⟨⟨x, hx, h1, h2⟩, hr⟩ := id h
      exact cons hx h1 h2 hr (ih hr)

theorem end_so (x : In) (s : St) (he : endV x s = true) : EndsSo x (tellV x s) := by
  unfold EndsSo
  by_cases h6 : x.c = 6
  · left
    exact ⟨h6, by unfold tellV; simp [h6]⟩
  · by_cases h22 : x.c = 22
    · exact .inr (.inl h22)
    · right; right
      unfold endV at he
      simp [endL, isIn_cons, isIn_nil, h6, h22] at he
      exact ⟨he.1, by unfold tellV; simp [h6, h22]⟩

theorem ch_run (ins : List In) (d : Da) (ho : ∀ x ∈ ins, x.ok) (hf : ∀ (p : Nat) (x : In), ins[p]? = some x → fault x (ins.length - 1 - p) = 0) (n : Nat) :
    ∀ (p : Nat) (s : St), ins.length - p ≤ n → p < ins.length → ∃ r, (runV ins d (ins.length - p) p s).1 = p :: r ∧ Ch ins (p :: r) (runV ins d (ins.length - p) p s).2.ans := by
  induction n with
  | zero => intro p s h1 h2; omega
  | succ n ih =>
    intro p s h1 h2
    obtain ⟨x, hx⟩ : ∃ x, ins[p]? = some x := ⟨ins[p], List.getElem?_eq_getElem h2⟩
    have hxo := ho x (List.mem_of_getElem? hx)
    have hstep := runV_step ins d ho p s x hx
    cases he : endV x s with
    | true =>
      have e2 : nextV ins.length d x p s = ((ins.length : Int), { s with ans := tellV x s }) := by unfold nextV; rw [if_pos he]
      rw [e2] at hstep
      dsimp only at hstep
      rw [runV_none ins d (ins.length - ((ins.length : Nat) : Int).toNat) ((ins.length : Nat) : Int).toNat _ (by omega)] at hstep
      rw [hstep]
      exact ⟨[], rfl, Ch.last hx (end_so x s he)⟩
    | false =>
      obtain ⟨q, hq, hpq, hql, hin⟩ := next_goes ins d p s x hx hxo (hf p x hx) he
      rw [hq] at hstep
      rw [show ((q : Int)).toNat = q from by omega] at hstep
      obtain ⟨r, hr, hch⟩ := ih q (nextV ins.length d x p s).2 (by omega) hql
      rw [hstep, hr]
      exact ⟨q :: r, rfl, Ch.cons hx hpq hin hch⟩

theorem Ch.at {ins : List In} {l : List Nat} {ans : Int} (h : Ch ins l ans) : ∀ (i p : Nat), l[i]? = some p → p < ins.length := by
  induction h using Ch.ind with
  | last hx _ =>
    intro i p hi
    cases i with
    | zero => simp at hi; subst hi; exact (List.getElem?_eq_some_iff.1 hx).1
    | succ i => simp at hi
  | cons hx _ _ _ ih =>
    intro i p hi
    cases i with
    | zero => simp at hi; subst hi; exact (List.getElem?_eq_some_iff.1 hx).1
    | succ i => exact ih i p (by simpa using hi)

theorem Ch.next {ins : List In} {l : List Nat} {ans : Int} (h : Ch ins l ans) : ∀ (i p q : Nat), l[i]? = some p → l[i + 1]? = some q → p < q ∧ ∃ x, ins[p]? = some x ∧ (q : Int) ∈ goOn p (ins.length - 1 - p) (skipsL x) := by
  induction h using Ch.ind with
  | last _ _ => intro i p q _ hq; simp at hq
  | cons hx h1 h2 _ ih =>
    intro i p q hp hq
    cases i with
    | zero =>
      simp at hp hq
      subst hp hq
      exact ⟨h1, _, hx, h2⟩
    | succ i => exact ih i p q (by simpa using hp) (by simpa using hq)

theorem Ch.end {ins : List In} {l : List Nat} {ans : Int} (h : Ch ins l ans) : ∃ p x, l[l.length - 1]? = some p ∧ ins[p]? = some x ∧ EndsSo x ans := by
  induction h using Ch.ind with
  | last hx he => exact ⟨_, _, rfl, hx, he⟩
  | cons _ _ _ _ ih =>
    obtain ⟨p, x, h1, h2, h3⟩ := ih
    exact ⟨p, x, by simpa using h1, h2, h3⟩

/-- what stands at a place that a run does not go through does not matter. -/
theorem runV_set (ins : List In) (d : Da) (j : Nat) (y : In) (n : Nat) : ∀ (p : Nat) (s : St), j ∉ (runV ins d n p s).1 → runV (ins.set j y) d n p s = runV ins d n p s := by
  induction n with
  | zero => intro p s _; rfl
  | succ n ih =>
    intro p s h
    by_cases hp : p < ins.length
    · obtain ⟨x, hx⟩ : ∃ x, ins[p]? = some x := ⟨ins[p], List.getElem?_eq_getElem hp⟩
      have e1 : runV ins d (n + 1) p s = (p :: (runV ins d n (nextV ins.length d x p s).1.toNat (nextV ins.length d x p s).2).1, (runV ins d n (nextV ins.length d x p s).1.toNat (nextV ins.length d x p s).2).2) := by
        show (match ins[p]? with | none => ([], s) | some x => let r := runV ins d n (nextV ins.length d x p s).1.toNat (nextV ins.length d x p s).2; (p :: r.1, r.2)) = _
        rw [hx]
      rw [e1] at h
      simp only [List.mem_cons, not_or] at h
      have hx2 : (ins.set j y)[p]? = some x := by rw [List.getElem?_set_ne h.1]; exact hx
      have e2 : runV (ins.set j y) d (n + 1) p s = (p :: (runV (ins.set j y) d n (nextV ins.length d x p s).1.toNat (nextV ins.length d x p s).2).1, (runV (ins.set j y) d n (nextV ins.length d x p s).1.toNat (nextV ins.length d x p s).2).2) := by
        show (match (ins.set j y)[p]? with | none => ([], s) | some x => let r := runV (ins.set j y) d n (nextV (ins.set j y).length d x p s).1.toNat (nextV (ins.set j y).length d x p s).2; (p :: r.1, r.2)) = _
        rw [hx2, List.length_set]
      rw [e2, ih _ _ h.2, e1]
    · rw [runV_none ins d _ p s (by omega), runV_none (ins.set j y) d _ p s (by rw [List.length_set]; omega)]

end Go.Proofs.Ytinjlneeafopoaa
