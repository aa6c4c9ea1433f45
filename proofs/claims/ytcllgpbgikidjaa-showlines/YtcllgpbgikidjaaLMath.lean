/-
  How many lines a text of rules has.
-/
import Derived.Test.YtcllgpbgikidjaaSLight
namespace Go.Proofs.Ytcllgpbgikidjaa
open Go.RowKit

/-- no byte ends a line. -/
def No10 (l : List UInt8) : Prop := ∀ c ∈ l, ¬ c = 10

theorem No10.app {a b : List UInt8} (ha : No10 a) (hb : No10 b) : No10 (a ++ b) := fun c hc => by
  rcases List.mem_append.1 hc with h | h
  · exact ha c h
  · exact hb c h

theorem count_no10 {l : List UInt8} (h : No10 l) : l.count 10 = 0 := List.count_eq_zero.2 fun hm => h 10 hm rfl

theorem join_no10 {L : List (List UInt8)} (h : ∀ t ∈ L, No10 t) : No10 (Lib.join L [32]) := by
  have tail : ∀ r : List (List UInt8), (∀ t ∈ r, No10 t) → No10 (Lib.joinTail [32] r) := by
    intro r hr c hc
    have hc2 : c ∈ (r.map ([32] ++ ·)).flatten := hc
    obtain ⟨l, hl, hcl⟩ := List.mem_flatten.1 hc2
    obtain ⟨t, ht, rfl⟩ := List.mem_map.1 hl
    rcases List.mem_append.1 hcl with h1 | h1
    · have : c = 32 := by simpa using h1
      subst this
      decide
    · exact hr t ht c h1
  cases L with
  | nil => intro c hc; cases hc
  | cons x r =>
    rw [Lib.join_cons]
    exact (h x List.mem_cons_self).app (tail r fun t ht => h t (List.mem_cons_of_mem _ ht))

theorem wordS_no10 (k : Nat) : No10 (wordS k) := by
  unfold wordS No10
  match k with
  | 0 | 1 | 2 | 3 | 4 | 5 | 6 | 7 | 8 => decide
  | n + 9 => simp
theorem signS_no10 (k : Nat) : No10 (signS k) := by
  unfold signS No10
  match k with
  | 0 | 1 | 2 | 3 | 4 | 5 | 6 => decide
  | n + 7 => simp

theorem actT_no10 {T : List Int} {k a : Int} (h : actB k a = true) : ∀ t ∈ actT T k a, No10 t := by
  obtain ⟨h1, h2, h3, h4⟩ := actB_out h
  intro t ht
  unfold actT at ht
  rcases List.mem_cons.1 ht with rfl | h5
  · exact wordS_no10 _
  · split at h5
    · have : t = dec T a.toNat := by simpa using h5
      subst this
      exact dec_no10 T _ (by omega)
    · cases h5

theorem condT_no10 {T : List Int} {x : Xc} (h : condB x = true) (hm : U64 x.mask) (hv : U64 x.val) : ∀ t ∈ condT T x, No10 t := by
  unfold condB at h
  simp only [Bool.and_eq_true, decide_eq_true_eq] at h
  intro t ht
  unfold condT at ht
  have w1 : No10 (dec T x.arg.toNat) := dec_no10 T x.arg.toNat (by omega)
  have w2 : No10 (dec T x.mask.toNat) := dec_no10 T x.mask.toNat (by unfold U64 at hm; omega)
  have w3 : No10 (dec T x.val.toNat) := dec_no10 T x.val.toNat (by unfold U64 at hv; omega)
  rcases List.mem_cons.1 ht with rfl | h9
  · exact No10.app (by unfold No10; decide) w1
  · rcases List.mem_append.1 h9 with h9 | h9
    · split at h9
      · cases h9
      · simp only [List.mem_cons, List.not_mem_nil, or_false] at h9
        rcases h9 with rfl | rfl
        · unfold No10; decide
        · exact w2
    · simp only [List.mem_cons, List.not_mem_nil, or_false] at h9
      rcases h9 with rfl | rfl
      · exact signS_no10 _
      · exact w3

theorem isWd_no10 {l : List UInt8} (h : isWd l = true) : No10 l := by
  cases l with
  | nil => intro c hc; cases hc
  | cons c r =>
    unfold isWd at h
    simp only [Bool.and_eq_true, decide_eq_true_eq] at h
    have e : (c :: r).takeWhile ofW = c :: r := (List.takeWhile_prefix ofW).eq_of_length h.2
    intro d hd hd10
    have : ofW d = true := by
      rw [← e] at hd
      exact List.all_eq_true.1 List.all_takeWhile d hd
    subst hd10
    exact absurd this (by decide)

theorem namesT_no10 : ∀ (l : List ByteArray), (∀ s ∈ l, No10 (lst s)) → ∀ t ∈ namesT l, No10 t := by
  intro l
  induction l with
  | nil => intro _ t ht; cases ht
  | cons x l ih =>
    intro h t ht
    have hx : No10 (lst x) := h x List.mem_cons_self
    cases l with
    | nil =>
      simp only [namesT, List.mem_singleton] at ht
      subst ht
      exact hx
    | cons y l =>
      have ht2 : t ∈ comma x :: namesT (y :: l) := ht
      rcases List.mem_cons.1 ht2 with rfl | h3
      · exact hx.app (by unfold No10; decide)
      · exact ih (fun s hs => h s (List.mem_cons_of_mem _ hs)) t h3

theorem condsS_no10 {T : List Int} : ∀ (l : List Xc) (a : ByteArray), No10 (lst a) → (∀ c ∈ l, condB c = true ∧ U64 c.mask ∧ U64 c.val) → ∀ t ∈ flat T (condsS a l), No10 t := by
  intro l
  induction l with
  | nil => intro a _ _ t ht; cases ht
  | cons x l ih =>
    intro a ha h t ht
    have ht2 : t ∈ [lst a] ++ (condT T x ++ flat T (condsS wAndB l)) := ht
    rcases List.mem_append.1 ht2 with h1 | h1
    · have : t = lst a := by simpa using h1
      subst this
      exact ha
    · rcases List.mem_append.1 h1 with h2 | h2
      · obtain ⟨hc, hm, hv⟩ := h x List.mem_cons_self
        exact condT_no10 hc hm hv t h2
      · exact ih wAndB (by unfold No10; decide) (fun c hc => h c (List.mem_cons_of_mem _ hc)) t h2

/-- a line of what no line ends in. -/
theorem line_count {J : List UInt8} (h : No10 J) : (J ++ [59, 10]).count 10 = 1 := by
  rw [List.count_append, count_no10 h]
  decide

theorem defT_line {T : List Int} {k a : Int} (h : actB k a = true) : ∃ J, No10 J ∧ defT T k a = J ++ [59, 10] :=
  ⟨Lib.join (flat T [.wd wDefaultB, .ac k a]) [32], join_no10 fun t ht => by
    have ht2 : t ∈ [lst wDefaultB] ++ (actT T k a ++ []) := ht
    rcases List.mem_append.1 ht2 with h1 | h1
    · have : t = lst wDefaultB := by simpa using h1
      subst this
      unfold No10; decide
    · rw [List.append_nil] at h1
      exact actT_no10 h t h1, rfl⟩

theorem ruleT_line {T : List Int} {x : Xl} (h : ruleB x = true) (hin : x.in) : ∃ J, No10 J ∧ ruleT T x = J ++ [59, 10] := by
  obtain ⟨h1, h2, h3, h4, h5, h6⟩ := ruleB_out h
  refine ⟨_, join_no10 fun t ht => ?_, rfl⟩
  rcases List.mem_append.1 ht with g | g
  · exact actT_no10 h4 t g
  · rcases List.mem_append.1 g with g | g
    · exact namesT_no10 _ (fun s hs => isWd_no10 (h5 s hs)) t g
    · exact condsS_no10 _ _ (by unfold No10; decide) (fun c hc => ⟨h6 c hc, hin.cd c hc⟩) t g

/-- as many lines as rules, and one. -/
theorem text_count {T : List Int} {k a : Int} (hk : actB k a = true) : ∀ (l : List Xl), (∀ x ∈ l, ruleB x = true ∧ x.in) → (textT T k a l).count 10 = 1 + l.length := by
  intro l hl
  obtain ⟨J, hJ, e⟩ := defT_line (T := T) hk
  unfold textT
  rw [List.count_append, e, line_count hJ]
  have key : ∀ (l : List Xl), (∀ x ∈ l, ruleB x = true ∧ x.in) → (l.flatMap (ruleT T)).count 10 = l.length := by
    intro l
    induction l with
    | nil => intro _; rfl
    | cons x l ih =>
      intro h
      obtain ⟨J, hJ, e⟩ := ruleT_line (T := T) (h x List.mem_cons_self).1 (h x List.mem_cons_self).2
      rw [List.flatMap_cons, List.count_append, e, line_count hJ, ih fun y hy => h y (List.mem_cons_of_mem _ hy), List.length_cons]
      omega
  rw [key l hl]

/-- it ends a line. -/
theorem text_last {T : List Int} {k a : Int} (hk : actB k a = true) : ∀ (l : List Xl), (∀ x ∈ l, ruleB x = true ∧ x.in) → ∃ J, textT T k a l = J ++ [10] := by
  intro l hl
  rcases List.eq_nil_or_concat l with rfl | ⟨r, x, rfl⟩
  · obtain ⟨J, hJ, e⟩ := defT_line (T := T) hk
    refine ⟨J ++ [59], ?_⟩
    unfold textT
    rw [e]
    simp
  · obtain ⟨J, hJ, e⟩ := ruleT_line (T := T) (hl x (by simp)).1 (hl x (by simp)).2
    refine ⟨defT T k a ++ (r.flatMap (ruleT T) ++ (J ++ [59])), ?_⟩
    unfold textT
    rw [List.concat_eq_append, List.flatMap_append, List.flatMap_cons, e]
    simp

/-- one rule less. -/
theorem text_less {T : List Int} {k a : Int} (l : List Xl) (x : Xl) : textT T k a (l ++ [x]) = textT T k a l ++ ruleT T x := by
  unfold textT
  rw [List.flatMap_append, List.append_assoc]
  simp

theorem ruleT_pos (T : List Int) (x : Xl) : 2 ≤ (ruleT T x).length := by
  unfold ruleT
  rw [List.length_append]
  simp

theorem count_step {l : List UInt8} {i : Nat} (h : i < l.length) : (l.take (i + 1)).count 10 = (l.take i).count 10 + (if l[i] = 10 then 1 else 0) := by
  rw [List.take_succ_eq_append_getElem h, List.count_append, List.count_singleton]
  by_cases e : l[i] = 10
  · simp [e]
  · simp [e]

theorem rulesB_less {k a : Int} {l : List Xl} {x : Xl} (h : rulesB k a (l ++ [x]) = true) : rulesB k a l = true := by
  unfold rulesB at h ⊢
  simp only [Bool.and_eq_true, decide_eq_true_eq, List.all_append, List.length_append] at h ⊢
  exact ⟨⟨h.1.1, by have := h.1.2; omega⟩, h.2.1⟩

theorem rlR_less {w : World} {p : Option Addr} {n c : Nat} {l : List Xr} {x : Xr} (h : RlR w (.slice p n c) (l ++ [x])) : RlR w (.slice p l.length c) l := by
  obtain ⟨a, cap, e, h1, h2, h3, h4⟩ := h
  injection e with e1 e2 e3
  subst e1 e3
  rw [List.length_append] at h1
  refine ⟨p, c, rfl, by omega, h2, fun h0 => ?_, fun y hy => h4 y (List.mem_append_left _ hy)⟩
  obtain ⟨b, o, e, hc⟩ := h3 (by rw [List.length_append]; omega)
  exact ⟨b, o, e, fun i y hy => hc i y (by rw [List.getElem?_append_left (List.getElem?_eq_some_iff.1 hy).1]; exact hy)⟩

theorem lt_bounds {l : List Xr} (h : Lt l) : l.length ≤ 1000 ∧ ∀ x ∈ l, x.r.names.length ≤ 9000000 ∧ x.r.conds.length ≤ 9000000 := by
  obtain ⟨h1, h2⟩ := h
  exact ⟨by omega, fun x hx => ⟨by have := (h2 x hx).1; omega, by have := (h2 x hx).2.1; omega⟩⟩

theorem lt_in {l : List Xr} (h : Lt l) (hu : ∀ y ∈ l, ∀ c ∈ y.r.conds, U64 c.mask ∧ U64 c.val) : ∀ x ∈ l, x.r.in := fun x hx => ⟨fun s hs => by have := (h.2 x hx).2.2 s hs; omega, hu x hx⟩

theorem lt_less {l : List Xr} {x : Xr} (h : Lt (l ++ [x])) : Lt l := ⟨by have := h.1; rw [List.length_append] at this; omega, fun y hy => h.2 y (List.mem_append_left _ hy)⟩

end Go.Proofs.Ytcllgpbgikidjaa
