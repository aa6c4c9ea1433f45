/-
  A rule's line as a text, and how long it may be.
-/
import Derived.Test.YtcllgpbgikidjaaDoorSParts
import Derived.Test.YtcllgpbgikidjaaDoorSAll
namespace Go.Proofs.YtcllgpbgikidjaaDoor
open Go.RowKit

def wDefaultB : ByteArray := ⟨#[100, 101, 102, 97, 117, 108, 116]⟩

/-- the line of the default act, of a rule; the text of rules. -/
def defT (T : List Int) (k a : Int) : List UInt8 := lineT T [.wd wDefaultB, .ac k a]
def ruleT (T : List Int) (x : Xl) : List UInt8 := Lib.join (actT T x.k x.a ++ (namesT x.names ++ flat T (condsS wWhenB x.conds))) [32] ++ [59, 10]
def textT (T : List Int) (k a : Int) (l : List Xl) : List UInt8 := defT T k a ++ l.flatMap (ruleT T)

theorem parts_line (T : List Int) (x : Xr) : lineT T (partsS x) = ruleT T x.r := by
  unfold lineT partsS ruleT
  rfl

theorem textT_step {T : List Int} {k a : Int} {l : List Xr} {i : Nat} (h : i < l.length) : textT T k a ((l.take (i + 1)).map Xr.r) = textT T k a ((l.take i).map Xr.r) ++ lineT T (partsS l[i]) := by
  unfold textT
  rw [List.take_succ_eq_append_getElem h, List.map_append, List.flatMap_append, parts_line, List.append_assoc]
  simp

theorem join_le {L : List (List UInt8)} {n : Nat} (h : ∀ t ∈ L, t.length ≤ n) : (Lib.join L [32]).length ≤ L.length * (n + 1) := by
  have tail : ∀ r : List (List UInt8), (∀ t ∈ r, t.length ≤ n) → (Lib.joinTail [32] r).length ≤ r.length * (n + 1) := by
    intro r
    induction r with
    | nil => intro _; simp [Lib.joinTail]
    | cons x r ih =>
      intro hr
      have h1 := hr x List.mem_cons_self
      have h2 := ih fun t ht => hr t (List.mem_cons_of_mem _ ht)
      show ((([32] ++ x) :: r.map ([32] ++ ·)).flatten).length ≤ _
      rw [List.flatten_cons, List.length_append, List.length_append, show (x :: r).length = r.length + 1 from rfl, Nat.add_mul]
      have h3 : ((r.map ([32] ++ ·)).flatten).length ≤ r.length * (n + 1) := h2
      simp only [List.length_cons, List.length_nil]
      omega
  cases L with
  | nil => exact Nat.zero_le _
  | cons x r =>
    rw [Lib.join_cons, List.length_append, List.length_cons, Nat.add_mul]
    have h1 := h x List.mem_cons_self
    have h2 := tail r fun t ht => h t (List.mem_cons_of_mem _ ht)
    omega

def Sh.sm : Sh → Prop
  | .wd s => s.size ≤ 100
  | _ => True

theorem namesT_small {n : Nat} : ∀ (l : List ByteArray), (∀ s ∈ l, s.size ≤ n) → ∀ t ∈ namesT l, t.length ≤ n + 1 := by
  intro l
  induction l with
  | nil => intro _ t ht; cases ht
  | cons x l ih =>
    intro h t ht
    have hx : (lst x).length ≤ n := by rw [lst_length]; exact h x List.mem_cons_self
    cases l with
    | nil =>
      simp only [namesT, List.mem_singleton] at ht
      subst ht
      omega
    | cons y l =>
      have ht2 : t ∈ comma x :: namesT (y :: l) := ht
      rcases List.mem_cons.1 ht2 with rfl | h3
      · unfold comma
        rw [List.length_append]
        simp only [List.length_cons, List.length_nil]
        omega
      · exact ih (fun s hs => h s (List.mem_cons_of_mem _ hs)) t h3

theorem wordS_len (k : Nat) : (wordS k).length ≤ 100 := by
  unfold wordS
  match k with
  | 0 | 1 | 2 | 3 | 4 | 5 | 6 | 7 | 8 => decide
  | n + 9 => simp
theorem signS_len (k : Nat) : (signS k).length ≤ 100 := by
  unfold signS
  match k with
  | 0 | 1 | 2 | 3 | 4 | 5 | 6 => decide
  | n + 7 => simp

theorem Sh.small {x : Sh} {W : World} (T : List Int) (h : x.ok W) (hs : x.sm) : ∀ t ∈ x.txt T, t.length ≤ 100001 := by
  cases x with
  | wd s =>
    intro t ht
    have : t = lst s := by simpa [Sh.txt] using ht
    subst this
    rw [lst_length]
    have : s.size ≤ 100 := hs
    omega
  | ac k a =>
    obtain ⟨h1, h2, h3, h4⟩ := h
    intro t ht
    have ht2 : t ∈ actT T k a := ht
    have w1 := wordS_len k.toNat
    have w2 := dec_len T a.toNat (by omega)
    unfold actT at ht2
    rcases List.mem_cons.1 ht2 with rfl | h5
    · omega
    · split at h5
      · have : t = dec T a.toNat := by simpa using h5
        subst this
        omega
      · cases h5
  | nm v ns => exact namesT_small ns h.2.2.2
  | cd x =>
    obtain ⟨h1, h2, h3, h4, h5, h6, h7, h8⟩ := h
    intro t ht
    have ht2 : t ∈ condT T x := ht
    have w1 := dec_len T x.arg.toNat (by omega)
    have w2 := dec_len T x.mask.toNat (by omega)
    have w3 := dec_len T x.val.toNat (by omega)
    have w4 := signS_len x.op.toNat
    unfold condT at ht2
    rcases List.mem_cons.1 ht2 with rfl | h9
    · rw [List.length_append]
      simp only [List.length_cons, List.length_nil]
      omega
    · rcases List.mem_append.1 h9 with h9 | h9
      · split at h9
        · cases h9
        · simp only [List.mem_cons, List.not_mem_nil, or_false] at h9
          rcases h9 with rfl | rfl
          · simp
          · omega
      · simp only [List.mem_cons, List.not_mem_nil, or_false] at h9
        rcases h9 with rfl | rfl
        · omega
        · omega

theorem flat_join {T : List Int} {W : World} {l : List Sh} (h : ∀ x ∈ l, x.ok W ∧ x.sm) (hl : l.length ≤ 20) : (Lib.join (flat T l) [32]).length ≤ 100000000 := by
  have h1 := flat_len (T := T) (W := W) l fun x hx => (h x hx).1
  have h2 := join_le (L := flat T l) (n := 100001) fun t ht => by
    obtain ⟨x, hx, hxt⟩ := List.mem_flatMap.1 ht
    exact Sh.small T (h x hx).1 (h x hx).2 t hxt
  have h3 : (flat T l).length * (100001 + 1) ≤ 320 * 100002 := Nat.mul_le_mul (by omega) (Nat.le_refl _)
  omega

/-- numbers of 64 bits. -/
def U64 (z : Int) : Prop := 0 ≤ z ∧ z < 18446744073709551616

/-- what is known of rules that come in, beside what is asked. -/
structure Xl.in (x : Xl) : Prop where
  nm : ∀ s ∈ x.names, s.size ≤ 100000
  cd : ∀ c ∈ x.conds, U64 c.mask ∧ U64 c.val

theorem condsS_ok {W : World} : ∀ (l : List Xc) (a : ByteArray), a.size ≤ 100 → (∀ c ∈ l, condB c = true ∧ U64 c.mask ∧ U64 c.val) → ∀ y ∈ condsS a l, y.ok W ∧ y.sm := by
  intro l
  induction l with
  | nil => intro a _ _ y hy; cases hy
  | cons x l ih =>
    intro a ha h y hy
    have hy2 : y ∈ Sh.wd a :: Sh.cd x :: condsS wAndB l := hy
    rcases List.mem_cons.1 hy2 with rfl | h1
    · exact ⟨trivial, ha⟩
    · rcases List.mem_cons.1 h1 with rfl | h2
      · obtain ⟨hc, hm, hv⟩ := h x List.mem_cons_self
        unfold condB at hc
        simp only [Bool.and_eq_true, decide_eq_true_eq] at hc
        exact ⟨⟨hc.1.1.1, hc.1.1.2, hc.1.2, hc.2, hm.1, hm.2, hv.1, hv.2⟩, trivial⟩
      · exact ih wAndB (by decide) (fun c hc => h c (List.mem_cons_of_mem _ hc)) y h2

theorem actB_out {k a : Int} (h : actB k a = true) : 1 ≤ k ∧ k ≤ 8 ∧ 0 ≤ a ∧ a ≤ 65535 := by
  unfold actB at h
  simp only [Bool.and_eq_true, decide_eq_true_eq] at h
  obtain ⟨⟨h1, h2⟩, h3⟩ := h
  refine ⟨h1, h2, ?_⟩
  split at h3
  · simp only [Bool.and_eq_true, decide_eq_true_eq] at h3
    exact h3
  · have : a = 0 := by simpa using h3
    omega

theorem ruleB_out {x : Xl} (h : ruleB x = true) : 1 ≤ x.names.length ∧ x.names.length ≤ 16 ∧ x.conds.length ≤ 8 ∧ actB x.k x.a = true ∧ (∀ s ∈ x.names, isWd (lst s) = true) ∧ ∀ c ∈ x.conds, condB c = true := by
  unfold ruleB at h
  simp only [Bool.and_eq_true, decide_eq_true_eq, List.all_eq_true] at h
  exact ⟨h.1.1.1, h.1.1.2, h.1.2, h.2.1.1, h.2.1.2, h.2.2⟩

theorem parts_ok {W : World} {x : Xr} (hb : ruleB x.r = true) (hin : x.r.in) (hn : StrR W x.vn x.r.names) : ∀ y ∈ partsS x, y.ok W ∧ y.sm := by
  obtain ⟨h1, h2, h3, h4, h5, h6⟩ := ruleB_out hb
  intro y hy
  unfold partsS at hy
  rcases List.mem_cons.1 hy with rfl | h7
  · exact ⟨actB_out h4, trivial⟩
  · rcases List.mem_cons.1 h7 with rfl | h8
    · exact ⟨⟨hn, h1, h2, hin.nm⟩, trivial⟩
    · exact condsS_ok _ _ (by decide) (fun c hc => ⟨h6 c hc, hin.cd c hc⟩) y h8

theorem parts_len {x : Xr} (hb : ruleB x.r = true) : 2 ≤ (partsS x).length ∧ (partsS x).length ≤ 18 := by
  obtain ⟨h1, h2, h3, h4, h5, h6⟩ := ruleB_out hb
  unfold partsS
  simp only [List.length_cons]
  rw [condsS_length]
  omega

end Go.Proofs.YtcllgpbgikidjaaDoor
