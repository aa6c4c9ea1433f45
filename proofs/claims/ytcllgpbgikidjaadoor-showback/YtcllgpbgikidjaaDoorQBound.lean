/-
  What is parsed may be shown: in plain words.
-/
import Derived.Test.YtcllgpbgikidjaaDoorQShow
import Derived.Test.YtcllgpbgikidjaaDoorPTok
namespace Go.Proofs.YtcllgpbgikidjaaDoor
open Go

def AcZ (a : Ac) : Prop := numK a.k = false → a.a = 0
def CdZ (c : Cd) : Prop := c.mask < 18446744073709551616 ∧ c.val < 18446744073709551616
def RlZ (r : Rl) : Prop := AcZ r.act ∧ ∀ c ∈ r.conds, CdZ c
def RsZ (rs : List Rl) : Prop := ∀ r ∈ rs, RlZ r
def CsZ (cs : List Cd) : Prop := ∀ c ∈ cs, CdZ c

theorem RsZ.snoc {rs : List Rl} {r : Rl} (h : RsZ rs) (hr : RlZ r) : RsZ (rs ++ [r]) := by
  intro x hx
  rcases List.mem_append.1 hx with h1 | h1
  · exact h x h1
  · have : x = r := by simpa using h1
    subst this
    exact hr
theorem CsZ.snoc {cs : List Cd} {c : Cd} (h : CsZ cs) (hc : CdZ c) : CsZ (cs ++ [c]) := by
  intro x hx
  rcases List.mem_append.1 hx with h1 | h1
  · exact h x h1
  · have : x = c := by simpa using h1
    subst this
    exact hc
theorem csZ_nil : CsZ [] := fun c hc => by cases hc

/-- what holds where it is. -/
def InvZ : St → Prop
  | .s0 => True
  | .s1 => True
  | .s2 k => numK k = true
  | .s3 d => AcZ d
  | .s4 d rs => AcZ d ∧ RsZ rs
  | .s5 d rs k => AcZ d ∧ RsZ rs ∧ numK k = true
  | .s6 d rs a _ => AcZ d ∧ RsZ rs ∧ AcZ a
  | .s7 d rs a _ => AcZ d ∧ RsZ rs ∧ AcZ a
  | .s8 d rs a _ cs => AcZ d ∧ RsZ rs ∧ AcZ a ∧ CsZ cs
  | .s9 d rs a _ cs _ => AcZ d ∧ RsZ rs ∧ AcZ a ∧ CsZ cs
  | .s10 d rs a _ cs _ => AcZ d ∧ RsZ rs ∧ AcZ a ∧ CsZ cs
  | .s11 d rs a _ cs _ m => AcZ d ∧ RsZ rs ∧ AcZ a ∧ CsZ cs ∧ m < 18446744073709551616
  | .s12 d rs a _ cs _ m _ => AcZ d ∧ RsZ rs ∧ AcZ a ∧ CsZ cs ∧ m < 18446744073709551616
  | .s13 d rs a _ cs => AcZ d ∧ RsZ rs ∧ AcZ a ∧ CsZ cs

theorem acz_num {k n : Nat} (h : numK k = true) : AcZ ⟨k, n⟩ := fun h2 => by
  have : numK k = false := h2
  rw [h] at this
  cases this
theorem acz_zero (k : Nat) : AcZ ⟨k, 0⟩ := fun _ => rfl

theorem step_invZ {S S' : St} {x : Tok} (h : InvZ S) (hx : x.n < 18446744073709551616) (hs : step S x = .ok S') : InvZ S' := by
  cases S <;> simp only [step] at hs
  case s0 => split at hs <;> cases hs; trivial
  case s1 =>
    split at hs
    · split at hs
      · next h1 => cases hs; exact h1
      · cases hs; exact acz_zero _
    · cases hs
  case s2 k =>
    split at hs
    · split at hs
      · cases hs
      · cases hs; exact acz_num h
    · cases hs
  case s3 d =>
    split at hs
    · cases hs; exact ⟨h, fun r hr => by cases hr⟩
    · cases hs
  case s4 d rs =>
    split at hs
    · split at hs
      · cases hs
      · split at hs
        · next h1 => cases hs; exact ⟨h.1, h.2, h1⟩
        · cases hs; exact ⟨h.1, h.2, acz_zero _⟩
    · cases hs
  case s5 d rs k =>
    split at hs
    · split at hs
      · cases hs
      · cases hs; exact ⟨h.1, h.2.1, acz_num h.2.2⟩
    · cases hs
  case s6 d rs a ns =>
    split at hs
    · split at hs
      · cases hs
      · cases hs; exact h
    · cases hs
  case s7 d rs a ns =>
    split at hs
    · cases hs; exact h
    · split at hs
      · cases hs; exact ⟨h.1, h.2.1, h.2.2, csZ_nil⟩
      · split at hs
        · cases hs; exact ⟨h.1, h.2.1.snoc ⟨h.2.2, csZ_nil⟩⟩
        · cases hs
  case s8 d rs a ns cs =>
    split at hs
    · split at hs
      · cases hs
      · cases hs; exact h
    · cases hs
  case s9 d rs a ns cs g =>
    split at hs
    · cases hs; exact h
    · split at hs
      · cases hs; exact ⟨h.1, h.2.1, h.2.2.1, h.2.2.2, by decide⟩
      · cases hs
  case s10 d rs a ns cs g =>
    split at hs
    · cases hs; exact ⟨h.1, h.2.1, h.2.2.1, h.2.2.2, hx⟩
    · cases hs
  case s11 d rs a ns cs g m =>
    split at hs
    · cases hs; exact h
    · cases hs
  case s12 d rs a ns cs g m o =>
    split at hs
    · cases hs; exact ⟨h.1, h.2.1, h.2.2.1, h.2.2.2.1.snoc ⟨h.2.2.2.2, hx⟩⟩
    · cases hs
  case s13 d rs a ns cs =>
    split at hs
    · cases hs; exact h
    · split at hs
      · cases hs; exact ⟨h.1, h.2.1.snoc ⟨h.2.2.1, h.2.2.2⟩⟩
      · cases hs

theorem run_invZ : ∀ (ts : List Tok) (S : St) (v : Ac × List Rl), InvZ S → (∀ x ∈ ts, x.n < 18446744073709551616) → run S ts = .ok v → AcZ v.1 ∧ RsZ v.2 := by
  intro ts
  induction ts with
  | nil => intro S v _ _ h; cases h
  | cons x ts ih =>
    intro S v hS hx h
    by_cases h4 : x.k = 4
    · rw [run_end h4] at h
      cases S <;> simp [done] at h
      subst h
      exact hS
    · cases hs : step S x with
      | error c => rw [run_err h4 hs] at h; cases h
      | ok S' =>
        rw [run_step h4 hs] at h
        exact ih S' v (step_invZ hS (hx x List.mem_cons_self) hs) (fun y hy => hx y (List.mem_cons_of_mem _ hy)) h

theorem prs_Z {l : List UInt8} {v : Ac × List Rl} (h : prs l = .ok v) : AcZ v.1 ∧ RsZ v.2 := by
  obtain ⟨ts, h1, h2⟩ := prs_ok h
  exact run_invZ ts .s0 v trivial (fun x hx => (all_tk h1 x hx).n) h2

theorem prs_names {l : List UInt8} {v : Ac × List Rl} (h : prs l = .ok v) : OkA v.1 ∧ OkL (fun t => Wd t ∧ t.length ≤ 8192) v.2 := by
  obtain ⟨ts, h1, h2⟩ := prs_ok h
  obtain ⟨A, hA, gA, _⟩ := ch_init (all_ch h1)
  have hl := (all_go h1).2
  refine run_inv ts .s0 v trivial (fun x hx hk => ?_) h2
  rw [hA] at hx
  rcases List.mem_append.1 hx with hx | hx
  · exact ⟨good_word (gA x hx) hk, by have := (gA x hx).le; omega⟩
  · simp at hx
    subst hx
    cases hk

/-- rules as numbers and texts. -/
def ofC (c : Cd) : Xc := ⟨c.arg, c.op, c.mask, c.val⟩
def ofR (r : Rl) : Xl := ⟨r.act.k, r.act.a, r.names.map bar, r.conds.map ofC⟩

theorem wd_is {t : List UInt8} (h : Wd t) : isWd t = true := by
  obtain ⟨c, r, rfl, h1, h2⟩ := h
  show (loN c.toNat && decide (((c :: r).takeWhile ofW).length = (c :: r).length)) = true
  have e : (c :: r).takeWhile ofW = c :: r := by
    have : ∀ (l : List UInt8), (∀ d ∈ l, ofW d = true) → l.takeWhile ofW = l := by
      intro l
      induction l with
      | nil => intro _; rfl
      | cons x l ih =>
        intro hx
        rw [List.takeWhile_cons, if_pos (hx x List.mem_cons_self), ih fun d hd => hx d (List.mem_cons_of_mem _ hd)]
    exact this _ h2
  rw [e, h1]
  simp

theorem hasN_num (k : Nat) : hasN (k : Int) = numK k := by
  unfold hasN numK
  have e3 : ((k : Int) == 3) = (k == 3) := by rw [Bool.eq_iff_iff]; simp; omega
  have e4 : ((k : Int) == 4) = (k == 4) := by rw [Bool.eq_iff_iff]; simp; omega
  have e6 : ((k : Int) == 6) = (k == 6) := by rw [Bool.eq_iff_iff]; simp; omega
  rw [e3, e4, e6]

theorem actB_of {a : Ac} (h : OkA a) (hz : AcZ a) : actB a.k a.a = true := by
  have h1 := h.lo
  have h2 := h.hi
  have h3 := h.arg
  rw [actB_mk (by omega) (by omega), hasN_num]
  rcases Bool.eq_false_or_eq_true (numK a.k) with hn | hn
  · rw [hn, if_pos rfl]
    simp
    omega
  · rw [hn, if_neg (by decide), hz hn]
    rfl

theorem ruleB_of {r : Rl} (h : OkR (fun t => Wd t ∧ t.length ≤ 8192) r) (hz : RlZ r) : ruleB (ofR r) = true ∧ (ofR r).in := by
  constructor
  · rw [ruleB_mk (by show 1 ≤ (r.names.map bar).length; rw [List.length_map]; exact h.n1) (by show (r.names.map bar).length ≤ 16; rw [List.length_map]; exact h.n16) (by show (r.conds.map ofC).length ≤ 8; rw [List.length_map]; exact h.c8)]
    have e1 : actB (ofR r).k (ofR r).a = true := actB_of h.act hz.1
    have e2 : ((ofR r).names.all fun s => isWd (lst s)) = true := by
      rw [List.all_eq_true]
      intro s hs
      obtain ⟨t, ht, rfl⟩ := List.mem_map.1 hs
      rw [lst_bar]
      exact wd_is (h.names t ht).1
    have e3 : (ofR r).conds.all condB = true := by
      rw [List.all_eq_true]
      intro c hc
      obtain ⟨d, hd, rfl⟩ := List.mem_map.1 hc
      have g := h.conds d hd
      have g1 := g.arg
      have g2 := g.lo
      have g3 := g.hi
      unfold condB ofC
      simp
      omega
    rw [e1, e2, e3]
    rfl
  · refine ⟨fun s hs => ?_, fun c hc => ?_⟩
    · obtain ⟨t, ht, rfl⟩ := List.mem_map.1 hs
      rw [bar_size]
      have := (h.names t ht).2
      omega
    · obtain ⟨d, hd, rfl⟩ := List.mem_map.1 hc
      have g := hz.2 d hd
      have g1 := g.1
      have g2 := g.2
      unfold U64 ofC
      constructor <;> constructor <;> simp <;> omega

/-- what is parsed may be shown. -/
theorem prs_right {l : List UInt8} {d : Ac} {rs : List Rl} (h : prs l = .ok (d, rs)) : rulesB d.k d.a (rs.map ofR) = true ∧ ∀ x ∈ rs.map ofR, x.in := by
  obtain ⟨h1, h2⟩ := prs_names h
  obtain ⟨z1, z2⟩ := prs_Z h
  constructor
  · unfold rulesB
    have e1 : actB d.k d.a = true := actB_of h1 z1
    have e2 : (rs.map ofR).all ruleB = true := by
      rw [List.all_eq_true]
      intro x hx
      obtain ⟨r, hr, rfl⟩ := List.mem_map.1 hx
      exact (ruleB_of (h2.2 r hr) (z2 r hr)).1
    rw [e1, e2, List.length_map, decide_eq_true h2.1]
    rfl
  · intro x hx
    obtain ⟨r, hr, rfl⟩ := List.mem_map.1 hx
    exact (ruleB_of (h2.2 r hr) (z2 r hr)).2

theorem toC_ofC (c : Cd) : toC (ofC c) = c := by
  unfold toC ofC
  simp
theorem toR_ofR (r : Rl) : toR (ofR r) = r := by
  obtain ⟨⟨k, a⟩, ns, cs⟩ := r
  unfold toR ofR
  simp only [Int.toNat_natCast, List.map_map]
  have e1 : (lst ∘ bar) = id := by funext t; exact lst_bar t
  have e2 : (toC ∘ ofC) = id := by funext t; exact toC_ofC t
  rw [e1, e2]
  simp
theorem ofC_toC {c : Xc} (h : condB c = true) (hm : U64 c.mask) (hv : U64 c.val) : ofC (toC c) = c := by
  obtain ⟨h1, h2, h3, h4⟩ := condB_out h
  obtain ⟨a, o, m, v⟩ := c
  obtain ⟨m1, _⟩ := hm
  obtain ⟨v1, _⟩ := hv
  unfold toC ofC
  simp only at h1 h3 m1 v1 ⊢
  congr 1 <;> omega
theorem ofR_toR {x : Xl} (h : Fit x) : ofR (toR x) = x := by
  obtain ⟨h1, h2, h3, h4, h5, h6⟩ := ruleB_out h.b
  obtain ⟨a1, a2, a3, a4⟩ := actB_out h4
  have hc := h.c
  obtain ⟨k, a, ns, cs⟩ := x
  simp only at a1 a3 h6 hc
  unfold toR ofR
  simp only [List.map_map]
  have e1 : (bar ∘ lst) = id := by funext t; exact bar_lst t
  have e2 : cs.map (ofC ∘ toC) = cs := by
    conv => rhs; rw [← List.map_id cs]
    apply List.map_congr_left
    intro c hcm
    exact ofC_toC (h6 c hcm) (hc c hcm).1 (hc c hcm).2
  rw [e1, e2, List.map_id]
  congr 1 <;> omega

end Go.Proofs.YtcllgpbgikidjaaDoor
