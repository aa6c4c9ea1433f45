/-
  Texts of rules: one behind the other, cut, with blanks between; what may come of them.
-/
import Derived.Test.YtcckipimfgmmdaaGreatDoorPPLaw
import Derived.Test.YtcckipimfgmmdaaGreatDoorPPBound
import Derived.Test.YtcckipimfgmmdaaGreatDoorPPWide
namespace Go.Proofs.YtcckipimfgmmdaaGreatDoor.P
open Go

theorem ch_init {l : List UInt8} {last : Nat} {ts : List Tok} (h : Ch l last ts) : ∃ A, ts = A ++ [⟨4, l.length, [], 0⟩] ∧ (∀ x ∈ A, Good l x) ∧ last ≤ l.length := by
  induction h using Ch.ind with
  | fin h => exact ⟨[], rfl, by simp, h⟩
  | @tok last x y r h hx hr ih =>
    obtain ⟨A, h1, h2, h3⟩ := ih
    refine ⟨x :: A, by rw [h1]; rfl, fun z hz => ?_, by have := hx.le; omega⟩
    rcases List.mem_cons.1 hz with rfl | hz
    · exact hx
    · exact h2 z hz

theorem ch_before {l : List UInt8} : ∀ (A : List Tok) (x : Tok) (r : List Tok) (last : Nat), Ch l last (A ++ x :: r) → last ≤ x.at' ∧ ∀ y ∈ A, y.at' + y.t.length ≤ x.at' := by
  intro A
  induction A with
  | nil =>
    intro x r last h
    refine ⟨?_, by simp⟩
    rw [List.nil_append] at h
    generalize hg : x :: r = ts at h
    cases h using Ch.two with
    | fin h => injection hg with h1 h2; subst h1; exact h
    | tok h hx hr => injection hg with h1 h2; subst h1; exact h
  | cons y A ih =>
    intro x r last h
    rw [List.cons_append] at h
    generalize hg : y :: (A ++ x :: r) = ts at h
    cases h using Ch.two with
    | fin h => injection hg with h1 h2; simp at h2
    | @tok last' y' z q h hx hr =>
      injection hg with h1 h2
      subst h1
      rw [← h2] at hr
      obtain ⟨g1, g2⟩ := ih x r _ hr
      refine ⟨by omega, fun u hu => ?_⟩
      rcases List.mem_cons.1 hu with rfl | hu
      · exact g1
      · exact g2 u hu

theorem good_k {l : List UInt8} {x : Tok} (h : Good l x) : ¬ x.k = 4 := by
  have := h.k
  omega

/-- a word. -/
def Wd (t : List UInt8) : Prop := ∃ c r, t = c :: r ∧ loN c.toNat = true ∧ ∀ d ∈ t, ofW d = true

theorem good_word {l : List UInt8} {x : Tok} (h : Good l x) (hk : x.k = 1) : Wd x.t := by
  have ho := h.st.2 9 [] (by decide) (by decide)
  have hne := h.ne
  rw [hk] at ho
  match ht : x.t, hne with
  | c :: t', _ =>
    rw [ht] at ho
    refine ⟨c, t', rfl, ?_⟩
    rw [List.cons_append] at ho
    rcases Bool.eq_false_or_eq_true (loN c.toNat) with hl | hl
    · rw [one_lo' hl] at ho
      injection ho with ho
      have hw : (c :: (t' ++ [9])).takeWhile ofW = c :: t' := by
        have := congrArg (fun z => z.2.1) ho
        exact this
      refine ⟨hl, fun d hd => ?_⟩
      rw [← hw] at hd
      exact take_while_all ofW _ d hd
    · exfalso
      rcases Bool.eq_false_or_eq_true (dgN c.toNat) with hd | hd
      · rw [one_dg' hl hd] at ho
        unfold numR at ho
        split at ho <;> simp at ho
      · rw [one_sg' hl hd] at ho
        unfold sgR at ho
        split at ho <;> simp at ho

theorem prs_ok {l : List UInt8} {v : Ac × List Rl} (h : prs l = .ok v) : ∃ ts, all l = .ok ts ∧ run .s0 ts = .ok v := by
  unfold prs at h
  split at h
  · cases h
  · next ts ht => exact ⟨ts, ht, h⟩

theorem all_go {l : List UInt8} {ts : List Tok} (h : all l = .ok ts) : go 0 0 l = .ok ts ∧ l.length ≤ 8192 := by
  unfold all at h
  split at h
  · cases h
  · next hl => exact ⟨h, by omega⟩

theorem run_long {s : St} {c p : Nat} : ∀ (B B' : List Tok), B'.map kv = B.map kv → run s B = .error (c, p) → ∃ q, run s B' = .error (c, q) := by
  intro B B' hk h
  rcases run_kv B' B s hk with ⟨v, _, h2⟩ | ⟨c', q, p', h1, h2⟩
  · rw [h2] at h; cases h
  · rw [h2] at h
    cases h
    exact ⟨q, h1⟩
theorem run_alike {s : St} {v : Ac × List Rl} (B B' : List Tok) (hk : B'.map kv = B.map kv) (h : run s B = .ok v) : run s B' = .ok v := by
  rcases run_kv B' B s hk with ⟨v', h1, h2⟩ | ⟨c, q, p, _, h2⟩
  · rw [h2] at h
    cases h
    exact h1
  · rw [h2] at h
    cases h

theorem sh_kv (d : Nat) (ts : List Tok) : (ts.map (sh d)).map kv = ts.map kv := by
  rw [List.map_map]
  rfl

/-- rules of one text, behind those of another one's. -/
theorem prs_join {a b : List UInt8} {v u : Ac × List Rl} (ha : prs a = .ok v) (hb : prs (dlog ++ b) = .ok u) (hla : a.length ≤ 3000) (hlb : b.length ≤ 3000) :
    (v.2.length + u.2.length ≤ 64 → prs (a ++ 10 :: b) = .ok (v.1, v.2 ++ u.2)) ∧ (64 < v.2.length + u.2.length → ∃ p, prs (a ++ 10 :: b) = .error (4, p)) := by
  obtain ⟨ts, h1, h2⟩ := prs_ok ha
  obtain ⟨us, h3, h4⟩ := prs_ok hb
  obtain ⟨A, hA, gA⟩ := go_app a 0 0 ts (Nat.zero_le _) (all_go h1).1
  obtain ⟨A', hA', gA', _⟩ := ch_init (all_ch h1)
  obtain ⟨rfl, _⟩ : A = A' ∧ _ := List.append_inj' (hA.symm.trans hA') rfl
  have hd := (all_go h3).1
  rw [go_dlog] at hd
  cases hB : go 0 12 b with
  | error e => rw [hB] at hd; cases hd
  | ok B =>
    rw [hB] at hd
    cases hd
    have hs12 := go_shift 12 b 0 0
    rw [Nat.zero_add, hB] at hs12
    cases hB0 : go 0 0 b with
    | error e => rw [hB0] at hs12; cases e; cases hs12
    | ok B0 =>
      rw [hB0] at hs12
      injection hs12 with hs12
      have hall : all (a ++ 10 :: b) = .ok (A ++ B0.map (sh (a.length + 1))) := by
        unfold all
        rw [if_neg (by simp; omega), gA b, Nat.zero_add]
        have := go_shift (a.length + 1) b 0 0
        rw [Nat.zero_add, hB0] at this
        rw [this]
        rfl
      have hkv : (B0.map (sh (a.length + 1))).map kv = B.map kv := by rw [sh_kv, hs12, sh_kv]
      have hrA : runs .s0 A = .ok (.s4 v.1 v.2) := run_ok rfl A (fun x hx => good_k (gA' x hx)) (by rw [← hA']; exact h2)
      have hrB : run (.s4 ⟨7, 0⟩ []) B = .ok u := by
        have e : run .s0 ([⟨1, 0, [100, 101, 102, 97, 117, 108, 116], 0⟩, ⟨1, 8, [108, 111, 103], 0⟩, ⟨3, 11, [59], 0⟩] ++ B) = run (.s4 ⟨7, 0⟩ []) B := run_app _ _ rfl
        rw [← e]
        exact h4
      have hv64 : v.2.length ≤ 64 := (run_inv (W := fun _ => True) ts .s0 v trivial (fun _ _ _ => trivial) h2).2.1
      obtain ⟨j1, j2⟩ := run_join (d := v.1) (L := v.2) B (.s4 ⟨7, 0⟩ []) u rfl hrB (by simp [rsOf, opn]; exact hv64)
      have hpre : pre' v.1 v.2 (.s4 ⟨7, 0⟩ []) = .s4 v.1 v.2 := by simp [pre']
      rw [hpre] at j1 j2
      have hp : prs (a ++ 10 :: b) = run (.s4 v.1 v.2) (B0.map (sh (a.length + 1))) := by
        unfold prs
        rw [hall]
        exact run_app A _ hrA
      rw [hp]
      constructor
      · intro h
        exact run_alike B _ hkv (j1 h)
      · intro h
        obtain ⟨p, hp⟩ := j2 h
        exact run_long B _ hkv hp

/-- a text that is cut ahead of its last sign is none. -/
theorem prs_cut {l : List UInt8} {v : Ac × List Rl} (h : prs l = .ok v) : ∃ A x e, all l = .ok (A ++ [x, e]) ∧ x.t = [59] ∧ x.at' ≤ l.length ∧ prs (l.take x.at') = .error (7, x.at') := by
  obtain ⟨ts, h1, h2⟩ := prs_ok h
  have hc := all_ch h1
  obtain ⟨A', hA', gA', _⟩ := ch_init hc
  rcases List.eq_nil_or_concat A' with rfl | ⟨A, x, rfl⟩
  · rw [hA', List.nil_append, run_end rfl] at h2
    cases h2
  · have e : A ++ [x] ++ [⟨4, l.length, [], 0⟩] = A ++ [x, ⟨4, l.length, [], 0⟩] := by simp
    simp only [List.concat_eq_append] at hA' gA'
    rw [e] at hA'
    rw [hA'] at h1 h2 hc
    obtain ⟨g1, g2⟩ := all_go h1
    obtain ⟨_, hb⟩ := ch_before A x _ 0 hc
    obtain ⟨_, c2, c3⟩ := go_cut l 0 0 x.at' A [⟨4, l.length, [], 0⟩] x (Nat.zero_le _) g1 rfl hb
    rw [Nat.sub_zero] at c2 c3
    obtain ⟨r1, r2⟩ := run_cut (fun y hy => good_k (gA' y (List.mem_append_left _ hy))) (good_k (gA' x (by simp))) rfl h2 x.at'
    refine ⟨A, x, _, h1, r1, c2, ?_⟩
    unfold prs
    have : all (l.take x.at') = .ok (A ++ [⟨4, x.at', [], 0⟩]) := by
      unfold all
      rw [if_neg (by rw [List.length_take]; omega)]
      exact c3
    rw [this]
    exact r2

/-- what may come of a text. -/
theorem prs_bound {l : List UInt8} {v : Ac × List Rl} (h : prs l = .ok v) : OkA v.1 ∧ OkL Wd v.2 := by
  obtain ⟨ts, h1, h2⟩ := prs_ok h
  obtain ⟨A, hA, gA, _⟩ := ch_init (all_ch h1)
  refine run_inv ts .s0 v trivial (fun x hx hk => ?_) h2
  rw [hA] at hx
  rcases List.mem_append.1 hx with hx | hx
  · exact good_word (gA x hx) hk
  · simp at hx
    subst hx
    cases hk

theorem prs_place {l : List UInt8} {c p : Nat} (h : prs l = .error (c, p)) (hl : l.length ≤ 8192) : (c = 4 ∨ c = 5 ∨ c = 6 ∨ c = 7) ∧ p ≤ l.length := by
  unfold prs at h
  split at h
  · next e he =>
    cases h
    unfold all at he
    rw [if_neg (by omega)] at he
    have := go_err l l [] 0 c p rfl he
    omega
  · next ts ht =>
    have hc := all_ch ht
    obtain ⟨A, hA, gA, _⟩ := ch_init hc
    obtain ⟨h1, x, hx, rfl⟩ := run_place ts .s0 c p ⟨⟨4, l.length, [], 0⟩, by rw [hA]; simp, rfl⟩ h
    refine ⟨by omega, ?_⟩
    rw [hA] at hx
    rcases List.mem_append.1 hx with hx | hx
    · have := (gA x hx).le; omega
    · simp at hx; subst hx; exact Nat.le_refl _

/-- blanks and notes between tokens change no rules. -/
theorem prs_wide {l : List UInt8} {ts : List Tok} (h : all l = .ok ts) (hw : (wide ts).length ≤ 8192) :
    (∃ v, prs l = .ok v ∧ prs (wide ts) = .ok v) ∨ ∃ c p q, prs l = .error (c, p) ∧ prs (wide ts) = .error (c, q) := by
  obtain ⟨us, h1, h2⟩ := go_wide (all_ch h) 0
  have ha : all (wide ts) = .ok us := by
    unfold all
    rw [if_neg (by omega)]
    exact h1
  unfold prs
  rw [h, ha]
  exact run_kv ts us .s0 h2.symm

end Go.Proofs.YtcckipimfgmmdaaGreatDoor.P
