/-
  What the machine of rules tells of texts one behind the other and cut; what may come of it.
-/
import Derived.Test.YtcckipimfgmmdaaGreatDoorPPMath
namespace Go.Proofs.YtcckipimfgmmdaaGreatDoor.P
open Go

/-- behind the default act. -/
def late : St → Bool
  | .inl () => false
  | .inr (.inl ()) => false
  | .inr (.inr (.inl _)) => false
  | .inr (.inr (.inr (.inl _))) => false
  | _ => true

/-- the rules read so far; one more is under way. -/
def rsOf : St → List Rl
  | .inr (.inr (.inr (.inr (.inl (_, rs))))) => rs
  | .inr (.inr (.inr (.inr (.inr (.inl (_, rs, _)))))) => rs
  | .inr (.inr (.inr (.inr (.inr (.inr (.inl (_, rs, _, _))))))) => rs
  | .inr (.inr (.inr (.inr (.inr (.inr (.inr (.inl (_, rs, _, _)))))))) => rs
  | .inr (.inr (.inr (.inr (.inr (.inr (.inr (.inr (.inl (_, rs, _, _, _))))))))) => rs
  | .inr (.inr (.inr (.inr (.inr (.inr (.inr (.inr (.inr (.inl (_, rs, _, _, _, _)))))))))) => rs
  | .inr (.inr (.inr (.inr (.inr (.inr (.inr (.inr (.inr (.inr (.inl (_, rs, _, _, _, _))))))))))) => rs
  | .inr (.inr (.inr (.inr (.inr (.inr (.inr (.inr (.inr (.inr (.inr (.inl (_, rs, _, _, _, _, _)))))))))))) => rs
  | .inr (.inr (.inr (.inr (.inr (.inr (.inr (.inr (.inr (.inr (.inr (.inr (.inl (_, rs, _, _, _, _, _, _))))))))))))) => rs
  | .inr (.inr (.inr (.inr (.inr (.inr (.inr (.inr (.inr (.inr (.inr (.inr (.inr (_, rs, _, _, _))))))))))))) => rs
  | _ => []
def opn : St → Nat
  | .inr (.inr (.inr (.inr (.inl (_, _))))) => 0
  | _ => 1

/-- other rules ahead, and another default act. -/
def pre' (d : Ac) (L : List Rl) : St → St
  | .inr (.inr (.inr (.inr (.inl (_, rs))))) => .s4 d (L ++ rs)
  | .inr (.inr (.inr (.inr (.inr (.inl (_, rs, k)))))) => .s5 d (L ++ rs) k
  | .inr (.inr (.inr (.inr (.inr (.inr (.inl (_, rs, a, ns))))))) => .s6 d (L ++ rs) a ns
  | .inr (.inr (.inr (.inr (.inr (.inr (.inr (.inl (_, rs, a, ns)))))))) => .s7 d (L ++ rs) a ns
  | .inr (.inr (.inr (.inr (.inr (.inr (.inr (.inr (.inl (_, rs, a, ns, cs))))))))) => .s8 d (L ++ rs) a ns cs
  | .inr (.inr (.inr (.inr (.inr (.inr (.inr (.inr (.inr (.inl (_, rs, a, ns, cs, g)))))))))) => .s9 d (L ++ rs) a ns cs g
  | .inr (.inr (.inr (.inr (.inr (.inr (.inr (.inr (.inr (.inr (.inl (_, rs, a, ns, cs, g))))))))))) => .s10 d (L ++ rs) a ns cs g
  | .inr (.inr (.inr (.inr (.inr (.inr (.inr (.inr (.inr (.inr (.inr (.inl (_, rs, a, ns, cs, g, m)))))))))))) => .s11 d (L ++ rs) a ns cs g m
  | .inr (.inr (.inr (.inr (.inr (.inr (.inr (.inr (.inr (.inr (.inr (.inr (.inl (_, rs, a, ns, cs, g, m, o))))))))))))) => .s12 d (L ++ rs) a ns cs g m o
  | .inr (.inr (.inr (.inr (.inr (.inr (.inr (.inr (.inr (.inr (.inr (.inr (.inr (_, rs, a, ns, cs))))))))))))) => .s13 d (L ++ rs) a ns cs
  | s => s

/-- a step, with other rules ahead. -/
theorem step_pre {d : Ac} {L : List Rl} {S S' : St} {x : Tok} (hl : late S = true) (h : step S x = .ok S') :
    late S' = true ∧ (rsOf S).length + opn S ≤ (rsOf S').length + opn S' ∧ (rsOf S').length + opn S' ≤ (rsOf S).length + opn S + 1 ∧
      ((64 < L.length + (rsOf S').length + opn S' ∧ L.length + (rsOf S).length + opn S ≤ 64 → step (pre' d L S) x = .error 4) ∧
       (L.length + (rsOf S').length + opn S' ≤ 64 → step (pre' d L S) x = .ok (pre' d L S'))) := by
  cases S using St.every with
  | s0 => cases hl
  | s1 => cases hl
  | s2 k => cases hl
  | s3 d => cases hl
  | s4 d0 rs =>
    unfold step at h
    simp only at h
    split at h
    · next h1 =>
      split at h
      · cases h
      · next h2 =>
        split at h
        · next h3 =>
          cases h
          refine ⟨rfl, by simp [rsOf, opn], by simp [rsOf, opn], fun hc => ?_, fun hc => ?_⟩
          · simp [rsOf, opn] at hc
            simp only [pre', step]
            rw [if_pos h1, if_pos (by simp; omega)]
          · simp [rsOf, opn] at hc
            simp only [pre', step]
            rw [if_pos h1, if_neg (by simp; omega), if_pos h3]
        · next h3 =>
          cases h
          refine ⟨rfl, by simp [rsOf, opn], by simp [rsOf, opn], fun hc => ?_, fun hc => ?_⟩
          · simp [rsOf, opn] at hc
            simp only [pre', step]
            rw [if_pos h1, if_pos (by simp; omega)]
          · simp [rsOf, opn] at hc
            simp only [pre', step]
            rw [if_pos h1, if_neg (by simp; omega), if_neg h3]
    · cases h
  | s5 d0 rs k =>
    simp only [step] at h
    split at h
    · next h1 =>
      split at h
      · cases h
      · next h2 =>
        cases h
        exact ⟨rfl, by simp [rsOf, opn], by simp [rsOf, opn], fun hc => by simp [rsOf, opn] at hc; omega, fun _ => by simp only [pre', step]; rw [if_pos h1, if_neg h2]⟩
    · cases h
  | s6 d0 rs a ns =>
    simp only [step] at h
    split at h
    · next h1 =>
      split at h
      · cases h
      · next h2 =>
        cases h
        exact ⟨rfl, by simp [rsOf, opn], by simp [rsOf, opn], fun hc => by simp [rsOf, opn] at hc; omega, fun _ => by simp only [pre', step]; rw [if_pos h1, if_neg h2]⟩
    · cases h
  | s7 d0 rs a ns =>
    simp only [step] at h
    split at h
    · next h1 =>
      cases h
      exact ⟨rfl, by simp [rsOf, opn], by simp [rsOf, opn], fun hc => by simp [rsOf, opn] at hc; omega, fun _ => by simp only [pre', step]; rw [if_pos h1]⟩
    · next h1 =>
      split at h
      · next h2 =>
        cases h
        exact ⟨rfl, by simp [rsOf, opn], by simp [rsOf, opn], fun hc => by simp [rsOf, opn] at hc; omega, fun _ => by simp only [pre', step]; rw [if_neg h1, if_pos h2]⟩
      · next h2 =>
        split at h
        · next h3 =>
          cases h
          exact ⟨rfl, by simp [rsOf, opn], by simp [rsOf, opn], fun hc => by simp [rsOf, opn] at hc; omega, fun _ => by simp only [pre', step]; rw [if_neg h1, if_neg h2, if_pos h3, List.append_assoc]⟩
        · cases h
  | s8 d0 rs a ns cs =>
    simp only [step] at h
    split at h
    · next h1 =>
      split at h
      · cases h
      · next h2 =>
        cases h
        exact ⟨rfl, by simp [rsOf, opn], by simp [rsOf, opn], fun hc => by simp [rsOf, opn] at hc; omega, fun _ => by simp only [pre', step]; rw [if_pos h1, if_neg h2]⟩
    · cases h
  | s9 d0 rs a ns cs g =>
    simp only [step] at h
    split at h
    · next h1 =>
      cases h
      exact ⟨rfl, by simp [rsOf, opn], by simp [rsOf, opn], fun hc => by simp [rsOf, opn] at hc; omega, fun _ => by simp only [pre', step]; rw [if_pos h1]⟩
    · next h1 =>
      split at h
      · next h2 =>
        cases h
        exact ⟨rfl, by simp [rsOf, opn], by simp [rsOf, opn], fun hc => by simp [rsOf, opn] at hc; omega, fun _ => by simp only [pre', step]; rw [if_neg h1, if_pos h2]⟩
      · cases h
  | s10 d0 rs a ns cs g =>
    simp only [step] at h
    split at h
    · next h1 =>
      cases h
      exact ⟨rfl, by simp [rsOf, opn], by simp [rsOf, opn], fun hc => by simp [rsOf, opn] at hc; omega, fun _ => by simp only [pre', step]; rw [if_pos h1]⟩
    · cases h
  | s11 d0 rs a ns cs g m =>
    simp only [step] at h
    split at h
    · next h1 =>
      cases h
      exact ⟨rfl, by simp [rsOf, opn], by simp [rsOf, opn], fun hc => by simp [rsOf, opn] at hc; omega, fun _ => by simp only [pre', step]; rw [if_pos h1]⟩
    · cases h
  | s12 d0 rs a ns cs g m o =>
    simp only [step] at h
    split at h
    · next h1 =>
      cases h
      exact ⟨rfl, by simp [rsOf, opn], by simp [rsOf, opn], fun hc => by simp [rsOf, opn] at hc; omega, fun _ => by simp only [pre', step]; rw [if_pos h1]⟩
    · cases h
  | s13 d0 rs a ns cs =>
    simp only [step] at h
    split at h
    · next h1 =>
      cases h
      exact ⟨rfl, by simp [rsOf, opn], by simp [rsOf, opn], fun hc => by simp [rsOf, opn] at hc; omega, fun _ => by simp only [pre', step]; rw [if_pos h1]⟩
    · next h1 =>
      split at h
      · next h2 =>
        cases h
        exact ⟨rfl, by simp [rsOf, opn], by simp [rsOf, opn], fun hc => by simp [rsOf, opn] at hc; omega, fun _ => by simp only [pre', step]; rw [if_neg h1, if_pos h2, List.append_assoc]⟩
      · cases h

theorem run_le {S : St} {v : Ac × List Rl} : ∀ (B : List Tok), late S = true → run S B = .ok v → (rsOf S).length + opn S ≤ v.2.length := by
  intro B
  induction B generalizing S with
  | nil => intro _ h; cases h
  | cons x B ih =>
    intro hl h
    by_cases h4 : x.k = 4
    · rw [run_end h4] at h
      cases S using St.every <;> simp [done] at h
      subst h
      simp [rsOf, opn]
    · cases hs : step S x with
      | error c => rw [run_err h4 hs] at h; cases h
      | ok S' =>
        rw [run_step h4 hs] at h
        obtain ⟨h1, h2, -, -⟩ := step_pre (d := ⟨0, 0⟩) (L := []) hl hs
        have := ih h1 h
        omega

/-- rules behind others are all of both, if there is room. -/
theorem run_join {d : Ac} {L : List Rl} : ∀ (B : List Tok) (S : St) (v : Ac × List Rl), late S = true → run S B = .ok v → L.length + (rsOf S).length + opn S ≤ 64 →
    (L.length + v.2.length ≤ 64 → run (pre' d L S) B = .ok (d, L ++ v.2)) ∧ (64 < L.length + v.2.length → ∃ p, run (pre' d L S) B = .error (4, p)) := by
  intro B
  induction B with
  | nil => intro S v _ h; cases h
  | cons x B ih =>
    intro S v hl h hb
    by_cases h4 : x.k = 4
    · rw [run_end h4] at h
      cases S using St.every <;> simp [done] at h
      subst h
      constructor
      · intro _
        rw [run_end h4]
        rfl
      · intro hc
        simp [rsOf, opn] at hb hc
        omega
    · cases hs : step S x with
      | error c => rw [run_err h4 hs] at h; cases h
      | ok S' =>
        rw [run_step h4 hs] at h
        obtain ⟨h1, h2, h3, h5, h6⟩ := step_pre (d := d) (L := L) hl hs
        by_cases hc : L.length + (rsOf S').length + opn S' ≤ 64
        · rw [run_step h4 (h6 hc)]
          exact ih S' v h1 h hc
        · have hle := run_le B h1 h
          constructor
          · intro hv
            omega
          · intro _
            exact ⟨_, run_err h4 (h5 ⟨by omega, hb⟩)⟩

/-- what ends a rule, or the default act. -/
theorem step_semi {S : St} {x : Tok} {d : Ac} {rs : List Rl} (h : step S x = .ok (.s4 d rs)) : x.k = 3 ∧ x.t = [59] ∧ done S = none := by
  have hx : ∀ t, isS x t = true → x.k = 3 ∧ x.t = t := by
    intro t ht
    simpa [isS] using ht
  cases S using St.every <;> simp only [step] at h
  all_goals repeat' split at h
  all_goals first | (cases h; done) | skip
  all_goals first | (next h1 => exact ⟨(hx _ h1).1, (hx _ h1).2, rfl⟩) | skip

/-- a text that is cut ahead of its last sign is none. -/
theorem run_cut {A : List Tok} {x e : Tok} {v : Ac × List Rl} (hA : ∀ y ∈ A, ¬ y.k = 4) (hx : ¬ x.k = 4) (he : e.k = 4) (h : run .s0 (A ++ [x, e]) = .ok v) (q : Nat) :
    x.t = [59] ∧ run .s0 (A ++ [⟨4, q, [], 0⟩]) = .error (7, q) := by
  have h1 : runs .s0 (A ++ [x]) = .ok (.s4 v.1 v.2) := by
    refine run_ok he _ (fun y hy => ?_) (by rw [List.append_assoc]; exact h)
    rcases List.mem_append.1 hy with hy | hy
    · exact hA y hy
    · simp at hy; subst hy; exact hx
  have key : ∀ (A : List Tok) (S : St), runs S (A ++ [x]) = .ok (.s4 v.1 v.2) → ∃ S', runs S A = .ok S' ∧ step S' x = .ok (.s4 v.1 v.2) := by
    intro A
    induction A with
    | nil =>
      intro S h
      rw [List.nil_append] at h
      unfold runs at h
      rw [if_neg hx] at h
      split at h
      · cases h
      · next s' hs =>
        cases h
        exact ⟨S, rfl, hs⟩
    | cons y A ih =>
      intro S h
      rw [List.cons_append] at h
      unfold runs at h
      split at h
      · cases h
      · next h4 =>
        split at h
        · cases h
        · next s' hs =>
          obtain ⟨S', g1, g2⟩ := ih s' h
          refine ⟨S', ?_, g2⟩
          unfold runs
          rw [if_neg h4, hs]
          exact g1
  obtain ⟨S', g1, g2⟩ := key A .s0 h1
  obtain ⟨_, t1, t2⟩ := step_semi g2
  refine ⟨t1, ?_⟩
  rw [run_app A _ g1, run_end rfl, t2]

end Go.Proofs.YtcckipimfgmmdaaGreatDoor.P
