/-
  What may come of a text of rules: acts, names and conditions that may be, and no more of any than there may be; where what is wrong stands.
-/
import Derived.Test.YtcckipimfgmmdaaGreatDoorPPMath
namespace Go.Proofs.YtcckipimfgmmdaaGreatDoor.P
open Go

structure OkA (a : Ac) : Prop where
  lo : 1 ≤ a.k
  hi : a.k ≤ 8
  arg : a.a ≤ 65535
structure OkC (c : Cd) : Prop where
  arg : c.arg ≤ 5
  lo : 1 ≤ c.op
  hi : c.op ≤ 6
structure OkR (W : List UInt8 → Prop) (r : Rl) : Prop where
  act : OkA r.act
  n1 : 1 ≤ r.names.length
  n16 : r.names.length ≤ 16
  names : ∀ n ∈ r.names, W n
  c8 : r.conds.length ≤ 8
  conds : ∀ c ∈ r.conds, OkC c

theorem kind_le (t : List UInt8) : kindOf t ≤ 8 := by
  unfold kindOf
  repeat' split
  all_goals omega
theorem op_le (t : List UInt8) : opOf t ≤ 6 := by
  unfold opOf
  repeat' split
  all_goals omega
theorem arg_le (t : List UInt8) : argOf t ≤ 6 := by
  unfold argOf
  repeat' split
  all_goals omega

/-- rules that may be. -/
def OkL (W : List UInt8 → Prop) (rs : List Rl) : Prop := rs.length ≤ 64 ∧ ∀ r ∈ rs, OkR W r

/-- what may be where it is. -/
def Inv (W : List UInt8 → Prop) : St → Prop
  | .inl () => True
  | .inr (.inl ()) => True
  | .inr (.inr (.inl k)) => 1 ≤ k ∧ k ≤ 8
  | .inr (.inr (.inr (.inl d))) => OkA d
  | .inr (.inr (.inr (.inr (.inl (d, rs))))) => OkA d ∧ OkL W rs
  | .inr (.inr (.inr (.inr (.inr (.inl (d, rs, k)))))) => OkA d ∧ OkL W rs ∧ rs.length < 64 ∧ 1 ≤ k ∧ k ≤ 8
  | .inr (.inr (.inr (.inr (.inr (.inr (.inl (d, rs, a, ns))))))) => OkA d ∧ OkL W rs ∧ rs.length < 64 ∧ OkA a ∧ ns.length ≤ 16 ∧ ∀ n ∈ ns, W n
  | .inr (.inr (.inr (.inr (.inr (.inr (.inr (.inl (d, rs, a, ns)))))))) => OkA d ∧ OkL W rs ∧ rs.length < 64 ∧ OkA a ∧ 1 ≤ ns.length ∧ ns.length ≤ 16 ∧ ∀ n ∈ ns, W n
  | .inr (.inr (.inr (.inr (.inr (.inr (.inr (.inr (.inl (d, rs, a, ns, cs))))))))) => OkA d ∧ OkL W rs ∧ rs.length < 64 ∧ OkA a ∧ (1 ≤ ns.length ∧ ns.length ≤ 16 ∧ ∀ n ∈ ns, W n) ∧ cs.length ≤ 8 ∧ ∀ c ∈ cs, OkC c
  | .inr (.inr (.inr (.inr (.inr (.inr (.inr (.inr (.inr (.inl (d, rs, a, ns, cs, g)))))))))) => OkA d ∧ OkL W rs ∧ rs.length < 64 ∧ OkA a ∧ (1 ≤ ns.length ∧ ns.length ≤ 16 ∧ ∀ n ∈ ns, W n) ∧ cs.length < 8 ∧ (∀ c ∈ cs, OkC c) ∧ g ≤ 5
  | .inr (.inr (.inr (.inr (.inr (.inr (.inr (.inr (.inr (.inr (.inl (d, rs, a, ns, cs, g))))))))))) => OkA d ∧ OkL W rs ∧ rs.length < 64 ∧ OkA a ∧ (1 ≤ ns.length ∧ ns.length ≤ 16 ∧ ∀ n ∈ ns, W n) ∧ cs.length < 8 ∧ (∀ c ∈ cs, OkC c) ∧ g ≤ 5
  | .inr (.inr (.inr (.inr (.inr (.inr (.inr (.inr (.inr (.inr (.inr (.inl (d, rs, a, ns, cs, g, _)))))))))))) => OkA d ∧ OkL W rs ∧ rs.length < 64 ∧ OkA a ∧ (1 ≤ ns.length ∧ ns.length ≤ 16 ∧ ∀ n ∈ ns, W n) ∧ cs.length < 8 ∧ (∀ c ∈ cs, OkC c) ∧ g ≤ 5
  | .inr (.inr (.inr (.inr (.inr (.inr (.inr (.inr (.inr (.inr (.inr (.inr (.inl (d, rs, a, ns, cs, g, _, o))))))))))))) => OkA d ∧ OkL W rs ∧ rs.length < 64 ∧ OkA a ∧ (1 ≤ ns.length ∧ ns.length ≤ 16 ∧ ∀ n ∈ ns, W n) ∧ cs.length < 8 ∧ (∀ c ∈ cs, OkC c) ∧ g ≤ 5 ∧ 1 ≤ o ∧ o ≤ 6
  | .inr (.inr (.inr (.inr (.inr (.inr (.inr (.inr (.inr (.inr (.inr (.inr (.inr (d, rs, a, ns, cs))))))))))))) => OkA d ∧ OkL W rs ∧ rs.length < 64 ∧ OkA a ∧ (1 ≤ ns.length ∧ ns.length ≤ 16 ∧ ∀ n ∈ ns, W n) ∧ cs.length ≤ 8 ∧ ∀ c ∈ cs, OkC c

theorem OkL.snoc {W : List UInt8 → Prop} {rs : List Rl} (h : OkL W rs) (hl : rs.length < 64) {r : Rl} (hr : OkR W r) : OkL W (rs ++ [r]) := by
  refine ⟨by simp; omega, fun x hx => ?_⟩
  rcases List.mem_append.1 hx with hx | hx
  · exact h.2 x hx
  · simp at hx
    subst hx
    exact hr

theorem isA_at {x : Tok} (h : isA x = true) : 1 ≤ kindOf x.t := by
  simp [isA] at h
  omega
theorem isO_at {x : Tok} (h : isO x = true) : 1 ≤ opOf x.t := by
  simp [isO] at h
  omega

theorem step_inv {W : List UInt8 → Prop} {S S' : St} {x : Tok} (h : Inv W S) (hx : x.k = 1 → W x.t) (hs : step S x = .ok S') : Inv W S' := by
  cases S using St.every <;> simp only [step] at hs
  case s0 => split at hs <;> cases hs; trivial
  case s1 =>
    split at hs
    · next h1 =>
      have := isA_at h1
      have := kind_le x.t
      split at hs <;> cases hs
      · exact ⟨by omega, by omega⟩
      · exact ⟨by assumption, by assumption, by simp⟩
    · cases hs
  case s2 k =>
    split at hs
    · split at hs
      · cases hs
      · next h2 => cases hs; exact ⟨h.1, h.2, by simpa using h2⟩
    · cases hs
  case s3 d =>
    split at hs
    · cases hs; exact ⟨h, by simp, by simp⟩
    · cases hs
  case s4 d rs =>
    split at hs
    · next h1 =>
      have h8 := isA_at h1
      have h9 := kind_le x.t
      split at hs
      · cases hs
      · next h2 =>
        split at hs <;> cases hs
        · exact ⟨h.1, h.2, by omega, h8, h9⟩
        · exact ⟨h.1, h.2, by omega, ⟨h8, h9, by simp⟩, by simp, by simp⟩
    · cases hs
  case s5 d rs k =>
    split at hs
    · split at hs
      · cases hs
      · next h2 => cases hs; exact ⟨h.1, h.2.1, h.2.2.1, ⟨h.2.2.2.1, h.2.2.2.2, by simpa using h2⟩, by simp, by simp⟩
    · cases hs
  case s6 d rs a ns =>
    split at hs
    · next h1 =>
      split at hs
      · cases hs
      · next h2 =>
        cases hs
        refine ⟨h.1, h.2.1, h.2.2.1, h.2.2.2.1, by simp, by simp; omega, fun n hn => ?_⟩
        rcases List.mem_append.1 hn with hn | hn
        · exact h.2.2.2.2.2 n hn
        · simp at hn
          subst hn
          exact hx (by simpa using h1)
    · cases hs
  case s7 d rs a ns =>
    split at hs
    · cases hs; exact ⟨h.1, h.2.1, h.2.2.1, h.2.2.2.1, h.2.2.2.2.2.1, h.2.2.2.2.2.2⟩
    · split at hs
      · cases hs; exact ⟨h.1, h.2.1, h.2.2.1, h.2.2.2.1, h.2.2.2.2, by simp, by simp⟩
      · split at hs
        · cases hs; exact ⟨h.1, h.2.1.snoc h.2.2.1 ⟨h.2.2.2.1, h.2.2.2.2.1, h.2.2.2.2.2.1, h.2.2.2.2.2.2, by simp, by simp⟩⟩
        · cases hs
  case s8 d rs a ns cs =>
    split at hs
    · split at hs
      · cases hs
      · next h2 => cases hs; exact ⟨h.1, h.2.1, h.2.2.1, h.2.2.2.1, h.2.2.2.2.1, by omega, h.2.2.2.2.2.2, by have := arg_le x.t; omega⟩
    · cases hs
  case s9 d rs a ns cs g =>
    split at hs
    · cases hs; exact h
    · split at hs
      · next h2 => cases hs; exact ⟨h.1, h.2.1, h.2.2.1, h.2.2.2.1, h.2.2.2.2.1, h.2.2.2.2.2.1, h.2.2.2.2.2.2.1, h.2.2.2.2.2.2.2, isO_at h2, op_le _⟩
      · cases hs
  case s10 d rs a ns cs g =>
    split at hs
    · cases hs; exact h
    · cases hs
  case s11 d rs a ns cs g m =>
    split at hs
    · next h2 => cases hs; exact ⟨h.1, h.2.1, h.2.2.1, h.2.2.2.1, h.2.2.2.2.1, h.2.2.2.2.2.1, h.2.2.2.2.2.2.1, h.2.2.2.2.2.2.2, isO_at h2, op_le _⟩
    · cases hs
  case s12 d rs a ns cs g m o =>
    split at hs
    · cases hs
      refine ⟨h.1, h.2.1, h.2.2.1, h.2.2.2.1, h.2.2.2.2.1, by have := h.2.2.2.2.2.1; simp; omega, fun c hc => ?_⟩
      rcases List.mem_append.1 hc with hc | hc
      · exact h.2.2.2.2.2.2.1 c hc
      · simp at hc
        subst hc
        exact ⟨h.2.2.2.2.2.2.2.1, h.2.2.2.2.2.2.2.2.1, h.2.2.2.2.2.2.2.2.2⟩
    · cases hs
  case s13 d rs a ns cs =>
    split at hs
    · cases hs; exact h
    · split at hs
      · cases hs; exact ⟨h.1, h.2.1.snoc h.2.2.1 ⟨h.2.2.2.1, h.2.2.2.2.1.1, h.2.2.2.2.1.2.1, h.2.2.2.2.1.2.2, h.2.2.2.2.2.1, h.2.2.2.2.2.2⟩⟩
      · cases hs

theorem run_inv {W : List UInt8 → Prop} : ∀ (ts : List Tok) (S : St) (v : Ac × List Rl), Inv W S → (∀ x ∈ ts, x.k = 1 → W x.t) → run S ts = .ok v → OkA v.1 ∧ OkL W v.2 := by
  intro ts
  induction ts with
  | nil => intro S v _ _ h; cases h
  | cons x ts ih =>
    intro S v hi hx h
    by_cases h4 : x.k = 4
    · rw [run_end h4] at h
      cases S using St.every <;> simp [done] at h
      subst h
      exact hi
    · cases hs : step S x with
      | error c => rw [run_err h4 hs] at h; cases h
      | ok S' =>
        rw [run_step h4 hs] at h
        exact ih S' v (step_inv hi (hx x List.mem_cons_self) hs) (fun y hy => hx y (List.mem_cons_of_mem _ hy)) h

theorem step_code {S : St} {x : Tok} {c : Nat} (h : step S x = .error c) : c = 4 ∨ c = 6 ∨ c = 7 := by
  cases S using St.every <;> simp only [step] at h
  all_goals repeat' split at h
  all_goals first | (cases h; done) | (injection h with h; omega)

/-- what is wrong stands at a token's place. -/
theorem run_place : ∀ (ts : List Tok) (S : St) (c p : Nat), (∃ x ∈ ts, x.k = 4) → run S ts = .error (c, p) → (c = 4 ∨ c = 6 ∨ c = 7) ∧ ∃ x ∈ ts, p = x.at' := by
  intro ts
  induction ts with
  | nil => intro S c p h; obtain ⟨x, hx, _⟩ := h; cases hx
  | cons x ts ih =>
    intro S c p he h
    by_cases h4 : x.k = 4
    · rw [run_end h4] at h
      cases hd : done S with
      | some v => rw [hd] at h; cases h
      | none =>
        rw [hd] at h
        cases h
        exact ⟨.inr (.inr rfl), x, List.mem_cons_self, rfl⟩
    · cases hs : step S x with
      | error c' =>
        rw [run_err h4 hs] at h
        cases h
        exact ⟨step_code hs, x, List.mem_cons_self, rfl⟩
      | ok S' =>
        rw [run_step h4 hs] at h
        obtain ⟨y, hy, hy4⟩ := he
        have hy' : y ∈ ts := by
          rcases List.mem_cons.1 hy with rfl | hy
          · exact absurd hy4 h4
          · exact hy
        obtain ⟨h1, z, hz, h2⟩ := ih S' c p ⟨y, hy', hy4⟩ h
        exact ⟨h1, z, List.mem_cons_of_mem _ hz, h2⟩

end Go.Proofs.YtcckipimfgmmdaaGreatDoor.P
