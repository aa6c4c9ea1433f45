/-
  TpZ.
-/
import Derived.Test.YtmcgcbgblgmmkaaGreatDoorQ23
namespace Go.Proofs.YtmcgcbgblgmmkaaGreatDoor.P
open Go
def AcZ (a : Ac) : Prop := numK a.k = false -> a.a = 0
def CdZ (c : Cd) : Prop := c.mask < 18446744073709551616 /\ c.val < 18446744073709551616
def RlZ (r : Rl) : Prop := AcZ r.act /\ ∀ c ∈ r.conds, CdZ c
def RsZ (rs : List Rl) : Prop := ∀ r ∈ rs, RlZ r
def CsZ (cs : List Cd) : Prop := ∀ c ∈ cs, CdZ c
theorem RsZ.snoc {rs : List Rl} {r : Rl} (h : RsZ rs) (hr : RlZ r) : RsZ (rs ++ [r]) := by
 intro x hx
 rcases List.mem_append.1 hx with h1 | h1
 ·exact h x h1
 ·have : x = r := by simpa using h1
  subst this
  exact hr
theorem CsZ.snoc {cs : List Cd} {c : Cd} (h : CsZ cs) (hc : CdZ c) : CsZ (cs ++ [c]) := by
 intro x hx
 rcases List.mem_append.1 hx with h1 | h1
 ·exact h x h1
 ·have : x = c := by simpa using h1
  subst this
  exact hc
theorem csZ_nil : CsZ [] := fun c hc => by cases hc
def InvZ : St -> Prop
 | .inl () => True
 | .inr (.inl ()) => True
 | .inr (.inr (.inl k)) => numK k = true
 | .inr (.inr (.inr (.inl d))) => AcZ d
 | .inr (.inr (.inr (.inr (.inl (d, rs))))) => AcZ d /\ RsZ rs
 | .inr (.inr (.inr (.inr (.inr (.inl (d, rs, k)))))) => AcZ d /\ RsZ rs /\ numK k = true
 | .inr (.inr (.inr (.inr (.inr (.inr (.inl (d, rs, a, _))))))) => AcZ d /\ RsZ rs /\ AcZ a
 | .inr (.inr (.inr (.inr (.inr (.inr (.inr (.inl (d, rs, a, _)))))))) => AcZ d /\ RsZ rs /\ AcZ a
 | .inr (.inr (.inr (.inr (.inr (.inr (.inr (.inr (.inl (d, rs, a, _, cs))))))))) => AcZ d /\ RsZ rs /\ AcZ a /\ CsZ cs
 | .inr (.inr (.inr (.inr (.inr (.inr (.inr (.inr (.inr (.inl (d, rs, a, _, cs, _)))))))))) => AcZ d /\ RsZ rs /\ AcZ a /\ CsZ cs
 | .inr (.inr (.inr (.inr (.inr (.inr (.inr (.inr (.inr (.inr (.inl (d, rs, a, _, cs, _))))))))))) => AcZ d /\ RsZ rs /\ AcZ a /\ CsZ cs
 | .inr (.inr (.inr (.inr (.inr (.inr (.inr (.inr (.inr (.inr (.inr (.inl (d, rs, a, _, cs, _, m)))))))))))) => AcZ d /\ RsZ rs /\ AcZ a /\ CsZ cs /\ m < 18446744073709551616
 | .inr (.inr (.inr (.inr (.inr (.inr (.inr (.inr (.inr (.inr (.inr (.inr (.inl (d, rs, a, _, cs, _, m, _))))))))))))) => AcZ d /\ RsZ rs /\ AcZ a /\ CsZ cs /\ m < 18446744073709551616
 | .inr (.inr (.inr (.inr (.inr (.inr (.inr (.inr (.inr (.inr (.inr (.inr (.inr (d, rs, a, _, cs))))))))))))) => AcZ d /\ RsZ rs /\ AcZ a /\ CsZ cs
theorem acz_num {k n : Nat} (h : numK k = true) : AcZ ⟨k, n⟩ := fun h2 => by
 have : numK k = false := h2
 rw [h] at this
 cases this
theorem acz_zero (k : Nat) : AcZ ⟨k, 0⟩ := fun _ => rfl
theorem step_invZ {S S' : St} {x : Tok} (h : InvZ S) (hx : x.n < 18446744073709551616) (hs : step S x = .ok S') : InvZ S' := by
 cases S using St.every <;> simp only [step] at hs
 case s0 => split at hs <;> cases hs; trivial
 case s1 =>
  split at hs
  ·split at hs
   ·next h1 => cases hs; exact h1
   ·cases hs; exact acz_zero _
  ·cases hs
 case s2 k =>
  split at hs
  ·split at hs
   ·cases hs
   ·cases hs; exact acz_num h
  ·cases hs
 case s3 d =>
  split at hs
  ·cases hs; exact ⟨h, fun r hr => by cases hr⟩
  ·cases hs
 case s4 d rs =>
  split at hs
  ·split at hs
   ·cases hs
   ·split at hs
    ·next h1 => cases hs; exact ⟨h.1, h.2, h1⟩
    ·cases hs; exact ⟨h.1, h.2, acz_zero _⟩
  ·cases hs
 case s5 d rs k =>
  split at hs
  ·split at hs
   ·cases hs
   ·cases hs; exact ⟨h.1, h.2.1, acz_num h.2.2⟩
  ·cases hs
 case s6 d rs a ns =>
  split at hs
  ·split at hs
   ·cases hs
   ·cases hs; exact h
  ·cases hs
 case s7 d rs a ns =>
  split at hs
  ·cases hs; exact h
  ·split at hs
   ·cases hs; exact ⟨h.1, h.2.1, h.2.2, csZ_nil⟩
   ·split at hs
    ·cases hs; exact ⟨h.1, h.2.1.snoc ⟨h.2.2, csZ_nil⟩⟩
    ·cases hs
 case s8 d rs a ns cs =>
  split at hs
  ·split at hs
   ·cases hs
   ·cases hs; exact h
  ·cases hs
 case s9 d rs a ns cs g =>
  split at hs
  ·cases hs; exact h
  ·split at hs
   ·cases hs; exact ⟨h.1, h.2.1, h.2.2.1, h.2.2.2, by decide⟩
   ·cases hs
 case s10 d rs a ns cs g =>
  split at hs
  ·cases hs; exact ⟨h.1, h.2.1, h.2.2.1, h.2.2.2, hx⟩
  ·cases hs
 case s11 d rs a ns cs g m =>
  split at hs
  ·cases hs; exact h
  ·cases hs
 case s12 d rs a ns cs g m o =>
  split at hs
  ·cases hs; exact ⟨h.1, h.2.1, h.2.2.1, h.2.2.2.1.snoc ⟨h.2.2.2.2, hx⟩⟩
  ·cases hs
 case s13 d rs a ns cs =>
  split at hs
  ·cases hs; exact h
  ·split at hs
   ·cases hs; exact ⟨h.1, h.2.1.snoc ⟨h.2.2.1, h.2.2.2⟩⟩
   ·cases hs
theorem run_invZ : ∀ (ts : List Tok) (S : St) (v : Ac × List Rl), InvZ S -> (∀ x ∈ ts, x.n < 18446744073709551616) -> run S ts = .ok v -> AcZ v.1 /\ RsZ v.2 := by
 intro ts
 induction ts with
 | nil => intro S v _ _ h; cases h
 | cons x ts ih =>
  intro S v hS hx h
  by_cases h4 : x.k = 4
  ·rw [run_end h4] at h
   cases S using St.every <;> simp [done] at h
   subst h
   exact hS
  ·cases hs : step S x with
   | error c => rw [run_err h4 hs] at h; cases h
   | ok S' =>
    rw [run_step h4 hs] at h
    exact ih S' v (step_invZ hS (hx x List.mem_cons_self) hs) (fun y hy => hx y (List.mem_cons_of_mem _ hy)) h
theorem prs_Z {l : List UInt8} {v : Ac × List Rl} (h : prs l = .ok v) : AcZ v.1 /\ RsZ v.2 := by
 obtain ⟨ts, h1, h2⟩ := prs_ok h
 exact run_invZ ts .s0 v trivial (fun x hx => (all_tk h1 x hx).n) h2
end Go.Proofs.YtmcgcbgblgmmkaaGreatDoor.P
