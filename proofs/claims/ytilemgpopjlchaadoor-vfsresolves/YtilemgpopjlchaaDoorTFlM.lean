/-
  Names gone through as the program goes: a file is found out one step later.
-/
import Derived.Test.YtilemgpopjlchaaDoorVMath3
import Derived.Test.YtilemgpopjlchaaDoorMapN
import Derived.ScopeJumps
import Derived.WalkMore
namespace Go.Proofs.YtilemgpopjlchaaDoor
open Go.RowKit

def progV (L : List Nd) (h : Nat) (a N : List Nm) : Sum Int (List Nm) := if kindOf L a = 1 ∧ N ≠ [] then .inl 20 else walkV L h a N
section
variable {L : List Nd} {h : Nat} {a r N : List Nm} {n : Nm} {x : Nd}
theorem kindOf_some (hf : findN L (joinP a) = some x) : kindOf L a = x.k := by unfold kindOf; rw [hf]
theorem prog_nil : progV L h a [] = .inr a := (if_neg (fun e => e.2 rfl)).trans walk_nil
theorem prog_file (hk : kindOf L a = 1) : progV L h a (n :: r) = .inl 20 := if_pos ⟨hk, by simp⟩
theorem prog_go (hk : kindOf L a ≠ 1) : progV L h a N = walkV L h a N := if_neg (fun e => hk e.1)
theorem prog_on (hd : n ≠ [46, 46]) (hf : findN L (joinP (a ++ [n])) = some x) (hk : x.k ≠ 3) : progV L h (a ++ [n]) r = walkV L h a (n :: r) := by
  unfold progV
  rw [kindOf_some hf]
  by_cases hc : x.k = 1 ∧ r ≠ []
  · rw [if_pos hc, walk_file hd hf hc.1 hc.2]
  · rw [if_neg hc, walk_on hd hf hk (fun e => by
      by_cases e2 : r = []
      · exact e2
      · exact absurd ⟨e, e2⟩ hc)]
theorem up_kind (hT : Tr L) (ha : At L a) : kindOf L a.dropLast ≠ 1 := by
  obtain ⟨y, h1, h2⟩ := ha.upK hT
  rw [kindOf_some h1, h2]
  decide
theorem root_kind : kindOf L [] ≠ 1 := by
  rw [kindOf_some (x := rootN) rfl]
  decide
theorem up_join (hc : Cl a) : upP (joinP a) = joinP a.dropLast ∧ errP (joinP a) = 0 := by
  refine ⟨?_, if_pos (right_join hc)⟩
  unfold upP
  rw [if_pos (right_join hc), left_join hc]
end

theorem field_k (s t : ByteArray) (q : Int) (X : World) : (Instr.field 29 (.agg #[.string s, .int .i64 q, .string t]) 1).run Tryd.prog X = .ok (.int .i64 q) X := by kernel_rfl
section
variable {P : Program} {a : Act} {w : World} {Q : Exit → Act → World → Prop}
/-- a scope whose code is gone through once, from the label on. -/
theorem wp_scope_once {c rest : Code} (l : Nat) (J : Act → World → Prop) (μ : Act → World → Nat) (hf : findLabel c l = some (Code.skip.seq rest))
    (pass : ∀ a w, J a w → rest.wp P (Exit.jump l (fun a' w' => J a' w' ∧ μ a' w' < μ a w) Q) a w)
    (first : (∀ a w, J a w → rest.wp P (Exit.jump l J Q) a w) → c.wp P (Exit.jump l J Q) a w) : (Code.scope c).wp P Q a w :=
  wp_scope_jumps l J μ hf (first fun a w hj => wp_mono (pass a w hj) (fun e a' w' hq => by
    cases e with
    | goto l' => exact ⟨hq.1, hq.2.1⟩
    | _ => exact hq)) fun a w hj => wp_seq (wp_skip (pass a w hj))
end

end Go.Proofs.YtilemgpopjlchaaDoor
