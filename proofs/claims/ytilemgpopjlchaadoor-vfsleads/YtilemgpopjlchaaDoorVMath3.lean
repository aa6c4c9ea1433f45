/-
  Names gone through, step by step, with what is kept: what stands at hand, names that may be, not too many.
-/
import Derived.Test.YtilemgpopjlchaaDoorVMath2
namespace Go.Proofs.YtilemgpopjlchaaDoor

structure Wk (L : List Nd) (h : Nat) (a N : List Nm) : Prop where
  pl : At L a
  ok : ∀ n ∈ N, OkN n ∧ n.length ≤ 256
  len : N.length ≤ 300 * (9 - h)
section
variable {L : List Nd} {h : Nat} {a r : List Nm} {n : Nm} {x : Nd}
theorem walk_nil : walkV L h a [] = .inr a := by cases h <;> rfl
theorem walk_dots (hd : n = [46, 46]) : walkV L h a (n :: r) = walkV L h a.dropLast r := by cases h <;> exact go_dots _ _ _ _ hd
theorem walk_none (hd : n ≠ [46, 46]) (hf : findN L (joinP (a ++ [n])) = none) : walkV L h a (n :: r) = .inl 17 := by cases h <;> exact go_none _ _ _ _ hd hf
theorem walk_file (hd : n ≠ [46, 46]) (hf : findN L (joinP (a ++ [n])) = some x) (hk : x.k = 1) (hr : r ≠ []) : walkV L h a (n :: r) = .inl 20 := by cases h <;> exact go_file _ _ _ hd hf hk hr
theorem walk_link0 (hd : n ≠ [46, 46]) (hf : findN L (joinP (a ++ [n])) = some x) (hk : x.k = 3) : walkV L 0 a (n :: r) = .inl 19 := go_link _ _ _ _ hd hf hk
theorem walk_link (hd : n ≠ [46, 46]) (hf : findN L (joinP (a ++ [n])) = some x) (hk : x.k = 3) : walkV L (h + 1) a (n :: r) = walkV L h (if x.t.head? = some 47 then [] else a) (partsP x.t ++ r) := go_link _ _ _ _ hd hf hk
theorem walk_on (hd : n ≠ [46, 46]) (hf : findN L (joinP (a ++ [n])) = some x) (hk : x.k ≠ 3) (hr : x.k = 1 → r = []) : walkV L h a (n :: r) = walkV L h (a ++ [n]) r := by cases h <;> exact go_on _ _ _ hd hf hk hr

theorem Wk.dots (hT : Tr L) (w : Wk L h a (n :: r)) : Wk L h a.dropLast r :=
  ⟨w.pl.up hT, fun m hm => w.ok m (List.mem_cons_of_mem _ hm), by have := w.len; simp at this; omega⟩
theorem Wk.on (hT : Tr L) (w : Wk L h a (n :: r)) (hd : n ≠ [46, 46]) (hf : findN L (joinP (a ++ [n])) = some x) (hk : x.k ≠ 3) : Wk L h (a ++ [n]) r :=
  ⟨w.pl.step hT (w.ok n (List.mem_cons_self ..)).1 hd hf hk, fun m hm => w.ok m (List.mem_cons_of_mem _ hm), by have := w.len; simp at this; omega⟩
theorem Wk.kind (hT : Tr L) (w : Wk L h a (n :: r)) (hd : n ≠ [46, 46]) (hf : findN L (joinP (a ++ [n])) = some x) : kindOk x = true ∧ x ∈ L := by
  obtain ⟨_, h1, _, h2⟩ := step_at hT w.pl.cl (w.ok n (List.mem_cons_self ..)).1 hd hf
  exact ⟨h1, h2⟩
theorem mem_joinF {M : List Nm} (hm : n ∈ M) : n.length + 1 ≤ (joinF M).length := by
  induction M with
  | nil => cases hm
  | cons y M ih =>
    rw [joinF_cons]
    rcases List.mem_cons.1 hm with rfl | hm
    · omega
    · have := ih hm
      omega
theorem seg_length (cur l : Nm) : (segA cur l).length ≤ l.length + 1 := by
  induction l generalizing cur with
  | nil => exact Nat.le_refl _
  | cons c l ih =>
    by_cases hc : c = 47
    · subst hc
      rw [segA_sl]
      have := ih []
      simp
      omega
    · rw [segA_no _ _ hc]
      have := ih (cur ++ [c])
      simp
      omega
theorem parts_len (t : Nm) : (partsP t).length ≤ t.length + 1 ∧ ∀ n ∈ partsP t, n.length ≤ t.length := by
  refine ⟨Nat.le_trans (List.length_filter_le _ _) (seg_length _ _), fun n hn => ?_⟩
  have h1 := mem_joinF (List.mem_filter.1 hn).1
  rw [segA_len] at h1
  simp at h1
  omega
theorem names_lenP {p : Nm} (hr : rightP p = true) : (namesP p).length ≤ 257 ∧ ∀ n ∈ namesP p, n.length ≤ 256 := by
  rw [← parts_names hr]
  have h1 := parts_len p
  have h2 := (right_iff.1 hr).1
  exact ⟨by omega, fun n hn => Nat.le_trans (h1.2 n hn) h2⟩
theorem Wk.link (hT : Tr L) (w : Wk L (h + 1) a (n :: r)) (h8 : h + 1 ≤ 8) (hd : n ≠ [46, 46]) (hf : findN L (joinP (a ++ [n])) = some x) (hk : x.k = 3) : targetOk x.t = true ∧ Wk L h (if x.t.head? = some 47 then [] else a) (partsP x.t ++ r) := by
  obtain ⟨h1, _⟩ := w.kind hT hd hf
  have ht : targetOk x.t = true := by
    rcases kind_ok h1 with e | e | ⟨_, e⟩
    · rw [hk] at e; cases e
    · rw [hk] at e; cases e
    · exact e
  obtain ⟨t1, t2, t3⟩ := target_ok ht
  obtain ⟨p1, p2⟩ := parts_len x.t
  refine ⟨ht, ?_, ?_, ?_⟩
  · split
    · exact at_root L
    · exact w.pl
  · intro m hm
    rcases List.mem_append.1 hm with hm | hm
    · exact ⟨parts_ok t3 m hm, Nat.le_trans (p2 m hm) t2⟩
    · exact w.ok m (List.mem_cons_of_mem _ hm)
  · have := w.len
    rw [List.length_append]
    simp at this
    omega
theorem wk_start {p : Nm} (hr : rightP p = true) : Wk L 8 [] (namesP p) := by
  obtain ⟨h1, h2⟩ := names_lenP hr
  exact ⟨at_root L, fun n hn => ⟨names_ok n hn, h2 n hn⟩, by omega⟩
/-- how long what is gone to may be. -/
theorem Wk.more (w : Wk L h a (n :: r)) : a.length ≤ 256 ∧ (joinF (a ++ [n])).length ≤ 1000 ∧ (joinP (a ++ [n])).length ≤ 1000 := by
  have h1 := w.pl.cl.len
  have h2 := (w.ok n (List.mem_cons_self ..)).2
  have h3 : (joinF (a ++ [n])).length ≤ 600 := by
    rw [joinF_app, List.length_append, joinF_cons]
    show _ + (n.length + 1 + 0) ≤ _
    omega
  have h4 := joinP_len (a ++ [n])
  have h5 : a.length ≤ (joinF a).length := by
    clear h1 h2 h3 h4 w
    induction a with
    | nil => exact Nat.zero_le _
    | cons y M ih => rw [joinF_cons, List.length_cons]; omega
  exact ⟨by omega, by omega, by omega⟩
end

end Go.Proofs.YtilemgpopjlchaaDoor
