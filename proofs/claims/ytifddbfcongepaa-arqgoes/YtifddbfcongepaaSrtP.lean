/-
  What a sort by parts keeps: the window, and what lies outside it.
-/
import Derived.Test.YtifddbfcongepaaSrt7
namespace Go.Proofs.Ytifddbfcongepaa
open Go.RowKit
open Go.Sort (PermIn SortedIn)

theorem ltZ_false {x y : Int} : ltZ x y = false ↔ y ≤ x := by unfold ltZ; rw [decide_eq_false_iff_not]; omega
theorem ltZ_true {x y : Int} : ltZ x y = true ↔ x < y := by unfold ltZ; rw [decide_eq_true_iff]

/-- no two alike. -/
def Dst (a b : Nat) (d : Array Int) : Prop := ∀ i j, a ≤ i → i < j → j < b → d[i]! ≠ d[j]!
/-- what lies just ahead is less. -/
def Ahd (a b : Nat) (d : Array Int) : Prop := a = 0 ∨ ∀ k, a ≤ k → k < b → d[a - 1]! < d[k]!

theorem dst_nodup (a b : Nat) (d : Array Int) (hb : b ≤ d.size) : Dst a b d ↔ (d.extract a b).toList.Nodup := by
  rw [Go.Sort.extract_toList d a b hb, List.Nodup, List.pairwise_map, List.pairwise_iff_getElem]
  constructor
  · intro h i j hi hj hij
    simp only [List.getElem_range']
    simp only [List.length_range'] at hi hj
    exact h _ _ (by omega) (by omega) (by omega)
  · intro h i j h1 h2 h3
    have := h (i - a) (j - a) (by simp; omega) (by simp; omega) (by omega)
    simp only [List.getElem_range'] at this
    rw [show a + 1 * (i - a) = i by omega, show a + 1 * (j - a) = j by omega] at this
    exact this
theorem Dst.perm {a b : Nat} {d d' : Array Int} (h : Dst a b d) (hp : PermIn a b d d') (hb : b ≤ d.size) : Dst a b d' := by
  rw [dst_nodup a b d' (by rw [hp.1]; exact hb)]
  exact hp.2.2.nodup_iff.2 ((dst_nodup a b d hb).1 h)
theorem Dst.sub {a b a' b' : Nat} {d : Array Int} (h : Dst a b d) (h1 : a ≤ a') (h2 : b' ≤ b) : Dst a' b' d := fun i j k1 k2 k3 => h i j (by omega) k2 (by omega)
theorem Ahd.perm {a b : Nat} {d d' : Array Int} (h : Ahd a b d) (hp : PermIn a b d d') (hb : b ≤ d.size) : Ahd a b d' := by
  rcases h with h | h
  · exact .inl h
  · by_cases ha : a = 0
    · exact .inl ha
    · refine .inr fun k k1 k2 => ?_
      rw [hp.2.1 (a - 1) (.inl (by omega))]
      exact Go.Sort.permIn_all d d' a b (fun x => d[a - 1]! < x) hb hp h k k1 k2

/-- a window of the part is still to be sorted; all else lies right. -/
structure St (a b x y n : Nat) (d dk : Array Int) : Prop where
  sz : dk.size = n
  perm : PermIn a b d dk
  dst : Dst x y dk
  fr : Ahd x y dk
  out : ∀ i j, a ≤ i → i < j → j < b → (i < x ∨ y ≤ j) → dk[i]! ≤ dk[j]!
  ax : a ≤ x
  xy : x ≤ y
  yb : y ≤ b
  bn : b ≤ n

section
variable {a b x y n m : Nat} {d dk d2 d3 : Array Int}
theorem St.start (hd : d.size = n) (h1 : Dst a b d) (h2 : Ahd a b d) (hab : a ≤ b) (hb : b ≤ n) : St a b a b n d d :=
  ⟨hd, Go.Sort.permIn_refl _ _ _, h1, h2, fun i j k1 k2 k3 k4 => by omega, Nat.le_refl _, hab, Nat.le_refl _, hb⟩
theorem St.dsz (h : St a b x y n d dk) : d.size = n := h.perm.1.symm.trans h.sz
theorem St.turn (h : St a b x y n d dk) (hp : PermIn x y dk d2) : St a b x y n d d2 := by
  have h1 := h.ax; have h2 := h.xy; have h3 := h.yb; have h4 := h.bn; have h5 := h.sz
  refine ⟨hp.1.trans h5, Go.Sort.permIn_trans _ _ _ _ _ h.perm (Go.Sort.permIn_mono _ _ _ _ _ _ h1 h3 (by omega) hp), h.dst.perm hp (by omega), h.fr.perm hp (by omega), fun i j k1 k2 k3 k4 => ?_, h1, h2, h3, h4⟩
  by_cases hi : x ≤ i ∧ i < y
  · by_cases hj : x ≤ j ∧ j < y
    · omega
    · rw [hp.2.1 j (by omega)]
      exact Go.Sort.permIn_all dk d2 x y (fun v => v ≤ dk[j]!) (by omega) hp (fun k c1 c2 => h.out k j (by omega) (by omega) k3 (.inr (by omega))) i hi.1 hi.2
  · rw [hp.2.1 i (by omega)]
    by_cases hj : x ≤ j ∧ j < y
    · exact Go.Sort.permIn_all dk d2 x y (fun v => dk[i]! ≤ v) (by omega) hp (fun k c1 c2 => h.out i k k1 (by omega) (by omega) (.inl (by omega))) j hj.1 hj.2
    · rw [hp.2.1 j (by omega)]
      exact h.out i j k1 k2 k3 k4
theorem St.done (h : St a b x y n d dk) (hs : SortedIn ltZ x y dk) : SortedIn ltZ a b dk := fun i j k1 k2 k3 => by
  by_cases hc : i < x ∨ y ≤ j
  · exact ltZ_false.2 (h.out i j k1 k2 k3 hc)
  · exact hs i j (by omega) k2 (by omega)
/-- behind a parting: the left part, for the call of itself. -/
theorem St.leftDst (h : St a b x y n d dk) (hp : Prt x y m n dk d2) : Dst x m d2 := ((h.turn hp.perm).dst).sub (Nat.le_refl _) (by have := hp.mb; omega)
theorem St.leftFr (h : St a b x y n d dk) (hp : Prt x y m n dk d2) : Ahd x m d2 := by
  rcases (h.turn hp.perm).fr with c | c
  · exact .inl c
  · exact .inr fun k k1 k2 => c k k1 (by have := hp.mb; omega)
theorem St.rightDst (h : St a b x y n d dk) (hp : Prt x y m n dk d2) : Dst (m + 1) y d2 := ((h.turn hp.perm).dst).sub (by have := hp.am; omega) (Nat.le_refl _)
theorem St.gt (h : St a b x y n d dk) (hp : Prt x y m n dk d2) (k : Nat) (k1 : m < k) (k2 : k < y) : d2[m]! < d2[k]! := by
  have c1 := ltZ_false.1 (hp.hi k k1 k2)
  have c2 := (h.turn hp.perm).dst m k hp.am k1 k2
  omega
theorem St.rightFr (h : St a b x y n d dk) (hp : Prt x y m n dk d2) : Ahd (m + 1) y d2 := .inr fun k k1 k2 => h.gt hp k (by omega) k2
theorem St.left (h : St a b x y n d dk) (hp : Prt x y m n dk d2) (h3 : PermIn x m d2 d3) (hs : SortedIn ltZ x m d3) : St a b (m + 1) y n d d3 := by
  have ha := hp.am; have hb := hp.mb; have hn := h.bn; have hy := h.yb; have e2 := hp.sz
  have h4 := (h.turn hp.perm).turn (Go.Sort.permIn_mono _ _ _ _ _ _ (Nat.le_refl x) (show m ≤ y by omega) (by omega) h3)
  have kl : ∀ k, x ≤ k → k < m → d3[k]! < d2[m]! := fun k c1 c2 => Go.Sort.permIn_all d2 d3 x m (fun v => v < d2[m]!) (by omega) h3 (fun k c1 c2 => ltZ_true.1 (hp.lo k c1 c2)) k c1 c2
  have kr : ∀ k, m ≤ k → d3[k]! = d2[k]! := fun k c => h3.2.1 k (.inr c)
  refine ⟨h4.sz, h4.perm, h4.dst.sub (by omega) (Nat.le_refl _), .inr fun k k1 k2 => ?_, fun i j k1 k2 k3 k4 => ?_, by have := h.ax; omega, by omega, hy, hn⟩
  · rw [show m + 1 - 1 = m by omega, kr m (Nat.le_refl _), kr k (by omega)]
    exact h.gt hp k (by omega) k2
  · by_cases hc : i < x ∨ y ≤ j
    · exact h4.out i j k1 k2 k3 hc
    · have hi : i ≤ m := by omega
      by_cases hj : j < m
      · exact ltZ_false.1 (hs i j (by omega) k2 hj)
      · have c1 : d3[i]! ≤ d2[m]! := by
          by_cases e : i = m
          · rw [e, kr m (Nat.le_refl _)]; exact Int.le_refl _
          · exact Int.le_of_lt (kl i (by omega) (by omega))
        have c2 : d2[m]! ≤ d3[j]! := by
          rw [kr j (by omega)]
          by_cases e : j = m
          · rw [e]; exact Int.le_refl _
          · exact Int.le_of_lt (h.gt hp j (by omega) (by omega))
        omega
theorem St.right (h : St a b x y n d dk) (hp : Prt x y m n dk d2) (h3 : PermIn (m + 1) y d2 d3) (hs : SortedIn ltZ (m + 1) y d3) : St a b x m n d d3 := by
  have ha := hp.am; have hb := hp.mb; have hn := h.bn; have hy := h.yb; have e2 := hp.sz; have hx := h.ax
  have h4 := (h.turn hp.perm).turn (Go.Sort.permIn_mono _ _ _ _ _ _ (show x ≤ m + 1 by omega) (Nat.le_refl y) (by omega) h3)
  have kr : ∀ k, m < k → k < y → d2[m]! < d3[k]! := fun k c1 c2 => Go.Sort.permIn_all d2 d3 (m + 1) y (fun v => d2[m]! < v) (by omega) h3 (fun k c1 c2 => h.gt hp k (by omega) c2) k (by omega) c2
  have kl : ∀ k, k ≤ m → d3[k]! = d2[k]! := fun k c => h3.2.1 k (.inl (by omega))
  refine ⟨h4.sz, h4.perm, h4.dst.sub (Nat.le_refl _) (by omega), ?_, fun i j k1 k2 k3 k4 => ?_, hx, by omega, by omega, hn⟩
  · rcases h4.fr with c | c
    · exact .inl c
    · exact .inr fun k k1 k2 => c k k1 (by omega)
  · by_cases hc : i < x ∨ y ≤ j
    · exact h4.out i j k1 k2 k3 hc
    · by_cases hi : m < i
      · exact ltZ_false.1 (hs i j (by omega) k2 (by omega))
      · have c1 : d3[i]! ≤ d2[m]! := by
          rw [kl i (by omega)]
          by_cases e : i = m
          · rw [e]; exact Int.le_refl _
          · exact Int.le_of_lt (ltZ_true.1 (hp.lo i (by omega) (by omega)))
        have c2 : d2[m]! ≤ d3[j]! := by
          by_cases e : j = m
          · rw [e, kl m (Nat.le_refl _)]; exact Int.le_refl _
          · exact Int.le_of_lt (kr j (by omega) (by omega))
        omega
end

end Go.Proofs.Ytifddbfcongepaa
