/-
  Whether a message may be, by the document: proved of every message.
-/
import Derived.Test.YtpdndcmaaghnjaaMsRr4
import Derived.Test.YtpdndcmaaghnjaaMsRr5
import Derived.Test.YtpdndcmaaghnjaaMsRr7
import Derived.Test.YtpdndcmaaghnjaaMsRrC
namespace Go.Proofs.Ytpdndcmaaghnjaa
open Go.RowKit
open D (Da Blk)

theorem same_val {m : Mg} (h : (onlyM m).same m = true) (h4 : ¬ (m.kind = 4 ∨ m.kind = 5 ∨ m.kind = 7)) : m.val = 0 := by
  have e := (Mg.same_iff _ _).1 h
  have : (onlyM m).val = m.val := by rw [e]
  rw [← this]
  exact if_neg h4
theorem within_zero {m : Mg} (h2 : m.kind ≠ 2) (h7 : m.kind ≠ 7) (hv : m.val = 0) : withinB m = true := by
  unfold withinB
  rw [if_neg h2, if_neg h7, hv]
  decide

theorem refRight_any (m : Mg) (w : World) (hd : m.data.ok) (hp : D.Byt m.path) : Calls Try.prog 12 #[m.vl] w fun e w' => e = .returned (.bool (rightB m)) ∧ Below w.heap.size w w' := by
  cases hk : kiQ m.kind
  · have e : rightB m = false := by unfold rightB; rw [hk]; rfl
    rw [e]
    exact rr_kind m w hk
  · have hb := of_decide_eq_true hk
    obtain ⟨k, ep, id, t, v, d, p⟩ := m
    simp only at hk hb hd hp
    have hc : k = 1 ∨ k = 2 ∨ k = 3 ∨ k = 4 ∨ k = 5 ∨ k = 6 ∨ k = 7 := by omega
    have plain : ∀ k : Int, kiQ k = true → k ≠ 2 → ¬ (k = 4 ∨ k = 5 ∨ k = 7) → ((onlyM ⟨k, ep, id, t, v, d, p⟩).same ⟨k, ep, id, t, v, d, p⟩) = rightB ⟨k, ep, id, t, v, d, p⟩ := fun k hk h2 h4 =>
      rr_eq hk fun hs => within_zero h2 (show k ≠ 7 by omega) (same_val hs h4)
    rcases hc with rfl | rfl | rfl | rfl | rfl | rfl | rfl
    · rw [← plain 1 rfl (by decide) (by decide)]
      exact rr_one ep id t v d p w hd hp
    · by_cases t0 : 1 ≤ t
      · by_cases t1 : t ≤ 4
        · by_cases pl : p.length ≤ 256
          · rw [← rr_eq (m := ⟨2, ep, id, t, v, d, p⟩) rfl fun _ => by simp [withinB, t0, t1, pl]]
            exact rr_call ep id t v d p w hd hp t0 t1 pl
          · rw [rr_no (m := ⟨2, ep, id, t, v, d, p⟩) (by simp [withinB, pl])]
            exact rr_calllong ep id t v d p w hd hp t0 t1 (by omega)
        · rw [rr_no (m := ⟨2, ep, id, t, v, d, p⟩) (by simp [withinB, t1])]
          exact rr_callhigh ep id t v d p w hd hp t0 (by omega)
      · rw [rr_no (m := ⟨2, ep, id, t, v, d, p⟩) (by simp [withinB, t0])]
        exact rr_calllow ep id t v d p w hd hp (by omega)
    · rw [← plain 3 rfl (by decide) (by decide)]
      exact rr_id3 ep id t v d p w hd hp
    · by_cases v0 : 0 ≤ v
      · by_cases v1 : v ≤ 65535
        · rw [← rr_eq (m := ⟨4, ep, id, t, v, d, p⟩) rfl fun _ => by simp [withinB, v0, v1]]
          exact rr_val4 ep id t v d p w hd hp v0 v1
        · rw [rr_no (m := ⟨4, ep, id, t, v, d, p⟩) (by simp [withinB, v1])]
          exact rr_val4high ep id t v d p w hd hp (by omega)
      · rw [rr_no (m := ⟨4, ep, id, t, v, d, p⟩) (by simp [withinB, v0])]
        exact rr_val4low ep id t v d p w hd hp (by omega)
    · by_cases v0 : 0 ≤ v
      · by_cases v1 : v ≤ 65535
        · rw [← rr_eq (m := ⟨5, ep, id, t, v, d, p⟩) rfl fun _ => by simp [withinB, v0, v1]]
          exact rr_val5 ep id t v d p w hd hp v0 v1
        · rw [rr_no (m := ⟨5, ep, id, t, v, d, p⟩) (by simp [withinB, v1])]
          exact rr_val5high ep id t v d p w hd hp (by omega)
      · rw [rr_no (m := ⟨5, ep, id, t, v, d, p⟩) (by simp [withinB, v0])]
        exact rr_val5low ep id t v d p w hd hp (by omega)
    · rw [← plain 6 rfl (by decide) (by decide)]
      exact rr_id6 ep id t v d p w hd hp
    · by_cases v0 : 0 ≤ v
      · by_cases v1 : v ≤ 1
        · rw [← rr_eq (m := ⟨7, ep, id, t, v, d, p⟩) rfl fun _ => by simp [withinB, v0, v1]]
          exact rr_val7 ep id t v d p w hd hp v0 v1
        · rw [rr_no (m := ⟨7, ep, id, t, v, d, p⟩) (by simp [withinB, v1])]
          by_cases v2 : v ≤ 65535
          · exact rr_val7mid ep id t v d p w hd hp v2 (by omega)
          · exact rr_val7high ep id t v d p w hd hp (by omega)
      · rw [rr_no (m := ⟨7, ep, id, t, v, d, p⟩) (by simp [withinB, v0])]
        exact rr_val7low ep id t v d p w hd hp (by omega)

end Go.Proofs.Ytpdndcmaaghnjaa
