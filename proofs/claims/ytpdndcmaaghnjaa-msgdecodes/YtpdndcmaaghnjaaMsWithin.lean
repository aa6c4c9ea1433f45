/-
  Whether what a message has keeps to its bounds: proved of every message.
-/
import Derived.Test.YtpdndcmaaghnjaaMsSmall
import Derived.Deep.RegionHeld3
import Derived.Deep.QuietTactic
import Derived.BigQuiet
namespace Go.Proofs.Ytpdndcmaaghnjaa
open Go.RowKit
open D (Da Blk)

theorem Mg.c0 (m : Mg) : m.cells[0]? = some (.int .i64 m.kind) := rfl
theorem Mg.c1 (m : Mg) : m.cells[1]? = some (.int .u64 m.epoch) := rfl
theorem Mg.c2 (m : Mg) : m.cells[2]? = some (.int .u64 m.id) := rfl
theorem Mg.c3 (m : Mg) : m.cells[3]? = some (.int .i64 m.task) := rfl
theorem Mg.c4 (m : Mg) : m.cells[4]? = some (.int .i64 m.val) := rfl
theorem Mg.cD (m : Mg) (h : m.data.ok) (j : Nat) (hj : j < 9) : m.cells[5 + j]? = m.data.cells[j]? := by
  unfold Mg.cells
  rw [show 5 + j = j + 1 + 1 + 1 + 1 + 1 from by omega]
  simp only [List.getElem?_cons_succ]
  rw [List.getElem?_append_left (by rw [D.Da.cells_len _ h]; exact hj)]
theorem Mg.c14 (m : Mg) (h : m.data.ok) : m.cells[14]? = some (.string (strOfNums m.path)) := by
  unfold Mg.cells
  rw [show 14 = 9 + 1 + 1 + 1 + 1 + 1 from by omega]
  simp only [List.getElem?_cons_succ]
  rw [List.getElem?_append_right (by rw [D.Da.cells_len _ h]; exact Nat.le_refl _), D.Da.cells_len _ h]
  rfl

/-- do its things keep to their bounds? -/
def withinB (m : Mg) : Bool :=
  if m.kind = 2 then decide (1 ≤ m.task) && (decide (m.task ≤ 4) && decide (m.path.length ≤ 256))
  else if m.kind = 7 then decide (0 ≤ m.val) && decide (m.val ≤ 1) else decide (0 ≤ m.val) && decide (m.val ≤ 65535)

set_option maxHeartbeats 800000 in
theorem within_any (m : Mg) (w : World) (hd : m.data.ok) : Calls Try.prog 22 #[m.vl] w fun e w' => e = .returned (.bool (withinB m)) ∧ Below w.heap.size w w' := by
  have E1 : Hid (∀ o, Below w.heap.size w (w.alloc o)) := fun o => (Below.refl _ _).alloc (Nat.le_refl _) _
  have Z := D.blk_new w m.cells.toArray 28
  have c0 := (Z.cell 0).trans m.c0
  have c3 := (Z.cell 3).trans m.c3
  have c4 := (Z.cell 4).trans m.c4
  have c14 := (Z.cell 14).trans (m.c14 hd)
  have HL : (strOfNums m.path).size = m.path.length := strOfNums_size _
  have HW : Hid (withinB m = if m.kind = 2 then decide (1 ≤ m.task) && (decide (m.task ≤ 4) && decide (m.path.length ≤ 256)) else if m.kind = 7 then decide (0 ≤ m.val) && decide (m.val ≤ 1) else decide (0 ≤ m.val) && decide (m.val ≤ 65535)) := rfl
  clear Z
  unfold Mg.vl
  generalize m.cells = R at *
  generalize withinB m = A at *
  generalize strOfNums m.path = s at *
  obtain ⟨k, ep, id, t, v, d, p⟩ := m
  simp only at *
  generalize p.length = n at *
  clear hd
  by_cases h2 : k = 2
  · subst h2
    have HA : Hid (A = (decide (1 ≤ t) && (decide (t ≤ 4) && decide (n ≤ 256)))) := HW.out
    clear HW
    by_cases t1 : 1 ≤ t
    · by_cases t4 : t ≤ 4
      · have hn : decide ((n : Int) ≤ 256) = decide (n ≤ 256) := by simp only [decide_eq_decide]; omega
        have HB : Hid (A = decide (n ≤ 256)) := HA.out.trans (by simp [t1, t4])
        clear HA
        go_enter Try.func22, Try.ntmps22
        go_wp2
        go_ret
        exact ⟨ret_bool HB.out.symm, E1.out _⟩
      · have HB : Hid (A = false) := HA.out.trans (by simp [t4])
        clear HA
        go_enter Try.func22, Try.ntmps22
        go_wp2
        go_ret
        exact ⟨ret_bool HB.out.symm, E1.out _⟩
    · have HB : Hid (A = false) := HA.out.trans (by simp [t1])
      clear HA
      go_enter Try.func22, Try.ntmps22
      go_wp2
      go_ret
      exact ⟨ret_bool HB.out.symm, E1.out _⟩
  · have k2 : (k == 2) = false := by simp [h2]
    by_cases h7 : k = 7
    · subst h7
      have HA : Hid (A = (decide (0 ≤ v) && decide (v ≤ 1))) := HW.out
      clear HW h2 k2
      by_cases v0 : 0 ≤ v
      · by_cases v1 : v ≤ 1
        · have HB : Hid (A = true) := HA.out.trans (by simp [v0, v1])
          clear HA
          go_enter Try.func22, Try.ntmps22
          go_wp2
          go_ret
          exact ⟨ret_bool HB.out.symm, E1.out _⟩
        · have HB : Hid (A = false) := HA.out.trans (by simp [v1])
          clear HA
          go_enter Try.func22, Try.ntmps22
          go_wp2
          go_ret
          exact ⟨ret_bool HB.out.symm, E1.out _⟩
      · have HB : Hid (A = false) := HA.out.trans (by simp [v0])
        clear HA
        go_enter Try.func22, Try.ntmps22
        go_wp2
        go_ret
        exact ⟨ret_bool HB.out.symm, E1.out _⟩
    · have k7 : (k == 7) = false := by simp [h7]
      have HA : Hid (A = (decide (0 ≤ v) && decide (v ≤ 65535))) := HW.out.trans ((if_neg h2).trans (if_neg h7))
      clear HW h2 h7
      by_cases v0 : 0 ≤ v
      · by_cases v1 : v ≤ 65535
        · have HB : Hid (A = true) := HA.out.trans (by simp [v0, v1])
          clear HA
          go_enter Try.func22, Try.ntmps22
          go_wp2
          go_ret
          exact ⟨ret_bool HB.out.symm, E1.out _⟩
        · have HB : Hid (A = false) := HA.out.trans (by simp [v1])
          clear HA
          go_enter Try.func22, Try.ntmps22
          go_wp2
          go_ret
          exact ⟨ret_bool HB.out.symm, E1.out _⟩
      · have HB : Hid (A = false) := HA.out.trans (by simp [v0])
        clear HA
        go_enter Try.func22, Try.ntmps22
        go_wp2
        go_ret
        exact ⟨ret_bool HB.out.symm, E1.out _⟩

end Go.Proofs.Ytpdndcmaaghnjaa
