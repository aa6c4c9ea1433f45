/-
  The document's at, Get, gone.
-/
import Derived.Test.YtlckconhhhllkaaRMem
import Derived.Test.YtlckconhhhllkaaMath3
import Derived.Deep.DeepCutAuto
namespace Go.Proofs.Ytlckconhhhllkaa
open Go.RowKit

/-- where one of an ID is, or that there is none. -/
def AtT (L : List En) (z : Int) (e : Ending) : Prop := (∃ (i : Nat) (h : i < L.length), (L[i]).id = z ∧ findI L z = some L[i] ∧ e = .returned (.int .i64 i)) ∨ (findI L z = none ∧ e = .returned (.int .i64 (-1)))

set_option maxHeartbeats 4000000 in
theorem rat_any (w : World) (base b : Nat) (v : Value) (s : Nt) (z : Int) (h : RfC w base b v s) (hn : s.L.length ≤ 8) :
    Calls Try.prog 39 #[.pointer (some ⟨b, 0, none⟩), .int .u64 z] w fun e w' => AtT s.L z e ∧ w' = w := by
  obtain ⟨pv, cv, rfl⟩ := rowS_slice h.row
  obtain ⟨n, hnn⟩ : ∃ n, s.L.length = n := ⟨_, rfl⟩
  have HR : Hid (RfC w base b (.slice pv s.L.length cv) s) := h
  have c0 : w.cell? ⟨b, 0, none⟩ = some (.slice pv n cv) := by rw [← hnn]; exact h.blk.cell 0
  have HNN : Hid (s.L.length = n) := hnn
  have hn8 : n ≤ 8 := by omega
  clear h hnn hn
  go_enter Try.func39, Try.ntmps39
  go_wp2_with fail
  go_loopw [5] (fun v5 wr => ∃ i : Nat, v5 = .int .i64 i ∧ i ≤ n ∧ (∀ (k : Nat) (hk : k < s.L.length), k < i → (s.L[k]).id ≠ z) ∧ wr = w) (fun v5 _ => n - (intOf v5).toNat)
  case atStart => exact ⟨0, rfl, Nat.zero_le _, fun k _ hk => absurd hk (Nat.not_lt_zero _), rfl⟩
  case round =>
    obtain ⟨i, rfl, hi, hno, hw⟩ := hrel
    subst hw
    have HNO : Hid (∀ (k : Nat) (hk : k < s.L.length), k < i → (s.L[k]).id ≠ z) := hno
    clear hno
    by_cases hlt : i < n
    · have hi1 : (i : Int) < (n : Int) := by omega
      have hil : i < s.L.length := by rw [HNN.out]; exact hlt
      obtain ⟨g, rfl, _, hce⟩ := rowE_at HR.out.row hil
      have x0 := hce 0 _ rfl
      rw [Nat.add_zero] at x0
      have HQ : Hid ((s.L[i]).id = z → AtT s.L z (.returned (.int .i64 i))) := fun e => .inl ⟨i, hil, e, findI_first hil HNO.out e, rfl⟩
      have HX : Hid ((s.L[i]).id ≠ z → ∀ (k : Nat) (hk : k < s.L.length), k < i + 1 → (s.L[k]).id ≠ z) := fun e k hk hk1 => by
        by_cases e2 : k = i
        · subst e2; exact e
        · exact HNO.out k hk (by omega)
      clear hce
      generalize (s.L[i]).id = y at *
      by_cases hyz : y = z
      · have hyd : (y == z) = true := by simp [hyz]
        have HQ2 : Hid (AtT s.L z (.returned (.int .i64 i))) := HQ.out hyz
        clear hyz HQ HX hil
        go_wp2_with fail
        go_ret
        exact ⟨HQ2.out, rfl⟩
      · have hyd : (y == z) = false := by simp [hyz]
        have HX2 := HX.out hyz
        have HX3 : Hid (∀ (k : Nat) (hk : k < s.L.length), k < i + 1 → (s.L[k]).id ≠ z) := HX2
        clear hyz HQ HX hil HX2
        go_wp2_with fail
        go_roundw
        case rel => exact ⟨i + 1, by go_num, hlt, HX3.out, by trivial⟩
        case measure => simp [intOf]; omega
    · have hi1 : ¬ (i : Int) < (n : Int) := by omega
      have HQ : Hid (AtT s.L z (.returned (.int .i64 (-1)))) := .inr ⟨findI_no fun k hk => HNO.out k hk (by have := HNN.out; omega), rfl⟩
      go_wp2_with fail
      go_ret
      exact ⟨HQ.out, rfl⟩

set_option maxHeartbeats 4000000 in
theorem rget_any (w : World) (base b : Nat) (s : Nt) (z : Int) (h : RfT w base b s) (hn : s.L.length ≤ 8) :
    Calls Try.prog 34 #[.pointer (some ⟨b, 0, none⟩), .int .u64 z] w fun e w' => e = .returned (optV (findI s.L z)) ∧ Below w.heap.size w w' := by
  obtain ⟨v, h⟩ := h
  have HB : Hid (∀ C : Array Value, Below w.heap.size w (w.alloc (.cells C 44))) := fun C => below_new w _
  have HR : Hid (RfC (w.alloc (.cells #[.int .u64 0, .int .i64 0, .int .i64 0, .int .i64 0, .int .i64 0, .int .i64 0] 44)) base b v s) := h.over (below_new w _)
  have HBE : Hid (Blk (w.alloc (.cells #[.int .u64 0, .int .i64 0, .int .i64 0, .int .i64 0, .int .i64 0, .int .i64 0] 44)) w.heap.size 44 [.int .u64 0, .int .i64 0, .int .i64 0, .int .i64 0, .int .i64 0, .int .i64 0]) := blk_new w _ _
  have HBZ : Hid (Below w.heap.size w (w.alloc (.cells #[.int .u64 0, .int .i64 0, .int .i64 0, .int .i64 0, .int .i64 0, .int .i64 0] 44))) := below_new w _
  have HN : Hid (s.L.length ≤ 8) := hn
  clear h hn
  go_enter Try.func34, Try.ntmps34
  go_upto_region 1 with fail
  obtain ⟨be, hbe⟩ : ∃ k, w.heap.size = k := ⟨_, rfl⟩
  rw [hbe] at HBE ⊢
  have HE : Hid (w.heap.size = be) := hbe
  clear hbe
  generalize (w.alloc (.cells #[.int .u64 0, .int .i64 0, .int .i64 0, .int .i64 0, .int .i64 0, .int .i64 0] 44)) = w1 at *
  go_wp2_with fail
  refine (rat_any w1 base b v s z HR.out HN.out).mono ?_
  rintro e w2 ⟨hat, hw2⟩
  subst hw2
  have k0 := HBE.out.cell 0
  have k1 := HBE.out.cell 1
  have k2 := HBE.out.cell 2
  have k3 := HBE.out.cell 3
  have k4 := HBE.out.cell 4
  have k5 := HBE.out.cell 5
  have f0 := HBE.out.f 0
  have f1 := HBE.out.f 1
  have f2 := HBE.out.f 2
  have f3 := HBE.out.f 3
  have f4 := HBE.out.f 4
  have f5 := HBE.out.f 5
  have HF : Hid (∀ (q0 q1 q2 q3 q4 q5 : Value), Below w.heap.size w ((((((w2.setCell ⟨be, 0, none⟩ q0).setCell ⟨be, 1, none⟩ q1).setCell ⟨be, 2, none⟩ q2).setCell ⟨be, 3, none⟩ q3).setCell ⟨be, 4, none⟩ q4).setCell ⟨be, 5, none⟩ q5) ∧ Blk ((((((w2.setCell ⟨be, 0, none⟩ q0).setCell ⟨be, 1, none⟩ q1).setCell ⟨be, 2, none⟩ q2).setCell ⟨be, 3, none⟩ q3).setCell ⟨be, 4, none⟩ q4).setCell ⟨be, 5, none⟩ q5) be 44 [q0, q1, q2, q3, q4, q5]) := fun q0 q1 q2 q3 q4 q5 => by
    have hb : w.heap.size ≤ be := by rw [HE.out]; exact Nat.le_refl _
    refine ⟨(((((HBZ.out.setCell (p := ⟨be, 0, none⟩) hb q0).setCell (p := ⟨be, 1, none⟩) hb q1).setCell (p := ⟨be, 2, none⟩) hb q2).setCell (p := ⟨be, 3, none⟩) hb q3).setCell (p := ⟨be, 4, none⟩) hb q4).setCell (p := ⟨be, 5, none⟩) hb q5, ?_⟩
    exact (((((HBE.out.set 0 q0).set 1 q1).set 2 q2).set 3 q3).set 4 q4).set 5 q5
  rcases hat with ⟨i, hi, hid, hfi, rfl⟩ | ⟨hfi, rfl⟩
  · obtain ⟨pv, cv, rfl⟩ := rowS_slice HR.out.row
    have c0 := HR.out.blk.cell 0
    obtain ⟨g, rfl, _, hce⟩ := rowE_at HR.out.row hi
    have x0 := hce 0 _ rfl
    rw [Nat.add_zero] at x0
    have x1 := hce 1 _ rfl
    have x2 := hce 2 _ rfl
    have x3 := hce 3 _ rfl
    have x4 := hce 4 _ rfl
    have x5 := hce 5 _ rfl
    have HFI : Hid (findI s.L z = some s.L[i]) := hfi
    have hi8 : i < 8 := by have := HN.out; omega
    have hiL : (i : Int) < (s.L.length : Int) := by omega
    have r1 : decide ((i : Int) < 0) = false := decide_eq_false (by omega)
    obtain ⟨q, hq⟩ : ∃ q, s.L[i] = q := ⟨_, rfl⟩
    rw [hq] at HFI x0 x1 x2 x3 x4 x5
    have HGO : Hid (∃ a : Nat, a = 0) := ⟨0, rfl⟩
    clear hce hfi hid hq
    obtain ⟨q1, q2, q3, q4, q5, q6⟩ := q
    dsimp only at x0 x1 x2 x3 x4 x5
    generalize s.L.length = n at *
    clear HR
    go_wp2_with fail
    have HZ := HF.out (.int .u64 q1) (.int .i64 q2) (.int .i64 q3) (.int .i64 q4) (.int .i64 q5) (.int .i64 q6)
    have z0 := HZ.2.cell 0
    have z1 := HZ.2.cell 1
    have z2 := HZ.2.cell 2
    have z3 := HZ.2.cell 3
    have z4 := HZ.2.cell 4
    have z5 := HZ.2.cell 5
    refine bodyPost_ret (v := optV (some ⟨q1, q2, q3, q4, q5, q6⟩)) (by simp [results, Try.results34, go_sem, z0, z1, z2, z3, z4, z5, optV, En.v]) rfl ⟨by rw [HFI.out], HZ.1⟩
  · have HFI : Hid (findI s.L z = none) := hfi
    have r1 : decide ((-1 : Int) < 0) = true := by decide
    clear hfi HR
    go_wp2_with fail
    have HZ := HF.out (.int .u64 0) (.int .i64 0) (.int .i64 0) (.int .i64 0) (.int .i64 0) (.int .i64 0)
    have z0 := HZ.2.cell 0
    have z1 := HZ.2.cell 1
    have z2 := HZ.2.cell 2
    have z3 := HZ.2.cell 3
    have z4 := HZ.2.cell 4
    have z5 := HZ.2.cell 5
    refine bodyPost_ret (v := optV none) (by simp [results, Try.results34, go_sem, z0, z1, z2, z3, z4, z5, optV, En.v, En.zero]) rfl ⟨by rw [HFI.out], HZ.1⟩

end Go.Proofs.Ytlckconhhhllkaa
