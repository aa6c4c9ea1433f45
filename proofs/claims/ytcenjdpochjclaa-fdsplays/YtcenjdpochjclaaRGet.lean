/-
  The document's New and Get.
-/
import Derived.Test.YtcenjdpochjclaaRef
namespace Go.Proofs.Ytcenjdpochjclaa
open Go.RowKit

theorem row_made (W : World) (e : TypeId) (xs : List Value) (h : xs.length ≤ 1000) : (W.alloc (.cells xs.toArray e)).ownsRow W.heap.size e 1 (.slice (some ⟨W.heap.size, 0, none⟩) xs.length xs.length) xs.length xs :=
  ⟨by simp, .inr ⟨W.heap.size, xs.length, xs.toArray, rfl, Nat.le_refl _, heap_alloc_new _ _, Nat.le_refl _, by unfold maxLen; omega, by simp, by simp⟩⟩
theorem rnew_any (w : World) : Calls Try.prog 9 #[] w fun e w' => ∃ b, e = .returned (.pointer (some ⟨b, 0, none⟩)) ∧ RfT w' w.heap.size b [(0, 0), (1, 1), (2, 2)] ∧ Below w.heap.size w w' := by
  have A1 := row_made w 3 (cellsN [0, 1, 2]) (by decide)
  have A2 := row_made (w.alloc (.cells (cellsN [0, 1, 2]).toArray 3)) 3 (cellsN [0, 1, 2]) (by decide)
  have b1 := below_new w (.cells (cellsN [0, 1, 2]).toArray 3)
  have b2 := below_new (w.alloc (.cells (cellsN [0, 1, 2]).toArray 3)) (.cells (cellsN [0, 1, 2]).toArray 3)
  have b3 := below_new ((w.alloc (.cells (cellsN [0, 1, 2]).toArray 3)).alloc (.cells (cellsN [0, 1, 2]).toArray 3)) (.cells #[.slice (some ⟨w.heap.size, 0, none⟩) 3 3, .slice (some ⟨w.heap.size + 1, 0, none⟩) 3 3] 34)
  have s1 : (w.alloc (.cells (cellsN [0, 1, 2]).toArray 3)).heap.size = w.heap.size + 1 := size_alloc' _ _
  have s2 : ((w.alloc (.cells (cellsN [0, 1, 2]).toArray 3)).alloc (.cells (cellsN [0, 1, 2]).toArray 3)).heap.size = w.heap.size + 1 + 1 := by rw [size_alloc', s1]
  have HE : Hid (RfC (((w.alloc (.cells (cellsN [0, 1, 2]).toArray 3)).alloc (.cells (cellsN [0, 1, 2]).toArray 3)).alloc (.cells #[.slice (some ⟨w.heap.size, 0, none⟩) 3 3, .slice (some ⟨w.heap.size + 1, 0, none⟩) 3 3] 34)) w.heap.size (w.heap.size + 1 + 1) (.slice (some ⟨w.heap.size, 0, none⟩) 3 3) (.slice (some ⟨w.heap.size + 1, 0, none⟩) 3 3) [0, 1, 2] [0, 1, 2] ∧ Below w.heap.size w (((w.alloc (.cells (cellsN [0, 1, 2]).toArray 3)).alloc (.cells (cellsN [0, 1, 2]).toArray 3)).alloc (.cells #[.slice (some ⟨w.heap.size, 0, none⟩) 3 3, .slice (some ⟨w.heap.size + 1, 0, none⟩) 3 3] 34))) := by
    refine ⟨⟨by omega, ?_, ?_, ?_, ?_⟩, b1.trans ((b2.mono (by omega)).trans (b3.mono (by omega)))⟩
    · have := blk_new ((w.alloc (.cells (cellsN [0, 1, 2]).toArray 3)).alloc (.cells (cellsN [0, 1, 2]).toArray 3)) #[.slice (some ⟨w.heap.size, 0, none⟩) 3 3, .slice (some ⟨w.heap.size + 1, 0, none⟩) 3 3] 34
      rw [s2] at this
      exact this
    · exact owns_below (owns_below A1 b2 (Nat.le_refl _)) b3 (Nat.le_refl _)
    · have := owns_lower (owns_below A2 b3 (Nat.le_refl _)) (B' := w.heap.size) (by omega)
      rw [s1] at this
      exact this
    · intro g e1 e2
      simp [Value.ownBlock] at e1 e2
      omega
  clear A1 A2 b1 b2 b3 s1 s2
  go_enter Try.func9, Try.ntmps9
  go_wp2_with fail
  go_ret
  exact ⟨w.heap.size + 1 + 1, by simp, ⟨_, _, HE.out.1⟩, HE.out.2⟩

set_option maxHeartbeats 4000000 in
theorem rget_any (w : World) (base b : Nat) (z : Int) (T : Tm) (h : RfT w base b T) (hlen : T.length ≤ 1000) :
    Calls Try.prog 13 #[.pointer (some ⟨b, 0, none⟩), .int .i64 z] w fun e w' => e = .returned (.tuple #[.int .i64 ((lookT T z).getD 0), .bool (lookT T z).isSome]) ∧ w' = w := by
  obtain ⟨vi, vl, hr⟩ := h
  obtain ⟨pi, ci, rfl⟩ := row_slice hr.ri
  obtain ⟨pl, cl, rfl⟩ := row_slice hr.rl
  obtain ⟨n, hn⟩ : ∃ n, T.length = n := ⟨_, rfl⟩
  have hki : (keys T).length = n := by rw [keys_len, hn]
  have hkl : (lefts T).length = n := by rw [lefts_len, hn]
  rw [hki, hkl] at hr
  have HR : Hid (RfC w base b (.slice pi n ci) (.slice pl n cl) (keys T) (lefts T)) := hr
  have HN : Hid (T.length = n) := hn
  have c0 : w.cell? ⟨b, 0, none⟩ = some (.slice pi n ci) := hr.blk.cell 0
  have c1 : w.cell? ⟨b, 1, none⟩ = some (.slice pl n cl) := hr.blk.cell 1
  have hn1000 : n ≤ 1000 := by omega
  obtain ⟨LO, hLO⟩ : ∃ o, lookT T z = o := ⟨_, rfl⟩
  have HLO : Hid (lookT T z = LO) := hLO
  rw [hLO]
  clear hr hlen hLO
  go_enter Try.func13, Try.ntmps13
  go_wp2_with fail
  go_loopw [6] (fun v6 wr => ∃ i : Nat, v6 = .int .i64 i ∧ i ≤ n ∧ z ∉ (keys T).take i ∧ wr = w) (fun v6 _ => n - (intOf v6).toNat)
  case atStart => exact ⟨0, rfl, Nat.zero_le _, by simp, rfl⟩
  case round =>
    obtain ⟨i, rfl, hi, hnin, hw⟩ := hrel
    subst hw
    by_cases hlt : i < n
    · have hi1 : (i : Int) < (n : Int) := by omega
      have hik : i < (keys T).length := by omega
      have hil : i < (lefts T).length := by omega
      obtain ⟨gi, rfl, _, hci⟩ := row_at HR.out.ri hik
      obtain ⟨gl, rfl, _, hcl⟩ := row_at HR.out.rl hil
      obtain ⟨y, hy⟩ : ∃ y, (keys T)[i] = y := ⟨_, rfl⟩
      obtain ⟨x, hx⟩ : ∃ x, (lefts T)[i] = x := ⟨_, rfl⟩
      rw [hy] at hci
      rw [hx] at hcl
      have HNX : Hid (y ≠ z → z ∉ (keys T).take (i + 1)) := fun hne hm => by
        rw [List.take_succ_eq_append_getElem hik, List.mem_append, List.mem_singleton] at hm
        rcases hm with hm | hm
        · exact hnin hm
        · exact hne (hy.symm.trans hm.symm)
      have HFD : Hid (y = z → LO = some x) := fun hyz => by
        have hiT : i < T.length := by rw [HN.out]; exact hlt
        have h1 : T[i].1 = z := by
          rw [← hyz, ← hy, keys_get hik hiT]
        have h2 : T[i].2 = x := by
          rw [← hx, lefts_get hil hiT]
        rw [← HLO.out, lookT_first hiT hnin h1, h2]
      clear hy hx hik hil hnin
      by_cases hyz : y = z
      · have hyd : (y == z) = true := by simp [hyz]
        have HF : Hid (LO = some x) := HFD.out hyz
        clear HNX HFD hyz
        go_wp2_with fail
        go_ret2
        exact ⟨by rw [HF.out]; rfl, rfl⟩
      · have hyd : (y == z) = false := by simp [hyz]
        have HX : Hid (z ∉ (keys T).take (i + 1)) := HNX.out hyz
        clear HNX HFD hyz
        go_wp2_with fail
        go_roundw
        case rel => exact ⟨i + 1, by go_num, hlt, HX.out, by trivial⟩
        case measure => simp [intOf]; omega
    · have hi1 : ¬ (i : Int) < (n : Int) := by omega
      have HF : Hid (LO = none) := by
        show _ = _
        rw [← HLO.out]
        refine lookT_not fun hm => hnin ?_
        rw [List.take_of_length_le (by omega)]
        exact hm
      clear hnin
      go_wp2_with fail
      go_ret2
      exact ⟨by rw [HF.out]; rfl, rfl⟩

end Go.Proofs.Ytcenjdpochjclaa
