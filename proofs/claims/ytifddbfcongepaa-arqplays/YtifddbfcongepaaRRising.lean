/-
  The document's Rising.
-/
import Derived.Test.YtifddbfcongepaaLate2
import Derived.Test.YtifddbfcongepaaOpen
import Derived.BigQuiet
import Derived.Deep.DeepCutAuto
namespace Go.Proofs.Ytifddbfcongepaa
open Go.RowKit Go.Maps

set_option maxRecDepth 8000 in
set_option maxHeartbeats 16000000 in
theorem rrising_any (w : World) (a : Option Addr) (len cap : Nat) (l : List Int) (h : NumR w a len l) (hnd : l.Nodup) (hl : len ≤ 1000) : Calls Try.prog 19 #[.slice a len cap] w fun e w' => RsgR w l e w' := by
  obtain rfl : len = l.length := h.1.symm
  have HR : Hid (NumR w a l.length l) := h
  have HND : Hid (l.Nodup) := hnd
  clear h hnd
  go_enter Try.func19, Try.ntmps19
  go_wp2_with fail
  go_loopw [3, 4] (fun v3 v4 wr => ∃ (i : Nat) (ts : List Int), v4 = .int .i64 i ∧ i ≤ l.length ∧ wr.ownsRow w.heap.size 31 1 v3 ts.length (cellsZ ts) ∧ Rise ts ∧ (∀ z, z ∈ ts ↔ z ∈ l.take i) ∧ Below w.heap.size w wr) (fun _ v4 _ => l.length - (intOf v4).toNat)
  case atStart => exact ⟨0, [], rfl, Nat.zero_le _, ⟨rfl, .inl ⟨rfl, rfl⟩⟩, List.Pairwise.nil, (by simp), Below.refl _ _⟩
  case round =>
    obtain ⟨i, ts, rfl, hi, hrow, hri, hts, hb⟩ := hrel
    obtain ⟨p, c, rfl⟩ := row_slice hrow
    have HTS : Hid (Rise ts ∧ ∀ z, z ∈ ts ↔ z ∈ l.take i) := ⟨hri, hts⟩
    have HB : Hid (Below w.heap.size w wr ∧ wr.ownsRow w.heap.size 31 1 (.slice p ts.length c) ts.length (cellsZ ts)) := ⟨hb, hrow⟩
    have HLN : Hid (ts.length ≤ 1000) := by
      have := nodup_le ts (l.take i) hri.nodup fun z hz => (hts z).1 hz
      show ts.length ≤ 1000
      rw [List.length_take] at this
      omega
    have htl : ts.length ≤ 1000 := HLN.out
    clear hrow hri hts hb
    by_cases hlt : i < l.length
    · have hi1 : (i : Int) < (l.length : Int) := by omega
      have HLT : Hid (i < l.length) := hlt
      obtain ⟨gi, oi, rfl, hci0, _⟩ := HR.out.at hlt
      obtain ⟨zi, hzi⟩ : ∃ z, l[i] = z := ⟨_, rfl⟩
      have HZI : Hid (l[i] = zi) := hzi
      replace hci0 : w.cell? ⟨gi, oi + i, none⟩ = some (.int .u64 zi) := by rw [← hzi]; exact hci0
      have HCI : Hid (∀ X, Below w.heap.size w X → X.cell? ⟨gi, oi + i, none⟩ = some (.int .u64 zi)) := fun X hX => by
        rw [hX.cell (p := ⟨gi, oi + i, none⟩) (World.block_lt_of_cell? w _ hci0)]
        exact hci0
      have HNI : Hid (zi ∉ ts) := fun hm => by
        obtain ⟨j, hj, e⟩ := List.getElem_of_mem ((HTS.out.2 zi).1 hm)
        rw [List.length_take] at hj
        rw [List.getElem_take, ← hzi] at e
        have := (List.pairwise_iff_getElem.1 HND.out) j i (by omega) hlt (by omega)
        exact this e
      clear hzi hci0
      go_wp2_with fail
      go_loopw [5] (fun v5 wz => ∃ k : Nat, v5 = .int .i64 k ∧ k ≤ ts.length ∧ (∀ (j : Nat) (z : Int), j < k → ts[j]? = some z → z < zi) ∧ Below w.heap.size w wz ∧ wz.ownsRow w.heap.size 31 1 (.slice p ts.length c) ts.length (cellsZ ts)) (fun v5 _ => ts.length - (intOf v5).toNat)
      case atStart => exact ⟨0, rfl, Nat.zero_le _, (fun j z h => absurd h (Nat.not_lt_zero j)), HB.out⟩
      case round =>
        obtain ⟨k, rfl, hk, hlts, hb, hrow⟩ := hrel
        have HLTS : Hid (∀ (j : Nat) (z : Int), j < k → ts[j]? = some z → z < zi) := hlts
        have HBD : Hid (∀ m, Below w.heap.size w (wr.drewN m) ∧ (wr.drewN m).ownsRow w.heap.size 31 1 (.slice p ts.length c) ts.length (cellsZ ts)) := fun m => ⟨hb.trans ((below_drewN wr m).mono hb.size), owns_below hrow (below_drewN wr m) (Nat.le_refl _)⟩
        have hci : wr.cell? ⟨gi, oi + i, none⟩ = some (.int .u64 zi) := HCI.out wr hb
        clear hlts
        by_cases hkl : k < ts.length
        · have hk1 : (k : Int) < (ts.length : Int) := by omega
          have hk2 : decide ((k : Int) < (ts.length : Int)) = true := decide_eq_true hk1
          obtain ⟨g3, rfl, _, hck⟩ := row_at hrow hkl
          obtain ⟨zk, hzk⟩ : ∃ z, ts[k] = z := ⟨_, rfl⟩
          replace hck : wr.cell? ⟨g3, k, none⟩ = some (.int .u64 zk) := by rw [← hzk]; exact hck
          clear hrow hb
          by_cases hzz : zk < zi
          · have hzd : decide (zk < zi) = true := decide_eq_true hzz
            have HNX : Hid (∀ (j : Nat) (z : Int), j < k + 1 → ts[j]? = some z → z < zi) := fun j z hj e => by
              by_cases hjk : j = k
              · subst hjk
                rw [List.getElem?_eq_getElem hkl, hzk] at e
                cases e
                exact hzz
              · exact HLTS.out j z (by omega) e
            go_wp2_with fail
            go_quiet (fail)
            go_wp2_with fail
            go_roundw
            case rel => exact ⟨k + 1, by go_num, hkl, HNX.out, (HBD.out _).1, (HBD.out _).2⟩
            case measure => simp [intOf]; omega
          · have hzd : decide (zk < zi) = false := decide_eq_false hzz
            have HGE : Hid (∀ z, ts[k]? = some z → zi < z) := fun z e => by
              rw [List.getElem?_eq_getElem hkl, hzk] at e
              cases e
              have : zi ≠ zk := fun e => HNI.out (by rw [e, ← hzk]; exact List.getElem_mem hkl)
              omega
            clear hzk
            go_wp2_with fail
            go_quiet (fail)
            have HRI : Hid (Rise (ts.take k ++ [zi] ++ ts.drop k) ∧ ∀ z, z ∈ ts.take k ++ [zi] ++ ts.drop k ↔ z ∈ l.take (i + 1)) := by
              obtain ⟨q1, q2⟩ := rise_in HTS.out.1 HLTS.out hk HGE.out
              refine ⟨q1, fun z => (q2 z).trans ?_⟩
              rw [HTS.out.2 z, List.take_succ_eq_append_getElem HLT.out, List.mem_append, List.mem_singleton, ← HZI.out]
              exact Iff.rfl
            clear HGE HLTS
            go_wp2_with fail
            have HD0 := HBD.out nq
            generalize (wr.drewN nq) = W0 at *
            have hrd : W0.drew.ownsRow w.heap.size 31 1 (.slice (some ⟨g3, 0, none⟩) ts.length c) ts.length (cellsZ ts) := HD0.2
            have HWD : Hid (Below w.heap.size w W0.drew ∧ w.heap.size ≤ W0.drew.heap.size) := ⟨HD0.1.drew, HD0.1.size⟩
            have HCX : Hid (∀ X, Below W0.drew.heap.size W0.drew X → X.cell? ⟨gi, oi + i, none⟩ = some (.int .u64 zi)) := fun X hX => HCI.out X (HWD.out.1.trans (hX.mono HWD.out.2))
            obtain ⟨x32, s32, e32⟩ := cut_hi ety_u hrd k hk
            obtain ⟨x42, s42, e42⟩ := cut_lo ety_u hrd k hk
            have HSL : Hid (Sc W0.drew x32 (cellsZ (ts.take k)) ∧ Sc W0.drew x42 (cellsZ (ts.drop k))) := ⟨by unfold cellsZ; rw [List.map_take]; exact s32, by unfold cellsZ; rw [List.map_drop]; exact s42⟩
            have E32 : Hid (∀ w, (Instr.sliceAt 37 (.slice (some ⟨g3, 0, none⟩) ts.length c) none (some (.int .i64 k)) none).run Try.prog w = .ok x32 w) := e32
            have E42 : Hid (∀ w, (Instr.sliceAt 37 (.slice (some ⟨g3, 0, none⟩) ts.length c) (some (.int .i64 k)) none none).run Try.prog w = .ok x42 w) := e42
            clear HD0 hrd s32 s42 e32 e42 HBD HB
            refine wp_region_late (E := []) (S := fun X => Below W0.drew.heap.size W0.drew X) (by kernel_rfl) (Below.refl _ _) (fun hHeld => ?_)
            simp only [List.size_toArray, List.length_cons, List.length_nil, Nat.reduceAdd]
            generalize W0.drew = wd at *
            refine wpAnyL_take [] (i := 1) (v := ?_) (by kernel_rfl) (by kernel_rfl) (by kernel_rfl) rfl (by kernel_rfl) (by kernel_rfl) (by kernel_rfl) (fun _ _ _ h => h) (Or.inl ⟨by rfl, ?_⟩) hHeld ?_
            rotate_left
            · (intro w hSw; (try dsimp only at hSw); skip; go_simp; try with_reducible rfl)
            try simp only [Act.put, List.setIfInBounds_toArray, List.set_cons_zero, List.set_cons_succ, List.getElem_toArray, List.getElem_cons_zero, List.getElem_cons_succ]
            refine wpAnyL_take [] (i := 2) (v := ?_) (by kernel_rfl) (by kernel_rfl) (by kernel_rfl) rfl (by kernel_rfl) (by kernel_rfl) (by kernel_rfl) (fun _ _ _ h => h) (Or.inl ⟨by rfl, ?_⟩) hHeld ?_
            rotate_left
            · (intro w hSw; (try dsimp only at hSw); skip; go_simp; try with_reducible rfl)
            try simp only [Act.put, List.setIfInBounds_toArray, List.set_cons_zero, List.set_cons_succ, List.getElem_toArray, List.getElem_cons_zero, List.getElem_cons_succ]
            refine wpAnyL_take [] (i := 3) (v := ?_) (by kernel_rfl) (by kernel_rfl) (by kernel_rfl) rfl (by kernel_rfl) (by kernel_rfl) (by kernel_rfl) (fun _ _ _ h => h) (Or.inl ⟨by rfl, ?_⟩) hHeld ?_
            rotate_left
            · (intro w hSw; (try dsimp only at hSw); have e32 := E32.out; go_simp; try with_reducible rfl)
            try simp only [Act.put, List.setIfInBounds_toArray, List.set_cons_zero, List.set_cons_succ, List.getElem_toArray, List.getElem_cons_zero, List.getElem_cons_succ]
            refine wpAnyL_take [] (i := 5) (v := ?_) (by kernel_rfl) (by kernel_rfl) (by kernel_rfl) rfl (by kernel_rfl) (by kernel_rfl) (by kernel_rfl) (fun _ _ _ h => h) (Or.inl ⟨by rfl, ?_⟩) hHeld ?_
            rotate_left
            · (intro w hSw; (try dsimp only at hSw); skip; go_simp; try with_reducible rfl)
            try simp only [Act.put, List.setIfInBounds_toArray, List.set_cons_zero, List.set_cons_succ, List.getElem_toArray, List.getElem_cons_zero, List.getElem_cons_succ]
            refine wpAnyL_take [] (i := 6) (v := ?_) (by kernel_rfl) (by kernel_rfl) (by kernel_rfl) rfl (by kernel_rfl) (by kernel_rfl) (by kernel_rfl) (fun _ _ _ h => h) (Or.inl ⟨by rfl, ?_⟩) hHeld ?_
            rotate_left
            · (intro w hSw; (try dsimp only at hSw); skip; go_simp; try with_reducible rfl)
            try simp only [Act.put, List.setIfInBounds_toArray, List.set_cons_zero, List.set_cons_succ, List.getElem_toArray, List.getElem_cons_zero, List.getElem_cons_succ]
            refine wpAnyL_take [] (i := 7) (v := ?_) (by kernel_rfl) (by kernel_rfl) (by kernel_rfl) rfl (by kernel_rfl) (by kernel_rfl) (by kernel_rfl) (fun _ _ _ h => h) (Or.inl ⟨by rfl, ?_⟩) hHeld ?_
            rotate_left
            · (intro w hSw; (try dsimp only at hSw); skip; go_simp; try with_reducible rfl)
            try simp only [Act.put, List.setIfInBounds_toArray, List.set_cons_zero, List.set_cons_succ, List.getElem_toArray, List.getElem_cons_zero, List.getElem_cons_succ]
            refine wpAnyL_take [] (i := 8) (v := ?_) (by kernel_rfl) (by kernel_rfl) (by kernel_rfl) rfl (by kernel_rfl) (by kernel_rfl) (by kernel_rfl) (fun _ _ _ h => h) (Or.inl ⟨by rfl, ?_⟩) hHeld ?_
            rotate_left
            · (intro w hSw; (try dsimp only at hSw); have hc := HCX.out _ hSw; go_simp; try with_reducible rfl)
            try simp only [Act.put, List.setIfInBounds_toArray, List.set_cons_zero, List.set_cons_succ, List.getElem_toArray, List.getElem_cons_zero, List.getElem_cons_succ]
            refine wpAnyL_take [] (i := 11) (v := ?_) (by kernel_rfl) (by kernel_rfl) (by kernel_rfl) rfl (by kernel_rfl) (by kernel_rfl) (by kernel_rfl) (fun _ _ _ h => h) (Or.inl ⟨by rfl, ?_⟩) hHeld ?_
            rotate_left
            · (intro w hSw; (try dsimp only at hSw); skip; go_simp; try with_reducible rfl)
            try simp only [Act.put, List.setIfInBounds_toArray, List.set_cons_zero, List.set_cons_succ, List.getElem_toArray, List.getElem_cons_zero, List.getElem_cons_succ]
            refine wpAnyL_take [] (i := 12) (v := ?_) (by kernel_rfl) (by kernel_rfl) (by kernel_rfl) rfl (by kernel_rfl) (by kernel_rfl) (by kernel_rfl) (fun _ _ _ h => h) (Or.inl ⟨by rfl, ?_⟩) hHeld ?_
            rotate_left
            · (intro w hSw; (try dsimp only at hSw); skip; go_simp; try with_reducible rfl)
            try simp only [Act.put, List.setIfInBounds_toArray, List.set_cons_zero, List.set_cons_succ, List.getElem_toArray, List.getElem_cons_zero, List.getElem_cons_succ]
            refine wpAnyL_take [] (i := 13) (v := ?_) (by kernel_rfl) (by kernel_rfl) (by kernel_rfl) rfl (by kernel_rfl) (by kernel_rfl) (by kernel_rfl) (fun _ _ _ h => h) (Or.inl ⟨by rfl, ?_⟩) hHeld ?_
            rotate_left
            · (intro w hSw; (try dsimp only at hSw); have e42 := E42.out; go_simp; try with_reducible rfl)
            try simp only [Act.put, List.setIfInBounds_toArray, List.set_cons_zero, List.set_cons_succ, List.getElem_toArray, List.getElem_cons_zero, List.getElem_cons_succ]
            refine wpAnyL_two (i := 0) (j := 9) (by kernel_rfl) rfl rfl (fun K hK => ?_) (fun K hK => ?_)
            · go_simp
              have s0 : Below wd.heap.size wd (wd.alloc (.cells #[] 31)) := hHeld.trans ((below_new _ _).mono hHeld.size)
              have R0 : Hid ((wd.alloc (.cells #[] 31)).ownsRow wd.heap.size 31 1 (.slice (some ⟨wd.heap.size, 0, none⟩) 0 0) 0 []) := by
                have := row_fresh wd 31
                try rw [size_alloc'] at this
                exact owns_lower this (by first | exact Nat.le_refl _ | exact Nat.le_succ _ | exact hHeld.size)
              refine hK.out _ _ (fun _ => s0) ?_
              replace hHeld := s0
              clear hK K
              try simp only [Act.put, List.setIfInBounds_toArray, List.set_cons_zero, List.set_cons_succ, List.getElem_toArray, List.getElem_cons_zero, List.getElem_cons_succ]
              refine wpAnyL_two (i := 4) (j := 9) (by kernel_rfl) rfl rfl (fun K hK => ?_) (fun K hK => ?_)
              · refine step_app ety_u rfl _ _ rfl rfl rfl R0.out (Sc.over HSL.out.1 hHeld) (one_z _) (by have := HLN.out; simp [cellsZ]; omega) hHeld.size (fun v4 w4 ha4 => ?_)
                have s4 : Below wd.heap.size wd w4 := ha4.below R0.out hHeld
                have R4 : Hid (w4.ownsRow wd.heap.size 31 1 v4 ([] ++ cellsZ (ts.take k)).length ([] ++ cellsZ (ts.take k))) := ha4.own
                clear ha4
                refine hK.out _ _ (fun _ => s4) ?_
                replace hHeld := s4
                clear hK K
                try simp only [Act.put, List.setIfInBounds_toArray, List.set_cons_zero, List.set_cons_succ, List.getElem_toArray, List.getElem_cons_zero, List.getElem_cons_succ]
                refine wpAnyL_one (i := 9) (by kernel_rfl) rfl (fun K hK => ?_)
                go_simp
                have s9 : Below wd.heap.size wd (w4.alloc (.cells #[.int .u64 zi] 31)) := hHeld.trans ((below_new _ _).mono hHeld.size)
                have C9 : Hid (Sc (w4.alloc (.cells #[.int .u64 zi] 31)) (.slice (some ⟨w4.heap.size, 0, none⟩) 1 1) (cellsZ [zi])) := by
                  have := sc_one w4 (.int .u64 zi) 31
                  try rw [size_alloc'] at this
                  exact this
                refine hK.out _ _ (fun _ => s9) ?_
                replace hHeld := s9
                clear hK K
                try simp only [Act.put, List.setIfInBounds_toArray, List.set_cons_zero, List.set_cons_succ, List.getElem_toArray, List.getElem_cons_zero, List.getElem_cons_succ]
                refine wpAnyL_one (i := 10) (by kernel_rfl) rfl (fun K hK => ?_)
                refine step_app ety_u rfl _ _ rfl rfl rfl (R4.out.alloc _) C9.out (one_z _) (by have := HLN.out; simp [cellsZ]; omega) hHeld.size (fun v10 w10 ha10 => ?_)
                have s10 : Below wd.heap.size wd w10 := ha10.below (R4.out.alloc _) hHeld
                have R10 : Hid (w10.ownsRow wd.heap.size 31 1 v10 ([] ++ cellsZ (ts.take k) ++ cellsZ [zi]).length ([] ++ cellsZ (ts.take k) ++ cellsZ [zi])) := ha10.own
                clear ha10
                refine hK.out _ _ (fun _ => s10) ?_
                replace hHeld := s10
                clear hK K
                try simp only [Act.put, List.setIfInBounds_toArray, List.set_cons_zero, List.set_cons_succ, List.getElem_toArray, List.getElem_cons_zero, List.getElem_cons_succ]
                refine wpAnyL_one (i := 14) (by kernel_rfl) rfl (fun K hK => ?_)
                refine step_app ety_u rfl _ _ rfl rfl rfl R10.out (Sc.over HSL.out.2 hHeld) (one_z _) (by have := HLN.out; simp [cellsZ]; omega) hHeld.size (fun v14 w14 ha14 => ?_)
                have s14 : Below wd.heap.size wd w14 := ha14.below R10.out hHeld
                have R14 : Hid (w14.ownsRow wd.heap.size 31 1 v14 ([] ++ cellsZ (ts.take k) ++ cellsZ [zi] ++ cellsZ (ts.drop k)).length ([] ++ cellsZ (ts.take k) ++ cellsZ [zi] ++ cellsZ (ts.drop k))) := ha14.own
                clear ha14
                refine hK.out _ _ (fun _ => s14) ?_
                replace hHeld := s14
                clear hK K
                try simp only [Act.put, List.setIfInBounds_toArray, List.set_cons_zero, List.set_cons_succ, List.getElem_toArray, List.getElem_cons_zero, List.getElem_cons_succ]
                refine wpAnyL_one (i := 15) (by kernel_rfl) rfl (fun K hK => ?_)
                go_simp
                refine hK.out _ _ (fun _ => s14) ?_
                clear hK K
                try simp only [Act.put, List.setIfInBounds_toArray, List.set_cons_zero, List.set_cons_succ, List.getElem_toArray, List.getElem_cons_zero, List.getElem_cons_succ]
                refine wpAnyL_done (by kernel_rfl) ?_ _
                have HEQ : Hid ([] ++ cellsZ (ts.take k) ++ cellsZ [zi] ++ cellsZ (ts.drop k) = cellsZ (ts.take k ++ [zi] ++ ts.drop k)) := by
                  show _ = _
                  simp [cellsZ]
                have R15 : Hid (w14.ownsRow w.heap.size 31 1 v14 (ts.take k ++ [zi] ++ ts.drop k).length (cellsZ (ts.take k ++ [zi] ++ ts.drop k))) := by
                  have := R14.out
                  rw [HEQ.out, show (cellsZ (ts.take k ++ [zi] ++ ts.drop k)).length = (ts.take k ++ [zi] ++ ts.drop k).length from by simp [cellsZ]] at this
                  exact owns_lower this HWD.out.2
                have B15 : Hid (Below w.heap.size w w14) := HWD.out.1.trans (s14.mono HWD.out.2)
                go_wp2_with fail
                go_roundw
                case rel => exact ⟨i + 1, ts.take k ++ [zi] ++ ts.drop k, by go_num, HLT.out, R15.out, HRI.out.1, HRI.out.2, B15.out⟩
                case measure => simp [intOf]; have := HLT.out; omega
              · go_simp
                have s9 : Below wd.heap.size wd ((wd.alloc (.cells #[] 31)).alloc (.cells #[.int .u64 zi] 31)) := hHeld.trans ((below_new _ _).mono hHeld.size)
                have C9 : Hid (Sc ((wd.alloc (.cells #[] 31)).alloc (.cells #[.int .u64 zi] 31)) (.slice (some ⟨wd.heap.size + 1, 0, none⟩) 1 1) (cellsZ [zi])) := by
                  have := sc_one (wd.alloc (.cells #[] 31)) (.int .u64 zi) 31
                  try rw [size_alloc'] at this
                  exact this
                refine hK.out _ _ (fun _ => s9) ?_
                replace hHeld := s9
                clear hK K
                try simp only [Act.put, List.setIfInBounds_toArray, List.set_cons_zero, List.set_cons_succ, List.getElem_toArray, List.getElem_cons_zero, List.getElem_cons_succ]
                refine wpAnyL_one (i := 4) (by kernel_rfl) rfl (fun K hK => ?_)
                refine step_app ety_u rfl _ _ rfl rfl rfl (R0.out.alloc _) (Sc.over HSL.out.1 hHeld) (one_z _) (by have := HLN.out; simp [cellsZ]; omega) hHeld.size (fun v4 w4 ha4 => ?_)
                have s4 : Below wd.heap.size wd w4 := ha4.below (R0.out.alloc _) hHeld
                have R4 : Hid (w4.ownsRow wd.heap.size 31 1 v4 ([] ++ cellsZ (ts.take k)).length ([] ++ cellsZ (ts.take k))) := ha4.own
                have C10 : Hid (Sc w4 (.slice (some ⟨wd.heap.size + 1, 0, none⟩) 1 1) (cellsZ [zi])) := C9.out.grown ha4.grow (fun g e e2 => by have q1 : wd.heap.size + 1 = g := Option.some.inj e; have q2 : wd.heap.size = g := Option.some.inj e2; omega)
                clear ha4
                refine hK.out _ _ (fun _ => s4) ?_
                replace hHeld := s4
                clear hK K
                try simp only [Act.put, List.setIfInBounds_toArray, List.set_cons_zero, List.set_cons_succ, List.getElem_toArray, List.getElem_cons_zero, List.getElem_cons_succ]
                refine wpAnyL_one (i := 10) (by kernel_rfl) rfl (fun K hK => ?_)
                refine step_app ety_u rfl _ _ rfl rfl rfl R4.out C10.out (one_z _) (by have := HLN.out; simp [cellsZ]; omega) hHeld.size (fun v10 w10 ha10 => ?_)
                have s10 : Below wd.heap.size wd w10 := ha10.below R4.out hHeld
                have R10 : Hid (w10.ownsRow wd.heap.size 31 1 v10 ([] ++ cellsZ (ts.take k) ++ cellsZ [zi]).length ([] ++ cellsZ (ts.take k) ++ cellsZ [zi])) := ha10.own
                clear ha10
                refine hK.out _ _ (fun _ => s10) ?_
                replace hHeld := s10
                clear hK K
                try simp only [Act.put, List.setIfInBounds_toArray, List.set_cons_zero, List.set_cons_succ, List.getElem_toArray, List.getElem_cons_zero, List.getElem_cons_succ]
                refine wpAnyL_one (i := 14) (by kernel_rfl) rfl (fun K hK => ?_)
                refine step_app ety_u rfl _ _ rfl rfl rfl R10.out (Sc.over HSL.out.2 hHeld) (one_z _) (by have := HLN.out; simp [cellsZ]; omega) hHeld.size (fun v14 w14 ha14 => ?_)
                have s14 : Below wd.heap.size wd w14 := ha14.below R10.out hHeld
                have R14 : Hid (w14.ownsRow wd.heap.size 31 1 v14 ([] ++ cellsZ (ts.take k) ++ cellsZ [zi] ++ cellsZ (ts.drop k)).length ([] ++ cellsZ (ts.take k) ++ cellsZ [zi] ++ cellsZ (ts.drop k))) := ha14.own
                clear ha14
                refine hK.out _ _ (fun _ => s14) ?_
                replace hHeld := s14
                clear hK K
                try simp only [Act.put, List.setIfInBounds_toArray, List.set_cons_zero, List.set_cons_succ, List.getElem_toArray, List.getElem_cons_zero, List.getElem_cons_succ]
                refine wpAnyL_one (i := 15) (by kernel_rfl) rfl (fun K hK => ?_)
                go_simp
                refine hK.out _ _ (fun _ => s14) ?_
                clear hK K
                try simp only [Act.put, List.setIfInBounds_toArray, List.set_cons_zero, List.set_cons_succ, List.getElem_toArray, List.getElem_cons_zero, List.getElem_cons_succ]
                refine wpAnyL_done (by kernel_rfl) ?_ _
                have HEQ : Hid ([] ++ cellsZ (ts.take k) ++ cellsZ [zi] ++ cellsZ (ts.drop k) = cellsZ (ts.take k ++ [zi] ++ ts.drop k)) := by
                  show _ = _
                  simp [cellsZ]
                have R15 : Hid (w14.ownsRow w.heap.size 31 1 v14 (ts.take k ++ [zi] ++ ts.drop k).length (cellsZ (ts.take k ++ [zi] ++ ts.drop k))) := by
                  have := R14.out
                  rw [HEQ.out, show (cellsZ (ts.take k ++ [zi] ++ ts.drop k)).length = (ts.take k ++ [zi] ++ ts.drop k).length from by simp [cellsZ]] at this
                  exact owns_lower this HWD.out.2
                have B15 : Hid (Below w.heap.size w w14) := HWD.out.1.trans (s14.mono HWD.out.2)
                go_wp2_with fail
                go_roundw
                case rel => exact ⟨i + 1, ts.take k ++ [zi] ++ ts.drop k, by go_num, HLT.out, R15.out, HRI.out.1, HRI.out.2, B15.out⟩
                case measure => simp [intOf]; have := HLT.out; omega
            · go_simp
              have s9 : Below wd.heap.size wd (wd.alloc (.cells #[.int .u64 zi] 31)) := hHeld.trans ((below_new _ _).mono hHeld.size)
              have C9 : Hid (Sc (wd.alloc (.cells #[.int .u64 zi] 31)) (.slice (some ⟨wd.heap.size, 0, none⟩) 1 1) (cellsZ [zi])) := by
                have := sc_one wd (.int .u64 zi) 31
                try rw [size_alloc'] at this
                exact this
              refine hK.out _ _ (fun _ => s9) ?_
              replace hHeld := s9
              clear hK K
              try simp only [Act.put, List.setIfInBounds_toArray, List.set_cons_zero, List.set_cons_succ, List.getElem_toArray, List.getElem_cons_zero, List.getElem_cons_succ]
              refine wpAnyL_one (i := 0) (by kernel_rfl) rfl (fun K hK => ?_)
              go_simp
              have s0 : Below wd.heap.size wd ((wd.alloc (.cells #[.int .u64 zi] 31)).alloc (.cells #[] 31)) := hHeld.trans ((below_new _ _).mono hHeld.size)
              have R0 : Hid (((wd.alloc (.cells #[.int .u64 zi] 31)).alloc (.cells #[] 31)).ownsRow wd.heap.size 31 1 (.slice (some ⟨wd.heap.size + 1, 0, none⟩) 0 0) 0 []) := by
                have := row_fresh (wd.alloc (.cells #[.int .u64 zi] 31)) 31
                try rw [size_alloc'] at this
                exact owns_lower this (by first | exact Nat.le_refl _ | exact Nat.le_succ _ | exact hHeld.size)
              refine hK.out _ _ (fun _ => s0) ?_
              replace hHeld := s0
              clear hK K
              try simp only [Act.put, List.setIfInBounds_toArray, List.set_cons_zero, List.set_cons_succ, List.getElem_toArray, List.getElem_cons_zero, List.getElem_cons_succ]
              refine wpAnyL_one (i := 4) (by kernel_rfl) rfl (fun K hK => ?_)
              refine step_app ety_u rfl _ _ rfl rfl rfl R0.out (Sc.over HSL.out.1 hHeld) (one_z _) (by have := HLN.out; simp [cellsZ]; omega) hHeld.size (fun v4 w4 ha4 => ?_)
              have s4 : Below wd.heap.size wd w4 := ha4.below R0.out hHeld
              have R4 : Hid (w4.ownsRow wd.heap.size 31 1 v4 ([] ++ cellsZ (ts.take k)).length ([] ++ cellsZ (ts.take k))) := ha4.own
              have C10 : Hid (Sc w4 (.slice (some ⟨wd.heap.size, 0, none⟩) 1 1) (cellsZ [zi])) := (C9.out.over (below_new _ _)).grown ha4.grow (fun g e e2 => by have q1 : wd.heap.size = g := Option.some.inj e; have q2 : wd.heap.size + 1 = g := Option.some.inj e2; omega)
              clear ha4
              refine hK.out _ _ (fun _ => s4) ?_
              replace hHeld := s4
              clear hK K
              try simp only [Act.put, List.setIfInBounds_toArray, List.set_cons_zero, List.set_cons_succ, List.getElem_toArray, List.getElem_cons_zero, List.getElem_cons_succ]
              refine wpAnyL_one (i := 10) (by kernel_rfl) rfl (fun K hK => ?_)
              refine step_app ety_u rfl _ _ rfl rfl rfl R4.out C10.out (one_z _) (by have := HLN.out; simp [cellsZ]; omega) hHeld.size (fun v10 w10 ha10 => ?_)
              have s10 : Below wd.heap.size wd w10 := ha10.below R4.out hHeld
              have R10 : Hid (w10.ownsRow wd.heap.size 31 1 v10 ([] ++ cellsZ (ts.take k) ++ cellsZ [zi]).length ([] ++ cellsZ (ts.take k) ++ cellsZ [zi])) := ha10.own
              clear ha10
              refine hK.out _ _ (fun _ => s10) ?_
              replace hHeld := s10
              clear hK K
              try simp only [Act.put, List.setIfInBounds_toArray, List.set_cons_zero, List.set_cons_succ, List.getElem_toArray, List.getElem_cons_zero, List.getElem_cons_succ]
              refine wpAnyL_one (i := 14) (by kernel_rfl) rfl (fun K hK => ?_)
              refine step_app ety_u rfl _ _ rfl rfl rfl R10.out (Sc.over HSL.out.2 hHeld) (one_z _) (by have := HLN.out; simp [cellsZ]; omega) hHeld.size (fun v14 w14 ha14 => ?_)
              have s14 : Below wd.heap.size wd w14 := ha14.below R10.out hHeld
              have R14 : Hid (w14.ownsRow wd.heap.size 31 1 v14 ([] ++ cellsZ (ts.take k) ++ cellsZ [zi] ++ cellsZ (ts.drop k)).length ([] ++ cellsZ (ts.take k) ++ cellsZ [zi] ++ cellsZ (ts.drop k))) := ha14.own
              clear ha14
              refine hK.out _ _ (fun _ => s14) ?_
              replace hHeld := s14
              clear hK K
              try simp only [Act.put, List.setIfInBounds_toArray, List.set_cons_zero, List.set_cons_succ, List.getElem_toArray, List.getElem_cons_zero, List.getElem_cons_succ]
              refine wpAnyL_one (i := 15) (by kernel_rfl) rfl (fun K hK => ?_)
              go_simp
              refine hK.out _ _ (fun _ => s14) ?_
              clear hK K
              try simp only [Act.put, List.setIfInBounds_toArray, List.set_cons_zero, List.set_cons_succ, List.getElem_toArray, List.getElem_cons_zero, List.getElem_cons_succ]
              refine wpAnyL_done (by kernel_rfl) ?_ _
              have HEQ : Hid ([] ++ cellsZ (ts.take k) ++ cellsZ [zi] ++ cellsZ (ts.drop k) = cellsZ (ts.take k ++ [zi] ++ ts.drop k)) := by
                show _ = _
                simp [cellsZ]
              have R15 : Hid (w14.ownsRow w.heap.size 31 1 v14 (ts.take k ++ [zi] ++ ts.drop k).length (cellsZ (ts.take k ++ [zi] ++ ts.drop k))) := by
                have := R14.out
                rw [HEQ.out, show (cellsZ (ts.take k ++ [zi] ++ ts.drop k)).length = (ts.take k ++ [zi] ++ ts.drop k).length from by simp [cellsZ]] at this
                exact owns_lower this HWD.out.2
              have B15 : Hid (Below w.heap.size w w14) := HWD.out.1.trans (s14.mono HWD.out.2)
              go_wp2_with fail
              go_roundw
              case rel => exact ⟨i + 1, ts.take k ++ [zi] ++ ts.drop k, by go_num, HLT.out, R15.out, HRI.out.1, HRI.out.2, B15.out⟩
              case measure => simp [intOf]; have := HLT.out; omega
        · have hk1 : ¬ (k : Int) < (ts.length : Int) := by omega
          have hk2 : decide ((k : Int) < (ts.length : Int)) = false := decide_eq_false hk1
          have HGE : Hid (∀ z, ts[k]? = some z → zi < z) := fun z e => by
            have := (List.getElem?_eq_some_iff.1 e).1
            omega
          clear hrow hb
          go_wp2_with fail
          go_quiet (fail)
          have HRI : Hid (Rise (ts.take k ++ [zi] ++ ts.drop k) ∧ ∀ z, z ∈ ts.take k ++ [zi] ++ ts.drop k ↔ z ∈ l.take (i + 1)) := by
            obtain ⟨q1, q2⟩ := rise_in HTS.out.1 HLTS.out hk HGE.out
            refine ⟨q1, fun z => (q2 z).trans ?_⟩
            rw [HTS.out.2 z, List.take_succ_eq_append_getElem HLT.out, List.mem_append, List.mem_singleton, ← HZI.out]
            exact Iff.rfl
          clear HGE HLTS
          go_wp2_with fail
          have HD0 := HBD.out nq
          generalize (wr.drewN nq) = W0 at *
          have hrd : W0.drew.ownsRow w.heap.size 31 1 (.slice p ts.length c) ts.length (cellsZ ts) := HD0.2
          have HWD : Hid (Below w.heap.size w W0.drew ∧ w.heap.size ≤ W0.drew.heap.size) := ⟨HD0.1.drew, HD0.1.size⟩
          have HCX : Hid (∀ X, Below W0.drew.heap.size W0.drew X → X.cell? ⟨gi, oi + i, none⟩ = some (.int .u64 zi)) := fun X hX => HCI.out X (HWD.out.1.trans (hX.mono HWD.out.2))
          obtain ⟨x32, s32, e32⟩ := cut_hi ety_u hrd k hk
          obtain ⟨x42, s42, e42⟩ := cut_lo ety_u hrd k hk
          have HSL : Hid (Sc W0.drew x32 (cellsZ (ts.take k)) ∧ Sc W0.drew x42 (cellsZ (ts.drop k))) := ⟨by unfold cellsZ; rw [List.map_take]; exact s32, by unfold cellsZ; rw [List.map_drop]; exact s42⟩
          have E32 : Hid (∀ w, (Instr.sliceAt 37 (.slice p ts.length c) none (some (.int .i64 k)) none).run Try.prog w = .ok x32 w) := e32
          have E42 : Hid (∀ w, (Instr.sliceAt 37 (.slice p ts.length c) (some (.int .i64 k)) none none).run Try.prog w = .ok x42 w) := e42
          clear HD0 hrd s32 s42 e32 e42 HBD HB
          refine wp_region_late (E := []) (S := fun X => Below W0.drew.heap.size W0.drew X) (by kernel_rfl) (Below.refl _ _) (fun hHeld => ?_)
          simp only [List.size_toArray, List.length_cons, List.length_nil, Nat.reduceAdd]
          generalize W0.drew = wd at *
          refine wpAnyL_take [] (i := 1) (v := ?_) (by kernel_rfl) (by kernel_rfl) (by kernel_rfl) rfl (by kernel_rfl) (by kernel_rfl) (by kernel_rfl) (fun _ _ _ h => h) (Or.inl ⟨by rfl, ?_⟩) hHeld ?_
          rotate_left
          · (intro w hSw; (try dsimp only at hSw); skip; go_simp; try with_reducible rfl)
          try simp only [Act.put, List.setIfInBounds_toArray, List.set_cons_zero, List.set_cons_succ, List.getElem_toArray, List.getElem_cons_zero, List.getElem_cons_succ]
          refine wpAnyL_take [] (i := 2) (v := ?_) (by kernel_rfl) (by kernel_rfl) (by kernel_rfl) rfl (by kernel_rfl) (by kernel_rfl) (by kernel_rfl) (fun _ _ _ h => h) (Or.inl ⟨by rfl, ?_⟩) hHeld ?_
          rotate_left
          · (intro w hSw; (try dsimp only at hSw); skip; go_simp; try with_reducible rfl)
          try simp only [Act.put, List.setIfInBounds_toArray, List.set_cons_zero, List.set_cons_succ, List.getElem_toArray, List.getElem_cons_zero, List.getElem_cons_succ]
          refine wpAnyL_take [] (i := 3) (v := ?_) (by kernel_rfl) (by kernel_rfl) (by kernel_rfl) rfl (by kernel_rfl) (by kernel_rfl) (by kernel_rfl) (fun _ _ _ h => h) (Or.inl ⟨by rfl, ?_⟩) hHeld ?_
          rotate_left
          · (intro w hSw; (try dsimp only at hSw); have e32 := E32.out; go_simp; try with_reducible rfl)
          try simp only [Act.put, List.setIfInBounds_toArray, List.set_cons_zero, List.set_cons_succ, List.getElem_toArray, List.getElem_cons_zero, List.getElem_cons_succ]
          refine wpAnyL_take [] (i := 5) (v := ?_) (by kernel_rfl) (by kernel_rfl) (by kernel_rfl) rfl (by kernel_rfl) (by kernel_rfl) (by kernel_rfl) (fun _ _ _ h => h) (Or.inl ⟨by rfl, ?_⟩) hHeld ?_
          rotate_left
          · (intro w hSw; (try dsimp only at hSw); skip; go_simp; try with_reducible rfl)
          try simp only [Act.put, List.setIfInBounds_toArray, List.set_cons_zero, List.set_cons_succ, List.getElem_toArray, List.getElem_cons_zero, List.getElem_cons_succ]
          refine wpAnyL_take [] (i := 6) (v := ?_) (by kernel_rfl) (by kernel_rfl) (by kernel_rfl) rfl (by kernel_rfl) (by kernel_rfl) (by kernel_rfl) (fun _ _ _ h => h) (Or.inl ⟨by rfl, ?_⟩) hHeld ?_
          rotate_left
          · (intro w hSw; (try dsimp only at hSw); skip; go_simp; try with_reducible rfl)
          try simp only [Act.put, List.setIfInBounds_toArray, List.set_cons_zero, List.set_cons_succ, List.getElem_toArray, List.getElem_cons_zero, List.getElem_cons_succ]
          refine wpAnyL_take [] (i := 7) (v := ?_) (by kernel_rfl) (by kernel_rfl) (by kernel_rfl) rfl (by kernel_rfl) (by kernel_rfl) (by kernel_rfl) (fun _ _ _ h => h) (Or.inl ⟨by rfl, ?_⟩) hHeld ?_
          rotate_left
          · (intro w hSw; (try dsimp only at hSw); skip; go_simp; try with_reducible rfl)
          try simp only [Act.put, List.setIfInBounds_toArray, List.set_cons_zero, List.set_cons_succ, List.getElem_toArray, List.getElem_cons_zero, List.getElem_cons_succ]
          refine wpAnyL_take [] (i := 8) (v := ?_) (by kernel_rfl) (by kernel_rfl) (by kernel_rfl) rfl (by kernel_rfl) (by kernel_rfl) (by kernel_rfl) (fun _ _ _ h => h) (Or.inl ⟨by rfl, ?_⟩) hHeld ?_
          rotate_left
          · (intro w hSw; (try dsimp only at hSw); have hc := HCX.out _ hSw; go_simp; try with_reducible rfl)
          try simp only [Act.put, List.setIfInBounds_toArray, List.set_cons_zero, List.set_cons_succ, List.getElem_toArray, List.getElem_cons_zero, List.getElem_cons_succ]
          refine wpAnyL_take [] (i := 11) (v := ?_) (by kernel_rfl) (by kernel_rfl) (by kernel_rfl) rfl (by kernel_rfl) (by kernel_rfl) (by kernel_rfl) (fun _ _ _ h => h) (Or.inl ⟨by rfl, ?_⟩) hHeld ?_
          rotate_left
          · (intro w hSw; (try dsimp only at hSw); skip; go_simp; try with_reducible rfl)
          try simp only [Act.put, List.setIfInBounds_toArray, List.set_cons_zero, List.set_cons_succ, List.getElem_toArray, List.getElem_cons_zero, List.getElem_cons_succ]
          refine wpAnyL_take [] (i := 12) (v := ?_) (by kernel_rfl) (by kernel_rfl) (by kernel_rfl) rfl (by kernel_rfl) (by kernel_rfl) (by kernel_rfl) (fun _ _ _ h => h) (Or.inl ⟨by rfl, ?_⟩) hHeld ?_
          rotate_left
          · (intro w hSw; (try dsimp only at hSw); skip; go_simp; try with_reducible rfl)
          try simp only [Act.put, List.setIfInBounds_toArray, List.set_cons_zero, List.set_cons_succ, List.getElem_toArray, List.getElem_cons_zero, List.getElem_cons_succ]
          refine wpAnyL_take [] (i := 13) (v := ?_) (by kernel_rfl) (by kernel_rfl) (by kernel_rfl) rfl (by kernel_rfl) (by kernel_rfl) (by kernel_rfl) (fun _ _ _ h => h) (Or.inl ⟨by rfl, ?_⟩) hHeld ?_
          rotate_left
          · (intro w hSw; (try dsimp only at hSw); have e42 := E42.out; go_simp; try with_reducible rfl)
          try simp only [Act.put, List.setIfInBounds_toArray, List.set_cons_zero, List.set_cons_succ, List.getElem_toArray, List.getElem_cons_zero, List.getElem_cons_succ]
          refine wpAnyL_two (i := 0) (j := 9) (by kernel_rfl) rfl rfl (fun K hK => ?_) (fun K hK => ?_)
          · go_simp
            have s0 : Below wd.heap.size wd (wd.alloc (.cells #[] 31)) := hHeld.trans ((below_new _ _).mono hHeld.size)
            have R0 : Hid ((wd.alloc (.cells #[] 31)).ownsRow wd.heap.size 31 1 (.slice (some ⟨wd.heap.size, 0, none⟩) 0 0) 0 []) := by
              have := row_fresh wd 31
              try rw [size_alloc'] at this
              exact owns_lower this (by first | exact Nat.le_refl _ | exact Nat.le_succ _ | exact hHeld.size)
            refine hK.out _ _ (fun _ => s0) ?_
            replace hHeld := s0
            clear hK K
            try simp only [Act.put, List.setIfInBounds_toArray, List.set_cons_zero, List.set_cons_succ, List.getElem_toArray, List.getElem_cons_zero, List.getElem_cons_succ]
            refine wpAnyL_two (i := 4) (j := 9) (by kernel_rfl) rfl rfl (fun K hK => ?_) (fun K hK => ?_)
            · refine step_app ety_u rfl _ _ rfl rfl rfl R0.out (Sc.over HSL.out.1 hHeld) (one_z _) (by have := HLN.out; simp [cellsZ]; omega) hHeld.size (fun v4 w4 ha4 => ?_)
              have s4 : Below wd.heap.size wd w4 := ha4.below R0.out hHeld
              have R4 : Hid (w4.ownsRow wd.heap.size 31 1 v4 ([] ++ cellsZ (ts.take k)).length ([] ++ cellsZ (ts.take k))) := ha4.own
              clear ha4
              refine hK.out _ _ (fun _ => s4) ?_
              replace hHeld := s4
              clear hK K
              try simp only [Act.put, List.setIfInBounds_toArray, List.set_cons_zero, List.set_cons_succ, List.getElem_toArray, List.getElem_cons_zero, List.getElem_cons_succ]
              refine wpAnyL_one (i := 9) (by kernel_rfl) rfl (fun K hK => ?_)
              go_simp
              have s9 : Below wd.heap.size wd (w4.alloc (.cells #[.int .u64 zi] 31)) := hHeld.trans ((below_new _ _).mono hHeld.size)
              have C9 : Hid (Sc (w4.alloc (.cells #[.int .u64 zi] 31)) (.slice (some ⟨w4.heap.size, 0, none⟩) 1 1) (cellsZ [zi])) := by
                have := sc_one w4 (.int .u64 zi) 31
                try rw [size_alloc'] at this
                exact this
              refine hK.out _ _ (fun _ => s9) ?_
              replace hHeld := s9
              clear hK K
              try simp only [Act.put, List.setIfInBounds_toArray, List.set_cons_zero, List.set_cons_succ, List.getElem_toArray, List.getElem_cons_zero, List.getElem_cons_succ]
              refine wpAnyL_one (i := 10) (by kernel_rfl) rfl (fun K hK => ?_)
              refine step_app ety_u rfl _ _ rfl rfl rfl (R4.out.alloc _) C9.out (one_z _) (by have := HLN.out; simp [cellsZ]; omega) hHeld.size (fun v10 w10 ha10 => ?_)
              have s10 : Below wd.heap.size wd w10 := ha10.below (R4.out.alloc _) hHeld
              have R10 : Hid (w10.ownsRow wd.heap.size 31 1 v10 ([] ++ cellsZ (ts.take k) ++ cellsZ [zi]).length ([] ++ cellsZ (ts.take k) ++ cellsZ [zi])) := ha10.own
              clear ha10
              refine hK.out _ _ (fun _ => s10) ?_
              replace hHeld := s10
              clear hK K
              try simp only [Act.put, List.setIfInBounds_toArray, List.set_cons_zero, List.set_cons_succ, List.getElem_toArray, List.getElem_cons_zero, List.getElem_cons_succ]
              refine wpAnyL_one (i := 14) (by kernel_rfl) rfl (fun K hK => ?_)
              refine step_app ety_u rfl _ _ rfl rfl rfl R10.out (Sc.over HSL.out.2 hHeld) (one_z _) (by have := HLN.out; simp [cellsZ]; omega) hHeld.size (fun v14 w14 ha14 => ?_)
              have s14 : Below wd.heap.size wd w14 := ha14.below R10.out hHeld
              have R14 : Hid (w14.ownsRow wd.heap.size 31 1 v14 ([] ++ cellsZ (ts.take k) ++ cellsZ [zi] ++ cellsZ (ts.drop k)).length ([] ++ cellsZ (ts.take k) ++ cellsZ [zi] ++ cellsZ (ts.drop k))) := ha14.own
              clear ha14
              refine hK.out _ _ (fun _ => s14) ?_
              replace hHeld := s14
              clear hK K
              try simp only [Act.put, List.setIfInBounds_toArray, List.set_cons_zero, List.set_cons_succ, List.getElem_toArray, List.getElem_cons_zero, List.getElem_cons_succ]
              refine wpAnyL_one (i := 15) (by kernel_rfl) rfl (fun K hK => ?_)
              go_simp
              refine hK.out _ _ (fun _ => s14) ?_
              clear hK K
              try simp only [Act.put, List.setIfInBounds_toArray, List.set_cons_zero, List.set_cons_succ, List.getElem_toArray, List.getElem_cons_zero, List.getElem_cons_succ]
              refine wpAnyL_done (by kernel_rfl) ?_ _
              have HEQ : Hid ([] ++ cellsZ (ts.take k) ++ cellsZ [zi] ++ cellsZ (ts.drop k) = cellsZ (ts.take k ++ [zi] ++ ts.drop k)) := by
                show _ = _
                simp [cellsZ]
              have R15 : Hid (w14.ownsRow w.heap.size 31 1 v14 (ts.take k ++ [zi] ++ ts.drop k).length (cellsZ (ts.take k ++ [zi] ++ ts.drop k))) := by
                have := R14.out
                rw [HEQ.out, show (cellsZ (ts.take k ++ [zi] ++ ts.drop k)).length = (ts.take k ++ [zi] ++ ts.drop k).length from by simp [cellsZ]] at this
                exact owns_lower this HWD.out.2
              have B15 : Hid (Below w.heap.size w w14) := HWD.out.1.trans (s14.mono HWD.out.2)
              go_wp2_with fail
              go_roundw
              case rel => exact ⟨i + 1, ts.take k ++ [zi] ++ ts.drop k, by go_num, HLT.out, R15.out, HRI.out.1, HRI.out.2, B15.out⟩
              case measure => simp [intOf]; have := HLT.out; omega
            · go_simp
              have s9 : Below wd.heap.size wd ((wd.alloc (.cells #[] 31)).alloc (.cells #[.int .u64 zi] 31)) := hHeld.trans ((below_new _ _).mono hHeld.size)
              have C9 : Hid (Sc ((wd.alloc (.cells #[] 31)).alloc (.cells #[.int .u64 zi] 31)) (.slice (some ⟨wd.heap.size + 1, 0, none⟩) 1 1) (cellsZ [zi])) := by
                have := sc_one (wd.alloc (.cells #[] 31)) (.int .u64 zi) 31
                try rw [size_alloc'] at this
                exact this
              refine hK.out _ _ (fun _ => s9) ?_
              replace hHeld := s9
              clear hK K
              try simp only [Act.put, List.setIfInBounds_toArray, List.set_cons_zero, List.set_cons_succ, List.getElem_toArray, List.getElem_cons_zero, List.getElem_cons_succ]
              refine wpAnyL_one (i := 4) (by kernel_rfl) rfl (fun K hK => ?_)
              refine step_app ety_u rfl _ _ rfl rfl rfl (R0.out.alloc _) (Sc.over HSL.out.1 hHeld) (one_z _) (by have := HLN.out; simp [cellsZ]; omega) hHeld.size (fun v4 w4 ha4 => ?_)
              have s4 : Below wd.heap.size wd w4 := ha4.below (R0.out.alloc _) hHeld
              have R4 : Hid (w4.ownsRow wd.heap.size 31 1 v4 ([] ++ cellsZ (ts.take k)).length ([] ++ cellsZ (ts.take k))) := ha4.own
              have C10 : Hid (Sc w4 (.slice (some ⟨wd.heap.size + 1, 0, none⟩) 1 1) (cellsZ [zi])) := C9.out.grown ha4.grow (fun g e e2 => by have q1 : wd.heap.size + 1 = g := Option.some.inj e; have q2 : wd.heap.size = g := Option.some.inj e2; omega)
              clear ha4
              refine hK.out _ _ (fun _ => s4) ?_
              replace hHeld := s4
              clear hK K
              try simp only [Act.put, List.setIfInBounds_toArray, List.set_cons_zero, List.set_cons_succ, List.getElem_toArray, List.getElem_cons_zero, List.getElem_cons_succ]
              refine wpAnyL_one (i := 10) (by kernel_rfl) rfl (fun K hK => ?_)
              refine step_app ety_u rfl _ _ rfl rfl rfl R4.out C10.out (one_z _) (by have := HLN.out; simp [cellsZ]; omega) hHeld.size (fun v10 w10 ha10 => ?_)
              have s10 : Below wd.heap.size wd w10 := ha10.below R4.out hHeld
              have R10 : Hid (w10.ownsRow wd.heap.size 31 1 v10 ([] ++ cellsZ (ts.take k) ++ cellsZ [zi]).length ([] ++ cellsZ (ts.take k) ++ cellsZ [zi])) := ha10.own
              clear ha10
              refine hK.out _ _ (fun _ => s10) ?_
              replace hHeld := s10
              clear hK K
              try simp only [Act.put, List.setIfInBounds_toArray, List.set_cons_zero, List.set_cons_succ, List.getElem_toArray, List.getElem_cons_zero, List.getElem_cons_succ]
              refine wpAnyL_one (i := 14) (by kernel_rfl) rfl (fun K hK => ?_)
              refine step_app ety_u rfl _ _ rfl rfl rfl R10.out (Sc.over HSL.out.2 hHeld) (one_z _) (by have := HLN.out; simp [cellsZ]; omega) hHeld.size (fun v14 w14 ha14 => ?_)
              have s14 : Below wd.heap.size wd w14 := ha14.below R10.out hHeld
              have R14 : Hid (w14.ownsRow wd.heap.size 31 1 v14 ([] ++ cellsZ (ts.take k) ++ cellsZ [zi] ++ cellsZ (ts.drop k)).length ([] ++ cellsZ (ts.take k) ++ cellsZ [zi] ++ cellsZ (ts.drop k))) := ha14.own
              clear ha14
              refine hK.out _ _ (fun _ => s14) ?_
              replace hHeld := s14
              clear hK K
              try simp only [Act.put, List.setIfInBounds_toArray, List.set_cons_zero, List.set_cons_succ, List.getElem_toArray, List.getElem_cons_zero, List.getElem_cons_succ]
              refine wpAnyL_one (i := 15) (by kernel_rfl) rfl (fun K hK => ?_)
              go_simp
              refine hK.out _ _ (fun _ => s14) ?_
              clear hK K
              try simp only [Act.put, List.setIfInBounds_toArray, List.set_cons_zero, List.set_cons_succ, List.getElem_toArray, List.getElem_cons_zero, List.getElem_cons_succ]
              refine wpAnyL_done (by kernel_rfl) ?_ _
              have HEQ : Hid ([] ++ cellsZ (ts.take k) ++ cellsZ [zi] ++ cellsZ (ts.drop k) = cellsZ (ts.take k ++ [zi] ++ ts.drop k)) := by
                show _ = _
                simp [cellsZ]
              have R15 : Hid (w14.ownsRow w.heap.size 31 1 v14 (ts.take k ++ [zi] ++ ts.drop k).length (cellsZ (ts.take k ++ [zi] ++ ts.drop k))) := by
                have := R14.out
                rw [HEQ.out, show (cellsZ (ts.take k ++ [zi] ++ ts.drop k)).length = (ts.take k ++ [zi] ++ ts.drop k).length from by simp [cellsZ]] at this
                exact owns_lower this HWD.out.2
              have B15 : Hid (Below w.heap.size w w14) := HWD.out.1.trans (s14.mono HWD.out.2)
              go_wp2_with fail
              go_roundw
              case rel => exact ⟨i + 1, ts.take k ++ [zi] ++ ts.drop k, by go_num, HLT.out, R15.out, HRI.out.1, HRI.out.2, B15.out⟩
              case measure => simp [intOf]; have := HLT.out; omega
          · go_simp
            have s9 : Below wd.heap.size wd (wd.alloc (.cells #[.int .u64 zi] 31)) := hHeld.trans ((below_new _ _).mono hHeld.size)
            have C9 : Hid (Sc (wd.alloc (.cells #[.int .u64 zi] 31)) (.slice (some ⟨wd.heap.size, 0, none⟩) 1 1) (cellsZ [zi])) := by
              have := sc_one wd (.int .u64 zi) 31
              try rw [size_alloc'] at this
              exact this
            refine hK.out _ _ (fun _ => s9) ?_
            replace hHeld := s9
            clear hK K
            try simp only [Act.put, List.setIfInBounds_toArray, List.set_cons_zero, List.set_cons_succ, List.getElem_toArray, List.getElem_cons_zero, List.getElem_cons_succ]
            refine wpAnyL_one (i := 0) (by kernel_rfl) rfl (fun K hK => ?_)
            go_simp
            have s0 : Below wd.heap.size wd ((wd.alloc (.cells #[.int .u64 zi] 31)).alloc (.cells #[] 31)) := hHeld.trans ((below_new _ _).mono hHeld.size)
            have R0 : Hid (((wd.alloc (.cells #[.int .u64 zi] 31)).alloc (.cells #[] 31)).ownsRow wd.heap.size 31 1 (.slice (some ⟨wd.heap.size + 1, 0, none⟩) 0 0) 0 []) := by
              have := row_fresh (wd.alloc (.cells #[.int .u64 zi] 31)) 31
              try rw [size_alloc'] at this
              exact owns_lower this (by first | exact Nat.le_refl _ | exact Nat.le_succ _ | exact hHeld.size)
            refine hK.out _ _ (fun _ => s0) ?_
            replace hHeld := s0
            clear hK K
            try simp only [Act.put, List.setIfInBounds_toArray, List.set_cons_zero, List.set_cons_succ, List.getElem_toArray, List.getElem_cons_zero, List.getElem_cons_succ]
            refine wpAnyL_one (i := 4) (by kernel_rfl) rfl (fun K hK => ?_)
            refine step_app ety_u rfl _ _ rfl rfl rfl R0.out (Sc.over HSL.out.1 hHeld) (one_z _) (by have := HLN.out; simp [cellsZ]; omega) hHeld.size (fun v4 w4 ha4 => ?_)
            have s4 : Below wd.heap.size wd w4 := ha4.below R0.out hHeld
            have R4 : Hid (w4.ownsRow wd.heap.size 31 1 v4 ([] ++ cellsZ (ts.take k)).length ([] ++ cellsZ (ts.take k))) := ha4.own
            have C10 : Hid (Sc w4 (.slice (some ⟨wd.heap.size, 0, none⟩) 1 1) (cellsZ [zi])) := (C9.out.over (below_new _ _)).grown ha4.grow (fun g e e2 => by have q1 : wd.heap.size = g := Option.some.inj e; have q2 : wd.heap.size + 1 = g := Option.some.inj e2; omega)
            clear ha4
            refine hK.out _ _ (fun _ => s4) ?_
            replace hHeld := s4
            clear hK K
            try simp only [Act.put, List.setIfInBounds_toArray, List.set_cons_zero, List.set_cons_succ, List.getElem_toArray, List.getElem_cons_zero, List.getElem_cons_succ]
            refine wpAnyL_one (i := 10) (by kernel_rfl) rfl (fun K hK => ?_)
            refine step_app ety_u rfl _ _ rfl rfl rfl R4.out C10.out (one_z _) (by have := HLN.out; simp [cellsZ]; omega) hHeld.size (fun v10 w10 ha10 => ?_)
            have s10 : Below wd.heap.size wd w10 := ha10.below R4.out hHeld
            have R10 : Hid (w10.ownsRow wd.heap.size 31 1 v10 ([] ++ cellsZ (ts.take k) ++ cellsZ [zi]).length ([] ++ cellsZ (ts.take k) ++ cellsZ [zi])) := ha10.own
            clear ha10
            refine hK.out _ _ (fun _ => s10) ?_
            replace hHeld := s10
            clear hK K
            try simp only [Act.put, List.setIfInBounds_toArray, List.set_cons_zero, List.set_cons_succ, List.getElem_toArray, List.getElem_cons_zero, List.getElem_cons_succ]
            refine wpAnyL_one (i := 14) (by kernel_rfl) rfl (fun K hK => ?_)
            refine step_app ety_u rfl _ _ rfl rfl rfl R10.out (Sc.over HSL.out.2 hHeld) (one_z _) (by have := HLN.out; simp [cellsZ]; omega) hHeld.size (fun v14 w14 ha14 => ?_)
            have s14 : Below wd.heap.size wd w14 := ha14.below R10.out hHeld
            have R14 : Hid (w14.ownsRow wd.heap.size 31 1 v14 ([] ++ cellsZ (ts.take k) ++ cellsZ [zi] ++ cellsZ (ts.drop k)).length ([] ++ cellsZ (ts.take k) ++ cellsZ [zi] ++ cellsZ (ts.drop k))) := ha14.own
            clear ha14
            refine hK.out _ _ (fun _ => s14) ?_
            replace hHeld := s14
            clear hK K
            try simp only [Act.put, List.setIfInBounds_toArray, List.set_cons_zero, List.set_cons_succ, List.getElem_toArray, List.getElem_cons_zero, List.getElem_cons_succ]
            refine wpAnyL_one (i := 15) (by kernel_rfl) rfl (fun K hK => ?_)
            go_simp
            refine hK.out _ _ (fun _ => s14) ?_
            clear hK K
            try simp only [Act.put, List.setIfInBounds_toArray, List.set_cons_zero, List.set_cons_succ, List.getElem_toArray, List.getElem_cons_zero, List.getElem_cons_succ]
            refine wpAnyL_done (by kernel_rfl) ?_ _
            have HEQ : Hid ([] ++ cellsZ (ts.take k) ++ cellsZ [zi] ++ cellsZ (ts.drop k) = cellsZ (ts.take k ++ [zi] ++ ts.drop k)) := by
              show _ = _
              simp [cellsZ]
            have R15 : Hid (w14.ownsRow w.heap.size 31 1 v14 (ts.take k ++ [zi] ++ ts.drop k).length (cellsZ (ts.take k ++ [zi] ++ ts.drop k))) := by
              have := R14.out
              rw [HEQ.out, show (cellsZ (ts.take k ++ [zi] ++ ts.drop k)).length = (ts.take k ++ [zi] ++ ts.drop k).length from by simp [cellsZ]] at this
              exact owns_lower this HWD.out.2
            have B15 : Hid (Below w.heap.size w w14) := HWD.out.1.trans (s14.mono HWD.out.2)
            go_wp2_with fail
            go_roundw
            case rel => exact ⟨i + 1, ts.take k ++ [zi] ++ ts.drop k, by go_num, HLT.out, R15.out, HRI.out.1, HRI.out.2, B15.out⟩
            case measure => simp [intOf]; have := HLT.out; omega
    · have hi1 : ¬ (i : Int) < (l.length : Int) := by omega
      obtain rfl : i = l.length := by omega
      go_wp2_with fail
      go_ret
      exact ⟨_, ts, rfl, HB.out.2, HTS.out.1, fun z => by rw [HTS.out.2 z, List.take_length], HB.out.1⟩

end Go.Proofs.Ytifddbfcongepaa
