/-
  The program's table and the document's, side by side; one call at both.
-/
import Derived.Test.YtcenjdpochjclaaLaws1
import Derived.Test.YtcenjdpochjclaaRShut
import Derived.Test.YtcenjdpochjclaaOpen
namespace Go.Proofs.Ytcenjdpochjclaa
open Go.RowKit

theorem rft_lower {W : World} {base base' br : Nat} {R : Tm} (h : RfT W base br R) (hb : base' ≤ base) : RfT W base' br R := by
  obtain ⟨vi, vl, h⟩ := h
  exact ⟨vi, vl, Nat.le_trans hb h.bb, h.blk, owns_lower h.ri hb, owns_lower h.rl hb, h.ne⟩
theorem rft_fr {w w' : World} {base br b : Nat} {l : Fd} {T : Tm} (h : RfT w base br T) (ht : TbV w b l) (hf : Fr [] [b] 0 w w') : RfT w' base br T := by
  obtain ⟨vi, vl, h⟩ := h
  refine ⟨vi, vl, h.fr hf (by simp) (by simp) fun x hx cs fz => ?_⟩
  rw [List.mem_singleton] at hx
  subst hx
  have hb := ht.blk
  unfold Blk at hb
  rw [hb]
  exact ⟨fun e => by simp at e, fun e => by simp at e⟩
/-- both, and the law's own box. -/
structure Do (w W : World) (b br ob : Nat) (dd zz : Int) (l : Fd) (T : Tm) : Prop where
  t : TbF w W b l
  r : RfT W w.heap.size br T
  o : Blk W ob 30 [.int .i64 dd, .int .i64 zz]
  ne : ob ≠ b
section
variable {w W W' : World} {b br ob : Nat} {dd zz : Int} {l : Fd} {T : Tm}
theorem Do.stepT {l' : Fd} (h : Do w W b br ob dd zz l T) (ht : TbV W' b l') (hf : Fr [] [b] 0 W W') : Do w W' b br ob dd zz l' T :=
  ⟨h.t.step ht hf, rft_fr h.r h.t.tb hf, h.o.fr hf (by simp) (by simp; exact h.ne), h.ne⟩
theorem Do.stepR {T' : Tm} {L : List Nat} (h : Do w W b br ob dd zz l T) (hr : RfT W' w.heap.size br T') (hf : Fr L [] w.heap.size W W') (h1 : 51 ∉ L) (h2 : 30 ∉ L) : Do w W' b br ob dd zz l T' :=
  ⟨⟨h.t.tb.fr hf h1 (by simp), h.t.bel.trans hf.bel, h.t.b0⟩, hr, h.o.fr hf h2 (by simp), h.ne⟩
theorem do_install (h : Do w W b br ob dd zz l T) : Calls Try.prog 14 #[.pointer (some ⟨b, 0, none⟩), .int .i64 zz] W fun e w' => e = .returned (.tuple #[.int .i64 (spotF l), .int .i64 (fullF l)]) ∧ Do w w' b br ob dd zz (instF l zz) T := by
  refine (install_any b zz l W h.t.tb).mono ?_
  rintro e w' ⟨rfl, h1, h2⟩
  exact ⟨rfl, h.stepT h1 h2⟩
theorem do_close (h : Do w W b br ob dd zz l T) : Calls Try.prog 15 #[.pointer (some ⟨b, 0, none⟩), .int .i64 zz] W fun e w' => e = .returned (.int .i64 (noneF l zz)) ∧ Do w w' b br ob dd zz (shutF l zz) T := by
  refine (close_any b zz l W h.t.tb).mono ?_
  rintro e w' ⟨rfl, h1, h2⟩
  exact ⟨rfl, h.stepT h1 h2⟩
theorem do_rinstall {l' : Fd} (h : Do w W b br ob dd zz l' T) (hR : Rl l T) : Calls Try.prog 17 #[.pointer (some ⟨br, 0, none⟩), .int .i64 zz] W fun e w' => e = .returned (.tuple #[.int .i64 (spotF l), .int .i64 (fullF l)]) ∧ Do w w' b br ob dd zz l' (instT l T zz) := by
  refine (rinstall_any W w.heap.size br zz l T h.r hR h.t.bel.size).mono ?_
  rintro e w' ⟨rfl, h1, h2⟩
  exact ⟨rfl, h.stepR h1 h2 (by simp) (by simp)⟩
theorem do_rclose {l' : Fd} (h : Do w W b br ob dd zz l' T) (hR : Rl l T) : Calls Try.prog 18 #[.pointer (some ⟨br, 0, none⟩), .int .i64 zz] W fun e w' => e = .returned (.int .i64 (noneF l zz)) ∧ Do w w' b br ob dd zz l' (stopT T zz) := by
  refine (rclose_any W w.heap.size br zz l T h.r hR h.t.bel.size).mono ?_
  rintro e w' ⟨rfl, h1, h2⟩
  exact ⟨rfl, h.stepR h1 h2 (by simp) (by simp)⟩
end

/-- the program's table and the document's. -/
structure Pl (w W : World) (b br : Nat) (l : Fd) (T : Tm) : Prop where
  t : TbF w W b l
  r : RfT W w.heap.size br T
  rl : Rl l T
theorem Pl.over {w W W' : World} {b br : Nat} {l : Fd} {T : Tm} (h : Pl w W b br l T) (hb : Below W.heap.size W W') : Pl w W' b br l T := ⟨h.t.over hb, h.r.over hb, h.rl⟩
theorem Do.pl {w W : World} {b br ob : Nat} {dd zz : Int} {l : Fd} {T : Tm} (h : Do w W b br ob dd zz l T) (hR : Rl l T) : Pl w W b br l T := ⟨h.t, h.r, hR⟩

set_option maxHeartbeats 8000000 in
set_option maxRecDepth 8000 in
theorem does_any (w W : World) (b br : Nat) (dd zz : Int) (l : Fd) (T : Tm) (h : Pl w W b br l T) : Calls Try.prog 10 #[.pointer (some ⟨b, 0, none⟩), .pointer (some ⟨br, 0, none⟩), .agg #[.int .i64 dd, .int .i64 zz]] W fun e w' => e = .returned (.bool true) ∧ ∃ l' T', Pl w w' b br l' T' := by
  have HB : Hid (Blk (W.alloc (.cells #[.int .i64 dd, .int .i64 zz] 30)) W.heap.size 30 [.int .i64 dd, .int .i64 zz]) := blk_new W _ _
  have HD : Hid (Do w (W.alloc (.cells #[.int .i64 dd, .int .i64 zz] 30)) b br W.heap.size dd zz l T) := ⟨h.t.over (below_new W _), h.r.over (below_new W _), HB.out, by have := h.t.tb.blk.lt; omega⟩
  have HRL : Hid (Rl l T) := h.rl
  clear HB h
  by_cases hd0 : dd = 0 ∨ dd = 1
  · have HS : Hid (Rl (instF l zz) (instT l T zz)) := HRL.out.inst zz
    have hdd : (dd == 0) = true ∨ ((dd == 0) = false ∧ (dd == 1) = true) := by
      rcases hd0 with h | h
      · exact .inl (by simp [h])
      · exact .inr ⟨by simp [h], by simp [h]⟩
    clear hd0
    rcases hdd with hd1 | ⟨hd1, hd2⟩
    · go_enter Try.func10, Try.ntmps10
      go_upto_region 1 with fail
      generalize W.alloc (.cells #[.int .i64 dd, .int .i64 zz] 30) = W1 at *
      generalize W.heap.size = ob at *
      have cd : W1.cell? ⟨ob, 0, none⟩ = some (.int .i64 dd) := HD.out.o.cell 0
      have cz : W1.cell? ⟨ob, 1, none⟩ = some (.int .i64 zz) := HD.out.o.cell 1
      go_wp2_with fail
      refine (do_install HD.out).mono ?_
      rintro e w5 ⟨rfl, h5⟩
      have HD5 : Hid (Do w w5 b br ob dd zz (instF l zz) T) := h5
      have cz5 : w5.cell? ⟨ob, 1, none⟩ = some (.int .i64 zz) := h5.o.cell 1
      clear h5 HD cd cz
      go_wp2_with fail
      refine (do_rinstall HD5.out HRL.out).mono ?_
      rintro e w6 ⟨rfl, h6⟩
      have HD6 : Hid (Do w w6 b br ob dd zz (instF l zz) (instT l T zz)) := h6
      clear h6 HD5 cz5
      generalize spotF l = sp at *
      generalize fullF l = fu at *
      have e1 : (sp == sp) = true := by simp
      have e2 : (fu == fu) = true := by simp
      go_wp2_with fail
      go_ret
      exact ⟨rfl, _, _, HD6.out.pl HS.out⟩
    · go_enter Try.func10, Try.ntmps10
      go_upto_region 1 with fail
      generalize W.alloc (.cells #[.int .i64 dd, .int .i64 zz] 30) = W1 at *
      generalize W.heap.size = ob at *
      have cd : W1.cell? ⟨ob, 0, none⟩ = some (.int .i64 dd) := HD.out.o.cell 0
      have cz : W1.cell? ⟨ob, 1, none⟩ = some (.int .i64 zz) := HD.out.o.cell 1
      go_wp2_with fail
      refine (do_install HD.out).mono ?_
      rintro e w5 ⟨rfl, h5⟩
      have HD5 : Hid (Do w w5 b br ob dd zz (instF l zz) T) := h5
      have cz5 : w5.cell? ⟨ob, 1, none⟩ = some (.int .i64 zz) := h5.o.cell 1
      clear h5 HD cd cz
      go_wp2_with fail
      refine (do_rinstall HD5.out HRL.out).mono ?_
      rintro e w6 ⟨rfl, h6⟩
      have HD6 : Hid (Do w w6 b br ob dd zz (instF l zz) (instT l T zz)) := h6
      clear h6 HD5 cz5
      generalize spotF l = sp at *
      generalize fullF l = fu at *
      have e1 : (sp == sp) = true := by simp
      have e2 : (fu == fu) = true := by simp
      go_wp2_with fail
      go_ret
      exact ⟨rfl, _, _, HD6.out.pl HS.out⟩
  · have hd1 : (dd == 0) = false := by simp; omega
    have hd2 : (dd == 1) = false := by simp; omega
    have HS : Hid (Rl (shutF l zz) (stopT T zz)) := HRL.out.shut zz
    clear hd0
    go_enter Try.func10, Try.ntmps10
    go_upto_region 1 with fail
    generalize W.alloc (.cells #[.int .i64 dd, .int .i64 zz] 30) = W1 at *
    generalize W.heap.size = ob at *
    have cd : W1.cell? ⟨ob, 0, none⟩ = some (.int .i64 dd) := HD.out.o.cell 0
    go_wp2_with fail
    clear cd
    have HDD : Hid (Do w W1.drew b br ob dd zz l T) := ⟨HD.out.t.over (Below.refl _ _).drew, HD.out.r.over (Below.refl _ _).drew, HD.out.o.over (Below.refl _ _).drew, HD.out.ne⟩
    have cz : W1.drew.cell? ⟨ob, 1, none⟩ = some (.int .i64 zz) := HDD.out.o.cell 1
    replace HD := HDD
    clear HDD
    refine wp_region_late (E := []) (S := fun X => X.cell? ⟨ob, 1, none⟩ = some (.int .i64 zz)) (by kernel_rfl) (cz) (fun hHeld => ?_)
    simp only [List.size_toArray, List.length_cons, List.length_nil, Nat.reduceAdd]
    generalize W1.drew = wd at *
    refine wpAnyL_take [3, 8, 9] (i := 0) (v := ?_) (by kernel_rfl) (by kernel_rfl) (by kernel_rfl) rfl (by kernel_rfl) (by kernel_rfl) (by kernel_rfl) (fun _ _ _ h => h) (Or.inl ⟨by rfl, ?_⟩) hHeld ?_
    rotate_left
    · (intro w hSw; (try dsimp only at hSw); go_simp; try with_reducible rfl)
    try simp only [Act.put, List.setIfInBounds_toArray, List.set_cons_zero, List.set_cons_succ, List.getElem_toArray, List.getElem_cons_zero]
    refine wpAnyL_take [2, 3, 8, 9] (i := 1) (v := ?_) (by kernel_rfl) (by kernel_rfl) (by kernel_rfl) rfl (by kernel_rfl) (by kernel_rfl) (by kernel_rfl) (fun _ _ _ h => h) (Or.inl ⟨by rfl, ?_⟩) hHeld ?_
    rotate_left
    · (intro w hSw; (try dsimp only at hSw); go_simp; try with_reducible rfl)
    try simp only [Act.put, List.setIfInBounds_toArray, List.set_cons_zero, List.set_cons_succ, List.getElem_toArray, List.getElem_cons_zero, List.getElem_cons_succ]
    refine wpAnyL_take [3, 8, 9] (i := 2) (v := ?_) (by kernel_rfl) (by kernel_rfl) (by kernel_rfl) rfl (by kernel_rfl) (by kernel_rfl) (by kernel_rfl) (fun _ _ _ h => h) (Or.inl ⟨by rfl, ?_⟩) hHeld ?_
    rotate_left
    · (intro w hSw; (try dsimp only at hSw); go_simp; try with_reducible rfl)
    try simp only [Act.put, List.setIfInBounds_toArray, List.set_cons_zero, List.set_cons_succ, List.getElem_toArray, List.getElem_cons_zero, List.getElem_cons_succ]
    refine wpAnyL_take [7, 8, 9] (i := 4) (v := ?_) (by kernel_rfl) (by kernel_rfl) (by kernel_rfl) rfl (by kernel_rfl) (by kernel_rfl) (by kernel_rfl) (fun _ _ _ h => h) (Or.inl ⟨by rfl, ?_⟩) hHeld ?_
    rotate_left
    · (intro w hSw; (try dsimp only at hSw); go_simp; try with_reducible rfl)
    try simp only [Act.put, List.setIfInBounds_toArray, List.set_cons_zero, List.set_cons_succ, List.getElem_toArray, List.getElem_cons_zero, List.getElem_cons_succ]
    refine wpAnyL_take [6, 7, 8, 9] (i := 5) (v := ?_) (by kernel_rfl) (by kernel_rfl) (by kernel_rfl) rfl (by kernel_rfl) (by kernel_rfl) (by kernel_rfl) (fun _ _ _ h => h) (Or.inl ⟨by rfl, ?_⟩) hHeld ?_
    rotate_left
    · (intro w hSw; (try dsimp only at hSw); go_simp; try with_reducible rfl)
    try simp only [Act.put, List.setIfInBounds_toArray, List.set_cons_zero, List.set_cons_succ, List.getElem_toArray, List.getElem_cons_zero, List.getElem_cons_succ]
    refine wpAnyL_take [7, 8, 9] (i := 6) (v := ?_) (by kernel_rfl) (by kernel_rfl) (by kernel_rfl) rfl (by kernel_rfl) (by kernel_rfl) (by kernel_rfl) (fun _ _ _ h => h) (Or.inl ⟨by rfl, ?_⟩) hHeld ?_
    rotate_left
    · (intro w hSw; (try dsimp only at hSw); go_simp; try with_reducible rfl)
    try simp only [Act.put, List.setIfInBounds_toArray, List.set_cons_zero, List.set_cons_succ, List.getElem_toArray, List.getElem_cons_zero, List.getElem_cons_succ]
    refine wpAnyL_one (i := 3) (by kernel_rfl) rfl (fun K hK => ?_)
    go_simp
    go_at_call 15
    refine (do_close HD.out).mono ?_
    rintro e w5 ⟨rfl, h5⟩
    have HD5 : Hid (Do w w5 b br ob dd zz (shutF l zz) T) := h5
    have s1 : w5.cell? ⟨ob, 1, none⟩ = some (.int .i64 zz) := h5.o.cell 1
    clear h5
    refine hK.out _ _ (fun _ => s1) ?_
    replace hHeld := s1
    clear hK K
    try simp only [Act.put, List.setIfInBounds_toArray, List.set_cons_zero, List.set_cons_succ, List.getElem_toArray, List.getElem_cons_zero, List.getElem_cons_succ]
    refine wpAnyL_one (i := 7) (by kernel_rfl) rfl (fun K hK => ?_)
    go_simp
    go_at_call 18
    refine (do_rclose HD5.out HRL.out).mono ?_
    rintro e w6 ⟨rfl, h6⟩
    have HD6 : Hid (Do w w6 b br ob dd zz (shutF l zz) (stopT T zz)) := h6
    have s2 : w6.cell? ⟨ob, 1, none⟩ = some (.int .i64 zz) := h6.o.cell 1
    clear h6
    generalize noneF l zz = nz at *
    have e1 : (nz == nz) = true := by simp
    refine hK.out _ _ (fun _ => s2) ?_
    replace hHeld := s2
    clear hK K
    try simp only [Act.put, List.setIfInBounds_toArray, List.set_cons_zero, List.set_cons_succ, List.getElem_toArray, List.getElem_cons_zero, List.getElem_cons_succ]
    refine wpAnyL_take [9] (i := 8) (v := ?_) (by kernel_rfl) (by kernel_rfl) (by kernel_rfl) rfl (by kernel_rfl) (by kernel_rfl) (by kernel_rfl) (fun _ _ _ h => h) (Or.inl ⟨by rfl, ?_⟩) hHeld ?_
    rotate_left
    · (intro w hSw; (try dsimp only at hSw); go_simp; try with_reducible rfl)
    try simp only [Act.put, List.setIfInBounds_toArray, List.set_cons_zero, List.set_cons_succ, List.getElem_toArray, List.getElem_cons_zero, List.getElem_cons_succ]
    refine wpAnyL_take [] (i := 9) (v := ?_) (by kernel_rfl) (by kernel_rfl) (by kernel_rfl) rfl (by kernel_rfl) (by kernel_rfl) (by kernel_rfl) (fun _ _ _ h => h) (Or.inl ⟨by rfl, ?_⟩) hHeld ?_
    rotate_left
    · (intro w hSw; (try dsimp only at hSw); go_simp; try with_reducible rfl)
    try simp only [Act.put, List.setIfInBounds_toArray, List.set_cons_zero, List.set_cons_succ, List.getElem_toArray, List.getElem_cons_zero, List.getElem_cons_succ]
    refine wpAnyL_done (by kernel_rfl) ?_ _
    go_wp2_with fail
    go_ret
    exact ⟨rfl, _, _, HD6.out.pl HS.out⟩

end Go.Proofs.Ytcenjdpochjclaa
