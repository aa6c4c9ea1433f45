/-
  One of two programs; the program for a call that is met, and for one that is not.
-/
import Derived.Test.YtcckipimfgmmdaaGreatDoorKVer
import Derived.Test.YtcckipimfgmmdaaGreatDoorMNumbM
namespace Go.Proofs.YtcckipimfgmmdaaGreatDoor
open Go.RowKit

set_option maxRecDepth 8000 in
set_option maxHeartbeats 2000000 in
theorem fork_any (z : Int) (w : World) (b1 b2 : Nat) (u1 u2 : Value) (l1 l2 : List V.In) (h1 : w.ownsRow b1 60 4 u1 l1.length (V.cellsI l1)) (h2 : w.ownsRow b2 60 4 u2 l2.length (V.cellsI l2)) (hl : l1.length + l2.length ≤ 90000) :
    Calls Tryz.prog 127 #[.int .u32 z, u1, u2] w fun e w' => Tld w (forkI z l1 l2) e w' := by
  have HJ : Hid (∀ c k t f W, 0 ≤ t ∧ t ≤ 255 → 0 ≤ f ∧ f ≤ 255 → Calls Tryz.prog 152 #[.int .u16 c, .int .u32 k, .int .i64 t, .int .i64 f] W fun e w' => e = .returned (.agg (cI ⟨c, t, f, k⟩)) ∧ Below W.heap.size W w') := jump_any
  unfold cI at HJ
  dsimp only at HJ
  have H1 : Hid (∀ W, Below w.heap.size w W → W.ownsRow b1 60 4 u1 l1.length (V.cellsI l1)) := fun W hW => own_over h1 hW
  have H2 : Hid (∀ W, Below w.heap.size w W → W.ownsRow b2 60 4 u2 l2.length (V.cellsI l2)) := fun W hW => own_over h2 hW
  obtain ⟨a1, c1, rfl⟩ := own_slice h1
  obtain ⟨a2, c2, rfl⟩ := own_slice h2
  clear h1 h2
  by_cases hs : l1.length ≤ 255
  · have HF : Hid (forkI z l1 l2 = ([] ++ [⟨53, (l1.length : Int), 0, z⟩]) ++ l1 ++ l2) := by unfold Hid forkI; rw [if_pos hs, List.nil_append, List.append_assoc]
    have hs1 : (l1.length : Int) ≤ 255 := by omega
    generalize forkI z l1 l2 = FL at *
    go_enter Tryz.func127, Tryz.ntmps127
    go_wp2_with (first
      | (go_at_call 152; refine (HJ.out _ _ _ _ _ (by omega) (by omega)).mono ?_; rintro e w3 ⟨rfl, b3⟩)
      | (at_builtin; refine app_rows rfl (.tmp 11) (.tmp 16) rfl w.heap.size _ 0 [] rfl (own_nil _ _) w.heap.size _ 1 [⟨53, (l1.length : Int), 0, z⟩] rfl (own_in w3 _ b3.size 53 _ 0 z _ rfl) (by decide) (by have := b3.size; simp; omega) ?_; intro v4 w4 hG4; have B4 : Below w.heap.size w w4 := hG4.below (own_nil _ _) (b3.alloc b3.size _) (by have := b3.size; simp; omega); go_frame)
      | (at_builtin; refine app_rows rfl (.tmp 27) (.tmp 28) rfl w.heap.size _ _ _ rfl hG4.own _ _ _ l1 rfl (H1.out _ B4) (by omega) B4.size ?_; intro v5 w5 hG5; have B5 : Below w.heap.size w w5 := hG5.below hG4.own B4 B4.size; go_frame)
      | (at_builtin; refine app_rows rfl (.tmp 30) (.tmp 31) rfl w.heap.size _ _ _ rfl hG5.own _ _ _ l2 rfl (H2.out _ B5) (by omega) B5.size ?_; intro v6 w6 hG6; go_frame))
    go_ret
    exact ⟨_, rfl, by rw [HF.out, List.length_append, List.length_append, List.length_append]; exact hG6.own, hG6.below hG5.own B5 B5.size⟩
  · have HF : Hid (forkI z l1 l2 = ([] ++ [⟨53, 0, 1, z⟩, ⟨5, 0, 0, (l1.length : Int)⟩]) ++ l1 ++ l2) := by unfold Hid forkI; rw [if_neg hs, List.nil_append, List.append_assoc]
    have hs1 : ¬ (l1.length : Int) ≤ 255 := by omega
    have eu : IntKind.u32.wrap (l1.length : Int) = (l1.length : Int) := by rw [IntKind.wrap_u32]; omega
    generalize forkI z l1 l2 = FL at *
    go_enter Tryz.func127, Tryz.ntmps127
    go_wp2_with (first
      | (go_at_call 152; refine (HJ.out _ _ _ _ _ (by omega) (by omega)).mono ?_; rintro e w3 ⟨rfl, b3⟩)
      | (at_builtin; refine app_rows rfl (.tmp 18) (.tmp 25) rfl w.heap.size _ 0 [] rfl (own_nil _ _) w.heap.size _ 2 [⟨53, 0, 1, z⟩, ⟨5, 0, 0, (l1.length : Int)⟩] rfl (own_in2 w3 _ b3.size 53 0 1 z 5 0 0 _ _ rfl) (by decide) (by have := b3.size; simp; omega) ?_; intro v4 w4 hG4; have B4 : Below w.heap.size w w4 := hG4.below (own_nil _ _) (b3.alloc b3.size _) (by have := b3.size; simp; omega); go_frame)
      | (at_builtin; refine app_rows rfl (.tmp 27) (.tmp 28) rfl w.heap.size _ _ _ rfl hG4.own _ _ _ l1 rfl (H1.out _ B4) (by omega) B4.size ?_; intro v5 w5 hG5; have B5 : Below w.heap.size w w5 := hG5.below hG4.own B4 B4.size; go_frame)
      | (at_builtin; refine app_rows rfl (.tmp 30) (.tmp 31) rfl w.heap.size _ _ _ rfl hG5.own _ _ _ l2 rfl (H2.out _ B5) (by omega) B5.size ?_; intro v6 w6 hG6; go_frame))
    go_ret
    exact ⟨_, rfl, by rw [HF.out, List.length_append, List.length_append, List.length_append]; exact hG6.own, hG6.below hG5.own B5 B5.size⟩

set_option maxRecDepth 8000 in
set_option maxHeartbeats 2000000 in
theorem miss_any (X : World) (b : Nat) (k a : Int) (v vz vm : Value) (f t : Int) (h : V.Blk X b 122 [.int .i64 k, .int .i64 a, v, vz, vm]) :
    Calls Tryz.prog 93 #[.pointer (some ⟨b, 0, none⟩), .int .i64 f, .int .i64 t] X fun e w' => Tld X [ansI k a] e w' := by
  have HA : Hid (∀ W, Calls Tryz.prog 49 #[.agg #[.int .i64 k, .int .i64 a]] W fun e w' => e = .returned (.agg (cI (ansI k a))) ∧ Below W.heap.size W w') := answer_any k a
  unfold ansI cI at *
  dsimp only at *
  generalize A.valZ k a = va at *
  have c0 := h.cell 0
  have c1 := h.cell 1
  go_enter Tryz.func93, Tryz.ntmps93
  go_wp2_with (first | (go_at_call 49; refine (HA.out _).mono ?_; rintro e w3 ⟨rfl, b3⟩))
  go_ret
  exact ⟨_, rfl, own_in w3 _ b3.size 6 0 0 va _ rfl, b3.alloc b3.size _⟩

set_option maxRecDepth 8000 in
set_option maxHeartbeats 2000000 in
theorem meet_of (hT : DecC) (X : World) (b : Nat) (k a : Int) (v vz vm : Value) (rs : List M.Xr) (ns : List Int) (i : Nat) (t : Int) (hblk : V.Blk X b 122 [.int .i64 k, .int .i64 a, v, vz, vm]) (hrl : M.RlR X v rs) (hnz : M.NzR X vz ns) (hR : Rok rs) (hi : i < ns.length) :
    Calls Tryz.prog 94 #[.pointer (some ⟨b, 0, none⟩), .int .i64 i, .int .i64 t] X fun e w' => Tld X ([⟨21, 1, 0, ns.getD i 0⟩, ansI k a] ++ verI (ns.getD i 0) k a (rs.map M.Xr.r)) e w' := by
  have HA : Hid (∀ W, Calls Tryz.prog 49 #[.agg #[.int .i64 k, .int .i64 a]] W fun e w' => e = .returned (.agg (cI (ansI k a))) ∧ Below W.heap.size W w') := answer_any k a
  obtain ⟨p1, q1, rfl, hq1, hq2, hcz⟩ := hnz
  obtain ⟨zb, zo, rfl, hz⟩ := hcz (by omega)
  have hzi := hz i (ns.getD i 0) (by rw [List.getD_eq_getElem?_getD, List.getElem?_eq_getElem hi]; rfl)
  have HV : Hid (∀ W, Below X.heap.size X W → Calls Tryz.prog 128 #[.agg #[.int .i64 k, .int .i64 a, v], .int .u32 (ns.getD i 0)] W fun e w' => Tld W (verI (ns.getD i 0) k a (rs.map M.Xr.r)) e w') := fun W hW => verdict_of hT W _ k a v rs (hrl.below hW) hR
  have HVl : Hid ((verI (ns.getD i 0) k a (rs.map M.Xr.r)).length ≤ 20000) := by
    have h1 := ver_len (ns.getD i 0) k a (rs.map M.Xr.r)
    have h2 : ∀ l : List M.Xr, (∀ x ∈ l, Xok x.r) → lenR (ns.getD i 0) (l.map M.Xr.r) ≤ l.length * 141 := by
      intro l
      induction l with
      | nil => intro _; exact Nat.le_refl _
      | cons x r ih =>
        intro hx
        have h3 := ih fun y hy => hx y (List.mem_cons_of_mem _ hy)
        have h4 := (hx x (List.mem_cons_self ..)).1
        rw [List.map_cons, lenR_cons, List.length_cons]
        split <;> omega
    have h3 := h2 rs hR.ok
    have h4 := hR.len
    unfold Hid
    omega
  have HB : Hid (V.Blk X b 122 [.int .i64 k, .int .i64 a, v, .slice (some ⟨zb, zo, none⟩) ns.length q1, vm]) := hblk
  obtain ⟨pv, cv, rfl⟩ : ∃ p c, v = .slice p rs.length c := by obtain ⟨p, c, e, _⟩ := hrl; exact ⟨p, c, e⟩
  have hi1 : (i : Int) < (ns.length : Int) := by omega
  unfold ansI cI at *
  dsimp only at *
  clear hblk hrl hR hT hz hq2 hcz
  generalize verI (ns.getD i 0) k a (rs.map M.Xr.r) = VI at *
  generalize A.valZ k a = va at *
  generalize ns.getD i 0 = z at *
  obtain ⟨GL, hGL⟩ : ∃ GL : List V.In, [⟨21, 1, 0, z⟩, ⟨6, 0, 0, va⟩] ++ VI = GL := ⟨_, rfl⟩
  rw [hGL]
  have HGL : Hid ([⟨21, 1, 0, z⟩, ⟨6, 0, 0, va⟩] ++ VI = GL) := hGL
  clear hGL
  have c0 := HB.out.cell 0
  have c1 := HB.out.cell 1
  have c2 := HB.out.cell 2
  have c3 := HB.out.cell 3
  go_enter Tryz.func94, Tryz.ntmps94
  go_wp2_with (first
    | (go_at_call 49; refine (HA.out _).mono ?_; rintro e w3 ⟨rfl, b3⟩; have B4 : Below X.heap.size X (w3.alloc (Obj.cells #[.int .u16 21, .int .u8 1, .int .u8 0, .int .u32 z, .int .u16 6, .int .u8 0, .int .u8 0, .int .u32 va] 60)) := b3.alloc b3.size _; have O4 := own_in2 w3 X.heap.size b3.size 21 1 0 z 6 0 0 va _ rfl; have d0 := (HB.out.over B4).cell 0; have d1 := (HB.out.over B4).cell 1; have d2 := (HB.out.over B4).cell 2)
    | (go_at_call 128; refine (HV.out _ B4).mono ?_; rintro e w5 ⟨v5, rfl, o5, b5⟩; have O5 := own_over O4 b5; have B5 := B4.trans (b5.mono B4.size))
    | (at_builtin; refine app_rows rfl (.tmp 25) (.tmp 31) rfl X.heap.size _ 2 _ rfl O5 _ _ _ VI rfl o5 (by have := HVl.out; omega) B5.size ?_; intro v6 w6 hG6; go_frame))
  go_ret
  exact ⟨_, rfl, by rw [← HGL.out, List.length_append]; exact hG6.own, hG6.below O5 B5 B5.size⟩

end Go.Proofs.YtcckipimfgmmdaaGreatDoor
