/-
  Texts of this seat, joined: KFork, KAm, KPrg.
-/
import Derived.Test.YtcckipimfgmmdaaGreatDoorGv41
import Derived.Test.YtcckipimfgmmdaaGreatDoorGv32
import Derived.Test.YtcckipimfgmmdaaGreatDoorGv36
import Derived.Test.YtcckipimfgmmdaaGreatDoorGv25

namespace Go.Proofs.YtcckipimfgmmdaaGreatDoor
open Go.RowKit

set_option maxRecDepth 8000 in
set_option maxHeartbeats 2000000 in
theorem fork_any (z : Int) (w : World) (b1 b2 : Nat) (u1 u2 : Value) (l1 l2 : List V.In) (h1 : w.ownsRow b1 60 4 u1 l1.length (V.cellsI l1)) (h2 : w.ownsRow b2 60 4 u2 l2.length (V.cellsI l2)) (hl : l1.length + l2.length ≤ 90000) :
    Calls Tryz.prog 127 #[.int .u32 z, u1, u2] w fun e w' => Tld w (forkI z l1 l2) e w' := by
  have HJ : Hid (∀ c k t f W, 0 ≤ t ∧ t ≤ 255 → 0 ≤ f ∧ f ≤ 255 → Calls Tryz.prog 152 #[.int .u16 c, .int .u32 k, .int .i64 t, .int .i64 f] W fun e w' => e = .returned (.agg (cI ⟨c, t, f, k⟩)) ∧ Below W.heap.size W w') := jump_any
  unfold cI at HJ
  dsimp only at HJ
  have H1 : Hid (∀ W, Below w.heap.size w W → W.ownsRow b1 60 4 u1 l1.length (V.cellsI l1)) := fun W hW => own_over h1 hW
  have H2 : Hid (∀ W, Below w.heap.size w W → W.ownsRow b2 60 4 u2 l2.length (V.cellsI l2)) := fun W hW => own_over h2 hW
  obtain ⟨a1, c1, rfl⟩ := own_slice h1
  obtain ⟨a2, c2, rfl⟩ := own_slice h2
  clear h1 h2
  by_cases hs : l1.length ≤ 255
  · have HF : Hid (forkI z l1 l2 = ([] ++ [⟨53, (l1.length : Int), 0, z⟩]) ++ l1 ++ l2) := by unfold Hid forkI; rw [if_pos hs, List.nil_append, List.append_assoc]
    have hs1 : (l1.length : Int) ≤ 255 := by omega
    generalize forkI z l1 l2 = FL at *
    go_enter Tryz.func127, Tryz.ntmps127
    go_wp2_with (first
      | (go_at_call 152; refine (HJ.out _ _ _ _ _ (by omega) (by omega)).mono ?_; rintro e w3 ⟨rfl, b3⟩)
      | (at_builtin; refine app_rows rfl (.tmp 11) (.tmp 16) rfl w.heap.size _ 0 [] rfl (own_nil _ _) w.heap.size _ 1 [⟨53, (l1.length : Int), 0, z⟩] rfl (own_in w3 _ b3.size 53 _ 0 z _ rfl) (by decide) (by have := b3.size; simp; omega) ?_; intro v4 w4 hG4; have B4 : Below w.heap.size w w4 := hG4.below (own_nil _ _) (b3.alloc b3.size _) (by have := b3.size; simp; omega); go_frame)
      | (at_builtin; refine app_rows rfl (.tmp 27) (.tmp 28) rfl w.heap.size _ _ _ rfl hG4.own _ _ _ l1 rfl (H1.out _ B4) (by omega) B4.size ?_; intro v5 w5 hG5; have B5 : Below w.heap.size w w5 := hG5.below hG4.own B4 B4.size; go_frame)
      | (at_builtin; refine app_rows rfl (.tmp 30) (.tmp 31) rfl w.heap.size _ _ _ rfl hG5.own _ _ _ l2 rfl (H2.out _ B5) (by omega) B5.size ?_; intro v6 w6 hG6; go_frame))
    go_ret
    exact ⟨_, rfl, by rw [HF.out, List.length_append, List.length_append, List.length_append]; exact hG6.own, hG6.below hG5.own B5 B5.size⟩
  · have HF : Hid (forkI z l1 l2 = ([] ++ [⟨53, 0, 1, z⟩, ⟨5, 0, 0, (l1.length : Int)⟩]) ++ l1 ++ l2) := by unfold Hid forkI; rw [if_neg hs, List.nil_append, List.append_assoc]
    have hs1 : ¬ (l1.length : Int) ≤ 255 := by omega
    have eu : IntKind.u32.wrap (l1.length : Int) = (l1.length : Int) := by rw [IntKind.wrap_u32]; omega
    generalize forkI z l1 l2 = FL at *
    go_enter Tryz.func127, Tryz.ntmps127
    go_wp2_with (first
      | (go_at_call 152; refine (HJ.out _ _ _ _ _ (by omega) (by omega)).mono ?_; rintro e w3 ⟨rfl, b3⟩)
      | (at_builtin; refine app_rows rfl (.tmp 18) (.tmp 25) rfl w.heap.size _ 0 [] rfl (own_nil _ _) w.heap.size _ 2 [⟨53, 0, 1, z⟩, ⟨5, 0, 0, (l1.length : Int)⟩] rfl (own_in2 w3 _ b3.size 53 0 1 z 5 0 0 _ _ rfl) (by decide) (by have := b3.size; simp; omega) ?_; intro v4 w4 hG4; have B4 : Below w.heap.size w w4 := hG4.below (own_nil _ _) (b3.alloc b3.size _) (by have := b3.size; simp; omega); go_frame)
      | (at_builtin; refine app_rows rfl (.tmp 27) (.tmp 28) rfl w.heap.size _ _ _ rfl hG4.own _ _ _ l1 rfl (H1.out _ B4) (by omega) B4.size ?_; intro v5 w5 hG5; have B5 : Below w.heap.size w w5 := hG5.below hG4.own B4 B4.size; go_frame)
      | (at_builtin; refine app_rows rfl (.tmp 30) (.tmp 31) rfl w.heap.size _ _ _ rfl hG5.own _ _ _ l2 rfl (H2.out _ B5) (by omega) B5.size ?_; intro v6 w6 hG6; go_frame))
    go_ret
    exact ⟨_, rfl, by rw [HF.out, List.length_append, List.length_append, List.length_append]; exact hG6.own, hG6.below hG5.own B5 B5.size⟩

set_option maxRecDepth 8000 in
set_option maxHeartbeats 2000000 in
theorem miss_any (X : World) (b : Nat) (k a : Int) (v vz vm : Value) (f t : Int) (h : V.Blk X b 122 [.int .i64 k, .int .i64 a, v, vz, vm]) :
    Calls Tryz.prog 93 #[.pointer (some ⟨b, 0, none⟩), .int .i64 f, .int .i64 t] X fun e w' => Tld X [ansI k a] e w' := by
  have HA : Hid (∀ W, Calls Tryz.prog 49 #[.agg #[.int .i64 k, .int .i64 a]] W fun e w' => e = .returned (.agg (cI (ansI k a))) ∧ Below W.heap.size W w') := answer_any k a
  unfold ansI cI at *
  dsimp only at *
  generalize A.valZ k a = va at *
  have c0 := h.cell 0
  have c1 := h.cell 1
  go_enter Tryz.func93, Tryz.ntmps93
  go_wp2_with (first | (go_at_call 49; refine (HA.out _).mono ?_; rintro e w3 ⟨rfl, b3⟩))
  go_ret
  exact ⟨_, rfl, own_in w3 _ b3.size 6 0 0 va _ rfl, b3.alloc b3.size _⟩

set_option maxRecDepth 8000 in
set_option maxHeartbeats 2000000 in
theorem meet_of (hT : DecC) (X : World) (b : Nat) (k a : Int) (v vz vm : Value) (rs : List M.Xr) (ns : List Int) (i : Nat) (t : Int) (hblk : V.Blk X b 122 [.int .i64 k, .int .i64 a, v, vz, vm]) (hrl : M.RlR X v rs) (hnz : M.NzR X vz ns) (hR : Rok rs) (hi : i < ns.length) :
    Calls Tryz.prog 94 #[.pointer (some ⟨b, 0, none⟩), .int .i64 i, .int .i64 t] X fun e w' => Tld X ([⟨21, 1, 0, ns.getD i 0⟩, ansI k a] ++ verI (ns.getD i 0) k a (rs.map M.Xr.r)) e w' := by
  have HA : Hid (∀ W, Calls Tryz.prog 49 #[.agg #[.int .i64 k, .int .i64 a]] W fun e w' => e = .returned (.agg (cI (ansI k a))) ∧ Below W.heap.size W w') := answer_any k a
  obtain ⟨p1, q1, rfl, hq1, hq2, hcz⟩ := hnz
  obtain ⟨zb, zo, rfl, hz⟩ := hcz (by omega)
  have hzi := hz i (ns.getD i 0) (by rw [List.getD_eq_getElem?_getD, List.getElem?_eq_getElem hi]; rfl)
  have HV : Hid (∀ W, Below X.heap.size X W → Calls Tryz.prog 128 #[.agg #[.int .i64 k, .int .i64 a, v], .int .u32 (ns.getD i 0)] W fun e w' => Tld W (verI (ns.getD i 0) k a (rs.map M.Xr.r)) e w') := fun W hW => verdict_of hT W _ k a v rs (hrl.below hW) hR
  have HVl : Hid ((verI (ns.getD i 0) k a (rs.map M.Xr.r)).length ≤ 20000) := by
    have h1 := ver_len (ns.getD i 0) k a (rs.map M.Xr.r)
    have h2 : ∀ l : List M.Xr, (∀ x ∈ l, Xok x.r) → lenR (ns.getD i 0) (l.map M.Xr.r) ≤ l.length * 141 := by
      intro l
      induction l with
      | nil => intro _; exact Nat.le_refl _
      | cons x r ih =>
        intro hx
        have h3 := ih fun y hy => hx y (List.mem_cons_of_mem _ hy)
        have h4 := (hx x (List.mem_cons_self ..)).1
        rw [List.map_cons, lenR_cons, List.length_cons]
        split <;> omega
    have h3 := h2 rs hR.ok
    have h4 := hR.len
    unfold Hid
    omega
  have HB : Hid (V.Blk X b 122 [.int .i64 k, .int .i64 a, v, .slice (some ⟨zb, zo, none⟩) ns.length q1, vm]) := hblk
  obtain ⟨pv, cv, rfl⟩ : ∃ p c, v = .slice p rs.length c := by obtain ⟨p, c, e, _⟩ := hrl; exact ⟨p, c, e⟩
  have hi1 : (i : Int) < (ns.length : Int) := by omega
  unfold ansI cI at *
  dsimp only at *
  clear hblk hrl hR hT hz hq2 hcz
  generalize verI (ns.getD i 0) k a (rs.map M.Xr.r) = VI at *
  generalize A.valZ k a = va at *
  generalize ns.getD i 0 = z at *
  obtain ⟨GL, hGL⟩ : ∃ GL : List V.In, [⟨21, 1, 0, z⟩, ⟨6, 0, 0, va⟩] ++ VI = GL := ⟨_, rfl⟩
  rw [hGL]
  have HGL : Hid ([⟨21, 1, 0, z⟩, ⟨6, 0, 0, va⟩] ++ VI = GL) := hGL
  clear hGL
  have c0 := HB.out.cell 0
  have c1 := HB.out.cell 1
  have c2 := HB.out.cell 2
  have c3 := HB.out.cell 3
  go_enter Tryz.func94, Tryz.ntmps94
  go_wp2_with (first
    | (go_at_call 49; refine (HA.out _).mono ?_; rintro e w3 ⟨rfl, b3⟩; have B4 : Below X.heap.size X (w3.alloc (Obj.cells #[.int .u16 21, .int .u8 1, .int .u8 0, .int .u32 z, .int .u16 6, .int .u8 0, .int .u8 0, .int .u32 va] 60)) := b3.alloc b3.size _; have O4 := own_in2 w3 X.heap.size b3.size 21 1 0 z 6 0 0 va _ rfl; have d0 := (HB.out.over B4).cell 0; have d1 := (HB.out.over B4).cell 1; have d2 := (HB.out.over B4).cell 2)
    | (go_at_call 128; refine (HV.out _ B4).mono ?_; rintro e w5 ⟨v5, rfl, o5, b5⟩; have O5 := own_over O4 b5; have B5 := B4.trans (b5.mono B4.size))
    | (at_builtin; refine app_rows rfl (.tmp 25) (.tmp 31) rfl X.heap.size _ 2 _ rfl O5 _ _ _ VI rfl o5 (by have := HVl.out; omega) B5.size ?_; intro v6 w6 hG6; go_frame))
  go_ret
  exact ⟨_, rfl, by rw [← HGL.out, List.length_append]; exact hG6.own, hG6.below O5 B5 B5.size⟩

end Go.Proofs.YtcckipimfgmmdaaGreatDoor

namespace Go.Proofs.YtcckipimfgmmdaaGreatDoor
open Go.RowKit

def Mid (W : World) (vm : Value) (ms : List Nat) : Prop :=
  ∃ p c, vm = .slice p ms.length c ∧ ms.length ≤ c ∧ c ≤ 9223372036854775807 ∧ (0 < ms.length → ∃ g o, p = some ⟨g, o, none⟩ ∧ ∀ (i : Nat) (x : Nat), ms[i]? = some x → W.cell? ⟨g, o + i, none⟩ = some (.int .i64 (x : Nat)))

structure Fix (W : World) (b : Nat) (v vz : Value) (rs : List M.Xr) (ns : List Int) : Prop where
  rl : M.RlR W v rs
  nz : M.NzR W vz ns
  ok : Rok rs
  at' : W.heap.size ≤ b
  len : ns.length ≤ 1000

def AmT (W X : World) (b : Nat) (k a : Int) (v vz : Value) (L : List V.In) (ms : List Nat) (e : Ending) (w' : World) : Prop :=
  ∃ u vm', e = .returned u ∧ w'.ownsRow X.heap.size 60 4 u L.length (V.cellsI L) ∧ V.Blk w' b 122 [.int .i64 k, .int .i64 a, v, vz, vm'] ∧ Mid W vm' ms ∧ X.grownBy w' (some b)

theorem grow_of_below {X Y : World} (h : Below X.heap.size X Y) (r : Option Nat) : X.grownBy Y r := by
  obtain ⟨h1, h2, h3, h4, h5⟩ := h
  exact ⟨h1, h2, h3, h4, fun j hj _ => h5 j hj⟩
theorem below_of_grow {W X Y : World} {b : Nat} (h : Below W.heap.size W X) (hg : X.grownBy Y (some b)) (hb : W.heap.size ≤ b) : Below W.heap.size W Y :=
  h.grown hg h.size fun j hj => by cases hj; exact hb
theorem grow_trans {X Y Z : World} {r : Option Nat} (h : X.grownBy Y r) (h' : Y.grownBy Z r) : X.grownBy Z r := by
  obtain ⟨a1, a2, a3, a4, a5⟩ := h
  obtain ⟨b1, b2, b3, b4, b5⟩ := h'
  exact ⟨b1.trans a1, b2.trans a2, b3.trans a3, Nat.le_trans a4 b4, fun j hj hr => (b5 j (Nat.lt_of_lt_of_le hj a4) hr).trans (a5 j hj hr)⟩
theorem grow_set (X : World) (b i : Nat) (v : Value) : X.grownBy (X.setCell ⟨b, i, none⟩ v) (some b) :=
  ⟨rfl, rfl, rfl, by simp, fun j _ hj => Below.heap_setCell _ _ _ j (fun e => hj (by rw [e]))⟩
theorem own_grow {X Y : World} {c b n : Nat} {u : Value} {xs : List Value} (h : X.ownsRow c 60 4 u n xs) (hg : X.grownBy Y (some b)) (hb : b < c) : Y.ownsRow c 60 4 u n xs :=
  h.kept hg (Or.inr fun e => by have := V.owns_block h b e; omega)

def AmC (W : World) (b : Nat) (k a : Int) (v vz : Value) (rs : List M.Xr) (ns : List Int) (i j : Nat) : Prop :=
  ∀ (X : World) (vm : Value) (ms : List Nat), Below W.heap.size W X → V.Blk X b 122 [.int .i64 k, .int .i64 a, v, vz, vm] → Mid W vm (T.mids i j ++ ms) →
    Calls Tryz.prog 52 #[.pointer (some ⟨b, 0, none⟩), .int .i64 i, .int .i64 j] X fun e w' => AmT W X b k a v vz (amI ns (fun z => verI z k a (rs.map M.Xr.r)) (ansI k a) i j) ms e w'

set_option maxRecDepth 8000 in
set_option maxHeartbeats 600000 in
theorem halve_of (W : World) (b : Nat) (k a : Int) (v vz : Value) (rs : List M.Xr) (ns : List Int) (hF : Fix W b v vz rs ns) (i j : Nat) (hij : 2 ≤ j - i) (hj : j ≤ ns.length)
    (hbig : (amI ns (fun z => verI z k a (rs.map M.Xr.r)) (ansI k a) i j).length ≤ 90000)
    (ih1 : AmC W b k a v vz rs ns i (T.mid i j)) (ih2 : AmC W b k a v vz rs ns (T.mid i j) j) (X : World) (vm : Value) (ms : List Nat) (hX : Below W.heap.size W X) (hblk : V.Blk X b 122 [.int .i64 k, .int .i64 a, v, vz, vm]) (hm : Mid W vm (T.mids i j ++ ms)) :
    Calls Tryz.prog 92 #[.pointer (some ⟨b, 0, none⟩), .int .i64 i, .int .i64 j] X fun e w' => AmT W X b k a v vz (amI ns (fun z => verI z k a (rs.map M.Xr.r)) (ansI k a) i j) ms e w' := by
  have hmid := T.mid_lt hij
  rw [am_two hij] at hbig
  rw [am_two hij]
  rw [T.mids_two hij] at hm
  generalize hM : T.mid i j = m at *
  have HI1 : Hid (AmC W b k a v vz rs ns i m) := ih1
  have HI2 : Hid (AmC W b k a v vz rs ns m j) := ih2
  unfold AmC at HI1 HI2
  generalize amI ns (fun z => verI z k a (rs.map M.Xr.r)) (ansI k a) i m = L1 at *
  generalize amI ns (fun z => verI z k a (rs.map M.Xr.r)) (ansI k a) m j = L2 at *
  have hbl : L1.length + L2.length ≤ 90000 := by
    unfold forkI at hbig
    rw [List.length_append, List.length_append] at hbig
    omega
  obtain ⟨pm, cm, rfl, hc1, hc2, hcell⟩ := hm
  obtain ⟨g, o, rfl, hcs⟩ := hcell (by simp)
  have hc0 := hcs 0 m rfl
  have hXb : X.heap.size > b := hblk.lt
  have hgW : g < W.heap.size := World.block_lt_of_cell? _ _ hc0
  have hx0 : X.cell? ⟨g, o + 0, none⟩ = some (.int .i64 (m : Nat)) := M.cellS hc0 (hX.block g hgW)
  rw [Nat.add_zero] at hx0
  obtain ⟨R, hR⟩ : ∃ R : List Nat, T.mids i m ++ (T.mids m j ++ ms) = R := ⟨_, rfl⟩
  have hRl : (m :: (T.mids i m ++ T.mids m j) ++ ms).length = R.length + 1 := by rw [← hR]; simp
  rw [hRl] at hblk hc1
  have HM1 : Hid (Mid W (.slice (if cm = 1 then some ⟨g, o, none⟩ else some ⟨g, o + 1, none⟩) R.length (cm - 1)) (T.mids i m ++ (T.mids m j ++ ms))) := ⟨_, cm - 1, by rw [hR], by rw [hR]; omega, by omega, fun h0 => ⟨g, o + 1, by rw [hR] at h0; rw [if_neg (by omega)], fun q x hq => by
    have := hcs (q + 1) x (by rw [List.cons_append, List.getElem?_cons_succ, List.append_assoc]; exact hq)
    rw [show o + 1 + q = o + (q + 1) from by omega]
    exact this⟩⟩
  have HF : Hid (Fix W b v vz rs ns) := hF
  have HX : Hid (Below W.heap.size W X) := hX
  have c3 := hblk.cell 3
  have c4 := hblk.cell 4
  have f4 := hblk.f 4
  obtain ⟨pz, cz, rfl, hz1, hz2, hzc⟩ := hF.nz
  obtain ⟨zb, zo, rfl, hz⟩ := hzc (by omega)
  have hzm := hz m (ns.getD m 0) (by rw [List.getD_eq_getElem?_getD, List.getElem?_eq_getElem (show m < ns.length by omega)]; rfl)
  have HZ : Hid (∀ Y, Below W.heap.size W Y → Y.cell? ⟨zb, zo + m, none⟩ = some (.int .u32 (ns.getD m 0))) := fun Y hY => M.cellS hzm (hY.block zb (World.block_lt_of_cell? _ _ hzm))
  have HBl : Hid (V.Blk (X.setCell ⟨b, 4, none⟩ (.slice (if cm = 1 then some ⟨g, o, none⟩ else some ⟨g, o + 1, none⟩) R.length (cm - 1))) b 122 [.int .i64 k, .int .i64 a, v, .slice (some ⟨zb, zo, none⟩) ns.length cz, .slice (if cm = 1 then some ⟨g, o, none⟩ else some ⟨g, o + 1, none⟩) R.length (cm - 1)]) := hblk.set 4 _
  have hm1 : (m : Int) < (ns.length : Int) := by omega
  have hm0 : (0 : Int) ≤ (m : Int) := by omega
  have HFk : Hid (∀ (w : World) (b1 b2 : Nat) (u1 u2 : Value), w.ownsRow b1 60 4 u1 L1.length (V.cellsI L1) → w.ownsRow b2 60 4 u2 L2.length (V.cellsI L2) → Calls Tryz.prog 127 #[.int .u32 (ns.getD m 0), u1, u2] w fun e w' => Tld w (forkI (ns.getD m 0) L1 L2) e w') := fun w b1 b2 u1 u2 h1 h2 => fork_any _ w b1 b2 u1 u2 L1 L2 h1 h2 hbl
  generalize forkI (ns.getD m 0) L1 L2 = FL at *
  generalize ns.getD m 0 = zm at *
  clear hblk hbig hcell hcs hc0 hX hF hz hzc hzm hM hR hRl ih1 ih2
  go_enter Tryz.func92, Tryz.ntmps92
  go_upto_region 3 with fail
  generalize (if cm = 1 then (some ⟨g, o, none⟩ : Option Addr) else some ⟨g, o + 1, none⟩) = P at *
  have hg1 : X.grownBy (X.setCell ⟨b, 4, none⟩ (.slice P R.length (cm - 1))) (some b) := grow_set X b 4 _
  have hB1 : Below W.heap.size W (X.setCell ⟨b, 4, none⟩ (.slice P R.length (cm - 1))) := below_of_grow HX.out hg1 HF.out.at'
  have HG1 : Hid (X.grownBy (X.setCell ⟨b, 4, none⟩ (.slice P R.length (cm - 1))) (some b)) := hg1
  have HS1 : Hid (X.heap.size ≤ (X.setCell ⟨b, 4, none⟩ (.slice P R.length (cm - 1))).heap.size) := by unfold Hid; simp
  clear hg1
  generalize (X.setCell ⟨b, 4, none⟩ (.slice P R.length (cm - 1))) = X1 at *
  have hbX1 : b < X1.heap.size := by have := HS1.out; omega
  go_upto_region 4 with (first
    | (go_at_call 52; refine (HI1.out _ _ _ hB1 HBl.out HM1.out).mono ?_; rintro e w1 ⟨u1, vm1, rfl, o1, k1, m1, g1⟩; have hB2 : Below W.heap.size W w1 := below_of_grow hB1 g1 HF.out.at'; have hs1 : X1.heap.size ≤ w1.heap.size := g1.size))

  go_upto_region 5 with (first
    | (go_at_call 52; refine (HI2.out _ _ _ hB2 k1 m1).mono ?_; rintro e w2 ⟨u2, vm2, rfl, o2, k2, m2, g2⟩; have hB3 : Below W.heap.size W w2 := below_of_grow hB2 g2 HF.out.at'; have hs2 : w1.heap.size ≤ w2.heap.size := g2.size; have o1' := own_grow o1 g2 hbX1; have d3 := k2.cell 3; have dz := HZ.out _ hB3))

  go_wp2_with (first
    | (go_at_call 127; refine (HFk.out _ _ _ _ _ o1' o2).mono ?_; rintro e w3 ⟨u3, rfl, o3, b3⟩))
  go_ret
  have := HS1.out
  exact ⟨_, vm2, rfl, V.owns_lower o3 (by omega), k2.over b3, m2, grow_trans (grow_trans (grow_trans HG1.out g1) g2) (grow_of_below b3 _)⟩

set_option maxRecDepth 8000 in
set_option maxHeartbeats 600000 in
theorem among_of (hT : DecC) (W : World) (b : Nat) (k a : Int) (v vz : Value) (rs : List M.Xr) (ns : List Int) (hF : Fix W b v vz rs ns)
    (hbig : ∀ i j, i < j → j ≤ ns.length → (amI ns (fun z => verI z k a (rs.map M.Xr.r)) (ansI k a) i j).length ≤ 90000) (n : Nat) : ∀ i j, j - i ≤ n → i ≤ j → j ≤ ns.length → AmC W b k a v vz rs ns i j := by
  induction n with
  | zero =>
    intro i j h1 h2 h3 X vm ms hX hblk hm
    have hij : j = i := by omega
    subst hij
    rw [am_none (by omega)]
    have HM : Hid (Mid W vm ms) := by rw [T.mids_one (by omega)] at hm; exact hm
    have HMs : Hid (∀ f t, Calls Tryz.prog 93 #[.pointer (some ⟨b, 0, none⟩), .int .i64 f, .int .i64 t] X fun e w' => Tld X [ansI k a] e w') := fun f t => miss_any X b k a v vz vm f t hblk
    have HBk : Hid (V.Blk X b 122 [.int .i64 k, .int .i64 a, v, vz, vm]) := hblk
    have e0 : IntKind.i64.wrap ((j : Int) - (j : Int)) = 0 := by rw [IntKind.wrap_i64]; omega
    generalize [ansI k a] = L at *
    clear hX hblk hm hF hbig hT
    go_enter Tryz.func52, Tryz.ntmps52
    go_wp2_with (first | (go_at_call 93; refine (HMs.out _ _).mono ?_; rintro e w1 ⟨u1, rfl, o1, b1⟩))
    go_ret
    exact ⟨_, vm, rfl, o1, HBk.out.over b1, HM.out, grow_of_below b1 _⟩
  | succ n ih =>
    intro i j h1 h2 h3
    by_cases h4 : j - i ≤ n
    · exact ih i j h4 h2 h3
    · intro X vm ms hX hblk hm
      have hd : j - i = n + 1 := by omega
      have e1 : IntKind.i64.wrap ((j : Int) - (i : Int)) = ((n + 1 : Nat) : Int) := by rw [IntKind.wrap_i64]; have := hF.len; omega
      by_cases h5 : n = 0
      · subst h5
        rw [am_one (by omega)]
        have HM : Hid (Mid W vm ms) := by rw [T.mids_one (by omega)] at hm; exact hm
        have HMs : Hid (∀ t, Calls Tryz.prog 94 #[.pointer (some ⟨b, 0, none⟩), .int .i64 i, .int .i64 t] X fun e w' => Tld X ([⟨21, 1, 0, ns.getD i 0⟩, ansI k a] ++ verI (ns.getD i 0) k a (rs.map M.Xr.r)) e w') := fun t => meet_of hT X b k a v vz vm rs ns i t hblk (hF.rl.below hX) (hF.nz.below hX) hF.ok (by omega)
        have HBk : Hid (V.Blk X b 122 [.int .i64 k, .int .i64 a, v, vz, vm]) := hblk
        have e2 : IntKind.i64.wrap ((j : Int) - (i : Int)) = 1 := e1
        generalize ([⟨21, 1, 0, ns.getD i 0⟩, ansI k a] ++ verI (ns.getD i 0) k a (rs.map M.Xr.r)) = L at *
        clear hX hblk hm hF hbig hT ih e1
        go_enter Tryz.func52, Tryz.ntmps52
        go_wp2_with (first | (go_at_call 94; refine (HMs.out _).mono ?_; rintro e w1 ⟨u1, rfl, o1, b1⟩))
        go_ret
        exact ⟨_, vm, rfl, o1, HBk.out.over b1, HM.out, grow_of_below b1 _⟩
      · have hmid := T.mid_lt (a := i) (b := j) (by omega)
        have HH : Hid (Calls Tryz.prog 92 #[.pointer (some ⟨b, 0, none⟩), .int .i64 i, .int .i64 j] X fun e w' => AmT W X b k a v vz (amI ns (fun z => verI z k a (rs.map M.Xr.r)) (ansI k a) i j) ms e w') := halve_of W b k a v vz rs ns hF i j (by omega) h3 (hbig i j (by omega) h3) (ih i _ (by omega) (by omega) (by omega)) (ih _ j (by omega) (by omega) h3) X vm ms hX hblk hm
        generalize amI ns (fun z => verI z k a (rs.map M.Xr.r)) (ansI k a) i j = L at *
        obtain ⟨D, hD⟩ : ∃ D : Int, ((n + 1 : Nat) : Int) = D := ⟨_, rfl⟩
        rw [hD] at e1
        have hD0 : (D == 0) = false := by have : D ≠ 0 := by omega
                                          simpa using this
        have hD1 : (D == 1) = false := by have : D ≠ 1 := by omega
                                          simpa using this
        clear hX hblk hm hF hbig hT ih hD
        go_enter Tryz.func52, Tryz.ntmps52
        go_wp2_with (first | (go_at_call 92; refine HH.out.mono ?_; rintro e w1 ⟨u1, vm1, rfl, o1, k1, m1, g1⟩))
        go_ret
        exact ⟨_, vm1, rfl, o1, k1, m1, g1⟩

end Go.Proofs.YtcckipimfgmmdaaGreatDoor

namespace Go.Proofs.YtcckipimfgmmdaaGreatDoor
open Go.RowKit

def PrT (w : World) (k a : Int) (rs : List M.Xr) (e : Ending) (w' : World) : Prop := ∃ ns, Nrs ns rs ∧ Tld w (progI ns k a (rs.map M.Xr.r)) e w'

theorem ns_of_nz {w : World} {p : Option Addr} {c : Nat} {l : List Int} (h : M.NzR w (.slice p l.length c) l) : T.Ns .u32 w p l.length l := by
  obtain ⟨a, cap, e, h1, h2, hc⟩ := h
  cases e
  refine ⟨rfl, fun h0 => ?_⟩
  obtain ⟨b, o, rfl, hx⟩ := hc h0
  refine ⟨b, o, rfl, fun i hi => ?_⟩
  have := hx i l[i] (List.getElem?_eq_getElem hi)
  rw [List.getD_eq_getElem?_getD, List.getElem?_eq_getElem hi]
  exact this
theorem mid_of_own {w : World} {b : Nat} {v : Value} {l : List Nat} (h : w.ownsRow b 3 1 v l.length (T.cellsN l)) : Mid w v l := by
  rcases h.2 with ⟨rfl, h0⟩ | ⟨g, cap, cur, rfl, hb, hg, hn, hm, _⟩
  · exact ⟨none, 0, by rw [h0], by omega, by decide, fun h1 => by omega⟩
  · refine ⟨_, cap, rfl, hn, by unfold maxLen at hm; omega, fun _ => ⟨g, 0, rfl, fun i x hi => ?_⟩⟩
    have := h.cells (g := g) rfl i (.int .i64 (x : Nat)) (by unfold T.cellsN; rw [List.getElem?_map, hi]; rfl)
    rw [Addr.add_lit] at this
    exact this
theorem sum_wg1 (rs : List M.Xr) (hR : Rok rs) : (rs.map fun x => M.wg1 x.r).sum ≤ 73728 := by
  have h2 : ∀ l : List M.Xr, (∀ x ∈ l, x.r.names.length ≤ 16 ∧ x.r.conds.length ≤ 8) → (l.map fun x => M.wg1 x.r).sum ≤ l.length * 1152 := by
    intro l
    induction l with
    | nil => intro _; exact Nat.zero_le _
    | cons x r ih =>
      intro hx
      have h3 := ih fun y hy => hx y (List.mem_cons_of_mem _ hy)
      obtain ⟨h4, h5⟩ := hx x (List.mem_cons_self ..)
      have h6 : M.wg1 x.r ≤ 16 * 72 := by unfold M.wg1; exact Nat.mul_le_mul h4 (by omega)
      rw [List.map_cons, List.sum_cons, List.length_cons]
      omega
  have h3 := h2 rs fun x hx => ⟨hR.nam x hx, hR.con x hx⟩
  have := hR.len
  omega
theorem am_big (ns : List Int) (k a : Int) (rs : List M.Xr) (h : Nrs ns rs) (hR : Rok rs) (i j : Nat) (hij : i < j) (hj : j ≤ ns.length) : (amI ns (fun z => verI z k a (rs.map M.Xr.r)) (ansI k a) i j).length ≤ 90000 := by
  have h1 := (am_len ns (fun z => verI z k a (rs.map M.Xr.r)) (ansI k a) (fun z => lenR z (rs.map M.Xr.r) + 1) (fun z => ver_len z k a _) (j - i) i j hij hj (Nat.le_refl _)).2
  have h2 := sum_wg ns rs h
  have h3 := sum_wg1 rs hR
  have h4 : (((ns.drop i).take (j - i)).map fun z => lenR z (rs.map M.Xr.r) + 1 + 4).sum ≤ (ns.map fun z => lenR z (rs.map M.Xr.r) + 5).sum := by
    have e : (fun z => lenR z (rs.map M.Xr.r) + 1 + 4) = fun z => lenR z (rs.map M.Xr.r) + 5 := by funext z; omega
    rw [e]
    have q1 : ∀ (l : List Int) (n : Nat) (f : Int → Nat), ((l.take n).map f).sum ≤ (l.map f).sum := fun l n f => by
      conv => rhs; rw [← List.take_append_drop n l, List.map_append, List.sum_append]
      omega
    have q2 : ∀ (l : List Int) (n : Nat) (f : Int → Nat), ((l.drop n).map f).sum ≤ (l.map f).sum := fun l n f => by
      conv => rhs; rw [← List.take_append_drop n l, List.map_append, List.sum_append]
      omega
    exact Nat.le_trans (q1 _ _ _) (q2 _ _ _)
  omega
theorem nums_len (rs : List M.Xr) (hR : Rok rs) : (M.numsR rs).length ≤ 9000000 := by
  have h2 : ∀ l : List M.Xr, (∀ x ∈ l, x.r.names.length ≤ 16) → (M.numsR l).length ≤ l.length * 16 := by
    intro l
    induction l with
    | nil => intro _; exact Nat.zero_le _
    | cons x r ih =>
      intro hx
      have h3 := ih fun y hy => hx y (List.mem_cons_of_mem _ hy)
      have h4 := hx x (List.mem_cons_self ..)
      have h5 : (M.nums x.r.names).length ≤ x.r.names.length := by unfold M.nums; rw [List.length_map]; exact List.length_filter_le _ _
      show (List.flatMap _ (x :: r)).length ≤ _
      rw [List.flatMap_cons, List.length_append, List.length_cons]
      have h6 : (List.flatMap (fun x : M.Xr => M.nums x.r.names) r).length ≤ r.length * 16 := h3
      omega
  have h3 := h2 rs hR.nam
  have := hR.len
  omega

set_option maxRecDepth 8000 in
set_option maxHeartbeats 4000000 in
theorem program_of (hT : DecC) (w : World) (k a : Int) (v : Value) (rs : List M.Xr) (h : M.RlR w v rs) (hR : Rok rs) :
    Calls Tryz.prog 25 #[.agg #[.int .i64 k, .int .i64 a, v]] w fun e w' => PrT w k a rs e w' := by
  obtain ⟨p1, c1, rfl⟩ : ∃ p c, v = .slice p rs.length c := by obtain ⟨p, c, e, _⟩ := h; exact ⟨p, c, e⟩
  have HA : Hid (∀ W, Calls Tryz.prog 49 #[.agg #[.int .i64 1, .int .i64 0]] W fun e w' => e = .returned (.agg #[.int .u16 6, .int .u8 0, .int .u8 0, .int .u32 2147483648]) ∧ Below W.heap.size W w') := answer_any 1 0
  have HB0 : Hid (Below w.heap.size w (w.alloc (Obj.cells #[.int .i64 k, .int .i64 a, .slice p1 rs.length c1] 39))) := below_new w _
  have HK : Hid (V.Blk (w.alloc (Obj.cells #[.int .i64 k, .int .i64 a, .slice p1 rs.length c1] 39)) w.heap.size 39 [.int .i64 k, .int .i64 a, .slice p1 rs.length c1]) := V.blk_new w _ _
  have HX : Hid (∀ W, Below (w.alloc (Obj.cells #[.int .i64 k, .int .i64 a, .slice p1 rs.length c1] 39)).heap.size (w.alloc (Obj.cells #[.int .i64 k, .int .i64 a, .slice p1 rs.length c1] 39)) W → W.cell? ⟨w.heap.size, 0, none⟩ = some (.int .i64 k) ∧ W.cell? ⟨w.heap.size, 1, none⟩ = some (.int .i64 a) ∧ W.cell? ⟨w.heap.size, 2, none⟩ = some (.slice p1 rs.length c1) ∧ M.RlR W (.slice p1 rs.length c1) rs ∧ Below w.heap.size w W) := fun W hW => ⟨(HK.out.over hW).cell 0, (HK.out.over hW).cell 1, (HK.out.over hW).cell 2, h.below (HB0.out.trans (hW.mono HB0.out.size)), HB0.out.trans (hW.mono HB0.out.size)⟩
  have HN : Hid (∀ W, M.RlR W (.slice p1 rs.length c1) rs → Calls Tryz.prog 50 #[.agg #[.int .i64 k, .int .i64 a, .slice p1 rs.length c1]] W fun e w' => M.NmbR W rs e w') := fun W hW => M.numbers_any W k a _ rs hW (by have := hR.len; omega) (fun x hx => by have := hR.nam x hx; omega) (nums_len rs hR)
  have HTr : Hid (∀ W p c (l : List Int), T.Ns .u32 W p l.length l → Calls Tryz.prog 51 #[.slice p l.length c] W fun e w' => T.Bld W w' e (T.bMids l) (T.bErr l)) := fun W p c l hl => T.build_any p l.length c l W hl
  have HAm : Hid (∀ (W X : World) (b : Nat) (vz vm : Value) (ns : List Int), Nrs ns rs → M.RlR W (.slice p1 rs.length c1) rs → M.NzR W vz ns → W.heap.size ≤ b → Below W.heap.size W X → V.Blk X b 122 [.int .i64 k, .int .i64 a, .slice p1 rs.length c1, vz, vm] → Mid W vm (T.mids 0 ns.length) →
      Calls Tryz.prog 52 #[.pointer (some ⟨b, 0, none⟩), .int .i64 0, .int .i64 ns.length] X fun e w' => AmT W X b k a (.slice p1 rs.length c1) vz (bodI ns k a (rs.map M.Xr.r)) [] e w') := fun W X b vz vm ns h1 h2 h3 h4 h5 h6 h7 =>
    among_of hT W b k a _ vz rs ns ⟨h2, h3, hR, h4, by have := h1.len; omega⟩ (am_big ns k a rs h1 hR) ns.length 0 ns.length (Nat.le_refl _) (Nat.zero_le _) (Nat.le_refl _) X vm [] h5 h6 (by rw [List.append_nil]; exact h7)
  have HBg : Hid (∀ ns, Nrs ns rs → (bodI ns k a (rs.map M.Xr.r)).length ≤ 90000) := fun ns h1 => by
    unfold bodI
    by_cases h0 : ns.length = 0
    · rw [am_none (by omega)]; simp
    · exact am_big ns k a rs h1 hR 0 ns.length (by omega) (Nat.le_refl _)
  clear h hR hT HK
  go_enter Tryz.func25, Tryz.ntmps25
  go_upto_region 3 with (first
    | (go_at_call 49; refine (HA.out _).mono ?_; rintro e w1 ⟨rfl, b1⟩; have B2 := b1.alloc b1.size (Obj.cells #[.int .u16 32, .int .u8 0, .int .u8 0, .int .u32 4, .int .u16 21, .int .u8 1, .int .u8 0, .int .u32 3221225534, .int .u16 6, .int .u8 0, .int .u8 0, .int .u32 2147483648, .int .u16 32, .int .u8 0, .int .u8 0, .int .u32 0] 60); obtain ⟨c0, c1', c2, r2, Bw2⟩ := HX.out _ B2)
    | (go_at_call 50; refine (HN.out _ r2).mono ?_; rintro e w3 ⟨v3, ns, rfl, hz3, hr3, hm3, b3⟩))
  have hns : Nrs ns rs := ⟨hr3, hm3⟩
  have HNs : Hid (Nrs ns rs) := hns
  have hE : T.bErr ns = 0 ∧ T.bMids ns = T.mids 0 ns.length := by
    have h1 := hns.len
    have h2 := rises_of hns.rise
    unfold T.bErr T.bMids
    have h3 : ¬ 4096 < ns.length := by omega
    simp [h2, h3]
  have BX3 := B2.trans (b3.mono B2.size)
  have O3 : Hid (w3.ownsRow w.heap.size 60 4 (.slice (some ⟨w1.heap.size, 0, none⟩) 4 4) 4 (V.cellsI [⟨32, 0, 0, 4⟩, ⟨21, 1, 0, 3221225534⟩, ⟨6, 0, 0, 2147483648⟩, ⟨32, 0, 0, 0⟩])) := own_over (own_fresh w1 w.heap.size (HX.out _ b1).2.2.2.2.size [⟨32, 0, 0, 4⟩, ⟨21, 1, 0, 3221225534⟩, ⟨6, 0, 0, 2147483648⟩, ⟨32, 0, 0, 0⟩] 4 rfl (by decide) _ rfl) b3
  obtain ⟨pz, cz, rfl⟩ : ∃ p c, v3 = .slice p ns.length c := by obtain ⟨p, c, e, _⟩ := hz3; exact ⟨p, c, e⟩
  have HTr2 : Hid (Calls Tryz.prog 51 #[.slice pz ns.length cz] w3 fun e w' => T.Bld w3 w' e (T.mids 0 ns.length) 0) := by
    have := HTr.out w3 pz cz ns (ns_of_nz hz3)
    rw [hE.1, hE.2] at this
    exact this
  have HPr : Hid (progI ns k a (rs.map M.Xr.r) = [⟨32, 0, 0, 4⟩, ⟨21, 1, 0, 3221225534⟩, ⟨6, 0, 0, 2147483648⟩, ⟨32, 0, 0, 0⟩] ++ bodI ns k a (rs.map M.Xr.r)) := rfl
  have HBg2 : Hid ((bodI ns k a (rs.map M.Xr.r)).length ≤ 90000) := HBg.out ns hns
  have HAm2 := HAm.out
  clear hr3 hm3 hE c0 c1' c2 r2 Bw2 HN HTr HA B2 b1
  go_upto_region 4 with (first
    | (go_at_call 51; refine HTr2.out.mono ?_; rintro e w4 ⟨b4, vm, rfl, o4⟩))
  have BX4 := BX3.trans (b4.mono BX3.size)
  obtain ⟨c0, c1', c2, r4, B4⟩ := HX.out _ BX4
  have hmid : Mid w4 vm (T.mids 0 ns.length) := mid_of_own o4
  have hz4 := hz3.below b4
  have O4 := own_over O3.out b4
  obtain ⟨am, cm, rfl⟩ := own_slice o4
  have HA5 : Hid (Calls Tryz.prog 52 #[.pointer (some ⟨w4.heap.size, 0, none⟩), .int .i64 0, .int .i64 ns.length] (w4.alloc (Obj.cells #[.int .i64 k, .int .i64 a, .slice p1 rs.length c1, .slice pz ns.length cz, .slice am (T.mids 0 ns.length).length cm] 122)) fun e w' => AmT w4 (w4.alloc (Obj.cells #[.int .i64 k, .int .i64 a, .slice p1 rs.length c1, .slice pz ns.length cz, .slice am (T.mids 0 ns.length).length cm] 122)) w4.heap.size k a (.slice p1 rs.length c1) (.slice pz ns.length cz) (bodI ns k a (rs.map M.Xr.r)) [] e w') := HAm2 w4 _ w4.heap.size _ _ ns hns r4 hz4 (Nat.le_refl _) (below_new w4 _) (V.blk_new w4 _ _) hmid
  have O5 := O4.alloc (Obj.cells #[.int .i64 k, .int .i64 a, .slice p1 rs.length c1, .slice pz ns.length cz, .slice am (T.mids 0 ns.length).length cm] 122)
  have B5 := B4.alloc B4.size (Obj.cells #[.int .i64 k, .int .i64 a, .slice p1 rs.length c1, .slice pz ns.length cz, .slice am (T.mids 0 ns.length).length cm] 122)
  have hlt := V.own_lt O4 w1.heap.size rfl
  clear hmid hz4 hz3 HAm2 HAm HTr2 o4 O3 O4 r4 BX3 BX4 b3 b4
  generalize bodI ns k a (rs.map M.Xr.r) = BI at *
  generalize (T.mids 0 ns.length).length = ml at *
  go_wp2_with (first
    | (go_at_call 52; refine HA5.out.mono ?_; rintro e w6 ⟨u6, vm6, rfl, o6, k6, m6, g6⟩; have O6 := O5.kept g6 (Or.inr fun e => by have e2 : some w1.heap.size = some w4.heap.size := e; have := Option.some.inj e2; omega); have B6 : Below w.heap.size w w6 := B5.grown g6 B5.size (fun j hj => by cases hj; exact B4.size))
    | (at_builtin; refine app_rows rfl (.tmp 25) (.tmp 28) rfl w.heap.size _ 4 _ rfl O6 _ _ _ BI rfl o6 (by have := HBg2.out; omega) B6.size ?_; intro v7 w7 hG; go_frame))
  go_ret
  exact ⟨ns, HNs.out, _, rfl, by rw [HPr.out, List.length_append]; exact hG.own, hG.below O6 B6 B6.size⟩

end Go.Proofs.YtcckipimfgmmdaaGreatDoor
