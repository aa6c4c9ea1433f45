/-
  KAm.
-/
import Derived.Test.YtmcgcbgblgmmkaaGreatDoorQ33
set_option maxRecDepth 8000
set_option maxHeartbeats 600000
namespace Go.Proofs.YtmcgcbgblgmmkaaGreatDoor
open Go.RowKit
def Mid (W : World) (vm : Value) (ms : List Nat) : Prop :=
 ∃ p c, vm = .slice p ms.length c /\ ms.length <= c /\ c <= 9223372036854775807 /\ (0 < ms.length -> ∃ g o, p = some ⟨g, o, none⟩ /\ ∀ (i : Nat) (x : Nat), ms[i]? = some x -> W.cell? ⟨g, o + i, none⟩ = some (.int .i64 (x : Nat)))
structure Fix (W : World) (b : Nat) (v vz : Value) (rs : List M.Xr) (ns : List Int) : Prop where
 rl : M.RlR W v rs
 nz : M.NzR W vz ns
 ok : Rok rs
 at' : W.heap.size <= b
 len : ns.length <= 1000
def AmT (W X : World) (b : Nat) (k a : Int) (v vz : Value) (L : List V.In) (ms : List Nat) (e : Ending) (w' : World) : Prop :=
 ∃ u vm', e = .returned u /\ w'.ownsRow X.heap.size 156 4 u L.length (V.cellsI L) /\ F.D.Blk w' b 162 [.int .i64 k, .int .i64 a, v, vz, vm'] /\ Mid W vm' ms /\ X.grownBy w' (some b)
theorem grow_of_below {X Y : World} (h : Below X.heap.size X Y) (r : Option Nat) : X.grownBy Y r := by
 obtain ⟨h1, h2, h3, h4, h5⟩ := h
 exact ⟨h1, h2, h3, h4, fun j hj _ => h5 j hj⟩
theorem below_of_grow {W X Y : World} {b : Nat} (h : Below W.heap.size W X) (hg : X.grownBy Y (some b)) (hb : W.heap.size <= b) : Below W.heap.size W Y :=
 h.grown hg h.size fun j hj => by cases hj; exact hb
theorem grow_trans {X Y Z : World} {r : Option Nat} (h : X.grownBy Y r) (h' : Y.grownBy Z r) : X.grownBy Z r := by
 obtain ⟨a1, a2, a3, a4, a5⟩ := h
 obtain ⟨b1, b2, b3, b4, b5⟩ := h'
 exact ⟨b1.trans a1, b2.trans a2, b3.trans a3, Nat.le_trans a4 b4, fun j hj hr => (b5 j (Nat.lt_of_lt_of_le hj a4) hr).trans (a5 j hj hr)⟩
theorem grow_set (X : World) (b i : Nat) (v : Value) : X.grownBy (X.setCell ⟨b, i, none⟩ v) (some b) :=
 ⟨rfl, rfl, rfl, by simp, fun j _ hj => Below.heap_setCell _ _ _ j (fun e => hj (by rw [e]))⟩
theorem own_grow {X Y : World} {c b n : Nat} {u : Value} {xs : List Value} (h : X.ownsRow c 156 4 u n xs) (hg : X.grownBy Y (some b)) (hb : b < c) : Y.ownsRow c 156 4 u n xs :=
 h.kept hg (Or.inr fun e => by have := P.owns_block h b e; omega)
def AmC (W : World) (b : Nat) (k a : Int) (v vz : Value) (rs : List M.Xr) (ns : List Int) (i j : Nat) : Prop :=
 ∀ (X : World) (vm : Value) (ms : List Nat), Below W.heap.size W X -> F.D.Blk X b 162 [.int .i64 k, .int .i64 a, v, vz, vm] -> Mid W vm (T.mids i j ++ ms) ->
  Calls Tryz.prog 78 #[.pointer (some ⟨b, 0, none⟩), .int .i64 i, .int .i64 j] X fun e w' => AmT W X b k a v vz (amI ns (fun z => verI z k a (rs.map M.Xr.r)) (ansI k a) i j) ms e w'
theorem halve_of (W : World) (b : Nat) (k a : Int) (v vz : Value) (rs : List M.Xr) (ns : List Int) (hF : Fix W b v vz rs ns) (i j : Nat) (hij : 2 <= j - i) (hj : j <= ns.length)
  (hbig : (amI ns (fun z => verI z k a (rs.map M.Xr.r)) (ansI k a) i j).length <= 90000)
  (ih1 : AmC W b k a v vz rs ns i (T.mid i j)) (ih2 : AmC W b k a v vz rs ns (T.mid i j) j) (X : World) (vm : Value) (ms : List Nat) (hX : Below W.heap.size W X) (hblk : F.D.Blk X b 162 [.int .i64 k, .int .i64 a, v, vz, vm]) (hm : Mid W vm (T.mids i j ++ ms)) :
  Calls Tryz.prog 122 #[.pointer (some ⟨b, 0, none⟩), .int .i64 i, .int .i64 j] X fun e w' => AmT W X b k a v vz (amI ns (fun z => verI z k a (rs.map M.Xr.r)) (ansI k a) i j) ms e w' := by
 have hmid := T.mid_lt hij
 rw [am_two hij] at hbig
 rw [am_two hij]
 rw [T.mids_two hij] at hm
 generalize hM : T.mid i j = m at *
 have HI1 : Hid (AmC W b k a v vz rs ns i m) := ih1
 have HI2 : Hid (AmC W b k a v vz rs ns m j) := ih2
 unfold AmC at HI1 HI2
 generalize amI ns (fun z => verI z k a (rs.map M.Xr.r)) (ansI k a) i m = L1 at *
 generalize amI ns (fun z => verI z k a (rs.map M.Xr.r)) (ansI k a) m j = L2 at *
 have hbl : L1.length + L2.length <= 90000 := by
  unfold forkI at hbig
  rw [List.length_append, List.length_append] at hbig
  omega
 obtain ⟨pm, cm, rfl, hc1, hc2, hcell⟩ := hm
 obtain ⟨g, o, rfl, hcs⟩ := hcell (by simp)
 have hc0 := hcs 0 m rfl
 have hXb : X.heap.size > b := hblk.lt
 have hgW : g < W.heap.size := World.block_lt_of_cell? _ _ hc0
 have hx0 : X.cell? ⟨g, o + 0, none⟩ = some (.int .i64 (m : Nat)) := M.cellS hc0 (hX.block g hgW)
 rw [Nat.add_zero] at hx0
 obtain ⟨R, hR⟩ : ∃ R : List Nat, T.mids i m ++ (T.mids m j ++ ms) = R := ⟨_, rfl⟩
 have hRl : (m :: (T.mids i m ++ T.mids m j) ++ ms).length = R.length + 1 := by rw [<- hR]; simp
 rw [hRl] at hblk hc1
 have HM1 : Hid (Mid W (.slice (if cm = 1 then some ⟨g, o, none⟩ else some ⟨g, o + 1, none⟩) R.length (cm - 1)) (T.mids i m ++ (T.mids m j ++ ms))) := ⟨_, cm - 1, by rw [hR], by rw [hR]; omega, by omega, fun h0 => ⟨g, o + 1, by rw [hR] at h0; rw [if_neg (by omega)], fun q x hq => by
  have := hcs (q + 1) x (by rw [List.cons_append, List.getElem?_cons_succ, List.append_assoc]; exact hq)
  rw [show o + 1 + q = o + (q + 1) from by omega]
  exact this⟩⟩
 have HF : Hid (Fix W b v vz rs ns) := hF
 have HX : Hid (Below W.heap.size W X) := hX
 have c3 := hblk.cell 3
 have c4 := hblk.cell 4
 have f4 := hblk.f 4
 obtain ⟨pz, cz, rfl, hz1, hz2, hzc⟩ := hF.nz
 obtain ⟨zb, zo, rfl, hz⟩ := hzc (by omega)
 have hzm := hz m (ns.getD m 0) (by rw [List.getD_eq_getElem?_getD, List.getElem?_eq_getElem (show m < ns.length by omega)]; rfl)
 have HZ : Hid (∀ Y, Below W.heap.size W Y -> Y.cell? ⟨zb, zo + m, none⟩ = some (.int .u32 (ns.getD m 0))) := fun Y hY => M.cellS hzm (hY.block zb (World.block_lt_of_cell? _ _ hzm))
 have HBl : Hid (F.D.Blk (X.setCell ⟨b, 4, none⟩ (.slice (if cm = 1 then some ⟨g, o, none⟩ else some ⟨g, o + 1, none⟩) R.length (cm - 1))) b 162 [.int .i64 k, .int .i64 a, v, .slice (some ⟨zb, zo, none⟩) ns.length cz, .slice (if cm = 1 then some ⟨g, o, none⟩ else some ⟨g, o + 1, none⟩) R.length (cm - 1)]) := hblk.set 4 _
 have hm1 : (m : Int) < (ns.length : Int) := by omega
 have hm0 : (0 : Int) <= (m : Int) := by omega
 have HFk : Hid (∀ (w : World) (b1 b2 : Nat) (u1 u2 : Value), w.ownsRow b1 156 4 u1 L1.length (V.cellsI L1) -> w.ownsRow b2 156 4 u2 L2.length (V.cellsI L2) -> Calls Tryz.prog 153 #[.int .u32 (ns.getD m 0), u1, u2] w fun e w' => Tld w (forkI (ns.getD m 0) L1 L2) e w') := fun w b1 b2 u1 u2 h1 h2 => fork_any _ w b1 b2 u1 u2 L1 L2 h1 h2 hbl
 generalize forkI (ns.getD m 0) L1 L2 = FL at *
 generalize ns.getD m 0 = zm at *
 clear hblk hbig hcell hcs hc0 hX hF hz hzc hzm hM hR hRl ih1 ih2
 go_enter Tryz.func122, Tryz.ntmps122
 go_upto_region 3 with fail
 generalize (if cm = 1 then (some ⟨g, o, none⟩ : Option Addr) else some ⟨g, o + 1, none⟩) = P at *
 have hg1 : X.grownBy (X.setCell ⟨b, 4, none⟩ (.slice P R.length (cm - 1))) (some b) := grow_set X b 4 _
 have hB1 : Below W.heap.size W (X.setCell ⟨b, 4, none⟩ (.slice P R.length (cm - 1))) := below_of_grow HX.out hg1 HF.out.at'
 have HG1 : Hid (X.grownBy (X.setCell ⟨b, 4, none⟩ (.slice P R.length (cm - 1))) (some b)) := hg1
 have HS1 : Hid (X.heap.size <= (X.setCell ⟨b, 4, none⟩ (.slice P R.length (cm - 1))).heap.size) := by unfold Hid; simp
 clear hg1
 generalize (X.setCell ⟨b, 4, none⟩ (.slice P R.length (cm - 1))) = X1 at *
 have hbX1 : b < X1.heap.size := by have := HS1.out; omega
 go_upto_region 4 with (first
  | (go_at_call 78; refine (HI1.out _ _ _ hB1 HBl.out HM1.out).mono ?_; rintro e w1 ⟨u1, vm1, rfl, o1, k1, m1, g1⟩; have hB2 : Below W.heap.size W w1 := below_of_grow hB1 g1 HF.out.at'; have hs1 : X1.heap.size <= w1.heap.size := g1.size))
 go_upto_region 5 with (first
  | (go_at_call 78; refine (HI2.out _ _ _ hB2 k1 m1).mono ?_; rintro e w2 ⟨u2, vm2, rfl, o2, k2, m2, g2⟩; have hB3 : Below W.heap.size W w2 := below_of_grow hB2 g2 HF.out.at'; have hs2 : w1.heap.size <= w2.heap.size := g2.size; have o1' := own_grow o1 g2 hbX1; have d3 := k2.cell 3; have dz := HZ.out _ hB3))
 go_wp2_with (first
  | (go_at_call 153; refine (HFk.out _ _ _ _ _ o1' o2).mono ?_; rintro e w3 ⟨u3, rfl, o3, b3⟩))
 go_ret
 have := HS1.out
 exact ⟨_, vm2, rfl, Go.Proofs.YtmcgcbgblgmmkaaGreatDoor.P.owns_lower o3 (by omega), k2.over b3, m2, grow_trans (grow_trans (grow_trans HG1.out g1) g2) (grow_of_below b3 _)⟩
theorem among_of (hT : DecC) (W : World) (b : Nat) (k a : Int) (v vz : Value) (rs : List M.Xr) (ns : List Int) (hF : Fix W b v vz rs ns)
  (hbig : ∀ i j, i < j -> j <= ns.length -> (amI ns (fun z => verI z k a (rs.map M.Xr.r)) (ansI k a) i j).length <= 90000) (n : Nat) : ∀ i j, j - i <= n -> i <= j -> j <= ns.length -> AmC W b k a v vz rs ns i j := by
 induction n with
 | zero =>
  intro i j h1 h2 h3 X vm ms hX hblk hm
  have hij : j = i := by omega
  subst hij
  rw [am_none (by omega)]
  have HM : Hid (Mid W vm ms) := by rw [T.mids_one (by omega)] at hm; exact hm
  have HMs : Hid (∀ f t, Calls Tryz.prog 123 #[.pointer (some ⟨b, 0, none⟩), .int .i64 f, .int .i64 t] X fun e w' => Tld X [ansI k a] e w') := fun f t => miss_any X b k a v vz vm f t hblk
  have HBk : Hid (F.D.Blk X b 162 [.int .i64 k, .int .i64 a, v, vz, vm]) := hblk
  have e0 : IntKind.i64.wrap ((j : Int) - (j : Int)) = 0 := by rw [IntKind.wrap_i64]; omega
  generalize [ansI k a] = L at *
  clear hX hblk hm hF hbig hT
  go_enter Tryz.func78, Tryz.ntmps78
  go_wp2_with (first | (go_at_call 123; refine (HMs.out _ _).mono ?_; rintro e w1 ⟨u1, rfl, o1, b1⟩))
  go_ret
  exact ⟨_, vm, rfl, o1, HBk.out.over b1, HM.out, grow_of_below b1 _⟩
 | succ n ih =>
  intro i j h1 h2 h3
  by_cases h4 : j - i <= n
  ·exact ih i j h4 h2 h3
  ·intro X vm ms hX hblk hm
   have hd : j - i = n + 1 := by omega
   have e1 : IntKind.i64.wrap ((j : Int) - (i : Int)) = ((n + 1 : Nat) : Int) := by rw [IntKind.wrap_i64]; have := hF.len; omega
   by_cases h5 : n = 0
   ·subst h5
    rw [am_one (by omega)]
    have HM : Hid (Mid W vm ms) := by rw [T.mids_one (by omega)] at hm; exact hm
    have HMs : Hid (∀ t, Calls Tryz.prog 124 #[.pointer (some ⟨b, 0, none⟩), .int .i64 i, .int .i64 t] X fun e w' => Tld X ([⟨21, 1, 0, ns.getD i 0⟩, ansI k a] ++ verI (ns.getD i 0) k a (rs.map M.Xr.r)) e w') := fun t => meet_of hT X b k a v vz vm rs ns i t hblk (hF.rl.below hX) (hF.nz.below hX) hF.ok (by omega)
    have HBk : Hid (F.D.Blk X b 162 [.int .i64 k, .int .i64 a, v, vz, vm]) := hblk
    have e2 : IntKind.i64.wrap ((j : Int) - (i : Int)) = 1 := e1
    generalize ([⟨21, 1, 0, ns.getD i 0⟩, ansI k a] ++ verI (ns.getD i 0) k a (rs.map M.Xr.r)) = L at *
    clear hX hblk hm hF hbig hT ih e1
    go_enter Tryz.func78, Tryz.ntmps78
    go_wp2_with (first | (go_at_call 124; refine (HMs.out _).mono ?_; rintro e w1 ⟨u1, rfl, o1, b1⟩))
    go_ret
    exact ⟨_, vm, rfl, o1, HBk.out.over b1, HM.out, grow_of_below b1 _⟩
   ·have hmid := T.mid_lt (a := i) (b := j) (by omega)
    have HH : Hid (Calls Tryz.prog 122 #[.pointer (some ⟨b, 0, none⟩), .int .i64 i, .int .i64 j] X fun e w' => AmT W X b k a v vz (amI ns (fun z => verI z k a (rs.map M.Xr.r)) (ansI k a) i j) ms e w') := halve_of W b k a v vz rs ns hF i j (by omega) h3 (hbig i j (by omega) h3) (ih i _ (by omega) (by omega) (by omega)) (ih _ j (by omega) (by omega) h3) X vm ms hX hblk hm
    generalize amI ns (fun z => verI z k a (rs.map M.Xr.r)) (ansI k a) i j = L at *
    obtain ⟨D, hD⟩ : ∃ D : Int, ((n + 1 : Nat) : Int) = D := ⟨_, rfl⟩
    rw [hD] at e1
    have hD0 : (D == 0) = false := by have : D ≠ 0 := by omega
                                      simpa using this
    have hD1 : (D == 1) = false := by have : D ≠ 1 := by omega
                                      simpa using this
    clear hX hblk hm hF hbig hT ih hD
    go_enter Tryz.func78, Tryz.ntmps78
    go_wp2_with (first | (go_at_call 122; refine HH.out.mono ?_; rintro e w1 ⟨u1, vm1, rfl, o1, k1, m1, g1⟩))
    go_ret
    exact ⟨_, vm1, rfl, o1, k1, m1, g1⟩
end Go.Proofs.YtmcgcbgblgmmkaaGreatDoor
