/-
  A message's bytes, by the document: proved of every message.
-/
import Derived.Test.YtpdndcmaaghnjaaMsRrG
import Derived.Test.YtpdndcmaaghnjaaKRefLay
import Derived.Test.YtpdndcmaaghnjaaDRefBytes
import Derived.Test.YtpdndcmaaghnjaaMsEnc
import Derived.Deep.DeepCutAuto
namespace Go.Proofs.Ytpdndcmaaghnjaa
open Go.RowKit
open D (Da Blk)
open K (digs cellsB layF textL)

/-- bytes that are laid so far, behind a box that stands. -/
structure Ou (W0 : World) (l : List Int) (v : Value) (X : World) : Prop where
  own : X.ownsRow W0.heap.size 5 1 v l.length (cellsB l)
  b : Below W0.heap.size W0 X
theorem Ou.over {W0 X X' : World} {l : List Int} {v : Value} (h : Ou W0 l v X) (hb : Below X.heap.size X X') : Ou W0 l v X' := ⟨D.owns_below h.own hb (Nat.le_refl _), h.b.trans (hb.mono h.b.size)⟩
theorem Ou.app {W0 X X' : World} {l k : List Int} {m : Nat} {v v' : Value} (h : Ou W0 l v X) (hm : k.length = m) (ho : X'.ownsRow W0.heap.size 5 1 v' (l.length + m) (cellsB (l ++ k))) (hg : X.grownBy X' v.ownBlock) : Ou W0 (l ++ k) v' X' :=
  ⟨by rw [List.length_append, hm]; exact ho, h.b.grown hg h.b.size (D.owns_block h.own)⟩
theorem Ou.app' {W0 X X' : World} {l k l' : List Int} {m : Nat} {v v' : Value} (h : Ou W0 l v X) (hl : l ++ k = l') (hm : k.length = m) (ho : X'.ownsRow W0.heap.size 5 1 v' (l.length + m) (cellsB (l ++ k))) (hg : X.grownBy X' v.ownBlock) : Ou W0 l' v' X' := hl ▸ h.app hm ho hg
theorem ou_first {W0 w1 : World} (hb : Below W0.heap.size W0 w1) (k : Int) : Ou W0 [k] (.slice (some ⟨w1.heap.size, 0, none⟩) 1 1) (w1.alloc (.cells #[.int .u8 k] 5)) := by
  refine ⟨⟨rfl, .inr ⟨w1.heap.size, 1, #[.int .u8 k], rfl, hb.size, ?_, Nat.le_refl _, by decide, rfl, rfl⟩⟩, hb.alloc hb.size _⟩
  show (w1.heap.push _)[w1.heap.size]? = _
  simp
theorem ou_first' {W0 w1 : World} {l : List Int} {k : Int} (hl : [k] = l) (hb : Below W0.heap.size W0 w1) : Ou W0 l (.slice (some ⟨w1.heap.size, 0, none⟩) 1 1) (w1.alloc (.cells #[.int .u8 k] 5)) := hl ▸ ou_first hb k
theorem Ou.blk {W0 X : World} {l : List Int} {v : Value} {g : Nat} {R : List Value} (h : Ou W0 l v X) (hB : Blk W0 g 28 R) : Blk X g 28 R := hB.below h.b hB.lt
theorem layF_8 (n : Int) (h : n ≤ 18446744073709551615) : layF n 8 = (digs 8 n, 0) := by
  unfold layF
  rw [if_pos ⟨by decide, by decide, by show n < K.pow256 8; rw [K.pow256_8]; omega⟩]
  rfl
theorem textL_ok (p : List Int) (hp : D.Byt p) (h : p.length ≤ 256) : textL (strOfNums p) = (digs 2 p.length ++ p, 0) := by
  have hb : K.bytesOf (strOfNums p) = p := D.bytes_str p hp
  unfold textL
  rw [if_neg (by rw [strOfNums_size]; omega), strOfNums_size, hb]
theorem bs_one (w : World) (z : Int) (h : 0 ≤ z ∧ z ≤ 255) : K.Bs (w.alloc (.cells #[.int .u8 z] 5)) (some ⟨w.heap.size, 0, none⟩) 1 [z] := by
  refine ⟨rfl, fun n hn => by rw [List.mem_singleton.1 hn]; exact h, fun _ => ⟨_, _, rfl, fun i hi => ?_⟩⟩
  obtain rfl : i = 0 := by omega
  simp
theorem bs_two (w : World) (y z : Int) (hy : 0 ≤ y ∧ y ≤ 255) (hz : 0 ≤ z ∧ z ≤ 255) : K.Bs (w.alloc (.cells #[.int .u8 y, .int .u8 z] 5)) (some ⟨w.heap.size, 0, none⟩) 2 [y, z] := by
  refine ⟨rfl, fun n hn => ?_, fun _ => ⟨_, _, rfl, fun i hi => ?_⟩⟩
  · simp only [List.mem_cons, List.not_mem_nil, or_false] at hn
    rcases hn with rfl | rfl
    · exact hy
    · exact hz
  · match i, hi with
    | 0, _ => simp
    | 1, _ => simp

set_option maxHeartbeats 800000 in
theorem re_wrong (m : Mg) (w : World) (ho : m.ok) (hq : rightB m = false) : Calls Try.prog 10 #[m.vl] w fun e w' => e = .returned (.tuple #[.slice none 0 0, .int .i64 1]) ∧ Below w.heap.size w w' := by
  have HR : Hid (∀ W : World, Calls Try.prog 12 #[.agg m.cells.toArray] W fun e w' => e = .returned (.bool false) ∧ Below W.heap.size W w') := fun W => by have := refRight_any m W ho.2.2.1 ho.2.2.2; rw [hq] at this; exact this
  have HZ : Hid ((Try.prog.info? 28).map (·.size) = some m.cells.toArray.size) := m.size ho.2.2.1
  have Z0 : Hid (Blk (w.alloc (Obj.cells m.cells.toArray 28)) w.heap.size 28 m.cells) := D.blk_new w m.cells.toArray 28
  have B0 : Hid (Below w.heap.size w (w.alloc (Obj.cells m.cells.toArray 28))) := room1 w _
  unfold Mg.vl
  clear hq ho
  generalize m.cells = R at *
  go_enter Try.func10, Try.ntmps10
  go_wp2_with (first | (refine wpList_load_row rfl 28 (.tmp 1) rfl w.heap.size rfl 28 R.toArray (0, 0) _ Z0.out Try.underlying28 rfl HZ.out ?_) | (go_at_call 12; refine (HR.out _).mono ?_; rintro e w1 ⟨rfl, b1⟩))
  go_ret2
  exact ⟨rfl, B0.out.trans (b1.mono B0.out.size)⟩

end Go.Proofs.Ytpdndcmaaghnjaa

namespace Go.Proofs.Ytpdndcmaaghnjaa
open Go.RowKit
open D (Da Blk)
open K (digs cellsB layF textL)

set_option linter.unusedSimpArgs false in
set_option maxRecDepth 8000 in
set_option maxHeartbeats 2000000 in
theorem re_k1 (ep id t v : Int) (d : Da) (p : List Int) (w : World) (ho : (Mg.mk 1 ep id t v d p).ok) (hr : MgR (Mg.mk 1 ep id t v d p)) : Calls Try.prog 10 #[(Mg.mk 1 ep id t v d p).vl] w fun e w' => Below w.heap.size w w' ∧ ∃ u, e = .returned (.tuple #[u, .int .i64 0]) ∧ w'.ownsRow w.heap.size 5 1 u (encM (Mg.mk 1 ep id t v d p)).length (cellsB (encM (Mg.mk 1 ep id t v d p))) := by
  have HR : Hid (∀ W : World, Calls Try.prog 12 #[.agg (Mg.mk 1 ep id t v d p).cells.toArray] W fun e w' => e = .returned (.bool true) ∧ Below W.heap.size W w') := fun W => by have := refRight_any (Mg.mk 1 ep id t v d p) W ho.2.2.1 ho.2.2.2; rw [(rightB_iff (Mg.mk 1 ep id t v d p)).2 hr] at this; exact this
  have HZ : Hid ((Try.prog.info? 28).map (·.size) = some (Mg.mk 1 ep id t v d p).cells.toArray.size) := Mg.size (Mg.mk 1 ep id t v d p) ho.2.2.1
  have HC0 := Mg.c0 (Mg.mk 1 ep id t v d p)
  have HC1 := Mg.c1 (Mg.mk 1 ep id t v d p)
  have HC2 := Mg.c2 (Mg.mk 1 ep id t v d p)
  have HC3 := Mg.c3 (Mg.mk 1 ep id t v d p)
  have HC4 := Mg.c4 (Mg.mk 1 ep id t v d p)
  have HC14 := Mg.c14 (Mg.mk 1 ep id t v d p) ho.2.2.1
  have HE : Hid (encM (Mg.mk 1 ep id t v d p) = ([1] ++ digs 8 ep)) := by
    unfold Hid encM idB ntB vaB
    dsimp only
    rw [if_pos rfl, if_neg (by decide), if_neg (by decide)]
    simp only [List.append_nil, List.cons_append, List.nil_append, List.append_assoc]
  rw [HE.out]
  have he0 := ho.1.1; have he1 := ho.1.2; have hi0 := ho.2.1.1; have hi1 := ho.2.1.2
  dsimp only at HC0 HC1 HC2 HC3 HC4 HC14 he0 he1 hi0 hi1
  have HL8 : Hid (∀ W : World, Calls Try.prog 17 #[.int .u64 ep, .int .i64 8] W fun e w' => Below W.heap.size W w' ∧ ∃ v, e = .returned (.tuple #[v, .int .i64 0]) ∧ K.Made w' v (digs 8 ep)) := fun W => by have := K.lay_all ep 8 W he0 he1; rw [layF_8 ep he1] at this; exact this
  have HI8 : Hid (∀ W : World, Calls Try.prog 17 #[.int .u64 id, .int .i64 8] W fun e w' => Below W.heap.size W w' ∧ ∃ v, e = .returned (.tuple #[v, .int .i64 0]) ∧ K.Made w' v (digs 8 id)) := fun W => by have := K.lay_all id 8 W hi0 hi1; rw [layF_8 id hi1] at this; exact this
  have Z0 : Hid (Blk (w.alloc (Obj.cells (Mg.mk 1 ep id t v d p).cells.toArray 28)) w.heap.size 28 (Mg.mk 1 ep id t v d p).cells) := D.blk_new w _ 28
  have B0 : Hid (Below w.heap.size w (w.alloc (Obj.cells (Mg.mk 1 ep id t v d p).cells.toArray 28))) := room1 w _
  have HLE : Hid ((digs 8 ep).length = 8) := K.digs_length 8 ep
  have HLI : Hid ((digs 8 id).length = 8) := K.digs_length 8 id
  unfold Mg.vl
  clear HE he0 he1 hi0 hi1 ho hr
  generalize (Mg.mk 1 ep id t v d p).cells = R at *
  generalize digs 8 ep = E8 at *
  generalize digs 8 id = I8 at *
  obtain ⟨l0, q0⟩ : ∃ x : List Int, [1] = x := ⟨_, rfl⟩
  have n0 : l0.length = 1 := by rw [← q0]; rfl
  rw [q0]
  obtain ⟨l1, q1⟩ : ∃ x, l0 ++ E8 = x := ⟨_, rfl⟩
  have n1 : l1.length = 9 := by rw [← q1, List.length_append, n0]; rw [HLE.out]
  rw [q1]
  have N0 : Hid (l0.length + E8.length ≤ 1000000000) := by unfold Hid; rw [n0, HLE.out]; decide
  have Q0 : Hid ([1] = l0) := q0
  have Q1 : Hid (l0 ++ E8 = l1) := q1
  clear q0 n0 q1 n1
  go_enter Try.func10, Try.ntmps10
  go_wp2_with (first | (refine wpList_load_row rfl 28 (.tmp 1) rfl w.heap.size rfl 28 R.toArray (0, 0) _ Z0.out Try.underlying28 rfl HZ.out ?_) | (go_at_call 12; refine (HR.out _).mono ?_; rintro e w1 ⟨rfl, b1⟩; have O1 : Ou (w.alloc (Obj.cells R.toArray 28)) l0 _ (w1.alloc (.cells #[.int .u8 1] 5)) := ou_first' Q0.out b1; have d0 := ((Z0.out.over b1).cell 0).trans HC0; have Z1x := O1.blk Z0.out; have c0_1 := (Z1x.cell 0).trans HC0; have c1_1 := (Z1x.cell 1).trans HC1; have c2_1 := (Z1x.cell 2).trans HC2; have c3_1 := (Z1x.cell 3).trans HC3; have c4_1 := (Z1x.cell 4).trans HC4; have c14_1 := (Z1x.cell 14).trans HC14))
  refine (HL8.out _).mono ?_
  rintro e w2 ⟨b2, v2, rfl, m2⟩
  obtain ⟨a2, k2, rfl, s2, n2⟩ := m2
  have O2 := O1.over b2
  clear Z1x c0_1 c1_1 c2_1 c3_1 c4_1 c14_1 b2 d0
  have Z2x := O2.blk Z0.out
  have c0_2 := (Z2x.cell 0).trans HC0
  have c1_2 := (Z2x.cell 1).trans HC1
  have c2_2 := (Z2x.cell 2).trans HC2
  have c3_2 := (Z2x.cell 3).trans HC3
  have c4_2 := (Z2x.cell 4).trans HC4
  have c14_2 := (Z2x.cell 14).trans HC14
  go_wp2_with (first | (at_builtin; refine K.append_bytes rfl (.tmp 20) (.tmp 21) rfl (w.alloc (Obj.cells R.toArray 28)).heap.size _ l0.length l0 rfl O2.own a2 E8.length k2 E8 rfl n2 s2 N0.out O2.b.size ?_; intro v3 w3 o3 g3; have O3 := O2.app' Q1.out rfl o3 g3; clear Z2x c0_2 c1_2 c2_2 c3_2 c4_2 c14_2; have Z3x := O3.blk Z0.out; have c0_3 := (Z3x.cell 0).trans HC0; have c1_3 := (Z3x.cell 1).trans HC1; have c2_3 := (Z3x.cell 2).trans HC2; have c3_3 := (Z3x.cell 3).trans HC3; have c4_3 := (Z3x.cell 4).trans HC4; have c14_3 := (Z3x.cell 14).trans HC14))
  go_ret2
  exact ⟨B0.out.trans (O3.b.mono B0.out.size), _, rfl, D.owns_lower O3.own B0.out.size⟩

set_option linter.unusedSimpArgs false in
set_option maxRecDepth 8000 in
set_option maxHeartbeats 2000000 in
theorem re_k3 (ep id t v : Int) (d : Da) (p : List Int) (w : World) (ho : (Mg.mk 3 ep id t v d p).ok) (hr : MgR (Mg.mk 3 ep id t v d p)) : Calls Try.prog 10 #[(Mg.mk 3 ep id t v d p).vl] w fun e w' => Below w.heap.size w w' ∧ ∃ u, e = .returned (.tuple #[u, .int .i64 0]) ∧ w'.ownsRow w.heap.size 5 1 u (encM (Mg.mk 3 ep id t v d p)).length (cellsB (encM (Mg.mk 3 ep id t v d p))) := by
  have HR : Hid (∀ W : World, Calls Try.prog 12 #[.agg (Mg.mk 3 ep id t v d p).cells.toArray] W fun e w' => e = .returned (.bool true) ∧ Below W.heap.size W w') := fun W => by have := refRight_any (Mg.mk 3 ep id t v d p) W ho.2.2.1 ho.2.2.2; rw [(rightB_iff (Mg.mk 3 ep id t v d p)).2 hr] at this; exact this
  have HZ : Hid ((Try.prog.info? 28).map (·.size) = some (Mg.mk 3 ep id t v d p).cells.toArray.size) := Mg.size (Mg.mk 3 ep id t v d p) ho.2.2.1
  have HC0 := Mg.c0 (Mg.mk 3 ep id t v d p)
  have HC1 := Mg.c1 (Mg.mk 3 ep id t v d p)
  have HC2 := Mg.c2 (Mg.mk 3 ep id t v d p)
  have HC3 := Mg.c3 (Mg.mk 3 ep id t v d p)
  have HC4 := Mg.c4 (Mg.mk 3 ep id t v d p)
  have HC14 := Mg.c14 (Mg.mk 3 ep id t v d p) ho.2.2.1
  have HE : Hid (encM (Mg.mk 3 ep id t v d p) = (([3] ++ digs 8 ep) ++ digs 8 id)) := by
    unfold Hid encM idB ntB vaB
    dsimp only
    rw [if_neg (by decide), if_neg (by decide), if_neg (by decide)]
    simp only [List.append_nil, List.cons_append, List.nil_append, List.append_assoc]
  rw [HE.out]
  have he0 := ho.1.1; have he1 := ho.1.2; have hi0 := ho.2.1.1; have hi1 := ho.2.1.2
  dsimp only at HC0 HC1 HC2 HC3 HC4 HC14 he0 he1 hi0 hi1
  have HL8 : Hid (∀ W : World, Calls Try.prog 17 #[.int .u64 ep, .int .i64 8] W fun e w' => Below W.heap.size W w' ∧ ∃ v, e = .returned (.tuple #[v, .int .i64 0]) ∧ K.Made w' v (digs 8 ep)) := fun W => by have := K.lay_all ep 8 W he0 he1; rw [layF_8 ep he1] at this; exact this
  have HI8 : Hid (∀ W : World, Calls Try.prog 17 #[.int .u64 id, .int .i64 8] W fun e w' => Below W.heap.size W w' ∧ ∃ v, e = .returned (.tuple #[v, .int .i64 0]) ∧ K.Made w' v (digs 8 id)) := fun W => by have := K.lay_all id 8 W hi0 hi1; rw [layF_8 id hi1] at this; exact this
  have Z0 : Hid (Blk (w.alloc (Obj.cells (Mg.mk 3 ep id t v d p).cells.toArray 28)) w.heap.size 28 (Mg.mk 3 ep id t v d p).cells) := D.blk_new w _ 28
  have B0 : Hid (Below w.heap.size w (w.alloc (Obj.cells (Mg.mk 3 ep id t v d p).cells.toArray 28))) := room1 w _
  have HLE : Hid ((digs 8 ep).length = 8) := K.digs_length 8 ep
  have HLI : Hid ((digs 8 id).length = 8) := K.digs_length 8 id
  unfold Mg.vl
  clear HE he0 he1 hi0 hi1 ho hr
  generalize (Mg.mk 3 ep id t v d p).cells = R at *
  generalize digs 8 ep = E8 at *
  generalize digs 8 id = I8 at *
  obtain ⟨l0, q0⟩ : ∃ x : List Int, [3] = x := ⟨_, rfl⟩
  have n0 : l0.length = 1 := by rw [← q0]; rfl
  rw [q0]
  obtain ⟨l1, q1⟩ : ∃ x, l0 ++ E8 = x := ⟨_, rfl⟩
  have n1 : l1.length = 9 := by rw [← q1, List.length_append, n0]; rw [HLE.out]
  rw [q1]
  obtain ⟨l2, q2⟩ : ∃ x, l1 ++ I8 = x := ⟨_, rfl⟩
  have n2 : l2.length = 17 := by rw [← q2, List.length_append, n1]; rw [HLI.out]
  rw [q2]
  have N0 : Hid (l0.length + E8.length ≤ 1000000000) := by unfold Hid; rw [n0, HLE.out]; decide
  have N1 : Hid (l1.length + I8.length ≤ 1000000000) := by unfold Hid; rw [n1, HLI.out]; decide
  have Q0 : Hid ([3] = l0) := q0
  have Q1 : Hid (l0 ++ E8 = l1) := q1
  have Q2 : Hid (l1 ++ I8 = l2) := q2
  clear q0 n0 q1 n1 q2 n2
  go_enter Try.func10, Try.ntmps10
  go_wp2_with (first | (refine wpList_load_row rfl 28 (.tmp 1) rfl w.heap.size rfl 28 R.toArray (0, 0) _ Z0.out Try.underlying28 rfl HZ.out ?_) | (go_at_call 12; refine (HR.out _).mono ?_; rintro e w1 ⟨rfl, b1⟩; have O1 : Ou (w.alloc (Obj.cells R.toArray 28)) l0 _ (w1.alloc (.cells #[.int .u8 3] 5)) := ou_first' Q0.out b1; have d0 := ((Z0.out.over b1).cell 0).trans HC0; have Z1x := O1.blk Z0.out; have c0_1 := (Z1x.cell 0).trans HC0; have c1_1 := (Z1x.cell 1).trans HC1; have c2_1 := (Z1x.cell 2).trans HC2; have c3_1 := (Z1x.cell 3).trans HC3; have c4_1 := (Z1x.cell 4).trans HC4; have c14_1 := (Z1x.cell 14).trans HC14))
  refine (HL8.out _).mono ?_
  rintro e w2 ⟨b2, v2, rfl, m2⟩
  obtain ⟨a2, k2, rfl, s2, n2⟩ := m2
  have O2 := O1.over b2
  clear Z1x c0_1 c1_1 c2_1 c3_1 c4_1 c14_1 b2 d0
  have Z2x := O2.blk Z0.out
  have c0_2 := (Z2x.cell 0).trans HC0
  have c1_2 := (Z2x.cell 1).trans HC1
  have c2_2 := (Z2x.cell 2).trans HC2
  have c3_2 := (Z2x.cell 3).trans HC3
  have c4_2 := (Z2x.cell 4).trans HC4
  have c14_2 := (Z2x.cell 14).trans HC14
  go_wp2_with (first | (at_builtin; refine K.append_bytes rfl (.tmp 20) (.tmp 21) rfl (w.alloc (Obj.cells R.toArray 28)).heap.size _ l0.length l0 rfl O2.own a2 E8.length k2 E8 rfl n2 s2 N0.out O2.b.size ?_; intro v3 w3 o3 g3; have O3 := O2.app' Q1.out rfl o3 g3; clear Z2x c0_2 c1_2 c2_2 c3_2 c4_2 c14_2; have Z3x := O3.blk Z0.out; have c0_3 := (Z3x.cell 0).trans HC0; have c1_3 := (Z3x.cell 1).trans HC1; have c2_3 := (Z3x.cell 2).trans HC2; have c3_3 := (Z3x.cell 3).trans HC3; have c4_3 := (Z3x.cell 4).trans HC4; have c14_3 := (Z3x.cell 14).trans HC14))
  refine (HI8.out _).mono ?_
  rintro e w4 ⟨b4, v4, rfl, m4⟩
  obtain ⟨a4, k4, rfl, s4, n4⟩ := m4
  have O4 := O3.over b4
  clear Z3x c0_3 c1_3 c2_3 c3_3 c4_3 c14_3 b4
  have Z4x := O4.blk Z0.out
  have c0_4 := (Z4x.cell 0).trans HC0
  have c1_4 := (Z4x.cell 1).trans HC1
  have c2_4 := (Z4x.cell 2).trans HC2
  have c3_4 := (Z4x.cell 3).trans HC3
  have c4_4 := (Z4x.cell 4).trans HC4
  have c14_4 := (Z4x.cell 14).trans HC14
  go_wp2_with (first | (at_builtin; refine K.append_bytes rfl (.tmp 32) (.tmp 33) rfl (w.alloc (Obj.cells R.toArray 28)).heap.size _ l1.length l1 rfl O4.own a4 I8.length k4 I8 rfl n4 s4 N1.out O4.b.size ?_; intro v5 w5 o5 g5; have O5 := O4.app' Q2.out rfl o5 g5; clear Z4x c0_4 c1_4 c2_4 c3_4 c4_4 c14_4; have Z5x := O5.blk Z0.out; have c0_5 := (Z5x.cell 0).trans HC0; have c1_5 := (Z5x.cell 1).trans HC1; have c2_5 := (Z5x.cell 2).trans HC2; have c3_5 := (Z5x.cell 3).trans HC3; have c4_5 := (Z5x.cell 4).trans HC4; have c14_5 := (Z5x.cell 14).trans HC14))
  go_ret2
  exact ⟨B0.out.trans (O5.b.mono B0.out.size), _, rfl, D.owns_lower O5.own B0.out.size⟩

set_option linter.unusedSimpArgs false in
set_option maxRecDepth 8000 in
set_option maxHeartbeats 2000000 in
theorem re_k6 (ep id t v : Int) (d : Da) (p : List Int) (w : World) (ho : (Mg.mk 6 ep id t v d p).ok) (hr : MgR (Mg.mk 6 ep id t v d p)) : Calls Try.prog 10 #[(Mg.mk 6 ep id t v d p).vl] w fun e w' => Below w.heap.size w w' ∧ ∃ u, e = .returned (.tuple #[u, .int .i64 0]) ∧ w'.ownsRow w.heap.size 5 1 u (encM (Mg.mk 6 ep id t v d p)).length (cellsB (encM (Mg.mk 6 ep id t v d p))) := by
  have HR : Hid (∀ W : World, Calls Try.prog 12 #[.agg (Mg.mk 6 ep id t v d p).cells.toArray] W fun e w' => e = .returned (.bool true) ∧ Below W.heap.size W w') := fun W => by have := refRight_any (Mg.mk 6 ep id t v d p) W ho.2.2.1 ho.2.2.2; rw [(rightB_iff (Mg.mk 6 ep id t v d p)).2 hr] at this; exact this
  have HZ : Hid ((Try.prog.info? 28).map (·.size) = some (Mg.mk 6 ep id t v d p).cells.toArray.size) := Mg.size (Mg.mk 6 ep id t v d p) ho.2.2.1
  have HC0 := Mg.c0 (Mg.mk 6 ep id t v d p)
  have HC1 := Mg.c1 (Mg.mk 6 ep id t v d p)
  have HC2 := Mg.c2 (Mg.mk 6 ep id t v d p)
  have HC3 := Mg.c3 (Mg.mk 6 ep id t v d p)
  have HC4 := Mg.c4 (Mg.mk 6 ep id t v d p)
  have HC14 := Mg.c14 (Mg.mk 6 ep id t v d p) ho.2.2.1
  have HE : Hid (encM (Mg.mk 6 ep id t v d p) = (([6] ++ digs 8 ep) ++ digs 8 id)) := by
    unfold Hid encM idB ntB vaB
    dsimp only
    rw [if_neg (by decide), if_neg (by decide), if_neg (by decide)]
    simp only [List.append_nil, List.cons_append, List.nil_append, List.append_assoc]
  rw [HE.out]
  have he0 := ho.1.1; have he1 := ho.1.2; have hi0 := ho.2.1.1; have hi1 := ho.2.1.2
  dsimp only at HC0 HC1 HC2 HC3 HC4 HC14 he0 he1 hi0 hi1
  have HL8 : Hid (∀ W : World, Calls Try.prog 17 #[.int .u64 ep, .int .i64 8] W fun e w' => Below W.heap.size W w' ∧ ∃ v, e = .returned (.tuple #[v, .int .i64 0]) ∧ K.Made w' v (digs 8 ep)) := fun W => by have := K.lay_all ep 8 W he0 he1; rw [layF_8 ep he1] at this; exact this
  have HI8 : Hid (∀ W : World, Calls Try.prog 17 #[.int .u64 id, .int .i64 8] W fun e w' => Below W.heap.size W w' ∧ ∃ v, e = .returned (.tuple #[v, .int .i64 0]) ∧ K.Made w' v (digs 8 id)) := fun W => by have := K.lay_all id 8 W hi0 hi1; rw [layF_8 id hi1] at this; exact this
  have Z0 : Hid (Blk (w.alloc (Obj.cells (Mg.mk 6 ep id t v d p).cells.toArray 28)) w.heap.size 28 (Mg.mk 6 ep id t v d p).cells) := D.blk_new w _ 28
  have B0 : Hid (Below w.heap.size w (w.alloc (Obj.cells (Mg.mk 6 ep id t v d p).cells.toArray 28))) := room1 w _
  have HLE : Hid ((digs 8 ep).length = 8) := K.digs_length 8 ep
  have HLI : Hid ((digs 8 id).length = 8) := K.digs_length 8 id
  unfold Mg.vl
  clear HE he0 he1 hi0 hi1 ho hr
  generalize (Mg.mk 6 ep id t v d p).cells = R at *
  generalize digs 8 ep = E8 at *
  generalize digs 8 id = I8 at *
  obtain ⟨l0, q0⟩ : ∃ x : List Int, [6] = x := ⟨_, rfl⟩
  have n0 : l0.length = 1 := by rw [← q0]; rfl
  rw [q0]
  obtain ⟨l1, q1⟩ : ∃ x, l0 ++ E8 = x := ⟨_, rfl⟩
  have n1 : l1.length = 9 := by rw [← q1, List.length_append, n0]; rw [HLE.out]
  rw [q1]
  obtain ⟨l2, q2⟩ : ∃ x, l1 ++ I8 = x := ⟨_, rfl⟩
  have n2 : l2.length = 17 := by rw [← q2, List.length_append, n1]; rw [HLI.out]
  rw [q2]
  have N0 : Hid (l0.length + E8.length ≤ 1000000000) := by unfold Hid; rw [n0, HLE.out]; decide
  have N1 : Hid (l1.length + I8.length ≤ 1000000000) := by unfold Hid; rw [n1, HLI.out]; decide
  have Q0 : Hid ([6] = l0) := q0
  have Q1 : Hid (l0 ++ E8 = l1) := q1
  have Q2 : Hid (l1 ++ I8 = l2) := q2
  clear q0 n0 q1 n1 q2 n2
  go_enter Try.func10, Try.ntmps10
  go_wp2_with (first | (refine wpList_load_row rfl 28 (.tmp 1) rfl w.heap.size rfl 28 R.toArray (0, 0) _ Z0.out Try.underlying28 rfl HZ.out ?_) | (go_at_call 12; refine (HR.out _).mono ?_; rintro e w1 ⟨rfl, b1⟩; have O1 : Ou (w.alloc (Obj.cells R.toArray 28)) l0 _ (w1.alloc (.cells #[.int .u8 6] 5)) := ou_first' Q0.out b1; have d0 := ((Z0.out.over b1).cell 0).trans HC0; have Z1x := O1.blk Z0.out; have c0_1 := (Z1x.cell 0).trans HC0; have c1_1 := (Z1x.cell 1).trans HC1; have c2_1 := (Z1x.cell 2).trans HC2; have c3_1 := (Z1x.cell 3).trans HC3; have c4_1 := (Z1x.cell 4).trans HC4; have c14_1 := (Z1x.cell 14).trans HC14))
  refine (HL8.out _).mono ?_
  rintro e w2 ⟨b2, v2, rfl, m2⟩
  obtain ⟨a2, k2, rfl, s2, n2⟩ := m2
  have O2 := O1.over b2
  clear Z1x c0_1 c1_1 c2_1 c3_1 c4_1 c14_1 b2 d0
  have Z2x := O2.blk Z0.out
  have c0_2 := (Z2x.cell 0).trans HC0
  have c1_2 := (Z2x.cell 1).trans HC1
  have c2_2 := (Z2x.cell 2).trans HC2
  have c3_2 := (Z2x.cell 3).trans HC3
  have c4_2 := (Z2x.cell 4).trans HC4
  have c14_2 := (Z2x.cell 14).trans HC14
  go_wp2_with (first | (at_builtin; refine K.append_bytes rfl (.tmp 20) (.tmp 21) rfl (w.alloc (Obj.cells R.toArray 28)).heap.size _ l0.length l0 rfl O2.own a2 E8.length k2 E8 rfl n2 s2 N0.out O2.b.size ?_; intro v3 w3 o3 g3; have O3 := O2.app' Q1.out rfl o3 g3; clear Z2x c0_2 c1_2 c2_2 c3_2 c4_2 c14_2; have Z3x := O3.blk Z0.out; have c0_3 := (Z3x.cell 0).trans HC0; have c1_3 := (Z3x.cell 1).trans HC1; have c2_3 := (Z3x.cell 2).trans HC2; have c3_3 := (Z3x.cell 3).trans HC3; have c4_3 := (Z3x.cell 4).trans HC4; have c14_3 := (Z3x.cell 14).trans HC14))
  refine (HI8.out _).mono ?_
  rintro e w4 ⟨b4, v4, rfl, m4⟩
  obtain ⟨a4, k4, rfl, s4, n4⟩ := m4
  have O4 := O3.over b4
  clear Z3x c0_3 c1_3 c2_3 c3_3 c4_3 c14_3 b4
  have Z4x := O4.blk Z0.out
  have c0_4 := (Z4x.cell 0).trans HC0
  have c1_4 := (Z4x.cell 1).trans HC1
  have c2_4 := (Z4x.cell 2).trans HC2
  have c3_4 := (Z4x.cell 3).trans HC3
  have c4_4 := (Z4x.cell 4).trans HC4
  have c14_4 := (Z4x.cell 14).trans HC14
  go_wp2_with (first | (at_builtin; refine K.append_bytes rfl (.tmp 32) (.tmp 33) rfl (w.alloc (Obj.cells R.toArray 28)).heap.size _ l1.length l1 rfl O4.own a4 I8.length k4 I8 rfl n4 s4 N1.out O4.b.size ?_; intro v5 w5 o5 g5; have O5 := O4.app' Q2.out rfl o5 g5; clear Z4x c0_4 c1_4 c2_4 c3_4 c4_4 c14_4; have Z5x := O5.blk Z0.out; have c0_5 := (Z5x.cell 0).trans HC0; have c1_5 := (Z5x.cell 1).trans HC1; have c2_5 := (Z5x.cell 2).trans HC2; have c3_5 := (Z5x.cell 3).trans HC3; have c4_5 := (Z5x.cell 4).trans HC4; have c14_5 := (Z5x.cell 14).trans HC14))
  go_ret2
  exact ⟨B0.out.trans (O5.b.mono B0.out.size), _, rfl, D.owns_lower O5.own B0.out.size⟩

end Go.Proofs.Ytpdndcmaaghnjaa

namespace Go.Proofs.Ytpdndcmaaghnjaa
open Go.RowKit
open D (Da Blk)
open K (digs cellsB layF textL)

set_option linter.unusedSimpArgs false in
set_option maxRecDepth 8000 in
set_option maxHeartbeats 2000000 in
theorem re_k4 (ep id t v : Int) (d : Da) (p : List Int) (w : World) (ho : (Mg.mk 4 ep id t v d p).ok) (hr : MgR (Mg.mk 4 ep id t v d p)) : Calls Try.prog 10 #[(Mg.mk 4 ep id t v d p).vl] w fun e w' => Below w.heap.size w w' ∧ ∃ u, e = .returned (.tuple #[u, .int .i64 0]) ∧ w'.ownsRow w.heap.size 5 1 u (encM (Mg.mk 4 ep id t v d p)).length (cellsB (encM (Mg.mk 4 ep id t v d p))) := by
  have HR : Hid (∀ W : World, Calls Try.prog 12 #[.agg (Mg.mk 4 ep id t v d p).cells.toArray] W fun e w' => e = .returned (.bool true) ∧ Below W.heap.size W w') := fun W => by have := refRight_any (Mg.mk 4 ep id t v d p) W ho.2.2.1 ho.2.2.2; rw [(rightB_iff (Mg.mk 4 ep id t v d p)).2 hr] at this; exact this
  have HZ : Hid ((Try.prog.info? 28).map (·.size) = some (Mg.mk 4 ep id t v d p).cells.toArray.size) := Mg.size (Mg.mk 4 ep id t v d p) ho.2.2.1
  have HC0 := Mg.c0 (Mg.mk 4 ep id t v d p)
  have HC1 := Mg.c1 (Mg.mk 4 ep id t v d p)
  have HC2 := Mg.c2 (Mg.mk 4 ep id t v d p)
  have HC3 := Mg.c3 (Mg.mk 4 ep id t v d p)
  have HC4 := Mg.c4 (Mg.mk 4 ep id t v d p)
  have HC14 := Mg.c14 (Mg.mk 4 ep id t v d p) ho.2.2.1
  have h5 := hr.2.2.2.2.2.2.1 (show (4 : Int) = 4 ∨ (4 : Int) = 5 ∨ (4 : Int) = 7 by decide)
  obtain ⟨v0, v1⟩ := h5
  dsimp only at v0 v1
  have hq : IntKind.u8.wrap (v.tdiv 256) = v / 256 := by rw [Int.tdiv_eq_ediv_of_nonneg v0, IntKind.wrap_u8]; omega
  have hm : IntKind.u8.wrap (v.tmod 256) = v % 256 := by rw [Int.tmod_eq_emod_of_nonneg v0, IntKind.wrap_u8]; omega
  have hq1 : IntKind.i64.wrap (v.tdiv 256) = v.tdiv 256 := by rw [Int.tdiv_eq_ediv_of_nonneg v0, IntKind.wrap_i64]; omega
  have HV : Hid ((0 ≤ v / 256 ∧ v / 256 ≤ 255) ∧ (0 ≤ v % 256 ∧ v % 256 ≤ 255)) := ⟨⟨by omega, by omega⟩, ⟨by omega, by omega⟩⟩
  have HV2 : Hid (digs 2 v = [v / 256, v % 256]) := by show [v / 256 % 256, v % 256] = _; rw [Int.emod_eq_of_lt (a := v / 256) (by omega) (by omega)]
  clear v0 v1
  have HE : Hid (encM (Mg.mk 4 ep id t v d p) = ((([4] ++ digs 8 ep) ++ digs 8 id) ++ [v / 256, v % 256])) := by
    unfold Hid encM idB ntB vaB
    dsimp only
    rw [if_neg (by decide), if_neg (by decide), if_pos (by decide), HV2.out]
    simp only [List.append_nil, List.cons_append, List.nil_append, List.append_assoc]
  rw [HE.out]
  have he0 := ho.1.1; have he1 := ho.1.2; have hi0 := ho.2.1.1; have hi1 := ho.2.1.2
  dsimp only at HC0 HC1 HC2 HC3 HC4 HC14 he0 he1 hi0 hi1
  have HL8 : Hid (∀ W : World, Calls Try.prog 17 #[.int .u64 ep, .int .i64 8] W fun e w' => Below W.heap.size W w' ∧ ∃ v, e = .returned (.tuple #[v, .int .i64 0]) ∧ K.Made w' v (digs 8 ep)) := fun W => by have := K.lay_all ep 8 W he0 he1; rw [layF_8 ep he1] at this; exact this
  have HI8 : Hid (∀ W : World, Calls Try.prog 17 #[.int .u64 id, .int .i64 8] W fun e w' => Below W.heap.size W w' ∧ ∃ v, e = .returned (.tuple #[v, .int .i64 0]) ∧ K.Made w' v (digs 8 id)) := fun W => by have := K.lay_all id 8 W hi0 hi1; rw [layF_8 id hi1] at this; exact this
  have Z0 : Hid (Blk (w.alloc (Obj.cells (Mg.mk 4 ep id t v d p).cells.toArray 28)) w.heap.size 28 (Mg.mk 4 ep id t v d p).cells) := D.blk_new w _ 28
  have B0 : Hid (Below w.heap.size w (w.alloc (Obj.cells (Mg.mk 4 ep id t v d p).cells.toArray 28))) := room1 w _
  have HLE : Hid ((digs 8 ep).length = 8) := K.digs_length 8 ep
  have HLI : Hid ((digs 8 id).length = 8) := K.digs_length 8 id
  unfold Mg.vl
  clear HE he0 he1 hi0 hi1 ho hr HV2
  generalize (Mg.mk 4 ep id t v d p).cells = R at *
  generalize digs 8 ep = E8 at *
  generalize digs 8 id = I8 at *
  obtain ⟨l0, q0⟩ : ∃ x : List Int, [4] = x := ⟨_, rfl⟩
  have n0 : l0.length = 1 := by rw [← q0]; rfl
  rw [q0]
  obtain ⟨l1, q1⟩ : ∃ x, l0 ++ E8 = x := ⟨_, rfl⟩
  have n1 : l1.length = 9 := by rw [← q1, List.length_append, n0]; rw [HLE.out]
  rw [q1]
  obtain ⟨l2, q2⟩ : ∃ x, l1 ++ I8 = x := ⟨_, rfl⟩
  have n2 : l2.length = 17 := by rw [← q2, List.length_append, n1]; rw [HLI.out]
  rw [q2]
  obtain ⟨l3, q3⟩ : ∃ x, l2 ++ [v / 256, v % 256] = x := ⟨_, rfl⟩
  have n3 : l3.length = 19 := by rw [← q3, List.length_append, n2]; rfl
  rw [q3]
  have N0 : Hid (l0.length + E8.length ≤ 1000000000) := by unfold Hid; rw [n0, HLE.out]; decide
  have N1 : Hid (l1.length + I8.length ≤ 1000000000) := by unfold Hid; rw [n1, HLI.out]; decide
  have N2 : Hid (l2.length + 2 ≤ 1000000000) := by unfold Hid; rw [n2]; decide
  have Q0 : Hid ([4] = l0) := q0
  have Q1 : Hid (l0 ++ E8 = l1) := q1
  have Q2 : Hid (l1 ++ I8 = l2) := q2
  have Q3 : Hid (l2 ++ [v / 256, v % 256] = l3) := q3
  clear q0 n0 q1 n1 q2 n2 q3 n3
  go_enter Try.func10, Try.ntmps10
  go_wp2_with (first | (refine wpList_load_row rfl 28 (.tmp 1) rfl w.heap.size rfl 28 R.toArray (0, 0) _ Z0.out Try.underlying28 rfl HZ.out ?_) | (go_at_call 12; refine (HR.out _).mono ?_; rintro e w1 ⟨rfl, b1⟩; have O1 : Ou (w.alloc (Obj.cells R.toArray 28)) l0 _ (w1.alloc (.cells #[.int .u8 4] 5)) := ou_first' Q0.out b1; have d0 := ((Z0.out.over b1).cell 0).trans HC0; have Z1x := O1.blk Z0.out; have c0_1 := (Z1x.cell 0).trans HC0; have c1_1 := (Z1x.cell 1).trans HC1; have c2_1 := (Z1x.cell 2).trans HC2; have c3_1 := (Z1x.cell 3).trans HC3; have c4_1 := (Z1x.cell 4).trans HC4; have c14_1 := (Z1x.cell 14).trans HC14))
  refine (HL8.out _).mono ?_
  rintro e w2 ⟨b2, v2, rfl, m2⟩
  obtain ⟨a2, k2, rfl, s2, n2⟩ := m2
  have O2 := O1.over b2
  clear Z1x c0_1 c1_1 c2_1 c3_1 c4_1 c14_1 b2 d0
  have Z2x := O2.blk Z0.out
  have c0_2 := (Z2x.cell 0).trans HC0
  have c1_2 := (Z2x.cell 1).trans HC1
  have c2_2 := (Z2x.cell 2).trans HC2
  have c3_2 := (Z2x.cell 3).trans HC3
  have c4_2 := (Z2x.cell 4).trans HC4
  have c14_2 := (Z2x.cell 14).trans HC14
  go_wp2_with (first | (at_builtin; refine K.append_bytes rfl (.tmp 20) (.tmp 21) rfl (w.alloc (Obj.cells R.toArray 28)).heap.size _ l0.length l0 rfl O2.own a2 E8.length k2 E8 rfl n2 s2 N0.out O2.b.size ?_; intro v3 w3 o3 g3; have O3 := O2.app' Q1.out rfl o3 g3; clear Z2x c0_2 c1_2 c2_2 c3_2 c4_2 c14_2; have Z3x := O3.blk Z0.out; have c0_3 := (Z3x.cell 0).trans HC0; have c1_3 := (Z3x.cell 1).trans HC1; have c2_3 := (Z3x.cell 2).trans HC2; have c3_3 := (Z3x.cell 3).trans HC3; have c4_3 := (Z3x.cell 4).trans HC4; have c14_3 := (Z3x.cell 14).trans HC14))
  refine (HI8.out _).mono ?_
  rintro e w4 ⟨b4, v4, rfl, m4⟩
  obtain ⟨a4, k4, rfl, s4, n4⟩ := m4
  have O4 := O3.over b4
  clear Z3x c0_3 c1_3 c2_3 c3_3 c4_3 c14_3 b4
  have Z4x := O4.blk Z0.out
  have c0_4 := (Z4x.cell 0).trans HC0
  have c1_4 := (Z4x.cell 1).trans HC1
  have c2_4 := (Z4x.cell 2).trans HC2
  have c3_4 := (Z4x.cell 3).trans HC3
  have c4_4 := (Z4x.cell 4).trans HC4
  have c14_4 := (Z4x.cell 14).trans HC14
  go_upto_region 14 with (first | (at_builtin; refine K.append_bytes rfl (.tmp 32) (.tmp 33) rfl (w.alloc (Obj.cells R.toArray 28)).heap.size _ l1.length l1 rfl O4.own a4 I8.length k4 I8 rfl n4 s4 N1.out O4.b.size ?_; intro v5 w5 o5 g5; have O5 := O4.app' Q2.out rfl o5 g5; clear Z4x c0_4 c1_4 c2_4 c3_4 c4_4 c14_4; have Z5x := O5.blk Z0.out; have c0_5 := (Z5x.cell 0).trans HC0; have c1_5 := (Z5x.cell 1).trans HC1; have c2_5 := (Z5x.cell 2).trans HC2; have c3_5 := (Z5x.cell 3).trans HC3; have c4_5 := (Z5x.cell 4).trans HC4; have c14_5 := (Z5x.cell 14).trans HC14))
  have O6 := O5.over (room1 w5 (.cells #[.int .u8 (v / 256), .int .u8 (v % 256)] 5))
  have sV := bs_two w5 (v / 256) (v % 256) HV.out.1 HV.out.2
  have Z6x := O6.blk Z0.out
  have c0_6 := (Z6x.cell 0).trans HC0
  have c1_6 := (Z6x.cell 1).trans HC1
  have c2_6 := (Z6x.cell 2).trans HC2
  have c3_6 := (Z6x.cell 3).trans HC3
  have c4_6 := (Z6x.cell 4).trans HC4
  have c14_6 := (Z6x.cell 14).trans HC14
  go_wp2_with (first | (at_builtin; refine K.append_bytes rfl (.tmp 71) (.tmp 80) rfl (w.alloc (Obj.cells R.toArray 28)).heap.size _ l2.length l2 rfl O6.own (some ⟨w5.heap.size, 0, none⟩) 2 2 [v / 256, v % 256] rfl (fun e => by cases e) sV N2.out O6.b.size ?_; intro v7 w7 o7 g7; have O7 := O6.app' Q3.out rfl o7 g7; clear Z6x c0_6 c1_6 c2_6 c3_6 c4_6 c14_6; have Z7x := O7.blk Z0.out; have c0_7 := (Z7x.cell 0).trans HC0; have c1_7 := (Z7x.cell 1).trans HC1; have c2_7 := (Z7x.cell 2).trans HC2; have c3_7 := (Z7x.cell 3).trans HC3; have c4_7 := (Z7x.cell 4).trans HC4; have c14_7 := (Z7x.cell 14).trans HC14))
  go_ret2
  exact ⟨B0.out.trans (O7.b.mono B0.out.size), _, rfl, D.owns_lower O7.own B0.out.size⟩

set_option linter.unusedSimpArgs false in
set_option maxRecDepth 8000 in
set_option maxHeartbeats 2000000 in
theorem re_k5 (ep id t v : Int) (d : Da) (p : List Int) (w : World) (ho : (Mg.mk 5 ep id t v d p).ok) (hr : MgR (Mg.mk 5 ep id t v d p)) : Calls Try.prog 10 #[(Mg.mk 5 ep id t v d p).vl] w fun e w' => Below w.heap.size w w' ∧ ∃ u, e = .returned (.tuple #[u, .int .i64 0]) ∧ w'.ownsRow w.heap.size 5 1 u (encM (Mg.mk 5 ep id t v d p)).length (cellsB (encM (Mg.mk 5 ep id t v d p))) := by
  have HR : Hid (∀ W : World, Calls Try.prog 12 #[.agg (Mg.mk 5 ep id t v d p).cells.toArray] W fun e w' => e = .returned (.bool true) ∧ Below W.heap.size W w') := fun W => by have := refRight_any (Mg.mk 5 ep id t v d p) W ho.2.2.1 ho.2.2.2; rw [(rightB_iff (Mg.mk 5 ep id t v d p)).2 hr] at this; exact this
  have HZ : Hid ((Try.prog.info? 28).map (·.size) = some (Mg.mk 5 ep id t v d p).cells.toArray.size) := Mg.size (Mg.mk 5 ep id t v d p) ho.2.2.1
  have HC0 := Mg.c0 (Mg.mk 5 ep id t v d p)
  have HC1 := Mg.c1 (Mg.mk 5 ep id t v d p)
  have HC2 := Mg.c2 (Mg.mk 5 ep id t v d p)
  have HC3 := Mg.c3 (Mg.mk 5 ep id t v d p)
  have HC4 := Mg.c4 (Mg.mk 5 ep id t v d p)
  have HC14 := Mg.c14 (Mg.mk 5 ep id t v d p) ho.2.2.1
  have h5 := hr.2.2.2.2.2.2.1 (show (5 : Int) = 4 ∨ (5 : Int) = 5 ∨ (5 : Int) = 7 by decide)
  obtain ⟨v0, v1⟩ := h5
  dsimp only at v0 v1
  have hq : IntKind.u8.wrap (v.tdiv 256) = v / 256 := by rw [Int.tdiv_eq_ediv_of_nonneg v0, IntKind.wrap_u8]; omega
  have hm : IntKind.u8.wrap (v.tmod 256) = v % 256 := by rw [Int.tmod_eq_emod_of_nonneg v0, IntKind.wrap_u8]; omega
  have hq1 : IntKind.i64.wrap (v.tdiv 256) = v.tdiv 256 := by rw [Int.tdiv_eq_ediv_of_nonneg v0, IntKind.wrap_i64]; omega
  have HV : Hid ((0 ≤ v / 256 ∧ v / 256 ≤ 255) ∧ (0 ≤ v % 256 ∧ v % 256 ≤ 255)) := ⟨⟨by omega, by omega⟩, ⟨by omega, by omega⟩⟩
  have HV2 : Hid (digs 2 v = [v / 256, v % 256]) := by show [v / 256 % 256, v % 256] = _; rw [Int.emod_eq_of_lt (a := v / 256) (by omega) (by omega)]
  clear v0 v1
  have HE : Hid (encM (Mg.mk 5 ep id t v d p) = ((([5] ++ digs 8 ep) ++ digs 8 id) ++ [v / 256, v % 256])) := by
    unfold Hid encM idB ntB vaB
    dsimp only
    rw [if_neg (by decide), if_neg (by decide), if_pos (by decide), HV2.out]
    simp only [List.append_nil, List.cons_append, List.nil_append, List.append_assoc]
  rw [HE.out]
  have he0 := ho.1.1; have he1 := ho.1.2; have hi0 := ho.2.1.1; have hi1 := ho.2.1.2
  dsimp only at HC0 HC1 HC2 HC3 HC4 HC14 he0 he1 hi0 hi1
  have HL8 : Hid (∀ W : World, Calls Try.prog 17 #[.int .u64 ep, .int .i64 8] W fun e w' => Below W.heap.size W w' ∧ ∃ v, e = .returned (.tuple #[v, .int .i64 0]) ∧ K.Made w' v (digs 8 ep)) := fun W => by have := K.lay_all ep 8 W he0 he1; rw [layF_8 ep he1] at this; exact this
  have HI8 : Hid (∀ W : World, Calls Try.prog 17 #[.int .u64 id, .int .i64 8] W fun e w' => Below W.heap.size W w' ∧ ∃ v, e = .returned (.tuple #[v, .int .i64 0]) ∧ K.Made w' v (digs 8 id)) := fun W => by have := K.lay_all id 8 W hi0 hi1; rw [layF_8 id hi1] at this; exact this
  have Z0 : Hid (Blk (w.alloc (Obj.cells (Mg.mk 5 ep id t v d p).cells.toArray 28)) w.heap.size 28 (Mg.mk 5 ep id t v d p).cells) := D.blk_new w _ 28
  have B0 : Hid (Below w.heap.size w (w.alloc (Obj.cells (Mg.mk 5 ep id t v d p).cells.toArray 28))) := room1 w _
  have HLE : Hid ((digs 8 ep).length = 8) := K.digs_length 8 ep
  have HLI : Hid ((digs 8 id).length = 8) := K.digs_length 8 id
  unfold Mg.vl
  clear HE he0 he1 hi0 hi1 ho hr HV2
  generalize (Mg.mk 5 ep id t v d p).cells = R at *
  generalize digs 8 ep = E8 at *
  generalize digs 8 id = I8 at *
  obtain ⟨l0, q0⟩ : ∃ x : List Int, [5] = x := ⟨_, rfl⟩
  have n0 : l0.length = 1 := by rw [← q0]; rfl
  rw [q0]
  obtain ⟨l1, q1⟩ : ∃ x, l0 ++ E8 = x := ⟨_, rfl⟩
  have n1 : l1.length = 9 := by rw [← q1, List.length_append, n0]; rw [HLE.out]
  rw [q1]
  obtain ⟨l2, q2⟩ : ∃ x, l1 ++ I8 = x := ⟨_, rfl⟩
  have n2 : l2.length = 17 := by rw [← q2, List.length_append, n1]; rw [HLI.out]
  rw [q2]
  obtain ⟨l3, q3⟩ : ∃ x, l2 ++ [v / 256, v % 256] = x := ⟨_, rfl⟩
  have n3 : l3.length = 19 := by rw [← q3, List.length_append, n2]; rfl
  rw [q3]
  have N0 : Hid (l0.length + E8.length ≤ 1000000000) := by unfold Hid; rw [n0, HLE.out]; decide
  have N1 : Hid (l1.length + I8.length ≤ 1000000000) := by unfold Hid; rw [n1, HLI.out]; decide
  have N2 : Hid (l2.length + 2 ≤ 1000000000) := by unfold Hid; rw [n2]; decide
  have Q0 : Hid ([5] = l0) := q0
  have Q1 : Hid (l0 ++ E8 = l1) := q1
  have Q2 : Hid (l1 ++ I8 = l2) := q2
  have Q3 : Hid (l2 ++ [v / 256, v % 256] = l3) := q3
  clear q0 n0 q1 n1 q2 n2 q3 n3
  go_enter Try.func10, Try.ntmps10
  go_wp2_with (first | (refine wpList_load_row rfl 28 (.tmp 1) rfl w.heap.size rfl 28 R.toArray (0, 0) _ Z0.out Try.underlying28 rfl HZ.out ?_) | (go_at_call 12; refine (HR.out _).mono ?_; rintro e w1 ⟨rfl, b1⟩; have O1 : Ou (w.alloc (Obj.cells R.toArray 28)) l0 _ (w1.alloc (.cells #[.int .u8 5] 5)) := ou_first' Q0.out b1; have d0 := ((Z0.out.over b1).cell 0).trans HC0; have Z1x := O1.blk Z0.out; have c0_1 := (Z1x.cell 0).trans HC0; have c1_1 := (Z1x.cell 1).trans HC1; have c2_1 := (Z1x.cell 2).trans HC2; have c3_1 := (Z1x.cell 3).trans HC3; have c4_1 := (Z1x.cell 4).trans HC4; have c14_1 := (Z1x.cell 14).trans HC14))
  refine (HL8.out _).mono ?_
  rintro e w2 ⟨b2, v2, rfl, m2⟩
  obtain ⟨a2, k2, rfl, s2, n2⟩ := m2
  have O2 := O1.over b2
  clear Z1x c0_1 c1_1 c2_1 c3_1 c4_1 c14_1 b2 d0
  have Z2x := O2.blk Z0.out
  have c0_2 := (Z2x.cell 0).trans HC0
  have c1_2 := (Z2x.cell 1).trans HC1
  have c2_2 := (Z2x.cell 2).trans HC2
  have c3_2 := (Z2x.cell 3).trans HC3
  have c4_2 := (Z2x.cell 4).trans HC4
  have c14_2 := (Z2x.cell 14).trans HC14
  go_wp2_with (first | (at_builtin; refine K.append_bytes rfl (.tmp 20) (.tmp 21) rfl (w.alloc (Obj.cells R.toArray 28)).heap.size _ l0.length l0 rfl O2.own a2 E8.length k2 E8 rfl n2 s2 N0.out O2.b.size ?_; intro v3 w3 o3 g3; have O3 := O2.app' Q1.out rfl o3 g3; clear Z2x c0_2 c1_2 c2_2 c3_2 c4_2 c14_2; have Z3x := O3.blk Z0.out; have c0_3 := (Z3x.cell 0).trans HC0; have c1_3 := (Z3x.cell 1).trans HC1; have c2_3 := (Z3x.cell 2).trans HC2; have c3_3 := (Z3x.cell 3).trans HC3; have c4_3 := (Z3x.cell 4).trans HC4; have c14_3 := (Z3x.cell 14).trans HC14))
  refine (HI8.out _).mono ?_
  rintro e w4 ⟨b4, v4, rfl, m4⟩
  obtain ⟨a4, k4, rfl, s4, n4⟩ := m4
  have O4 := O3.over b4
  clear Z3x c0_3 c1_3 c2_3 c3_3 c4_3 c14_3 b4
  have Z4x := O4.blk Z0.out
  have c0_4 := (Z4x.cell 0).trans HC0
  have c1_4 := (Z4x.cell 1).trans HC1
  have c2_4 := (Z4x.cell 2).trans HC2
  have c3_4 := (Z4x.cell 3).trans HC3
  have c4_4 := (Z4x.cell 4).trans HC4
  have c14_4 := (Z4x.cell 14).trans HC14
  go_upto_region 14 with (first | (at_builtin; refine K.append_bytes rfl (.tmp 32) (.tmp 33) rfl (w.alloc (Obj.cells R.toArray 28)).heap.size _ l1.length l1 rfl O4.own a4 I8.length k4 I8 rfl n4 s4 N1.out O4.b.size ?_; intro v5 w5 o5 g5; have O5 := O4.app' Q2.out rfl o5 g5; clear Z4x c0_4 c1_4 c2_4 c3_4 c4_4 c14_4; have Z5x := O5.blk Z0.out; have c0_5 := (Z5x.cell 0).trans HC0; have c1_5 := (Z5x.cell 1).trans HC1; have c2_5 := (Z5x.cell 2).trans HC2; have c3_5 := (Z5x.cell 3).trans HC3; have c4_5 := (Z5x.cell 4).trans HC4; have c14_5 := (Z5x.cell 14).trans HC14))
  have O6 := O5.over (room1 w5 (.cells #[.int .u8 (v / 256), .int .u8 (v % 256)] 5))
  have sV := bs_two w5 (v / 256) (v % 256) HV.out.1 HV.out.2
  have Z6x := O6.blk Z0.out
  have c0_6 := (Z6x.cell 0).trans HC0
  have c1_6 := (Z6x.cell 1).trans HC1
  have c2_6 := (Z6x.cell 2).trans HC2
  have c3_6 := (Z6x.cell 3).trans HC3
  have c4_6 := (Z6x.cell 4).trans HC4
  have c14_6 := (Z6x.cell 14).trans HC14
  go_wp2_with (first | (at_builtin; refine K.append_bytes rfl (.tmp 71) (.tmp 80) rfl (w.alloc (Obj.cells R.toArray 28)).heap.size _ l2.length l2 rfl O6.own (some ⟨w5.heap.size, 0, none⟩) 2 2 [v / 256, v % 256] rfl (fun e => by cases e) sV N2.out O6.b.size ?_; intro v7 w7 o7 g7; have O7 := O6.app' Q3.out rfl o7 g7; clear Z6x c0_6 c1_6 c2_6 c3_6 c4_6 c14_6; have Z7x := O7.blk Z0.out; have c0_7 := (Z7x.cell 0).trans HC0; have c1_7 := (Z7x.cell 1).trans HC1; have c2_7 := (Z7x.cell 2).trans HC2; have c3_7 := (Z7x.cell 3).trans HC3; have c4_7 := (Z7x.cell 4).trans HC4; have c14_7 := (Z7x.cell 14).trans HC14))
  go_ret2
  exact ⟨B0.out.trans (O7.b.mono B0.out.size), _, rfl, D.owns_lower O7.own B0.out.size⟩

set_option linter.unusedSimpArgs false in
set_option maxRecDepth 8000 in
set_option maxHeartbeats 2000000 in
theorem re_k7 (ep id t v : Int) (d : Da) (p : List Int) (w : World) (ho : (Mg.mk 7 ep id t v d p).ok) (hr : MgR (Mg.mk 7 ep id t v d p)) : Calls Try.prog 10 #[(Mg.mk 7 ep id t v d p).vl] w fun e w' => Below w.heap.size w w' ∧ ∃ u, e = .returned (.tuple #[u, .int .i64 0]) ∧ w'.ownsRow w.heap.size 5 1 u (encM (Mg.mk 7 ep id t v d p)).length (cellsB (encM (Mg.mk 7 ep id t v d p))) := by
  have HR : Hid (∀ W : World, Calls Try.prog 12 #[.agg (Mg.mk 7 ep id t v d p).cells.toArray] W fun e w' => e = .returned (.bool true) ∧ Below W.heap.size W w') := fun W => by have := refRight_any (Mg.mk 7 ep id t v d p) W ho.2.2.1 ho.2.2.2; rw [(rightB_iff (Mg.mk 7 ep id t v d p)).2 hr] at this; exact this
  have HZ : Hid ((Try.prog.info? 28).map (·.size) = some (Mg.mk 7 ep id t v d p).cells.toArray.size) := Mg.size (Mg.mk 7 ep id t v d p) ho.2.2.1
  have HC0 := Mg.c0 (Mg.mk 7 ep id t v d p)
  have HC1 := Mg.c1 (Mg.mk 7 ep id t v d p)
  have HC2 := Mg.c2 (Mg.mk 7 ep id t v d p)
  have HC3 := Mg.c3 (Mg.mk 7 ep id t v d p)
  have HC4 := Mg.c4 (Mg.mk 7 ep id t v d p)
  have HC14 := Mg.c14 (Mg.mk 7 ep id t v d p) ho.2.2.1
  have h5 := hr.2.2.2.2.2.2.1 (show (7 : Int) = 4 ∨ (7 : Int) = 5 ∨ (7 : Int) = 7 by decide)
  obtain ⟨v0, v1⟩ := h5
  dsimp only at v0 v1
  have hq : IntKind.u8.wrap (v.tdiv 256) = v / 256 := by rw [Int.tdiv_eq_ediv_of_nonneg v0, IntKind.wrap_u8]; omega
  have hm : IntKind.u8.wrap (v.tmod 256) = v % 256 := by rw [Int.tmod_eq_emod_of_nonneg v0, IntKind.wrap_u8]; omega
  have hq1 : IntKind.i64.wrap (v.tdiv 256) = v.tdiv 256 := by rw [Int.tdiv_eq_ediv_of_nonneg v0, IntKind.wrap_i64]; omega
  have HV : Hid ((0 ≤ v / 256 ∧ v / 256 ≤ 255) ∧ (0 ≤ v % 256 ∧ v % 256 ≤ 255)) := ⟨⟨by omega, by omega⟩, ⟨by omega, by omega⟩⟩
  have HV2 : Hid (digs 2 v = [v / 256, v % 256]) := by show [v / 256 % 256, v % 256] = _; rw [Int.emod_eq_of_lt (a := v / 256) (by omega) (by omega)]
  clear v0 v1
  have HE : Hid (encM (Mg.mk 7 ep id t v d p) = ((([7] ++ digs 8 ep) ++ digs 8 id) ++ [v / 256, v % 256])) := by
    unfold Hid encM idB ntB vaB
    dsimp only
    rw [if_neg (by decide), if_neg (by decide), if_pos (by decide), HV2.out]
    simp only [List.append_nil, List.cons_append, List.nil_append, List.append_assoc]
  rw [HE.out]
  have he0 := ho.1.1; have he1 := ho.1.2; have hi0 := ho.2.1.1; have hi1 := ho.2.1.2
  dsimp only at HC0 HC1 HC2 HC3 HC4 HC14 he0 he1 hi0 hi1
  have HL8 : Hid (∀ W : World, Calls Try.prog 17 #[.int .u64 ep, .int .i64 8] W fun e w' => Below W.heap.size W w' ∧ ∃ v, e = .returned (.tuple #[v, .int .i64 0]) ∧ K.Made w' v (digs 8 ep)) := fun W => by have := K.lay_all ep 8 W he0 he1; rw [layF_8 ep he1] at this; exact this
  have HI8 : Hid (∀ W : World, Calls Try.prog 17 #[.int .u64 id, .int .i64 8] W fun e w' => Below W.heap.size W w' ∧ ∃ v, e = .returned (.tuple #[v, .int .i64 0]) ∧ K.Made w' v (digs 8 id)) := fun W => by have := K.lay_all id 8 W hi0 hi1; rw [layF_8 id hi1] at this; exact this
  have Z0 : Hid (Blk (w.alloc (Obj.cells (Mg.mk 7 ep id t v d p).cells.toArray 28)) w.heap.size 28 (Mg.mk 7 ep id t v d p).cells) := D.blk_new w _ 28
  have B0 : Hid (Below w.heap.size w (w.alloc (Obj.cells (Mg.mk 7 ep id t v d p).cells.toArray 28))) := room1 w _
  have HLE : Hid ((digs 8 ep).length = 8) := K.digs_length 8 ep
  have HLI : Hid ((digs 8 id).length = 8) := K.digs_length 8 id
  unfold Mg.vl
  clear HE he0 he1 hi0 hi1 ho hr HV2
  generalize (Mg.mk 7 ep id t v d p).cells = R at *
  generalize digs 8 ep = E8 at *
  generalize digs 8 id = I8 at *
  obtain ⟨l0, q0⟩ : ∃ x : List Int, [7] = x := ⟨_, rfl⟩
  have n0 : l0.length = 1 := by rw [← q0]; rfl
  rw [q0]
  obtain ⟨l1, q1⟩ : ∃ x, l0 ++ E8 = x := ⟨_, rfl⟩
  have n1 : l1.length = 9 := by rw [← q1, List.length_append, n0]; rw [HLE.out]
  rw [q1]
  obtain ⟨l2, q2⟩ : ∃ x, l1 ++ I8 = x := ⟨_, rfl⟩
  have n2 : l2.length = 17 := by rw [← q2, List.length_append, n1]; rw [HLI.out]
  rw [q2]
  obtain ⟨l3, q3⟩ : ∃ x, l2 ++ [v / 256, v % 256] = x := ⟨_, rfl⟩
  have n3 : l3.length = 19 := by rw [← q3, List.length_append, n2]; rfl
  rw [q3]
  have N0 : Hid (l0.length + E8.length ≤ 1000000000) := by unfold Hid; rw [n0, HLE.out]; decide
  have N1 : Hid (l1.length + I8.length ≤ 1000000000) := by unfold Hid; rw [n1, HLI.out]; decide
  have N2 : Hid (l2.length + 2 ≤ 1000000000) := by unfold Hid; rw [n2]; decide
  have Q0 : Hid ([7] = l0) := q0
  have Q1 : Hid (l0 ++ E8 = l1) := q1
  have Q2 : Hid (l1 ++ I8 = l2) := q2
  have Q3 : Hid (l2 ++ [v / 256, v % 256] = l3) := q3
  clear q0 n0 q1 n1 q2 n2 q3 n3
  go_enter Try.func10, Try.ntmps10
  go_wp2_with (first | (refine wpList_load_row rfl 28 (.tmp 1) rfl w.heap.size rfl 28 R.toArray (0, 0) _ Z0.out Try.underlying28 rfl HZ.out ?_) | (go_at_call 12; refine (HR.out _).mono ?_; rintro e w1 ⟨rfl, b1⟩; have O1 : Ou (w.alloc (Obj.cells R.toArray 28)) l0 _ (w1.alloc (.cells #[.int .u8 7] 5)) := ou_first' Q0.out b1; have d0 := ((Z0.out.over b1).cell 0).trans HC0; have Z1x := O1.blk Z0.out; have c0_1 := (Z1x.cell 0).trans HC0; have c1_1 := (Z1x.cell 1).trans HC1; have c2_1 := (Z1x.cell 2).trans HC2; have c3_1 := (Z1x.cell 3).trans HC3; have c4_1 := (Z1x.cell 4).trans HC4; have c14_1 := (Z1x.cell 14).trans HC14))
  refine (HL8.out _).mono ?_
  rintro e w2 ⟨b2, v2, rfl, m2⟩
  obtain ⟨a2, k2, rfl, s2, n2⟩ := m2
  have O2 := O1.over b2
  clear Z1x c0_1 c1_1 c2_1 c3_1 c4_1 c14_1 b2 d0
  have Z2x := O2.blk Z0.out
  have c0_2 := (Z2x.cell 0).trans HC0
  have c1_2 := (Z2x.cell 1).trans HC1
  have c2_2 := (Z2x.cell 2).trans HC2
  have c3_2 := (Z2x.cell 3).trans HC3
  have c4_2 := (Z2x.cell 4).trans HC4
  have c14_2 := (Z2x.cell 14).trans HC14
  go_wp2_with (first | (at_builtin; refine K.append_bytes rfl (.tmp 20) (.tmp 21) rfl (w.alloc (Obj.cells R.toArray 28)).heap.size _ l0.length l0 rfl O2.own a2 E8.length k2 E8 rfl n2 s2 N0.out O2.b.size ?_; intro v3 w3 o3 g3; have O3 := O2.app' Q1.out rfl o3 g3; clear Z2x c0_2 c1_2 c2_2 c3_2 c4_2 c14_2; have Z3x := O3.blk Z0.out; have c0_3 := (Z3x.cell 0).trans HC0; have c1_3 := (Z3x.cell 1).trans HC1; have c2_3 := (Z3x.cell 2).trans HC2; have c3_3 := (Z3x.cell 3).trans HC3; have c4_3 := (Z3x.cell 4).trans HC4; have c14_3 := (Z3x.cell 14).trans HC14))
  refine (HI8.out _).mono ?_
  rintro e w4 ⟨b4, v4, rfl, m4⟩
  obtain ⟨a4, k4, rfl, s4, n4⟩ := m4
  have O4 := O3.over b4
  clear Z3x c0_3 c1_3 c2_3 c3_3 c4_3 c14_3 b4
  have Z4x := O4.blk Z0.out
  have c0_4 := (Z4x.cell 0).trans HC0
  have c1_4 := (Z4x.cell 1).trans HC1
  have c2_4 := (Z4x.cell 2).trans HC2
  have c3_4 := (Z4x.cell 3).trans HC3
  have c4_4 := (Z4x.cell 4).trans HC4
  have c14_4 := (Z4x.cell 14).trans HC14
  go_upto_region 14 with (first | (at_builtin; refine K.append_bytes rfl (.tmp 32) (.tmp 33) rfl (w.alloc (Obj.cells R.toArray 28)).heap.size _ l1.length l1 rfl O4.own a4 I8.length k4 I8 rfl n4 s4 N1.out O4.b.size ?_; intro v5 w5 o5 g5; have O5 := O4.app' Q2.out rfl o5 g5; clear Z4x c0_4 c1_4 c2_4 c3_4 c4_4 c14_4; have Z5x := O5.blk Z0.out; have c0_5 := (Z5x.cell 0).trans HC0; have c1_5 := (Z5x.cell 1).trans HC1; have c2_5 := (Z5x.cell 2).trans HC2; have c3_5 := (Z5x.cell 3).trans HC3; have c4_5 := (Z5x.cell 4).trans HC4; have c14_5 := (Z5x.cell 14).trans HC14))
  have O6 := O5.over (room1 w5 (.cells #[.int .u8 (v / 256), .int .u8 (v % 256)] 5))
  have sV := bs_two w5 (v / 256) (v % 256) HV.out.1 HV.out.2
  have Z6x := O6.blk Z0.out
  have c0_6 := (Z6x.cell 0).trans HC0
  have c1_6 := (Z6x.cell 1).trans HC1
  have c2_6 := (Z6x.cell 2).trans HC2
  have c3_6 := (Z6x.cell 3).trans HC3
  have c4_6 := (Z6x.cell 4).trans HC4
  have c14_6 := (Z6x.cell 14).trans HC14
  go_wp2_with (first | (at_builtin; refine K.append_bytes rfl (.tmp 71) (.tmp 80) rfl (w.alloc (Obj.cells R.toArray 28)).heap.size _ l2.length l2 rfl O6.own (some ⟨w5.heap.size, 0, none⟩) 2 2 [v / 256, v % 256] rfl (fun e => by cases e) sV N2.out O6.b.size ?_; intro v7 w7 o7 g7; have O7 := O6.app' Q3.out rfl o7 g7; clear Z6x c0_6 c1_6 c2_6 c3_6 c4_6 c14_6; have Z7x := O7.blk Z0.out; have c0_7 := (Z7x.cell 0).trans HC0; have c1_7 := (Z7x.cell 1).trans HC1; have c2_7 := (Z7x.cell 2).trans HC2; have c3_7 := (Z7x.cell 3).trans HC3; have c4_7 := (Z7x.cell 4).trans HC4; have c14_7 := (Z7x.cell 14).trans HC14))
  go_ret2
  exact ⟨B0.out.trans (O7.b.mono B0.out.size), _, rfl, D.owns_lower O7.own B0.out.size⟩

end Go.Proofs.Ytpdndcmaaghnjaa

namespace Go.Proofs.Ytpdndcmaaghnjaa
open Go.RowKit
open D (Da Blk)
open K (digs cellsB layF textL)

set_option linter.unusedSimpArgs false in
set_option maxRecDepth 8000 in
set_option maxHeartbeats 2000000 in
theorem re_k2 (ep id t v : Int) (d : Da) (p : List Int) (w : World) (ho : (Mg.mk 2 ep id t v d p).ok) (hr : MgR (Mg.mk 2 ep id t v d p)) : Calls Try.prog 10 #[(Mg.mk 2 ep id t v d p).vl] w fun e w' => Below w.heap.size w w' ∧ ∃ u, e = .returned (.tuple #[u, .int .i64 0]) ∧ w'.ownsRow w.heap.size 5 1 u (encM (Mg.mk 2 ep id t v d p)).length (cellsB (encM (Mg.mk 2 ep id t v d p))) := by
  have HR : Hid (∀ W : World, Calls Try.prog 12 #[.agg (Mg.mk 2 ep id t v d p).cells.toArray] W fun e w' => e = .returned (.bool true) ∧ Below W.heap.size W w') := fun W => by have := refRight_any (Mg.mk 2 ep id t v d p) W ho.2.2.1 ho.2.2.2; rw [(rightB_iff (Mg.mk 2 ep id t v d p)).2 hr] at this; exact this
  have HZ : Hid ((Try.prog.info? 28).map (·.size) = some (Mg.mk 2 ep id t v d p).cells.toArray.size) := Mg.size (Mg.mk 2 ep id t v d p) ho.2.2.1
  have HC0 := Mg.c0 (Mg.mk 2 ep id t v d p)
  have HC1 := Mg.c1 (Mg.mk 2 ep id t v d p)
  have HC2 := Mg.c2 (Mg.mk 2 ep id t v d p)
  have HC3 := Mg.c3 (Mg.mk 2 ep id t v d p)
  have HC4 := Mg.c4 (Mg.mk 2 ep id t v d p)
  have HC14 := Mg.c14 (Mg.mk 2 ep id t v d p) ho.2.2.1
  have HRng : Hid (∀ j z, (d.cells)[j]? = some z → ((Mg.mk 2 ep id t v d p).cells)[5 + j]? = some z) := fun j z hj => by rw [Mg.cD (Mg.mk 2 ep id t v d p) ho.2.2.1 j (by have := (List.getElem?_eq_some_iff.1 hj).1; rw [d.cells_len ho.2.2.1] at this; exact this)]; exact hj
  have HD : Hid (∀ W : World, Calls Try.prog 18 #[.agg d.cells.toArray] W fun e w' => Below W.heap.size W w' ∧ ∃ v, e = .returned v ∧ w'.ownsRow W.heap.size 5 1 v 64 (D.cellsB d.enc)) := fun W => D.refBytes_any d W ho.2.2.1
  have HDb : Hid (D.Byt d.enc) := D.enc_byt d ho.2.2.1
  have HDz := Mg.size26 d ho.2.2.1
  have h5 := hr.2.2.2.2.1 rfl
  have HDl : Hid (d.enc.length = 64) := D.enc_len d ho.2.2.1
  obtain ⟨t0, t4, pl⟩ := h5
  dsimp only at t0 t4 pl
  have htw : IntKind.u8.wrap t = t := by rw [IntKind.wrap_u8]; omega
  have HT : Hid (∀ W : World, Calls Try.prog 19 #[.string (strOfNums p)] W fun e w' => Below W.heap.size W w' ∧ ∃ v, e = .returned (.tuple #[v, .int .i64 0]) ∧ K.Made w' v (digs 2 p.length ++ p)) := fun W => by have := K.text_all (strOfNums p) W; rw [textL_ok p ho.2.2.2 pl] at this; exact this
  have HTl : Hid ((digs 2 p.length ++ p).length ≤ 300) := by unfold Hid; rw [List.length_append, K.digs_length]; omega
  have HTb : Hid (0 ≤ t ∧ t ≤ 255) := ⟨by omega, by omega⟩
  clear t0 t4 pl
  have HE : Hid (encM (Mg.mk 2 ep id t v d p) = ((((([2] ++ digs 8 ep) ++ digs 8 id) ++ [t]) ++ d.enc) ++ (digs 2 p.length ++ p))) := by
    unfold Hid encM idB ntB vaB
    dsimp only
    rw [if_neg (by decide), if_pos rfl, if_neg (by decide)]
    simp only [List.append_nil, List.cons_append, List.nil_append, List.append_assoc]
  rw [HE.out]
  have he0 := ho.1.1; have he1 := ho.1.2; have hi0 := ho.2.1.1; have hi1 := ho.2.1.2
  dsimp only at HC0 HC1 HC2 HC3 HC4 HC14 he0 he1 hi0 hi1
  have HL8 : Hid (∀ W : World, Calls Try.prog 17 #[.int .u64 ep, .int .i64 8] W fun e w' => Below W.heap.size W w' ∧ ∃ v, e = .returned (.tuple #[v, .int .i64 0]) ∧ K.Made w' v (digs 8 ep)) := fun W => by have := K.lay_all ep 8 W he0 he1; rw [layF_8 ep he1] at this; exact this
  have HI8 : Hid (∀ W : World, Calls Try.prog 17 #[.int .u64 id, .int .i64 8] W fun e w' => Below W.heap.size W w' ∧ ∃ v, e = .returned (.tuple #[v, .int .i64 0]) ∧ K.Made w' v (digs 8 id)) := fun W => by have := K.lay_all id 8 W hi0 hi1; rw [layF_8 id hi1] at this; exact this
  have Z0 : Hid (Blk (w.alloc (Obj.cells (Mg.mk 2 ep id t v d p).cells.toArray 28)) w.heap.size 28 (Mg.mk 2 ep id t v d p).cells) := D.blk_new w _ 28
  have B0 : Hid (Below w.heap.size w (w.alloc (Obj.cells (Mg.mk 2 ep id t v d p).cells.toArray 28))) := room1 w _
  have HLE : Hid ((digs 8 ep).length = 8) := K.digs_length 8 ep
  have HLI : Hid ((digs 8 id).length = 8) := K.digs_length 8 id
  unfold Mg.vl
  clear HE he0 he1 hi0 hi1 ho hr
  generalize (Mg.mk 2 ep id t v d p).cells = R at *
  generalize digs 8 ep = E8 at *
  generalize digs 8 id = I8 at *
  generalize digs 2 p.length ++ p = TX at *
  generalize d.enc = EN at *
  obtain ⟨l0, q0⟩ : ∃ x : List Int, [2] = x := ⟨_, rfl⟩
  have n0 : l0.length = 1 := by rw [← q0]; rfl
  rw [q0]
  obtain ⟨l1, q1⟩ : ∃ x, l0 ++ E8 = x := ⟨_, rfl⟩
  have n1 : l1.length = 9 := by rw [← q1, List.length_append, n0]; rw [HLE.out]
  rw [q1]
  obtain ⟨l2, q2⟩ : ∃ x, l1 ++ I8 = x := ⟨_, rfl⟩
  have n2 : l2.length = 17 := by rw [← q2, List.length_append, n1]; rw [HLI.out]
  rw [q2]
  obtain ⟨l3, q3⟩ : ∃ x, l2 ++ [t] = x := ⟨_, rfl⟩
  have n3 : l3.length = 18 := by rw [← q3, List.length_append, n2]; rfl
  rw [q3]
  obtain ⟨l4, q4⟩ : ∃ x, l3 ++ EN = x := ⟨_, rfl⟩
  have n4 : l4.length = 82 := by rw [← q4, List.length_append, n3]; rw [HDl.out]
  rw [q4]
  obtain ⟨l5, q5⟩ : ∃ x, l4 ++ TX = x := ⟨_, rfl⟩
  have n5 : l5.length ≤ 400 := by rw [← q5, List.length_append, n4]; have := HTl.out; omega
  rw [q5]
  have N0 : Hid (l0.length + E8.length ≤ 1000000000) := by unfold Hid; rw [n0, HLE.out]; decide
  have N1 : Hid (l1.length + I8.length ≤ 1000000000) := by unfold Hid; rw [n1, HLI.out]; decide
  have N2 : Hid (l2.length + 1 ≤ 1000000000) := by unfold Hid; rw [n2]; decide
  have N3 : Hid (l3.length + 64 ≤ 1000000000) := by unfold Hid; rw [n3]; decide
  have N4 : Hid (l4.length + TX.length ≤ 1000000000) := by unfold Hid; rw [n4]; have := HTl.out; omega
  have Q0 : Hid ([2] = l0) := q0
  have Q1 : Hid (l0 ++ E8 = l1) := q1
  have Q2 : Hid (l1 ++ I8 = l2) := q2
  have Q3 : Hid (l2 ++ [t] = l3) := q3
  have Q4 : Hid (l3 ++ EN = l4) := q4
  have Q5 : Hid (l4 ++ TX = l5) := q5
  clear q0 n0 q1 n1 q2 n2 q3 n3 q4 n4 q5 n5
  go_enter Try.func10, Try.ntmps10
  go_wp2_with (first | (refine wpList_load_row rfl 28 (.tmp 1) rfl w.heap.size rfl 28 R.toArray (0, 0) _ Z0.out Try.underlying28 rfl HZ.out ?_) | (go_at_call 12; refine (HR.out _).mono ?_; rintro e w1 ⟨rfl, b1⟩; have O1 : Ou (w.alloc (Obj.cells R.toArray 28)) l0 _ (w1.alloc (.cells #[.int .u8 2] 5)) := ou_first' Q0.out b1; have d0 := ((Z0.out.over b1).cell 0).trans HC0; have Z1x := O1.blk Z0.out; have c0_1 := (Z1x.cell 0).trans HC0; have c1_1 := (Z1x.cell 1).trans HC1; have c2_1 := (Z1x.cell 2).trans HC2; have c3_1 := (Z1x.cell 3).trans HC3; have c4_1 := (Z1x.cell 4).trans HC4; have c14_1 := (Z1x.cell 14).trans HC14))
  refine (HL8.out _).mono ?_
  rintro e w2 ⟨b2, v2, rfl, m2⟩
  obtain ⟨a2, k2, rfl, s2, n2⟩ := m2
  have O2 := O1.over b2
  clear Z1x c0_1 c1_1 c2_1 c3_1 c4_1 c14_1 b2 d0
  have Z2x := O2.blk Z0.out
  have c0_2 := (Z2x.cell 0).trans HC0
  have c1_2 := (Z2x.cell 1).trans HC1
  have c2_2 := (Z2x.cell 2).trans HC2
  have c3_2 := (Z2x.cell 3).trans HC3
  have c4_2 := (Z2x.cell 4).trans HC4
  have c14_2 := (Z2x.cell 14).trans HC14
  go_wp2_with (first | (at_builtin; refine K.append_bytes rfl (.tmp 20) (.tmp 21) rfl (w.alloc (Obj.cells R.toArray 28)).heap.size _ l0.length l0 rfl O2.own a2 E8.length k2 E8 rfl n2 s2 N0.out O2.b.size ?_; intro v3 w3 o3 g3; have O3 := O2.app' Q1.out rfl o3 g3; clear Z2x c0_2 c1_2 c2_2 c3_2 c4_2 c14_2; have Z3x := O3.blk Z0.out; have c0_3 := (Z3x.cell 0).trans HC0; have c1_3 := (Z3x.cell 1).trans HC1; have c2_3 := (Z3x.cell 2).trans HC2; have c3_3 := (Z3x.cell 3).trans HC3; have c4_3 := (Z3x.cell 4).trans HC4; have c14_3 := (Z3x.cell 14).trans HC14))
  refine (HI8.out _).mono ?_
  rintro e w4 ⟨b4, v4, rfl, m4⟩
  obtain ⟨a4, k4, rfl, s4, n4⟩ := m4
  have O4 := O3.over b4
  clear Z3x c0_3 c1_3 c2_3 c3_3 c4_3 c14_3 b4
  have Z4x := O4.blk Z0.out
  have c0_4 := (Z4x.cell 0).trans HC0
  have c1_4 := (Z4x.cell 1).trans HC1
  have c2_4 := (Z4x.cell 2).trans HC2
  have c3_4 := (Z4x.cell 3).trans HC3
  have c4_4 := (Z4x.cell 4).trans HC4
  have c14_4 := (Z4x.cell 14).trans HC14
  go_upto_region 10 with (first | (at_builtin; refine K.append_bytes rfl (.tmp 32) (.tmp 33) rfl (w.alloc (Obj.cells R.toArray 28)).heap.size _ l1.length l1 rfl O4.own a4 I8.length k4 I8 rfl n4 s4 N1.out O4.b.size ?_; intro v5 w5 o5 g5; have O5 := O4.app' Q2.out rfl o5 g5; clear Z4x c0_4 c1_4 c2_4 c3_4 c4_4 c14_4; have Z5x := O5.blk Z0.out; have c0_5 := (Z5x.cell 0).trans HC0; have c1_5 := (Z5x.cell 1).trans HC1; have c2_5 := (Z5x.cell 2).trans HC2; have c3_5 := (Z5x.cell 3).trans HC3; have c4_5 := (Z5x.cell 4).trans HC4; have c14_5 := (Z5x.cell 14).trans HC14))
  have O6 := O5.over (room1 w5 (.cells #[.int .u8 t] 5))
  have sT := bs_one w5 t HTb.out
  have Z6x := O6.blk Z0.out
  have c0_6 := (Z6x.cell 0).trans HC0
  have c1_6 := (Z6x.cell 1).trans HC1
  have c2_6 := (Z6x.cell 2).trans HC2
  have c3_6 := (Z6x.cell 3).trans HC3
  have c4_6 := (Z6x.cell 4).trans HC4
  have c14_6 := (Z6x.cell 14).trans HC14
  go_upto_region 11 with (first | (at_builtin; refine K.append_bytes rfl (.tmp 38) (.tmp 42) rfl (w.alloc (Obj.cells R.toArray 28)).heap.size _ l2.length l2 rfl O6.own (some ⟨w5.heap.size, 0, none⟩) 1 1 [t] rfl (fun e => by cases e) sT N2.out O6.b.size ?_; intro v7 w7 o7 g7; have O7 := O6.app' Q3.out rfl o7 g7; clear Z6x c0_6 c1_6 c2_6 c3_6 c4_6 c14_6; have Z7x := O7.blk Z0.out; have c0_7 := (Z7x.cell 0).trans HC0; have c1_7 := (Z7x.cell 1).trans HC1; have c2_7 := (Z7x.cell 2).trans HC2; have c3_7 := (Z7x.cell 3).trans HC3; have c4_7 := (Z7x.cell 4).trans HC4; have c14_7 := (Z7x.cell 14).trans HC14))
  have rg : ∀ j z, (d.cells)[j]? = some z → w7.cell? ⟨w.heap.size, 5 + j, none⟩ = some z := fun j z hj => (Z7x.cell (5 + j)).trans (HRng.out j z hj)
  go_wp2_with (refine at_op (.load 26 (.tmp 45)) rfl ?_; refine wpList_load_mid rfl 26 (.tmp 45) rfl w.heap.size 5 rfl d.cells _ rg Try.underlying26 rfl HDz ?_)
  refine (HD.out _).mono ?_
  rintro e w8 ⟨b8, v8, rfl, q8⟩
  obtain ⟨a8, k8, rfl, s8, _, n8⟩ := D.owns_bs q8 HDb.out
  have O8 := O7.over b8
  clear Z7x c0_7 c1_7 c2_7 c3_7 c4_7 c14_7 b8 rg
  have Z8x := O8.blk Z0.out
  have c0_8 := (Z8x.cell 0).trans HC0
  have c1_8 := (Z8x.cell 1).trans HC1
  have c2_8 := (Z8x.cell 2).trans HC2
  have c3_8 := (Z8x.cell 3).trans HC3
  have c4_8 := (Z8x.cell 4).trans HC4
  have c14_8 := (Z8x.cell 14).trans HC14
  go_upto_region 12 with (first | (at_builtin; refine K.append_bytes rfl (.tmp 44) (.tmp 47) rfl (w.alloc (Obj.cells R.toArray 28)).heap.size _ l3.length l3 rfl O8.own a8 64 k8 EN rfl n8 s8 N3.out O8.b.size ?_; intro v9 w9 o9 g9; have O9 := O8.app' Q4.out HDl.out o9 g9; clear Z8x c0_8 c1_8 c2_8 c3_8 c4_8 c14_8; have Z9x := O9.blk Z0.out; have c0_9 := (Z9x.cell 0).trans HC0; have c1_9 := (Z9x.cell 1).trans HC1; have c2_9 := (Z9x.cell 2).trans HC2; have c3_9 := (Z9x.cell 3).trans HC3; have c4_9 := (Z9x.cell 4).trans HC4; have c14_9 := (Z9x.cell 14).trans HC14))
  go_wp2_with fail
  refine (HT.out _).mono ?_
  rintro e w10 ⟨b10, v10, rfl, m10⟩
  obtain ⟨a10, k10, rfl, s10, n10⟩ := m10
  have O10 := O9.over b10
  clear Z9x c0_9 c1_9 c2_9 c3_9 c4_9 c14_9 b10
  have Z10x := O10.blk Z0.out
  have c0_10 := (Z10x.cell 0).trans HC0
  have c1_10 := (Z10x.cell 1).trans HC1
  have c2_10 := (Z10x.cell 2).trans HC2
  have c3_10 := (Z10x.cell 3).trans HC3
  have c4_10 := (Z10x.cell 4).trans HC4
  have c14_10 := (Z10x.cell 14).trans HC14
  go_wp2_with (first | (at_builtin; refine K.append_bytes rfl (.tmp 55) (.tmp 56) rfl (w.alloc (Obj.cells R.toArray 28)).heap.size _ l4.length l4 rfl O10.own a10 TX.length k10 TX rfl n10 s10 N4.out O10.b.size ?_; intro v11 w11 o11 g11; have O11 := O10.app' Q5.out rfl o11 g11; clear Z10x c0_10 c1_10 c2_10 c3_10 c4_10 c14_10; have Z11x := O11.blk Z0.out; have c0_11 := (Z11x.cell 0).trans HC0; have c1_11 := (Z11x.cell 1).trans HC1; have c2_11 := (Z11x.cell 2).trans HC2; have c3_11 := (Z11x.cell 3).trans HC3; have c4_11 := (Z11x.cell 4).trans HC4; have c14_11 := (Z11x.cell 14).trans HC14))
  go_ret2
  exact ⟨B0.out.trans (O11.b.mono B0.out.size), _, rfl, D.owns_lower O11.own B0.out.size⟩

end Go.Proofs.Ytpdndcmaaghnjaa

namespace Go.Proofs.Ytpdndcmaaghnjaa
open Go.RowKit
open D (Da Blk)

theorem refEncode_any (m : Mg) (w : World) (ho : m.ok) : Calls Try.prog 10 #[m.vl] w fun e w' => Below w.heap.size w w' ∧ ∃ v, e = .returned (.tuple #[v, .int .i64 (encE m)]) ∧ w'.ownsRow w.heap.size 5 1 v (encL m).length (K.cellsB (encL m)) := by
  cases hq : rightB m
  · have e1 : encL m = [] := by unfold encL; rw [hq]; rfl
    have e2 : encE m = 1 := by unfold encE; rw [hq]; rfl
    rw [e1, e2]
    refine (re_wrong m w ho hq).mono ?_
    rintro e w' ⟨rfl, hb⟩
    exact ⟨hb, _, rfl, rfl, .inl ⟨rfl, rfl⟩⟩
  · have hr := (rightB_iff m).1 hq
    have e1 : encL m = encM m := by unfold encL; rw [hq]; rfl
    have e2 : encE m = 0 := by unfold encE; rw [hq]; rfl
    rw [e1, e2]
    clear e1 e2 hq
    obtain ⟨k, ep, id, t, v, d, p⟩ := m
    have hb := hr.1
    have hb7 := hr.2.1
    dsimp only at hb hb7
    have hc : k = 1 ∨ k = 2 ∨ k = 3 ∨ k = 4 ∨ k = 5 ∨ k = 6 ∨ k = 7 := by omega
    rcases hc with rfl | rfl | rfl | rfl | rfl | rfl | rfl
    · exact re_k1 ep id t v d p w ho hr
    · exact re_k2 ep id t v d p w ho hr
    · exact re_k3 ep id t v d p w ho hr
    · exact re_k4 ep id t v d p w ho hr
    · exact re_k5 ep id t v d p w ho hr
    · exact re_k6 ep id t v d p w ho hr
    · exact re_k7 ep id t v d p w ho hr

end Go.Proofs.Ytpdndcmaaghnjaa

