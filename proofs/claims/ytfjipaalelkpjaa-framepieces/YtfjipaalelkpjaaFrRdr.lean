/-
  A reader as it lies, what may have turned behind its calls, and its methods.
-/
import Derived.Test.YtfjipaalelkpjaaFrFront
import Derived.Test.YtfjipaalelkpjaaFrRefF
import Derived.Lib.SliceRun
namespace Go.Proofs.Ytfjipaalelkpjaa
open Go.RowKit D

/-- nothing has turned but blocks of X, and what is new. -/
structure Kp (X : Nat → Prop) (w w' : World) : Prop where
  os : w'.os = w.os
  tape : w'.tape = w.tape
  output : w'.output = w.output
  size : w.heap.size ≤ w'.heap.size
  block : ∀ k, k < w.heap.size → ¬ X k → w'.heap[k]? = w.heap[k]?
theorem Kp.refl (X : Nat → Prop) (w : World) : Kp X w w := ⟨rfl, rfl, rfl, Nat.le_refl _, fun _ _ _ => rfl⟩
theorem Kp.trans {X : Nat → Prop} {u w w' : World} (h : Kp X u w) (k : Kp X w w') : Kp X u w' :=
  ⟨k.os.trans h.os, k.tape.trans h.tape, k.output.trans h.output, Nat.le_trans h.size k.size, fun i hi hx => (k.block i (Nat.lt_of_lt_of_le hi h.size) hx).trans (h.block i hi hx)⟩
theorem Kp.mono {X Y : Nat → Prop} {w w' : World} (h : Kp X w w') (hX : ∀ k, k < w.heap.size → X k → Y k) : Kp Y w w' := ⟨h.os, h.tape, h.output, h.size, fun i hi hy => h.block i hi fun hx => hy (hX i hi hx)⟩
theorem kp_below {X : Nat → Prop} {w w' : World} (h : Below w.heap.size w w') : Kp X w w' := ⟨h.os, h.tape, h.output, h.size, fun i hi _ => h.block i hi⟩
theorem Kp.below {X : Nat → Prop} {w w' : World} {B : Nat} (h : Kp X w w') (hB : B ≤ w.heap.size) (hX : ∀ k, k < B → ¬ X k) : Below B w w' := ⟨h.os, h.tape, h.output, h.size, fun i hi => h.block i (Nat.lt_of_lt_of_le hi hB) (hX i hi)⟩
theorem kp_grown {X : Nat → Prop} {w w' : World} {r : Option Nat} (h : w.grownBy w' r) (hr : ∀ k, r = some k → X k) : Kp X w w' := ⟨h.os, h.tape, h.output, h.size, fun i hi hx => h.block i hi fun e => hx (hr i e.symm)⟩
theorem kp_set (w : World) (b i : Nat) (v : Value) : Kp (· = b) w (w.setCell ⟨b, i, none⟩ v) :=
  ⟨by simp [World.setCell], by simp [World.setCell], by simp [World.setCell], by simp, fun k _ hx => heap_setCell_other w ⟨b, i, none⟩ k v hx⟩
theorem Wt.kp {X : Nat → Prop} {w w' : World} {v : Value} {l : List Int} (h : Wt w v l) (hk : Kp X w w') (hX : ∀ k, v.ownBlock = some k → ¬ X k) : Wt w' v l := h.kept hk.size fun k e => hk.block k (h.lt k e) (hX k e)
theorem blk_kp {X : Nat → Prop} {w w' : World} {b : Nat} {t : TypeId} {l : List Value} (h : Blk w b t l) (hk : Kp X w w') (hX : ¬ X b) : Blk w' b t l := by
  unfold Blk
  rw [hk.block b h.lt hX]
  exact h

/-- a reader as it lies: the bytes that wait, how many are lost. -/
structure Rdr (w : World) (b : Nat) (v : Value) (l : List Int) (n : Nat) : Prop where
  blk : Blk w b 32 [v, .int .i64 n]
  wt : Wt w v l
  ap : v.ownBlock ≠ some b
theorem Rdr.kp {X : Nat → Prop} {w w' : World} {b n : Nat} {v : Value} {l : List Int} (h : Rdr w b v l n) (hk : Kp X w w') (hb : ¬ X b) (hX : ∀ k, v.ownBlock = some k → ¬ X k) : Rdr w' b v l n := ⟨blk_kp h.blk hk hb, h.wt.kp hk hX, h.ap⟩
theorem Rdr.over {w w' : World} {b n : Nat} {v : Value} {l : List Int} (h : Rdr w b v l n) (hb : Below w.heap.size w w') : Rdr w' b v l n := h.kp (X := fun _ => False) (kp_below hb) id fun _ _ => id
/-- its two cells. -/
structure Cl (w : World) (b : Nat) (v : Value) (n : Int) : Prop where
  c0 : w.cell? ⟨b, 0, none⟩ = some v
  c1 : w.cell? ⟨b, 1, none⟩ = some (.int .i64 n)
  f0 : w.frozen? ⟨b, 0, none⟩ = false
  f1 : w.frozen? ⟨b, 1, none⟩ = false
theorem Rdr.cl {w : World} {b n : Nat} {v : Value} {l : List Int} (h : Rdr w b v l n) : Cl w b v n := ⟨h.blk.cell 0, h.blk.cell 1, h.blk.f 0, h.blk.f 1⟩

/-- a cut of the bytes that wait. -/
theorem cut_wt {w : World} {v : Value} {l : List Int} (h : Wt w v l) (n : Nat) (h0 : 0 < l.length) (hn : n ≤ l.length) : ∃ v', Wt w v' (l.drop n) ∧ v'.ownBlock = v.ownBlock ∧ ∀ W, (Instr.sliceAt 22 v (some (.int .i64 n)) none none).run Try.prog W = .ok v' W := by
  obtain ⟨hl, ⟨rfl, rfl⟩ | ⟨g, off, cap, rfl, h1, h2, h3⟩⟩ := id h
  · cases h0
  · have hr : ∀ W, (Instr.sliceAt 22 (.slice (some ⟨g, off, none⟩) l.length cap) (some (.int .i64 n)) none none).run Try.prog W = .ok (sliced (some ⟨g, off, none⟩) n l.length cap 1) W := fun W => by
      rw [run_sliceAt_slice W 22 _ _ _ _ under_B, run_slice_l W 22 _ _ _ under_B .i64 n (by omega) (by omega), sizeOf_b]
      rfl
    by_cases hc : cap = n
    · subst hc
      obtain rfl : l.length = cap := by omega
      refine ⟨_, ?_, ?_, hr⟩
      · unfold sliced
        rw [if_pos rfl, Nat.sub_self, List.drop_length]
        exact h.done
      · unfold sliced
        rw [if_pos rfl]
        rfl
    · refine ⟨_, ?_, ?_, hr⟩
      · unfold sliced
        rw [if_neg hc]
        rw [Option.map_some, Nat.mul_one, Addr.add_mid]
        exact h.drop n hn
      · unfold sliced
        rw [if_neg hc, Option.map_some, Nat.mul_one, Addr.add_mid]
        rfl

set_option maxHeartbeats 1000000 in
theorem left_any (b n : Nat) (v : Value) (l : List Int) (w : World) (h : Rdr w b v l n) : Calls Try.prog 16 #[.pointer (some ⟨b, 0, none⟩)] w fun e w' => e = .returned (.int .i64 l.length) ∧ w' = w := by
  obtain ⟨c0, c1, f0, f1⟩ := h.cl
  obtain ⟨a, cap, rfl, _⟩ := h.wt.slice
  clear h
  go_enter Try.func16, Try.ntmps16
  go_wp2
  go_ret
  exact ⟨rfl, rfl⟩
set_option maxHeartbeats 1000000 in
theorem lost_any (b n : Nat) (v : Value) (l : List Int) (w : World) (h : Rdr w b v l n) : Calls Try.prog 17 #[.pointer (some ⟨b, 0, none⟩)] w fun e w' => e = .returned (.int .i64 n) ∧ w' = w := by
  obtain ⟨c0, c1, f0, f1⟩ := h.cl
  clear h
  go_enter Try.func17, Try.ntmps17
  go_wp2
  go_ret
  exact ⟨rfl, rfl⟩

set_option maxHeartbeats 2000000 in
theorem feed_any (b n : Nat) (v : Value) (l : List Int) (w : World) (h : Rdr w b v l n) (a : Option Addr) (m c : Nat) (k : List Int) (hb : Bs w a m k) (hao : a = none → c = 0) (hn : l.length + m ≤ 100000) :
    Calls Try.prog 13 #[.pointer (some ⟨b, 0, none⟩), .slice a m c] w fun e w' => e = .returned (.tuple #[]) ∧ ∃ v', Rdr w' b v' (l ++ k) n ∧ (v'.ownBlock = v.ownBlock ∨ v'.ownBlock = some w.heap.size) ∧ Kp (fun i => i = b ∨ v.ownBlock = some i) w w' := by
  obtain ⟨c0, c1, f0, f1⟩ := h.cl
  have HR : Hid (Rdr w b v l n) := h
  have hw := h.wt
  clear h
  go_enter Try.func13, Try.ntmps13
  go_wp2_with
    (refine append_wt rfl (.tmp 8) (.tmp 9) rfl v l rfl hw a m c k rfl hao hb hn ?_; intro v' w1 hw1 hg1 ho1
     have HK : Hid (Kp (fun i => i = b ∨ v.ownBlock = some i) w w1) := kp_grown hg1 fun k hk => .inr hk
     have HB : Hid (Blk w1 b 32 [v, .int .i64 n]) := blk_kp HR.out.blk (kp_grown (X := fun i => v.ownBlock = some i) hg1 fun k hk => hk) HR.out.ap
     have d0 : w1.cell? ⟨b, 0, none⟩ = some v := HB.out.cell 0
     have d1 : w1.frozen? ⟨b, 0, none⟩ = false := HB.out.f 0
     have HW : Hid (Wt w1 v' (l ++ k)) := hw1
     obtain ⟨a', c', rfl, _⟩ := hw1.slice)
  go_end0
  refine ⟨rfl, .slice a' (l ++ k).length c', ⟨?_, ?_, ?_⟩, ho1, HK.out.trans ((kp_set w1 b 0 _).mono fun i _ h => .inl h)⟩
  · rw [List.length_append]
    exact HB.out.set 0 _
  · rw [List.length_append]
    refine (show Wt w1 (.slice a' (l.length + k.length) c') (l ++ k) by rw [← List.length_append]; exact HW.out).kp (kp_set w1 b 0 _) fun j hj e => ?_
    rw [← List.length_append] at hj
    subst e
    rcases ho1 with h | h
    · exact HR.out.ap (by rw [← h]; exact hj)
    · rw [h] at hj
      cases hj
      exact absurd HR.out.blk.lt (Nat.lt_irrefl _)
  · intro hj
    rcases ho1 with h | h
    · exact HR.out.ap (by rw [← h]; exact hj)
    · rw [h] at hj
      cases hj
      exact absurd HR.out.blk.lt (Nat.lt_irrefl _)

set_option maxHeartbeats 1000000 in
theorem clone_any (b off m c : Nat) (k : List Int) (w : World) (hb : Bs w (some ⟨b, off, none⟩) m k) (hn : m ≤ 100000) :
    Calls Try.prog 34 #[.slice (some ⟨b, off, none⟩) m c] w fun e w' => ∃ v, e = .returned v ∧ Wt w' v k ∧ Own w.heap.size v ∧ Below w.heap.size w w' := by
  have we := wt_empty w
  have hbe : Bs (w.alloc (.cells #[] 5)) (some ⟨b, off, none⟩) m k := hb.below ((Below.refl _ _).alloc (Nat.le_refl _) _)
  have hnil := Lib.run_eql_slice_nil (P := Try.prog) w 22 5 (some ⟨b, off, none⟩) m c 0 0 Try.underlying22
  go_enter Try.func34, Try.ntmps34
  go_wp2_with
    (refine append_wt rfl (.tmp 5) (.tmp 6) rfl (.slice (some ⟨w.heap.size, 0, none⟩) 0 0) [] rfl we (some ⟨b, off, none⟩) m c k rfl (fun h => by cases h) hbe (by rw [List.length_nil]; omega) ?_; intro v3 w3 hw3 hg3 ho3)
  go_ret
  refine ⟨v3, rfl, hw3, (own_at _ _ _ _ _ (Nat.le_refl _)).next (by simp) ho3, ((Below.refl _ _).alloc (Nat.le_refl _) _).grown hg3 (by simp) (fun k hk => by cases hk; exact Nat.le_refl _)⟩

set_option maxHeartbeats 2000000 in
theorem take_any (b n : Nat) (v : Value) (l : List Int) (w : World) (h : Rdr w b v l n) (hs : Std sm l) (hn : l.length ≤ 100000) :
    Calls Try.prog 25 #[.pointer (some ⟨b, 0, none⟩)] w fun e w' => ∃ u v', e = .returned u ∧ Wt w' u (body l) ∧ Own w.heap.size u ∧ Rdr w' b v' (l.drop (told l + 8)) n ∧ v'.ownBlock = v.ownBlock ∧ Kp (· = b) w w' := by
  have HR : Hid (Rdr w b v l n) := h
  obtain ⟨c0, c1, f0, f1⟩ := h.cl
  have hl3 := hs.2.2.1
  obtain ⟨v', hv', ho', hcut⟩ := cut_wt h.wt (told l + 8) (by omega) hl3
  rw [show ((told l + 8 : Nat) : Int) = 8 + (told l : Int) by omega] at hcut
  obtain ⟨a, cap, rfl, hbs, h1, h2, h3⟩ := h.wt.slice
  obtain ⟨g, off, rfl, _⟩ := hbs.2.2 (by omega)
  have hmid := cut_mid g off l.length cap (told l) (by omega) hs.1
  have HL : Hid (Calls Try.prog 32 #[.slice (some ⟨g, off, none⟩) l.length cap] w fun e w' => e = .returned (.int .i64 (told l)) ∧ Below w.heap.size w w') := length_any _ l.length cap l w (by omega) hbs
  have HC : Hid (∀ W, Bs W (some ⟨g, off, none⟩) l.length l → Calls Try.prog 34 #[.slice (some ⟨g, off + 8, none⟩) (told l) (cap - 8)] W fun e w' => ∃ u, e = .returned u ∧ Wt w' u (body l) ∧ Own W.heap.size u ∧ Below W.heap.size W w') := fun W hW =>
    clone_any g (off + 8) (told l) (cap - 8) (body l) W (Bs.sub (l := l) hW 8 (told l) (by omega)) (by omega)
  have hd0 : Hid (∃ a cap, v' = .slice a (l.drop (told l + 8)).length cap) := by
    obtain ⟨a, c, e, _⟩ := hv'.slice
    exact ⟨a, c, e⟩
  have HV : Hid (Wt w v' (l.drop (told l + 8))) := hv'
  have HO : Hid (v'.ownBlock = (Value.slice (some ⟨g, off, none⟩) l.length cap).ownBlock) := ho'
  have HN : Hid ((told l + 8 : Nat) ≤ l.length ∧ l.length ≤ 100000) := ⟨hl3, hn⟩
  have HBs : Hid (Bs w (some ⟨g, off, none⟩) l.length l) := hbs
  clear h hs hl3 hn h1 h2 h3 hbs hv' ho'
  have hq : (8 : Int) + (told l : Int) ≤ 100000 := by have := HN.out; omega
  generalize l.length = len at *
  generalize body l = bd at *
  generalize l.drop (told l + 8) = tl at *
  generalize told l = t at *
  obtain ⟨va, vc, rfl⟩ := hd0.out
  generalize tl.length = tn at *
  go_enter Try.func25, Try.ntmps25
  go_upto_region 2 with (go_at_call 32; refine HL.out.mono ?_; rintro e w1 ⟨rfl, hb1⟩)
  have HR1 : Hid (Rdr w1 b (.slice (some ⟨g, off, none⟩) len cap) l n) := HR.out.over hb1
  obtain ⟨d0, d1, e0, e1⟩ := HR1.out.cl
  go_upto_region 3 with (go_at_call 34; refine (HC.out _ (HBs.out.below hb1)).mono ?_; rintro e w2 ⟨u, rfl, hu, hou, hb2⟩)
  have HR2 : Hid (Rdr w2 b (.slice (some ⟨g, off, none⟩) len cap) l n) := HR1.out.over hb2
  obtain ⟨k0, k1, m0, m1⟩ := HR2.out.cl
  go_wp2
  go_ret
  have hb3 := hb1.trans (hb2.mono hb1.size)
  refine ⟨u, _, rfl, hu.kp (kp_set w2 b 0 _) fun k hk e => ?_, hou.mono hb1.size, ⟨HR2.out.blk.set 0 _, (HV.out.over hb3).kp (kp_set w2 b 0 _) fun k hk e => ?_, ?_⟩, HO.out, (kp_below hb3).trans (kp_set w2 b 0 _)⟩
  · subst e
    exact absurd (hou k hk) (Nat.not_le.2 HR1.out.blk.lt)
  · subst e
    exact HR.out.ap (by rw [← HO.out]; exact hk)
  · intro e
    exact HR.out.ap (by rw [← HO.out]; exact e)

end Go.Proofs.Ytfjipaalelkpjaa
