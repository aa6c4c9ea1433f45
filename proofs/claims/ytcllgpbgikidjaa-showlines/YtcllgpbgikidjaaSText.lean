/-
  Rules as a text.
-/
import Derived.Test.YtcllgpbgikidjaaSLn
namespace Go.Proofs.Ytcllgpbgikidjaa
open Go.RowKit

theorem isB_below {T e : TypeId} {B b : Nat} {bs : List Value} {w w' : World} (h : Lib.IsBuilder T e B b bs w) (hb : Below w.heap.size w w') : Lib.IsBuilder T e B b bs w' := by
  have key : ∀ p, Lib.BuilderAt T e B b p bs w → Lib.BuilderAt T e B b p bs w' := by
    intro p hp
    have hlt := hp.lt
    obtain ⟨hB, v, hh, hown, hne⟩ := hp
    exact ⟨hB, v, by rw [hb.block b hlt]; exact hh, owns_below hown hb (Nat.le_refl _), hne⟩
  rcases h with h | h
  · exact .inl (key _ h)
  · exact .inr (key _ h)

theorem isB_lt {T e : TypeId} {B b : Nat} {bs : List Value} {w : World} (h : Lib.IsBuilder T e B b bs w) : b < w.heap.size := by
  rcases h with h | h
  · exact h.lt
  · exact h.lt

/-- a builder, written. -/
theorem ws_any (b : Nat) (acc t : List UInt8) (w : World) (h : Lib.IsBuilder 43 5 b b (Lib.byteCells acc) w) (h1 : acc.length ≤ 10000000000) (h2 : t.length ≤ 10000000000) :
    Calls Try.prog 13 #[.pointer (some ⟨b, 0, none⟩), .string (bar t)] w fun e w' => (∃ v, e = .returned v) ∧ Lib.IsBuilder 43 5 b b (Lib.byteCells (acc ++ t)) w' ∧ Below b w w' := by
  refine (Try.builder_ws b b (Lib.byteCells acc) (bar t) w h (by rw [Lib.byteCells_length, bar_size]; omega) (Nat.le_of_lt (isB_lt h))).mono ?_
  rintro e w' ⟨rfl, hB, hb⟩
  refine ⟨⟨_, rfl⟩, .inr ?_, hb⟩
  rw [Lib.byteCells_append]
  exact hB

/-- the text's length. -/
theorem lineT_len {T : List Int} {l : List Sh} (h : (Lib.join (flat T l) [32]).length ≤ 100000000) : (lineT T l).length ≤ 100000002 := by
  unfold lineT
  rw [List.length_append]
  simp only [List.length_cons, List.length_nil]
  omega

set_option maxHeartbeats 2000000 in
theorem text_no (w : World) (k a : Int) (v : Value) (l : List Xr) (h : RlR w v l) (hl : l.length ≤ 1000) (hs : ∀ x ∈ l, x.r.names.length ≤ 9000000 ∧ x.r.conds.length ≤ 9000000) (hB : rulesB k a (l.map Xr.r) = false) :
    Calls Try.prog 8 #[.agg #[.int .i64 k, .int .i64 a, v]] w fun e w' => e = .returned (.tuple #[.string ⟨#[]⟩, .int .i64 1]) ∧ Below w.heap.size w w' := by
  obtain ⟨p1, c1, rfl⟩ : ∃ p c, v = .slice p l.length c := by obtain ⟨p, c, e, _⟩ := h; exact ⟨p, c, e⟩
  have be : Below w.heap.size w (w.alloc (Obj.cells #[.int .i64 k, .int .i64 a, .slice p1 l.length c1] 26)) := (Below.refl _ _).alloc (Nat.le_refl _) _
  have BE : Hid (Below w.heap.size w (w.alloc (Obj.cells #[.int .i64 k, .int .i64 a, .slice p1 l.length c1] 26))) := be
  have HR : Hid (Calls Try.prog 10 #[.agg #[.int .i64 k, .int .i64 a, .slice p1 l.length c1]] (w.alloc (Obj.cells #[.int .i64 k, .int .i64 a, .slice p1 l.length c1] 26)) fun e w' => e = .returned (.bool false) ∧ Below (w.alloc (Obj.cells #[.int .i64 k, .int .i64 a, .slice p1 l.length c1] 26)).heap.size (w.alloc (Obj.cells #[.int .i64 k, .int .i64 a, .slice p1 l.length c1] 26)) w') := by
    have := right_any (w.alloc (Obj.cells #[.int .i64 k, .int .i64 a, .slice p1 l.length c1] 26)) k a (.slice p1 l.length c1) l (h.below be) hl hs
    rw [hB] at this
    exact this
  clear h be hs hB
  go_enter Try.func8, Try.ntmps8
  go_wp2_with fail
  refine HR.out.mono ?_
  rintro e w1 ⟨rfl, b1⟩
  go_wp2_with fail
  go_ret2
  exact ⟨rfl, BE.out.trans (b1.mono BE.out.size)⟩

set_option maxHeartbeats 2000000 in
theorem text_yes (T : List Int) (w : World) (k a : Int) (v : Value) (l : List Xr) (h : RlR w v l) (hl : l.length ≤ 1000) (hs : ∀ x ∈ l, x.r.names.length ≤ 9000000 ∧ x.r.conds.length ≤ 9000000) (hB : rulesB k a (l.map Xr.r) = true) (hin : ∀ x ∈ l, x.r.in) (ht : Tb T w) :
    Calls Try.prog 8 #[.agg #[.int .i64 k, .int .i64 a, v]] w fun e w' => e = .returned (.tuple #[.string (bar (textT T k a (l.map Xr.r))), .int .i64 0]) ∧ Below w.heap.size w w' := by
  obtain ⟨p1, c1, rfl⟩ : ∃ p c, v = .slice p l.length c := by obtain ⟨p, c, e, _⟩ := h; exact ⟨p, c, e⟩
  have be : Below w.heap.size w (w.alloc (Obj.cells #[.int .i64 k, .int .i64 a, .slice p1 l.length c1] 26)) := (Below.refl _ _).alloc (Nat.le_refl _) _
  have BE : Hid (Below w.heap.size w (w.alloc (Obj.cells #[.int .i64 k, .int .i64 a, .slice p1 l.length c1] 26))) := be
  have HR : Hid (Calls Try.prog 10 #[.agg #[.int .i64 k, .int .i64 a, .slice p1 l.length c1]] (w.alloc (Obj.cells #[.int .i64 k, .int .i64 a, .slice p1 l.length c1] 26)) fun e w' => e = .returned (.bool true) ∧ Below (w.alloc (Obj.cells #[.int .i64 k, .int .i64 a, .slice p1 l.length c1] 26)).heap.size (w.alloc (Obj.cells #[.int .i64 k, .int .i64 a, .slice p1 l.length c1] 26)) w') := by
    have := right_any (w.alloc (Obj.cells #[.int .i64 k, .int .i64 a, .slice p1 l.length c1] 26)) k a (.slice p1 l.length c1) l (h.below be) hl hs
    rw [hB] at this
    exact this
  have HK : Hid (Blk (w.alloc (Obj.cells #[.int .i64 k, .int .i64 a, .slice p1 l.length c1] 26)) w.heap.size 26 [.int .i64 k, .int .i64 a, .slice p1 l.length c1]) := blk_new w _ _
  have HT : Hid (Tb T (w.alloc (Obj.cells #[.int .i64 k, .int .i64 a, .slice p1 l.length c1] 26))) := ht.below be
  have S0 : Hid (RlR (w.alloc (Obj.cells #[.int .i64 k, .int .i64 a, .slice p1 l.length c1] 26)) (.slice p1 l.length c1) l) := h.below be
  have hB2 : actB k a = true ∧ l.length ≤ 64 ∧ ∀ x ∈ l, ruleB x.r = true := by
    unfold rulesB at hB
    simp only [Bool.and_eq_true, decide_eq_true_eq, List.all_eq_true, List.mem_map, List.length_map] at hB
    exact ⟨hB.1.1, hB.1.2, fun x hx => hB.2 x.r ⟨x, hx, rfl⟩⟩
  have HA : Hid (1 ≤ k ∧ k ≤ 8 ∧ 0 ≤ a ∧ a ≤ 65535) := actB_out hB2.1
  have HL : Hid (l.length ≤ 64) := hB2.2.1
  have HQ : Hid (∀ x ∈ l, ruleB x.r = true ∧ x.r.in) := fun x hx => ⟨hB2.2.2 x hx, hin x hx⟩
  have hl64 : (l.length : Int) ≤ 64 := by have := hB2.2.1; omega
  clear h be hs hB hin ht hB2
  generalize hR : textT T k a (l.map Xr.r) = R
  have HRR : Hid (textT T k a (l.map Xr.r) = R) := hR
  clear hR
  go_enter Try.func8, Try.ntmps8
  go_wp2_with fail
  generalize (w.alloc (Obj.cells #[.int .i64 k, .int .i64 a, .slice p1 l.length c1] 26)) = X at *
  refine HR.out.mono ?_
  rintro e w1 ⟨rfl, b1⟩
  have HK1 : Hid (Blk w1 w.heap.size 26 [.int .i64 k, .int .i64 a, .slice p1 l.length c1]) := HK.out.over b1
  have HT1 : Hid (Tb T w1) := HT.out.below b1
  have S1 : Hid (RlR w1 (.slice p1 l.length c1) l) := S0.out.below b1
  have B1 : Hid (Below w.heap.size w w1) := BE.out.trans (b1.mono BE.out.size)
  have I1 : Hid (Lib.IsBuilder 43 5 w1.heap.size w1.heap.size (Lib.byteCells []) (w1.alloc (Obj.cells #[.pointer none, .slice none 0 0] 43))) := Lib.fresh_isBuilder _ _ _
  have b2 : Below w1.heap.size w1 (w1.alloc (Obj.cells #[.pointer none, .slice none 0 0] 43)) := (Below.refl _ _).alloc (Nat.le_refl _) _
  have t0 : (w1.alloc (Obj.cells #[.pointer none, .slice none 0 0] 43)).cell? ⟨w.heap.size, 0, none⟩ = some (.int .i64 k) := (HK1.out.over b2).cell 0
  have t1 : (w1.alloc (Obj.cells #[.pointer none, .slice none 0 0] 43)).cell? ⟨w.heap.size, 1, none⟩ = some (.int .i64 a) := (HK1.out.over b2).cell 1
  clear HK HT S0 BE b1 HR
  have HL1 : Hid (Calls Try.prog 14 #[.slice (some ⟨w1.heap.size + 1, 0, none⟩) 2 2] ((w1.alloc (Obj.cells #[.pointer none, .slice none 0 0] 43)).alloc (Obj.cells #[.iface 49 (.string ⟨#[100, 101, 102, 97, 117, 108, 116]⟩), .iface 50 (.agg #[.int .i64 k, .int .i64 a])] 63)) fun e w' => e = .returned (.string (bar (defT T k a))) ∧ Below ((w1.alloc (Obj.cells #[.pointer none, .slice none 0 0] 43)).alloc (Obj.cells #[.iface 49 (.string ⟨#[100, 101, 102, 97, 117, 108, 116]⟩), .iface 50 (.agg #[.int .i64 k, .int .i64 a])] 63)).heap.size ((w1.alloc (Obj.cells #[.pointer none, .slice none 0 0] 43)).alloc (Obj.cells #[.iface 49 (.string ⟨#[100, 101, 102, 97, 117, 108, 116]⟩), .iface 50 (.agg #[.int .i64 k, .int .i64 a])] 63)) w') := by
    have ho := owns_new (w := w1.alloc (Obj.cells #[.pointer none, .slice none 0 0] 43)) (base := 0) 63 [.iface 49 (.string ⟨#[100, 101, 102, 97, 117, 108, 116]⟩), .iface 50 (.agg #[.int .i64 k, .int .i64 a])] (Nat.zero_le _) (by simp) (by simp)
    rw [size_alloc'] at ho
    have hok : ∀ W, ∀ y ∈ [Sh.wd wDefaultB, Sh.ac k a], y.ok W ∧ y.sm := fun W y hy => by
      rcases List.mem_cons.1 hy with rfl | h1
      · exact ⟨trivial, (by decide : wDefaultB.size ≤ 100)⟩
      · rcases List.mem_cons.1 h1 with rfl | h2
        · exact ⟨HA.out, trivial⟩
        · cases h2
    exact line_any T _ 0 _ [Sh.wd wDefaultB, Sh.ac k a] ho (fun y hy => (hok _ y hy).1) (by simp) (by simp) (flat_join (W := w1) (hok w1) (by simp)) ((HT1.out.below b2).below ((Below.refl _ _).alloc (Nat.le_refl _) _))
  have HD : Hid ((defT T k a).length ≤ 100000002) := lineT_len (flat_join (W := w1) (fun y hy => by
      rcases List.mem_cons.1 hy with rfl | h1
      · exact ⟨trivial, (by decide : wDefaultB.size ≤ 100)⟩
      · rcases List.mem_cons.1 h1 with rfl | h2
        · exact ⟨HA.out, trivial⟩
        · cases h2) (by simp))
  have I3 : Hid (Lib.IsBuilder 43 5 w1.heap.size w1.heap.size (Lib.byteCells []) ((w1.alloc (Obj.cells #[.pointer none, .slice none 0 0] 43)).alloc (Obj.cells #[.iface 49 (.string ⟨#[100, 101, 102, 97, 117, 108, 116]⟩), .iface 50 (.agg #[.int .i64 k, .int .i64 a])] 63))) := isB_below I1.out ((Below.refl _ _).alloc (Nat.le_refl _) _)
  have B3 : Hid (Below w1.heap.size w1 ((w1.alloc (Obj.cells #[.pointer none, .slice none 0 0] 43)).alloc (Obj.cells #[.iface 49 (.string ⟨#[100, 101, 102, 97, 117, 108, 116]⟩), .iface 50 (.agg #[.int .i64 k, .int .i64 a])] 63))) := b2.alloc b2.size _
  clear I1 b2 HA
  go_wp2_with fail
  clear t0 t1
  generalize ((w1.alloc (Obj.cells #[.pointer none, .slice none 0 0] 43)).alloc (Obj.cells #[.iface 49 (.string ⟨#[100, 101, 102, 97, 117, 108, 116]⟩), .iface 50 (.agg #[.int .i64 k, .int .i64 a])] 63)) = Y at *
  refine HL1.out.mono ?_
  rintro e w4 ⟨rfl, b4⟩
  have W4 : Hid (Calls Try.prog 13 #[.pointer (some ⟨w1.heap.size, 0, none⟩), .string (bar (defT T k a))] w4 fun e w' => (∃ v, e = .returned v) ∧ Lib.IsBuilder 43 5 w1.heap.size w1.heap.size (Lib.byteCells ([] ++ defT T k a)) w' ∧ Below w1.heap.size w4 w') := ws_any _ [] _ w4 (isB_below I3.out b4) (by simp) (by have := HD.out; omega)
  have B4 : Hid (Below w1.heap.size w1 w4) := B3.out.trans (b4.mono B3.out.size)
  clear b4 I3 B3 HL1
  go_wp2_with fail
  refine W4.out.mono ?_
  rintro e w5 ⟨⟨v5, rfl⟩, i5, b5⟩
  have I5 : Hid (Lib.IsBuilder 43 5 w1.heap.size w1.heap.size (Lib.byteCells (textT T k a ((l.take 0).map Xr.r))) w5) := by
    show Lib.IsBuilder 43 5 w1.heap.size w1.heap.size (Lib.byteCells (textT T k a ((l.take 0).map Xr.r))) w5
    unfold textT
    simpa using i5
  have B5 : Hid (Below w1.heap.size w1 w5) := B4.out.trans b5
  have t2 : w5.cell? ⟨w.heap.size, 2, none⟩ = some (.slice p1 l.length c1) := (HK1.out.over B5.out).cell 2
  clear i5 b5 B4 W4
  have HB1 : Hid (w.heap.size ≤ w1.heap.size) := B1.out.size
  go_wp2_with fail
  generalize hbb : w1.heap.size = b at *
  have HBB : Hid (w1.heap.size = b) := hbb
  clear hbb
  go_loopw [20] (fun vi wr => ∃ i : Nat, vi = .int .i64 i ∧ i ≤ l.length ∧ Lib.IsBuilder 43 5 b b (Lib.byteCells (textT T k a ((l.take i).map Xr.r))) wr ∧ Below b w1 wr ∧ (textT T k a ((l.take i).map Xr.r)).length ≤ (i + 1) * 100000002) (fun vi _ => l.length - (intOf vi).toNat)
  case atStart => exact ⟨0, rfl, Nat.zero_le _, I5.out, B5.out, by unfold textT; simpa using HD.out⟩
  case round =>
    obtain ⟨i, rfl, hi, hI, hb, hlen⟩ := hrel
    have HI : Hid (Lib.IsBuilder 43 5 b b (Lib.byteCells (textT T k a ((l.take i).map Xr.r))) wr) := hI
    have HB : Hid (Below b w1 wr) := hb
    have HLN : Hid ((textT T k a ((l.take i).map Xr.r)).length ≤ (i + 1) * 100000002) := hlen
    have hbw : Below w1.heap.size w1 wr := by rw [HBB.out]; exact hb
    clear hI hlen
    by_cases hlt : i < l.length
    · have hi1 : (i : Int) < (l.length : Int) := by omega
      obtain ⟨b1, o1, rfl, e1⟩ := rlR_at (S1.out.below hbw) hlt
      have hmem : l[i] ∈ l := List.getElem_mem hlt
      have hq := HQ.out _ hmem
      have hSx : StrR wr l[i].vn l[i].r.names ∧ CdR wr l[i].vc l[i].r.conds := by obtain ⟨_, _, _, _, _, _, hr⟩ := S1.out.below hbw; exact hr _ hmem
      have HST : Hid (textT T k a ((l.take (i + 1)).map Xr.r) = textT T k a ((l.take i).map Xr.r) ++ lineT T (partsS l[i])) := textT_step hlt
      have HTw : Tb T wr := HT1.out.below hbw
      obtain ⟨p3, n3, c3, e3⟩ : ∃ p n c, l[i].vn = .slice p n c := by obtain ⟨p, c, e, _⟩ := hSx.1; exact ⟨p, _, c, e⟩
      obtain ⟨p4, n4, c4, e4⟩ : ∃ p n c, l[i].vc = .slice p n c := by obtain ⟨p, c, e, _⟩ := hSx.2; exact ⟨p, _, c, e⟩
      have b6 : Below wr.heap.size wr (wr.alloc (Obj.cells #[.int .i64 l[i].r.k, .int .i64 l[i].r.a, l[i].vn, l[i].vc] 39)) := (Below.refl _ _).alloc (Nat.le_refl _) _
      have HP : Hid (Calls Try.prog 15 #[.agg #[.int .i64 l[i].r.k, .int .i64 l[i].r.a, l[i].vn, l[i].vc]] (wr.alloc (Obj.cells #[.int .i64 l[i].r.k, .int .i64 l[i].r.a, l[i].vn, l[i].vc] 39)) fun e w' => ∃ v, e = .returned v ∧ w'.ownsRow (wr.alloc (Obj.cells #[.int .i64 l[i].r.k, .int .i64 l[i].r.a, l[i].vn, l[i].vc] 39)).heap.size 63 1 v (partsS l[i]).length ((partsS l[i]).map Sh.val) ∧ Below (wr.alloc (Obj.cells #[.int .i64 l[i].r.k, .int .i64 l[i].r.a, l[i].vn, l[i].vc] 39)).heap.size (wr.alloc (Obj.cells #[.int .i64 l[i].r.k, .int .i64 l[i].r.a, l[i].vn, l[i].vc] 39)) w') := parts_any _ l[i] (hSx.1.below b6) (hSx.2.below b6) (ruleB_out hq.1).2.2.1
      have HLn : Hid (∀ (W : World) (base : Nat) (v : Value), Below wr.heap.size wr W → W.ownsRow base 63 1 v (partsS l[i]).length ((partsS l[i]).map Sh.val) → Calls Try.prog 14 #[v] W fun e w' => e = .returned (.string (bar (lineT T (partsS l[i])))) ∧ Below W.heap.size W w') := fun W base v hW ho => by
        have hok := parts_ok (W := W) hq.1 hq.2 (hSx.1.below hW)
        have hpl := parts_len hq.1
        exact line_any T W base v (partsS l[i]) ho (fun y hy => (hok y hy).1) (by omega) (by omega) (flat_join hok (by omega)) (HTw.below hW)
      have HLL : Hid ((lineT T (partsS l[i])).length ≤ 100000002) := lineT_len (flat_join (W := wr) (parts_ok hq.1 hq.2 hSx.1) (by have := parts_len hq.1; omega))
      have B6 : Hid (Below wr.heap.size wr (wr.alloc (Obj.cells #[.int .i64 l[i].r.k, .int .i64 l[i].r.a, l[i].vn, l[i].vc] 39))) := b6
      have HPL : Hid (2 ≤ (partsS l[i]).length) := (parts_len hq.1).1
      clear hmem hq hSx HTw b6 hb hbw
      generalize lineT T (partsS l[i]) = LT at *
      generalize partsS l[i] = PS at *
      generalize textT T k a ((l.take i).map Xr.r) = TX at *
      generalize l[i] = x at *
      obtain ⟨⟨xk, xa, ns, cs⟩, vn, vc⟩ := x
      obtain ⟨q0, q1, q2, q3⟩ := e1
      dsimp only at q0 q1 q2 q3 e3 e4 HP B6
      subst e3 e4
      go_wp2_with fail
      generalize (wr.alloc (Obj.cells #[.int .i64 xk, .int .i64 xa, .slice p3 n3 c3, .slice p4 n4 c4] 39)) = Z at *
      refine HP.out.mono ?_
      rintro e w6 ⟨v6, rfl, o6, b6⟩
      have B7 : Hid (Below wr.heap.size wr w6) := B6.out.trans (b6.mono B6.out.size)
      have L7 := HLn.out w6 _ _ B7.out o6
      have L8 : Hid (Calls Try.prog 14 #[v6] w6 fun e w' => e = .returned (.string (bar LT)) ∧ Below w6.heap.size w6 w') := L7
      clear L7 o6 b6 HLn HP
      go_wp2_with fail
      refine L8.out.mono ?_
      rintro e w7 ⟨rfl, b7⟩
      have B8 : Hid (Below wr.heap.size wr w7) := B7.out.trans (b7.mono B7.out.size)
      have W8 : Hid (Calls Try.prog 13 #[.pointer (some ⟨b, 0, none⟩), .string (bar LT)] w7 fun e w' => (∃ v, e = .returned v) ∧ Lib.IsBuilder 43 5 b b (Lib.byteCells (TX ++ LT)) w' ∧ Below b w7 w') := ws_any b TX LT w7 (isB_below HI.out B8.out) (by have := HLN.out; have := HL.out; omega) (by have := HLL.out; omega)
      have HBb : Hid (b ≤ wr.heap.size) := Nat.le_of_lt (isB_lt HI.out)
      clear b7 B7 L8 B6
      go_wp2_with fail
      refine W8.out.mono ?_
      rintro e w8 ⟨⟨v8, rfl⟩, i8, b8⟩
      have B9 : Hid (Below b w1 w8) := HB.out.trans ((B8.out.mono HBb.out).trans b8)
      have I9 : Hid (Lib.IsBuilder 43 5 b b (Lib.byteCells (textT T k a ((l.take (i + 1)).map Xr.r))) w8) := by
        show Lib.IsBuilder 43 5 b b (Lib.byteCells (textT T k a ((l.take (i + 1)).map Xr.r))) w8
        rw [HST.out]
        exact i8
      clear i8 b8 W8
      go_wp2_with fail
      go_roundw
      case rel => exact ⟨i + 1, by go_num, hlt, I9.out, B9.out, by rw [HST.out, List.length_append]; have := HLN.out; have := HLL.out; omega⟩
      case measure => simp [intOf]; omega
    · have hge : ¬ (i : Int) < (l.length : Int) := by omega
      have hfull : l.take i = l := List.take_of_length_le (by omega)
      rw [hfull, HRR.out] at HI
      have W9 : Hid (Calls Try.prog 16 #[.pointer (some ⟨b, 0, none⟩)] wr fun e w' => e = .returned (.string (bar R)) ∧ Below b wr w') := Try.builder_str b b R wr HI.out (Nat.le_of_lt (isB_lt HI.out))
      clear hfull hb hbw
      go_wp2_with fail
      refine W9.out.mono ?_
      rintro e w9 ⟨rfl, b9⟩
      go_wp2_with fail
      go_ret2
      exact ⟨rfl, B1.out.trans ((HB.out.trans b9).mono HB1.out)⟩

end Go.Proofs.Ytcllgpbgikidjaa
