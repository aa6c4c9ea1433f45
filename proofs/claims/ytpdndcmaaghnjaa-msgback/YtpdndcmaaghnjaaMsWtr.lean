/-
  A writer, call by call, and what stays behind its calls: any blocks that it does not lie in.
-/
import Derived.Test.YtpdndcmaaghnjaaKWtr
import Derived.Maps.AppendAt
namespace Go.Proofs.Ytpdndcmaaghnjaa
open Go.RowKit
open K (Two Bs cellsB failW layW numW textW bytesOf grow_refl digs pow256 own_apart)

/-- a writer that lies in none of some blocks. -/
structure WY (Y : Nat → Prop) (w : World) (b : Nat) (st : List Int × Int) : Prop where
  ex : ∃ s, Two w b 44 s (.int .i64 st.2) ∧ w.ownsRow 0 5 1 s st.1.length (cellsB st.1) ∧ ∀ k, s.ownBlock = some k → ¬ Y k
  nb : ¬ Y b
  lt : ∀ k, Y k → k < w.heap.size
  bd : ∀ z ∈ st.1, 0 ≤ z ∧ z ≤ 255
  no : st.2 ≠ 0 → st.1 = []
/-- some blocks stand. -/
structure FY (Y : Nat → Prop) (w w' : World) : Prop where
  os : w'.os = w.os
  tape : w'.tape = w.tape
  output : w'.output = w.output
  size : w.heap.size ≤ w'.heap.size
  block : ∀ k, Y k → w'.heap[k]? = w.heap[k]?
theorem FY.refl (Y : Nat → Prop) (w : World) : FY Y w w := ⟨rfl, rfl, rfl, Nat.le_refl _, fun _ _ => rfl⟩
theorem FY.trans {Y : Nat → Prop} {u v w : World} (h : FY Y u v) (k : FY Y v w) : FY Y u w :=
  ⟨k.os.trans h.os, k.tape.trans h.tape, k.output.trans h.output, Nat.le_trans h.size k.size, fun i hi => (k.block i hi).trans (h.block i hi)⟩
theorem fy_below {Y : Nat → Prop} {w w' : World} (hY : ∀ k, Y k → k < w.heap.size) (h : Below w.heap.size w w') : FY Y w w' := ⟨h.os, h.tape, h.output, h.size, fun k hk => h.block k (hY k hk)⟩
theorem FY.below {Y : Nat → Prop} {w w' : World} {B : Nat} (h : FY Y w w') (hY : ∀ k, k < B → Y k) : Below B w w' := ⟨h.os, h.tape, h.output, h.size, fun k hk => h.block k (hY k hk)⟩
theorem FY.mono {Y Z : Nat → Prop} {w w' : World} (h : FY Y w w') (hZ : ∀ k, Z k → Y k) : FY Z w w' := ⟨h.os, h.tape, h.output, h.size, fun k hk => h.block k (hZ k hk)⟩
theorem fy_grown {Y : Nat → Prop} {w w' : World} {r : Option Nat} (h : w.grownBy w' r) (hY : ∀ k, Y k → k < w.heap.size ∧ r ≠ some k) : FY Y w w' :=
  ⟨h.os, h.tape, h.output, h.size, fun k hk => h.block k (hY k hk).1 fun e => (hY k hk).2 e.symm⟩
theorem fy_set {Y : Nat → Prop} (w : World) (b i : Nat) (v : Value) (hb : ¬ Y b) : FY Y w (w.setCell ⟨b, i, none⟩ v) :=
  ⟨rfl, rfl, rfl, by simp [World.setCell], fun k hk => Below.heap_setCell _ _ _ _ (fun e => hb (by rw [← show k = b from e]; exact hk))⟩
theorem WY.mono {Y Z : Nat → Prop} {w : World} {b : Nat} {st : List Int × Int} (h : WY Y w b st) (hZ : ∀ k, Z k → Y k) : WY Z w b st := by
  obtain ⟨s, h1, h2, h3⟩ := h.ex
  exact ⟨⟨s, h1, h2, fun k hk hz => h3 k hk (hZ k hz)⟩, fun hz => h.nb (hZ _ hz), fun k hk => h.lt k (hZ k hk), h.bd, h.no⟩
theorem WY.blt {Y : Nat → Prop} {w : World} {b : Nat} {st : List Int × Int} (h : WY Y w b st) : b < w.heap.size := by
  obtain ⟨s, h1, _⟩ := h.ex
  exact h1.lt
/-- what made memory alone leaves it, and more blocks may be minded. -/
theorem WY.below {Y Z : Nat → Prop} {w w' : World} {b : Nat} {st : List Int × Int} (h : WY Y w b st) (hb : Below w.heap.size w w') (hZ : ∀ k, Z k → Y k ∨ (w.heap.size ≤ k ∧ k < w'.heap.size)) : WY Z w' b st := by
  obtain ⟨s, h1, h2, h3⟩ := h.ex
  have lt := h.blt
  have hsz := hb.size
  refine ⟨⟨s, h1.below hb lt, ?_, fun k hk hz => ?_⟩, fun hz => ?_, fun k hk => ?_, h.bd, h.no⟩
  · refine ⟨h2.1, ?_⟩
    rcases h2.2 with hn | ⟨g, cap, cur, hv, hg, hh, r⟩
    · exact .inl hn
    · exact .inr ⟨g, cap, cur, hv, hg, by rw [hb.block g (lt_of_block hh)]; exact hh, r⟩
  · have hlt : k < w.heap.size := by
      rcases h2.2 with ⟨rfl, _⟩ | ⟨g, cap, cur, rfl, hg, hh, r⟩
      · cases hk
      · cases hk; exact lt_of_block hh
    rcases hZ k hz with h' | h'
    · exact h3 k hk h'
    · omega
  · rcases hZ b hz with h' | h'
    · exact h.nb h'
    · omega
  · rcases hZ k hk with h' | h'
    · have := h.lt k h'; omega
    · exact h'.2
theorem WY.wr {Y : Nat → Prop} {w : World} {b : Nat} {st : List Int × Int} (h : WY Y w b st) : K.Wr 0 w b st := by
  obtain ⟨s, h1, h2, _⟩ := h.ex
  exact ⟨⟨s, h1, h2⟩, Nat.zero_le _, h.bd, h.no⟩

/-- bytes appended to a row of one's own: where it lies then. -/
theorem append_at {w : World} {ops : Array Oper} {rest : List Oper} {o : Oper} {a : Act} {Q : Exit → Act → World → Prop} (hgd : o.guard = none) (s x : Operand)
    (ho : o.op = .call { callee := .builtin .append, args := #[s, x], argTypes := #[30, 30] })
    (base : Nat) (v : Value) (n : Nat) (l : List Int) (hs : a.eval s = v) (hown : w.ownsRow base 5 1 v n (cellsB l))
    (ao : Option Addr) (m c : Nat) (k : List Int) (hx : a.eval x = .slice ao m c) (hao : ao = none → c = 0) (hb : Bs w ao m k)
    (hn : n + m ≤ 1000000000) (hbase : base ≤ w.heap.size)
    (h : ∀ v' w', w'.ownsRow base 5 1 v' (n + m) (cellsB (l ++ k)) → w.grownBy w' v.ownBlock → (v'.ownBlock = v.ownBlock ∨ v'.ownBlock = some w.heap.size) → wpList Try.prog ops Q rest (a.put o.dst v') w') : wpList Try.prog ops Q (o :: rest) a w := by
  obtain ⟨i0, hi, hz0, hz1, hz2⟩ := info_parts K.Try.info5
  cases ao with
  | none =>
    obtain ⟨rfl, rfl⟩ := hb.nil
    obtain rfl := hao rfl
    refine wpList_append_own_none hgd s x 30 ho base 5 i0 1 Try.underlying30 hi v n (cellsB l) hs hown hx ?_
    exact h v w (by simpa using hown) (grow_refl _ _) (.inl rfl)
  | some ad =>
    obtain ⟨v', w', hr, h1, h2, _, h4⟩ := run_append_own_at (P := Try.prog) (w := w) base 30 o.type 5 i0 (.int .u8 0) 1 1 Try.underlying30 hi hz0 hz1 hz2 rfl (by decide) v n (cellsB l) hown ad m c (cellsB k) (by simp [cellsB, hb.1]) hb.news (by intro u hu; simp [cellsB] at hu; obtain ⟨z, _, rfl⟩ := hu; rfl) (by unfold maxLen; omega) (by omega) hbase
    refine wpList_plain hgd fun G hG => ?_
    unfold Oper.wp execOp
    simp only [ho, resolve, invoke, builtin, Sem.run_bind, Sem.run_pure, Result.andThen_ok, List.map_toArray, List.map_cons, List.map_nil, hs, hx, hr]
    exact hG _ _ (h v' w' (by rw [K.cellsB_app]; exact h1) h2 h4)

set_option maxHeartbeats 400000 in
theorem wfail_y (Y : Nat → Prop) (w : World) (b : Nat) (st : List Int × Int) (c : Int) (h : WY Y w b st) :
    Calls Try.prog 43 #[.pointer (some ⟨b, 0, none⟩), .int .i64 c] w fun e w' => e = .returned (.tuple #[]) ∧ WY Y w' b (failW st c) ∧ FY Y w w' := by
  have H := h
  obtain ⟨s, h2, ho, hy⟩ := h.ex
  have c0 := h2.c0
  have c1 := h2.c1
  have f0 := h2.f 0
  have f1 := h2.f 1
  have HN : Hid (¬ Y b) := h.nb
  have HL : Hid (∀ k, Y k → k < w.heap.size) := h.lt
  obtain ⟨l, e⟩ := st
  simp only at c1
  by_cases he : e = 0
  · subst he
    clear h H ho hy
    go_enter Try.func43, Try.ntmps43
    go_wp2
    go_end0
    refine ⟨rfl, ⟨⟨_, (h2.set1 (x := .int .i64 c)).set0 (x := .slice none 0 0), ⟨rfl, .inl ⟨rfl, rfl⟩⟩, fun k hk => by cases hk⟩, HN.out, fun k hk => by have := HL.out k hk; simpa [World.setCell] using this, by simp [failW], fun _ => rfl⟩, (fy_set _ _ _ _ HN.out).trans (fy_set _ _ _ _ HN.out)⟩
  · have hf : failW (l, e) c = (l, e) := by unfold failW; rw [if_neg he]
    rw [hf]
    clear h ho hy
    go_enter Try.func43, Try.ntmps43
    go_wp2
    go_end0
    exact ⟨rfl, H, FY.refl _ _⟩

set_option maxHeartbeats 400000 in
theorem wlay_y (Y : Nat → Prop) (w : World) (b : Nat) (st : List Int × Int) (a : Option Addr) (m cap : Nat) (k : List Int) (h : WY Y w b st) (hao : a = none → cap = 0) (hk : Bs w a m k) (hn : st.1.length + m ≤ 1000000000) :
    Calls Try.prog 45 #[.pointer (some ⟨b, 0, none⟩), .slice a m cap] w fun e w' => e = .returned (.tuple #[]) ∧ WY Y w' b (layW st k) ∧ FY Y w w' := by
  have H := h
  obtain ⟨s, h2, ho, hy⟩ := h.ex
  have hap := own_apart (by decide) ho h2
  have hlt := h2.lt
  have hbd := h.bd
  have c0 := h2.c0
  have c1 := h2.c1
  have HN : Hid (¬ Y b) := h.nb
  have HL : Hid (∀ k, Y k → k < w.heap.size) := h.lt
  have HY : Hid (∀ k, s.ownBlock = some k → ¬ Y k) := hy
  obtain ⟨l, e⟩ := st
  simp only at c1 hn ho hbd
  by_cases he : e = 0
  · subst he
    have AO : Hid (a = none → cap = 0) := hao
    have AP : Hid (s.ownBlock ≠ some b) := hap
    have BD : Hid (∀ z ∈ l ++ k, 0 ≤ z ∧ z ≤ 255) := by
      intro z hz
      rcases List.mem_append.1 hz with hz | hz
      · exact hbd z hz
      · exact hk.2.1 z hz
    clear h H hao hap hbd hy
    go_enter Try.func45, Try.ntmps45
    go_wp2_with (at_builtin; refine append_at rfl (.tmp 13) (.tmp 14) rfl 0 _ l.length l rfl ho a m cap k rfl AO.out hk hn (Nat.zero_le _) ?_; intro v1 x1 ho1 hg1 hw1; have h3 := h2.grown hg1 AP.out; have f0 := h3.f 0; have d0 := h3.c0; obtain ⟨a1, k1, rfl, _⟩ := K.owns_bs ho1 BD.out)
    go_end0
    have hs1 : x1.heap.size = (x1.setCell ⟨b, 0, none⟩ (.slice a1 (l.length + m) k1)).heap.size := by simp [World.setCell]
    have hgs := hg1.size
    refine ⟨rfl, ⟨⟨_, h3.set0, ?_, fun j hj hyj => ?_⟩, HN.out, fun j hj => by have := HL.out j hj; omega, BD.out, fun h => absurd rfl h⟩, (fy_grown hg1 fun j hj => ⟨HL.out j hj, fun e => HY.out j e hj⟩).trans (fy_set _ _ _ _ HN.out)⟩
    · have := ownsRow_setCell_other ho1 (a := ⟨b, 0, none⟩) (own_apart (by decide) ho1 h3) (.slice a1 (l.length + m) k1)
      show World.ownsRow _ 0 5 1 (.slice a1 (l.length + m) k1) (l ++ k).length (cellsB (l ++ k))
      rw [List.length_append, hk.1]
      exact this
    · rcases hw1 with hw1 | hw1
      · exact HY.out j (hw1.symm.trans hj) hyj
      · rw [hj] at hw1
        cases hw1
        exact absurd (HL.out _ hyj) (Nat.lt_irrefl _)
  · have hf : layW (l, e) k = (l, e) := by unfold layW; rw [if_neg he]
    rw [hf]
    clear h ho hy
    go_enter Try.func45, Try.ntmps45
    go_wp2
    go_end0
    exact ⟨rfl, H, FY.refl _ _⟩

theorem WY.same {Y : Nat → Prop} {w w' : World} {b : Nat} {st : List Int × Int} (h : WY Y w b st) (hb : Below w.heap.size w w') : WY Y w' b st := h.below hb fun _ hk => .inl hk

set_option maxHeartbeats 800000 in
theorem wnum_y (Y : Nat → Prop) (w : World) (b : Nat) (st : List Int × Int) (n size : Int) (h : WY Y w b st) (n0 : 0 ≤ n) (n1 : n ≤ 18446744073709551615) (hn : st.1.length ≤ 900000000) :
    Calls Try.prog 28 #[.pointer (some ⟨b, 0, none⟩), .int .u64 n, .int .i64 size] w fun e w' => e = .returned (.tuple #[]) ∧ WY Y w' b (numW st n size) ∧ FY Y w w' := by
  by_cases hs : 1 ≤ size ∧ size ≤ 8
  · obtain ⟨m, rfl⟩ : ∃ m : Nat, size = (m : Int) := ⟨size.toNat, by omega⟩
    have hd : decide (1 ≤ (m : Int) ∧ (m : Int) ≤ 8) = true := decide_eq_true hs
    have m1 : 1 ≤ m := by omega
    have m8 : m ≤ 8 := by omega
    have HT : Hid ((m : Int).toNat = m) := rfl
    clear hs
    go_enter Try.func28, Try.ntmps28
    go_wp2_with (go_at_call 42; refine (K.isSize_any _ _).mono ?_; rintro e w' ⟨rfl, rfl⟩; rw [hd])
    refine (K.digits_any n m _ n0 n1 m1 m8).mono ?_
    rintro e w1 ⟨hbel, ⟨hlt, rfl, hrow⟩ | ⟨hge, rfl⟩⟩
    · have h1 := h.same hbel
      have hbs := K.rowIs_bs hrow
      have hbB := fy_below h.lt hbel
      have HN : Hid (numW st n m = layW st (digs m n)) := by unfold Hid numW; rw [if_pos ⟨by omega, by omega, hlt⟩]; rfl
      clear hlt
      go_wp2_with (go_at_call 45; refine (wlay_y Y _ b st _ m m _ h1 (by simp) hbs (by omega)).mono ?_; rintro e w2 ⟨rfl, h2, hb2⟩)
      go_end0
      exact ⟨rfl, by rw [HN.out]; exact h2, hbB.trans hb2⟩
    · have h1 := h.same hbel
      have hbB := fy_below h.lt hbel
      have HN : Hid (numW st n m = failW st 1) := by unfold Hid numW; rw [if_neg (fun hx => by have := hx.2.2; rw [HT.out] at this; omega)]
      clear hge
      go_wp2_with (go_at_call 43; refine (wfail_y Y _ b st 1 h1).mono ?_; rintro e w2 ⟨rfl, h2, hb2⟩)
      (try simp only [Exit.inBlock, Exit.then]); refine bodyPost_ret (results_none rfl _ _ _) rfl ?_
      exact ⟨rfl, by rw [HN.out]; exact h2, hbB.trans hb2⟩
  · have hd : decide (1 ≤ size ∧ size ≤ 8) = false := decide_eq_false hs
    have HN : Hid (numW st n size = failW st 1) := by unfold Hid numW; rw [if_neg (fun hx => hs ⟨hx.1, hx.2.1⟩)]
    clear hs
    go_enter Try.func28, Try.ntmps28
    go_wp2_with (first | (go_at_call 42; refine (K.isSize_any _ _).mono ?_; rintro e w' ⟨rfl, rfl⟩; rw [hd]) | (go_at_call 43; refine (wfail_y Y _ b st 1 h).mono ?_; rintro e w2 ⟨rfl, h2, hb2⟩))
    (try simp only [Exit.inBlock, Exit.then]); refine bodyPost_ret (results_none rfl _ _ _) rfl ?_
    exact ⟨rfl, by rw [HN.out]; exact h2, hb2⟩

set_option maxHeartbeats 800000 in
theorem wtext_y (Y : Nat → Prop) (w : World) (b : Nat) (st : List Int × Int) (s : ByteArray) (h : WY Y w b st) (hn : st.1.length ≤ 800000000) :
    Calls Try.prog 30 #[.pointer (some ⟨b, 0, none⟩), .string s] w fun e w' => e = .returned (.tuple #[]) ∧ WY Y w' b (textW st s) ∧ FY Y w w' := by
  by_cases hl : 65535 < s.size
  · have HN : Hid (textW st s = failW st 4) := by unfold Hid textW; rw [if_pos hl]
    go_enter Try.func30, Try.ntmps30
    go_wp2_with (go_at_call 43; refine (wfail_y Y _ b st 4 h).mono ?_; rintro e w2 ⟨rfl, h2, hb2⟩)
    (try simp only [Exit.inBlock, Exit.then]); refine bodyPost_ret (results_none rfl _ _ _) rfl ?_
    exact ⟨rfl, by rw [HN.out]; exact h2, hb2⟩
  · have HN : Hid (textW st s = layW (numW st s.size 2) (bytesOf s)) := by unfold Hid textW; rw [if_neg hl]
    have HX : Hid (st.1.length ≤ 800000000) := hn
    obtain ⟨m, hm⟩ : ∃ m, s.size = m := ⟨_, rfl⟩
    rw [hm] at HN hl
    have hl2 : m ≤ 65535 := by omega
    clear hl hn
    go_enter Try.func30, Try.ntmps30
    go_wp2_with fail
    refine (wnum_y Y _ b st m 2 h (by omega) (by omega) (Nat.le_trans HX.out (by decide))).mono ?_
    rintro e w2 ⟨rfl, h2, hb2⟩
    obtain ⟨C, cap, f, hcv, hbs, hbc⟩ := K.toBytes w2 s
    rw [hm] at hcv hbs
    go_wp2_with fail
    refine (wlay_y Y _ b _ _ m cap _ (h2.same hbc) (by simp) hbs (by have := K.numW_len st m 2; have := HX.out; omega)).mono ?_
    rintro e w3 ⟨rfl, h3, hb3⟩
    go_wp2
    go_end0
    exact ⟨rfl, by rw [HN.out]; exact h3, (hb2.trans (fy_below h2.lt hbc)).trans hb3⟩

end Go.Proofs.Ytpdndcmaaghnjaa
