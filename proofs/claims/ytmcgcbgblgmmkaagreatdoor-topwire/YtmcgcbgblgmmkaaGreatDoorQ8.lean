/-
  GMsRead GMsDec GMsNums GMsNumsC.
-/
import Derived.Test.YtmcgcbgblgmmkaaGreatDoorQ7
set_option maxRecDepth 100000
set_option maxHeartbeats 1600000
namespace Go.Proofs.YtmcgcbgblgmmkaaGreatDoor.G
open Go.RowKit
open D (Da Blk)
open K (numR textR endR numOf)
theorem num_at (l : List Int) (p s : Nat) (h1 : 1 <= s) (h8 : s <= 8) : numR (stA l p) (s : Int) = (nAt l p s, stA l (p + s)) := num_stA l p s h1 h8
theorem num_first {l : List Int} {k : Int} (hh : l.head? = some k) : numR (l, 0) 1 = (k, stA l 1) := by
 have h := num_at l 0 1 (by decide) (by decide)
 rw [stA_zero] at h
 have hl : 0 < l.length := by cases l with
  | nil => cases hh
  | cons x r => exact Nat.succ_pos _
 have e : nAt l 0 1 = k := by
  rw [nAt_1 l 0 hl]
  cases l with
  | nil => cases hh
  | cons x r => cases hh; rfl
 rw [e] at h
 exact h
theorem end_at (k : Int) (l : List Int) (p : Nat) (hn : need k = p) (hs : size k l = p) : endR (stA l p) = endM k l := by
 rw [end_stA]
 unfold endM
 rw [hn, hs]
 by_cases h : l.length < p
 ·rw [if_pos h, if_pos (.inl h)]
 ·rw [if_neg h, if_neg (show ¬ (l.length < p \/ l.length < p) by omega)]
theorem zero_u64 : D.U64 0 := ⟨by decide, by decide⟩
def ReadT (k : Int) (l : List Int) (w : World) (e : Ending) (w' : World) : Prop := ∃ m : Mg, m.ok /\ e = .returned (.tuple #[m.vl, .int .i64 (endM k l)]) /\ decM l = tellM m (endM k l) /\ Below w.heap.size w w'
section
variable {a : Option Addr} {len cap : Nat} {l : List Int} {w : World} {k : Int}
theorem read1 (hao : a = none -> cap = 0) (hlen : len <= 900000000) (hb : K.Bs w a len l) (hh : l.head? = some k) (hk : 1 <= k /\ k <= 7) (h1 : k = 1) : Calls Tryz.prog 32 #[.slice a len cap] w (ReadT k l w) := by
 have q1 : idQ k = false := by unfold idQ; rw [h1]; rfl
 have q2 : caQ k = false := by unfold caQ; rw [h1]; rfl
 have q3 : vaQ k = false := by rw [va_iff]; exact decide_eq_false (by omega)
 have hby : D.Byt l := hb.2.1
 have hn : need k = 9 := by unfold need; rw [if_pos h1]
 have hs : size k l = 9 := by unfold size; rw [if_neg (by omega), hn]
 refine (read_none a len cap l w hao hlen hb k (nAt l 1 8) (stA l 1) (stA l 9) q1 q2 q3 (num_first hh) (num_at l 1 8 (by decide) (by decide)) (by omega) (by omega)).mono ?_
 rintro e w' ⟨rfl, hB⟩
 rw [end_at k l 9 hn hs]
 refine ⟨⟨k, nAt l 1 8, 0, 0, 0, Da.zero, []⟩, ⟨nAt_8 hby 1, zero_u64, D.zero_ok, fun z hz => by cases hz⟩, rfl, dec_tell hh hk hby fun h _ => ?_, hB⟩
 unfold rd nAt
 rw [if_pos (by omega), if_pos h1, if_neg (by omega), if_neg (by omega), if_neg (by omega), if_neg (by omega)]
theorem read2 (hao : a = none -> cap = 0) (hlen : len <= 900000000) (hb : K.Bs w a len l) (hh : l.head? = some k) (hk : 1 <= k /\ k <= 7) (h1 : k ≠ 1) (h2 : k ≠ 2) (h4 : ¬ (k = 4 \/ k = 5 \/ k = 7)) : Calls Tryz.prog 32 #[.slice a len cap] w (ReadT k l w) := by
 have q1 : idQ k = true := by unfold idQ; rw [beq_false_of_ne h1]; rfl
 have q2 : caQ k = false := beq_false_of_ne h2
 have q3 : vaQ k = false := by rw [va_iff]; exact decide_eq_false h4
 have hby : D.Byt l := hb.2.1
 have hn : need k = 17 := by unfold need; rw [if_neg h1, if_neg h2, if_neg h4]
 have hs : size k l = 17 := by unfold size; rw [if_neg h2, hn]
 refine (read_id a len cap l w hao hlen hb k (nAt l 1 8) (nAt l 9 8) (stA l 1) (stA l 9) (stA l 17) q1 q2 q3 (num_first hh) (num_at l 1 8 (by decide) (by decide)) (num_at l 9 8 (by decide) (by decide)) (by omega) (by omega)).mono ?_
 rintro e w' ⟨rfl, hB⟩
 rw [end_at k l 17 hn hs]
 refine ⟨⟨k, nAt l 1 8, nAt l 9 8, 0, 0, Da.zero, []⟩, ⟨nAt_8 hby 1, nAt_8 hby 9, D.zero_ok, fun z hz => by cases hz⟩, rfl, dec_tell hh hk hby fun h _ => ?_, hB⟩
 unfold rd nAt
 rw [if_pos (by omega), if_pos (by omega), if_neg h1, if_neg h2, if_neg h4, if_neg h2, if_neg h2]
theorem read4 (hao : a = none -> cap = 0) (hlen : len <= 900000000) (hb : K.Bs w a len l) (hh : l.head? = some k) (hk : 1 <= k /\ k <= 7) (h4 : k = 4 \/ k = 5 \/ k = 7) : Calls Tryz.prog 32 #[.slice a len cap] w (ReadT k l w) := by
 have h1 : k ≠ 1 := by omega
 have h2 : k ≠ 2 := by omega
 have q1 : idQ k = true := by unfold idQ; rw [beq_false_of_ne h1]; rfl
 have q2 : caQ k = false := beq_false_of_ne h2
 have q3 : vaQ k = true := by rw [va_iff]; exact decide_eq_true h4
 have hby : D.Byt l := hb.2.1
 have hn : need k = 19 := by unfold need; rw [if_neg h1, if_neg h2, if_pos h4]
 have hs : size k l = 19 := by unfold size; rw [if_neg h2, hn]
 have hv := nAt_2 hby 17 2 (by decide)
 refine (read_val a len cap l w hao hlen hb k (nAt l 1 8) (nAt l 9 8) (nAt l 17 2) (stA l 1) (stA l 9) (stA l 17) (stA l 19) q1 q2 q3 (num_first hh) (num_at l 1 8 (by decide) (by decide)) (num_at l 9 8 (by decide) (by decide)) (num_at l 17 2 (by decide) (by decide)) (by omega) (by omega) hv.1 hv.2).mono ?_
 rintro e w' ⟨rfl, hB⟩
 rw [end_at k l 19 hn hs]
 refine ⟨⟨k, nAt l 1 8, nAt l 9 8, 0, nAt l 17 2, Da.zero, []⟩, ⟨nAt_8 hby 1, nAt_8 hby 9, D.zero_ok, fun z hz => by cases hz⟩, rfl, dec_tell hh hk hby fun h _ => ?_, hB⟩
 unfold rd nAt
 rw [if_pos (by omega), if_pos (by omega), if_pos (by omega), if_neg h1, if_neg h2, if_pos h4, if_neg h2, if_neg h2]
theorem readC (hao : a = none -> cap = 0) (hlen : len <= 900000000) (hb : K.Bs w a len l) (hh : l.head? = some k) (hk : 1 <= k /\ k <= 7) (h2 : k = 2) : Calls Tryz.prog 32 #[.slice a len cap] w (ReadT k l w) := by
 have h1 : k ≠ 1 := by omega
 have h4 : ¬ (k = 4 \/ k = 5 \/ k = 7) := by omega
 have q1 : idQ k = true := by unfold idQ; rw [beq_false_of_ne h1]; rfl
 have q2 : caQ k = true := by unfold caQ; rw [h2]; rfl
 have q3 : vaQ k = false := by rw [va_iff]; exact decide_eq_false h4
 have hby : D.Byt l := hb.2.1
 have hn : need k = 84 := by unfold need; rw [if_neg h1, if_pos h2]
 have hs : size k l = 84 + (numOf ((l.drop 82).take 2)).toNat := by unfold size; rw [if_pos h2]
 have ht := nAt_2 hby 17 1 (by decide)
 have hbs := byte_stA l 18
 have hDL : D.Byt (byteR (stA l 18) 64).1 := by
  have hrd : ∀ m : List Int × Int, D.Byt m.1 -> ∀ n, D.Byt (byteR m n).1 /\ D.Byt (byteR m n).2.1 := byteR_byts
  refine (hrd (stA l 18) ?_ 64).1
  unfold stA
  split
  ·exact fun z hz => hby z (List.mem_of_mem_drop hz)
  ·exact fun z hz => by cases hz
 have hdo := D.decOf_ok _ hDL
 have hP : D.Byt (textR (stA l 82)).1 := by
  have htx := text_stA l 82
  by_cases h : 82 + 2 <= l.length
  ·rw [htx.1 h]
   dsimp only
   split
   ·exact byt_sub hby 84 _
   ·exact fun z hz => by cases hz
  ·rw [htx.2 (by omega)]
   exact fun z hz => by cases hz
 have hend : endR (textR (stA l 82)).2 = endM k l := by
  have htx := text_stA l 82
  by_cases h : 82 + 2 <= l.length
  ·rw [htx.1 h]
   dsimp only
   rw [end_stA]
   unfold endM
   rw [hn, hs]
   by_cases h5 : l.length < 84 + (numOf ((l.drop 82).take 2)).toNat
   ·rw [if_pos h5, if_pos (.inr h5)]
   ·rw [if_neg h5, if_neg (show ¬ (l.length < 84 \/ l.length < 84 + (numOf ((l.drop 82).take 2)).toNat) by omega)]
  ·rw [htx.2 (by omega)]
   unfold endM
   rw [hn, if_pos (.inl (by omega))]
   rfl
 obtain ⟨DD, hD⟩ : ∃ x, D.decOf (byteR (stA l 18) 64).1 = x := ⟨_, rfl⟩
 rw [hD] at hdo
 obtain ⟨dn, da, dp, dg⟩ := DD
 have hg6 := hdo.2.2.2.1
 simp only at hg6
 obtain ⟨x0, x1, x2, x3, x4, x5, rfl⟩ := D.six hg6
 refine (read_call a len cap l w hao hlen hb k (nAt l 1 8) (nAt l 9 8) (nAt l 17 1) (stA l 1) (stA l 9) (stA l 17) (stA l 18) (stA l 82) (textR (stA l 82)).2 q1 q2 q3 dn da dp x0 x1 x2 x3 x4 x5 (byteR (stA l 18) 64).1 (strOfNums (textR (stA l 82)).1) (num_first hh) (num_at l 1 8 (by decide) (by decide)) (num_at l 9 8 (by decide) (by decide)) (num_at l 17 1 (by decide) (by decide)) (Prod.ext rfl hbs.1) hD rfl rfl (by omega) (by omega) ht.1 ht.2).mono ?_
 rintro e w' ⟨rfl, hB⟩
 rw [hend]
 refine ⟨⟨k, nAt l 1 8, nAt l 9 8, nAt l 17 1, 0, ⟨dn, da, dp, [x0, x1, x2, x3, x4, x5]⟩, (textR (stA l 82)).1⟩, ⟨nAt_8 hby 1, nAt_8 hby 9, hdo, hP⟩, rfl, dec_tell hh hk hby fun h h5 => ?_, hB⟩
 have htx := (text_stA l 82).1 (by omega)
 rw [hs] at h5
 rw [htx, <- hD, hbs.2 (by omega), nAt_1 l 17 (by omega)]
 unfold rd nAt
 rw [if_pos (by omega), if_pos (by omega), if_pos (show 82 + 2 + _ <= _ by omega), if_neg h1, if_pos h2, if_neg h4, if_pos h2, if_pos h2]
theorem read_all (hao : a = none -> cap = 0) (hlen : len <= 900000000) (hb : K.Bs w a len l) (hh : l.head? = some k) (hk : 1 <= k /\ k <= 7) : Calls Tryz.prog 32 #[.slice a len cap] w (ReadT k l w) := by
 by_cases h1 : k = 1
 ·exact read1 hao hlen hb hh hk h1
 ·by_cases h2 : k = 2
  ·exact readC hao hlen hb hh hk h2
  ·by_cases h4 : k = 4 \/ k = 5 \/ k = 7
   ·exact read4 hao hlen hb hh hk h4
   ·exact read2 hao hlen hb hh hk h1 h2 h4
end
theorem at_op {P : Program} {ops : Array Oper} {Q : Exit -> Act -> World -> Prop} {rest : List Oper} {o : Oper} {a : Act} {w : World} (op : Op) (_ho : o.op = op) (h : wpList P ops Q (o :: rest) a w) : wpList P ops Q (o :: rest) a w := h
theorem wpList_load_rowG {P : Program} {ops : Array Oper} {rest : List Oper} {o : Oper} {a : Act} {w : World} {Q : Exit -> Act -> World -> Prop} (hw : Region.wanted o (yielded ops a.tmps) = true) (ty : TypeId) (x : Operand) (ho : o.op = .load ty x)
  (g : Nat) (hx : a.eval x = .pointer (some ⟨g, 0, none⟩)) (t : TypeId) (cs : Array Value) (fr : Nat × Nat) (d : TypeDesc) (hg : w.heap[g]? = some (.cells cs t fr))
  (hu : P.underlying ty = some d) (hd : (match d with | .struct _ | .array _ _ => true | _ => false) = true) (hi : (P.info? ty).map (·.size) = some cs.size)
  (h : wpList P ops Q rest (a.put o.dst (.agg cs)) w) : wpList P ops Q (o :: rest) a w :=
 wpList_step fun K hK => by
  simp only [hw, if_true]
  exact wp_load_row ty x ho g hx t cs fr d hg hu hd hi (hK _ _ h)
theorem one15 : (zero15.toArray).all (·.oneCell') = true := by simp [zero15, Value.oneCell']
theorem size15 : (Tryz.prog.info? 36).map (·.size) = some zero15.toArray.size := Tryz.size36
theorem room1 (w : World) (o : Obj) : Below w.heap.size w (w.alloc o) := (Below.refl _ _).alloc (Nat.le_refl _) _
theorem zero_vl : Mg.zero.vl = .agg #[.int .i64 0, .int .u64 0, .int .u64 0, .int .i64 0, .int .i64 0, .int .u32 0, .int .u32 0, .int .u64 0, .int .u64 0, .int .u64 0, .int .u64 0, .int .u64 0, .int .u64 0, .int .u64 0, .string ⟨#[]⟩] := rfl
section
variable {a : Option Addr} {len cap : Nat} {l : List Int} {w : World}
theorem decode_nil (hb : K.Bs w a len []) : Calls Tryz.prog 12 #[.slice a len cap] w fun e w' => e = .returned (.tuple #[Mg.zero.vl, .int .i64 2]) /\ Below w.heap.size w w' := by
 have hl : len = 0 := hb.1.symm
 subst hl
 have HB : Hid (∀ o, Below w.heap.size w (w.alloc o)) := room1 w
 have hf : Hid (Blk (w.alloc (Obj.cells zero15.toArray 36)) w.heap.size 36 zero15) := D.blk_new w _ 36
 rw [zero_vl]
 clear hb
 unfold zero15 at *
 go_enter Tryz.func12, Tryz.ntmps12
 go_wp2_with (refine at_op (.store 36 (.tmp 2) (.tmp 9)) rfl ?_; refine wpList_store_row rfl 36 (.tmp 2) (.tmp 9) rfl w.heap.size #[.int .i64 0, .int .u64 0, .int .u64 0, .int .i64 0, .int .i64 0, .int .u32 0, .int .u32 0, .int .u64 0, .int .u64 0, .int .u64 0, .int .u64 0, .int .u64 0, .int .u64 0, .int .u64 0, .string ⟨#[]⟩] rfl rfl 36 _ hf.out size15 rfl one15 ?_)
 exact bodyPost_ret (results_mg Tryz.results12 _ _ w.heap.size zero15 _ rfl (hf.out.row zero15.toArray) size15 rfl) rfl ⟨rfl, below_setRow (HB.out _) (Nat.le_refl _) _⟩
theorem decode_kind (b off : Nat) (k : Int) (hlen : 0 < len) (hc : w.cell? ⟨b, off, none⟩ = some (.int .u8 k)) (k0 : 0 <= k) (k1 : k <= 255) (hk : kiQ k = false) : Calls Tryz.prog 12 #[.slice (some ⟨b, off, none⟩) len cap] w fun e w' => e = .returned (.tuple #[Mg.zero.vl, .int .i64 3]) /\ Below w.heap.size w w' := by
 have HB : Hid (∀ o, Below w.heap.size w (w.alloc o)) := room1 w
 have hc1 : ∀ o, (w.alloc o).cell? ⟨b, off, none⟩ = some (.int .u8 k) := fun o => by rw [(room1 w o).cell (p := ⟨b, off, none⟩) (World.block_lt_of_cell? w _ hc)]; exact hc
 have hc2 := hc1 (Obj.cells #[.int .i64 0, .int .u64 0, .int .u64 0, .int .i64 0, .int .i64 0, .int .u32 0, .int .u32 0, .int .u64 0, .int .u64 0, .int .u64 0, .int .u64 0, .int .u64 0, .int .u64 0, .int .u64 0, .string ⟨#[]⟩] 36)
 have h0 : ((len : Int) == 0) = false := beq_false_of_ne (by omega)
 have hw : IntKind.i64.wrap k = k := by rw [IntKind.wrap_i64]; omega
 have hf : Hid (Blk (w.alloc (Obj.cells zero15.toArray 36)) w.heap.size 36 zero15) := D.blk_new w _ 36
 rw [zero_vl]
 clear hc hc1 k0 k1
 unfold zero15 at *
 go_enter Tryz.func12, Tryz.ntmps12
 go_wp2_with (first | (go_at_call 31; refine (isKind_any _ _).mono ?_; rintro e w1 ⟨rfl, hw1⟩; subst hw1; rw [hk]) | (refine at_op (.store 36 (.tmp 2) (.tmp 16)) rfl ?_; refine wpList_store_row rfl 36 (.tmp 2) (.tmp 16) rfl w.heap.size #[.int .i64 0, .int .u64 0, .int .u64 0, .int .i64 0, .int .i64 0, .int .u32 0, .int .u32 0, .int .u64 0, .int .u64 0, .int .u64 0, .int .u64 0, .int .u64 0, .int .u64 0, .int .u64 0, .string ⟨#[]⟩] rfl rfl 36 _ hf.out size15 rfl one15 ?_))
 exact bodyPost_ret (results_mg Tryz.results12 _ _ w.heap.size zero15 _ rfl (hf.out.row zero15.toArray) size15 rfl) rfl ⟨rfl, below_setRow (HB.out _) (Nat.le_refl _) _⟩
end
theorem decode_known (len cap b off : Nat) (l : List Int) (w : World) (k : Int) (hlen : len <= 900000000) (hl0 : 0 < len) (hb : K.Bs w (some ⟨b, off, none⟩) len l) (hc : w.cell? ⟨b, off, none⟩ = some (.int .u8 k)) (hh : l.head? = some k) (hk : 1 <= k /\ k <= 7) :
  Calls Tryz.prog 12 #[.slice (some ⟨b, off, none⟩) len cap] w fun e w' => e = .returned (.tuple #[(decM l).1.vl, .int .i64 (decM l).2]) /\ Below w.heap.size w w' := by
 have hkq : kiQ k = true := decide_eq_true hk
 have E1 := room1 w (Obj.cells zero15.toArray 36)
 have hb1 : Hid (K.Bs (w.alloc (Obj.cells zero15.toArray 36)) (some ⟨b, off, none⟩) len l) := hb.below E1
 have hc1 : (w.alloc (Obj.cells zero15.toArray 36)).cell? ⟨b, off, none⟩ = some (.int .u8 k) := by rw [E1.cell (p := ⟨b, off, none⟩) (World.block_lt_of_cell? w _ hc)]; exact hc
 have hf : Hid (Blk (w.alloc (Obj.cells zero15.toArray 36)) w.heap.size 36 zero15) := D.blk_new w _ 36
 have HE1 : Hid (Below w.heap.size w (w.alloc (Obj.cells zero15.toArray 36))) := E1
 have HR : Hid (∀ W : World, K.Bs W (some ⟨b, off, none⟩) len l -> Calls Tryz.prog 32 #[.slice (some ⟨b, off, none⟩) len cap] W (fun e w' => ∃ m : Mg, m.ok /\ e = .returned (.tuple #[m.vl, .int .i64 (endM k l)]) /\ decM l = tellM m (endM k l) /\ Below W.heap.size W w')) := fun W hW => read_all (by simp) hlen hW hh hk
 have HN : Hid (∀ W : World, Blk (W.alloc (Obj.cells zero15.toArray 36)) W.heap.size 36 zero15) := fun W => D.blk_new W _ 36
 have h0 : ((len : Int) == 0) = false := beq_false_of_ne (by omega)
 have hw : IntKind.i64.wrap k = k := by rw [IntKind.wrap_i64]; omega
 clear hb E1 hk hc hh
 generalize endM k l = en at *
 generalize decM l = dm at *
 unfold zero15 at *
 go_enter Tryz.func12, Tryz.ntmps12
 go_wp2_with (first | (go_at_call 31; refine (isKind_any _ _).mono ?_; rintro e w1 ⟨rfl, hw1⟩; subst hw1; rw [hkq]))
 refine (HR.out _ hb1.out).mono ?_
 rintro e w2 ⟨m, ho, rfl, hdm, b2⟩
 have HO : Hid m.ok := ho
 have HZ : Hid ((Tryz.prog.info? 36).map (·.size) = some m.cells.toArray.size) := m.size ho.2.2.1
 have H1 : Hid (m.cells.toArray.all (·.oneCell') = true) := m.cells_one
 have HS : Hid ((zero15.toArray).size = m.cells.toArray.size) := by
  unfold Hid
  rw [List.size_toArray, List.size_toArray, m.cells_len ho.2.2.1]
  rfl
 have HB2 : Hid (Below w.heap.size w w2) := HE1.out.trans (b2.mono HE1.out.size)
 have Z2 : Hid (Blk (w2.alloc (Obj.cells zero15.toArray 36)) w2.heap.size 36 zero15) := HN.out w2
 have F2 : Hid (Blk (w2.alloc (Obj.cells zero15.toArray 36)) w.heap.size 36 zero15) := (hf.out.over b2).alloc _
 have L2 : Hid (w.heap.size < w2.heap.size) := (hf.out.over b2).lt
 have HRt : Hid (∀ W : World, Calls Tryz.prog 18 #[.agg m.cells.toArray] W fun e w' => e = .returned (.bool (rightB m)) /\ Below W.heap.size W w') := fun W => right_any m W ho.2.2.1 ho.2.2.2
 have HM : Hid (m.vl = .agg m.cells.toArray) := rfl
 have HD : Hid (dm = tellM m en) := hdm
 clear hc1 hb1 HR HN hf b2 HE1 ho hdm
 unfold Mg.vl
 generalize hR : m.cells = R at *
 generalize hrb : rightB m = rb at *
 unfold zero15 at *
 by_cases he : en = 0
 ·subst he
  cases rb
  ·have HDz : Hid (dm = (Mg.zero, 1)) := HD.out.trans ((if_neg (by decide)).trans (if_neg (by rw [hrb]; decide)))
   clear HD hrb hR
   go_wp2_with (first | (refine at_op (.store 36 (.tmp 4) (.tmp 20)) rfl ?_; refine wpList_store_row rfl 36 (.tmp 4) (.tmp 20) rfl w2.heap.size R.toArray rfl rfl 36 _ Z2.out HZ.out HS.out H1.out ?_; have F3 := F2.out.row_other w2.heap.size R.toArray (Nat.ne_of_lt L2.out); have Z3 := Z2.out.row R.toArray; have HB3 := below_setRow (HB2.out.trans ((room1 w2 (Obj.cells zero15.toArray 36)).mono (Nat.le_of_lt L2.out))) (Nat.le_of_lt L2.out) R.toArray) | (refine at_op (.load 36 (.tmp 4)) rfl ?_; refine wpList_load_rowG rfl 36 (.tmp 4) rfl w2.heap.size rfl 36 R.toArray (0, 0) _ Z3 Tryz.underlying36 rfl HZ.out ?_) | (go_at_call 18; refine (HRt.out _).mono ?_; rintro e w4 ⟨rfl, b4⟩; have F4 := F3.over b4; have Z4 := Z3.over b4; have HB4 := HB3.trans (b4.mono HB3.size); clear F3 Z3 HB3) | (refine at_op (.store 36 (.tmp 2) (.tmp 31)) rfl ?_; refine wpList_store_row rfl 36 (.tmp 2) (.tmp 31) rfl w.heap.size #[.int .i64 0, .int .u64 0, .int .u64 0, .int .i64 0, .int .i64 0, .int .u32 0, .int .u32 0, .int .u64 0, .int .u64 0, .int .u64 0, .int .u64 0, .int .u64 0, .int .u64 0, .int .u64 0, .string ⟨#[]⟩] rfl rfl 36 _ F4 size15 rfl one15 ?_))
   exact bodyPost_ret (results_mg Tryz.results12 _ _ w.heap.size zero15 _ rfl (F4.row zero15.toArray) size15 rfl) rfl ⟨by rw [HDz.out]; rfl, below_setRow HB4 (Nat.le_refl _) _⟩
  ·have HDz : Hid (dm = (m, 0)) := HD.out.trans ((if_neg (by decide)).trans (if_pos hrb))
   have HRv : Hid (m.cells = R) := hR
   clear HD hrb hR
   go_wp2_with (first | (refine at_op (.store 36 (.tmp 4) (.tmp 20)) rfl ?_; refine wpList_store_row rfl 36 (.tmp 4) (.tmp 20) rfl w2.heap.size R.toArray rfl rfl 36 _ Z2.out HZ.out HS.out H1.out ?_; have F3 := F2.out.row_other w2.heap.size R.toArray (Nat.ne_of_lt L2.out); have Z3 := Z2.out.row R.toArray; have HB3 := below_setRow (HB2.out.trans ((room1 w2 (Obj.cells zero15.toArray 36)).mono (Nat.le_of_lt L2.out))) (Nat.le_of_lt L2.out) R.toArray) | (refine at_op (.load 36 (.tmp 4)) rfl ?_; refine wpList_load_rowG rfl 36 (.tmp 4) rfl w2.heap.size rfl 36 R.toArray (0, 0) _ Z3 Tryz.underlying36 rfl HZ.out ?_) | (go_at_call 18; refine (HRt.out _).mono ?_; rintro e w4 ⟨rfl, b4⟩; have F4 := F3.over b4; have Z4 := Z3.over b4; have HB4 := HB3.trans (b4.mono HB3.size); clear F3 Z3 HB3) | (refine at_op (.load 36 (.tmp 4)) rfl ?_; refine wpList_load_row rfl 36 (.tmp 4) rfl w2.heap.size rfl 36 R.toArray (0, 0) _ Z4 Tryz.underlying36 rfl HZ.out ?_) | (refine at_op (.store 36 (.tmp 2) (.tmp 33)) rfl ?_; refine wpList_store_row rfl 36 (.tmp 2) (.tmp 33) rfl w.heap.size R.toArray rfl rfl 36 _ F4 HZ.out HS.out H1.out ?_))
   exact bodyPost_ret (results_mg Tryz.results12 _ _ w.heap.size R _ rfl (F4.row R.toArray) HZ.out rfl) rfl ⟨by rw [HDz.out, <- HRv.out]; rfl, below_setRow HB4 (Nat.le_refl _) _⟩
 ·have hq : (en == 0) = false := beq_false_of_ne he
  have hq2 : (en != 0) = true := by simp [he]
  have HDz : Hid (dm = (Mg.zero, en)) := HD.out.trans (if_pos he)
  clear HD hrb hR
  go_wp2_with (first | (refine at_op (.store 36 (.tmp 4) (.tmp 20)) rfl ?_; refine wpList_store_row rfl 36 (.tmp 4) (.tmp 20) rfl w2.heap.size R.toArray rfl rfl 36 _ Z2.out HZ.out HS.out H1.out ?_; have F3 := F2.out.row_other w2.heap.size R.toArray (Nat.ne_of_lt L2.out); have Z3 := Z2.out.row R.toArray; have HB3 := below_setRow (HB2.out.trans ((room1 w2 (Obj.cells zero15.toArray 36)).mono (Nat.le_of_lt L2.out))) (Nat.le_of_lt L2.out) R.toArray) | (refine at_op (.store 36 (.tmp 2) (.tmp 31)) rfl ?_; refine wpList_store_row rfl 36 (.tmp 2) (.tmp 31) rfl w.heap.size #[.int .i64 0, .int .u64 0, .int .u64 0, .int .i64 0, .int .i64 0, .int .u32 0, .int .u32 0, .int .u64 0, .int .u64 0, .int .u64 0, .int .u64 0, .int .u64 0, .int .u64 0, .int .u64 0, .string ⟨#[]⟩] rfl rfl 36 _ F3 size15 rfl one15 ?_))
  exact bodyPost_ret (results_mg Tryz.results12 _ _ w.heap.size zero15 _ rfl (F3.row zero15.toArray) size15 rfl) rfl ⟨by rw [HDz.out]; rfl, below_setRow HB3 (Nat.le_refl _) _⟩
theorem decode_any (a : Option Addr) (len cap : Nat) (l : List Int) (w : World) (hlen : len <= 900000000) (hb : K.Bs w a len l) :
  Calls Tryz.prog 12 #[.slice a len cap] w fun e w' => e = .returned (.tuple #[(decM l).1.vl, .int .i64 (decM l).2]) /\ Below w.heap.size w w' := by
 cases l with
 | nil => exact decode_nil hb
 | cons k r =>
  have hl := hb.1
  have hl0 : 0 < len := by rw [<- hl]; exact Nat.succ_pos _
  obtain ⟨b, off, rfl, hc⟩ := hb.2.2 hl0
  have hc0 := hc 0 hl0
  have hk := hb.2.1 k List.mem_cons_self
  by_cases h : 1 <= k /\ k <= 7
  ·exact decode_known len cap b off (k :: r) w k hlen hl0 hb hc0 rfl h
  ·have e : decM (k :: r) = (Mg.zero, 3) := by rw [dec_at (k := k) rfl, if_pos h]
   rw [e]
   exact decode_kind b off k hl0 hc0 hk.1 hk.2 (decide_eq_false h)
open K (numW digs pow256 layW textW bytesOf)
theorem numW_ok (l : List Int) (n : Int) (s : Nat) (h1 : 1 <= s) (h8 : s <= 8) (hn : n < pow256 s) : numW (l, 0) n (s : Int) = (l ++ digs s n, 0) := by
 unfold numW layW
 rw [if_pos ⟨by omega, by omega, by rw [Int.toNat_natCast]; exact hn⟩, if_pos rfl, Int.toNat_natCast]
theorem numW_1 (l : List Int) (n : Int) (h0 : 0 <= n) (hn : n <= 255) : numW (l, 0) n 1 = (l ++ [n], 0) := by
 have := numW_ok l n 1 (by decide) (by decide) (by show n < 256; omega)
 rw [show digs 1 n = [n] from by show [n % 256] = [n]; rw [Int.emod_eq_of_lt h0 (by omega)]] at this
 exact this
theorem numW_2 (l : List Int) (n : Int) (hn : n <= 65535) : numW (l, 0) n 2 = (l ++ digs 2 n, 0) := numW_ok l n 2 (by decide) (by decide) (by show n < 65536; omega)
theorem numW_8 (l : List Int) (n : Int) (hn : n <= 18446744073709551615) : numW (l, 0) n 8 = (l ++ digs 8 n, 0) := numW_ok l n 8 (by decide) (by decide) (by rw [K.pow256_8]; omega)
theorem FY.blk {Y : Nat -> Prop} {w w' : World} {g : Nat} {t : TypeId} {R : List Value} (h : FY Y w w') (hB : Blk w g t R) (hg : Y g) : Blk w' g t R := by
 unfold D.Blk at *
 rw [h.block g hg]
 exact hB
def And1 (Y : Nat -> Prop) (g : Nat) (k : Nat) : Prop := Y k \/ k = g
theorem WY.one {Y : Nat -> Prop} {w : World} {b : Nat} {st : List Int × Int} (h : WY Y w b st) (o : Obj) : WY (And1 Y w.heap.size) (w.alloc o) b st :=
 h.below ((Below.refl _ _).alloc (Nat.le_refl _) _) fun k hk => hk.imp id fun e => ⟨Nat.le_of_eq e.symm, by rw [D.size_alloc']; omega⟩
theorem FY.one {Y : Nat -> Prop} {w w' : World} {g : Nat} (h : FY (And1 Y g) w w') : FY Y w w' := h.mono fun _ hk => .inl hk
set_option linter.unusedSimpArgs false in
theorem nums_none (Y : Nat -> Prop) (w : World) (b : Nat) (l : List Int) (k ep id t v : Int) (R : List Value) (h : WY Y w b (l, 0)) (hl : l.length <= 1000) (r0 : R[0]? = some (.int .i64 k)) (r1 : R[1]? = some (.int .u64 ep)) (r2 : R[2]? = some (.int .u64 id)) (r3 : R[3]? = some (.int .i64 t)) (r4 : R[4]? = some (.int .i64 v)) (k0 : 1 <= k) (k7 : k <= 7) (he : D.U64 ep) (hi : D.U64 id) (q1 : idQ k = false) (q2 : caQ k = false) (q3 : vaQ k = false) :
  Calls Tryz.prog 45 #[.agg R.toArray, .func (Fn.func 46) #[.pointer (some ⟨b, 0, none⟩)] #[]] w fun e w' => e = .returned (.tuple #[]) /\ WY Y w' b (l ++ (k :: digs 8 ep), 0) /\ FY Y w w' := by
 have HC0 : Hid (R[0]? = some (.int .i64 k)) := r0
 have HC1 : Hid (R[1]? = some (.int .u64 ep)) := r1
 have HC2 : Hid (R[2]? = some (.int .u64 id)) := r2
 have HC3 : Hid (R[3]? = some (.int .i64 t)) := r3
 have HC4 : Hid (R[4]? = some (.int .i64 v)) := r4
 have hk : IntKind.u64.wrap k = k := by rw [IntKind.wrap_u64]; omega
 obtain ⟨e0, e1⟩ := he
 obtain ⟨i0, i1⟩ := hi
 have h0 := h.one (Obj.cells R.toArray 36)
 have Z0 : Blk (w.alloc (Obj.cells R.toArray 36)) w.heap.size 36 R := D.blk_new w R.toArray 36
 have F0 : Hid (FY Y w (w.alloc (Obj.cells R.toArray 36))) := fy_below h.lt ((Below.refl _ _).alloc (Nat.le_refl _) _)
 have c0 := (Z0.cell 0).trans HC0.out
 have c1 := (Z0.cell 1).trans HC1.out
 have c2 := (Z0.cell 2).trans HC2.out
 have c3 := (Z0.cell 3).trans HC3.out
 have c4 := (Z0.cell 4).trans HC4.out
 clear r0 r1 r2 r3 r4 h
 go_enter Tryz.func45, Tryz.ntmps45
 go_wp2_with fail
 generalize w.alloc (Obj.cells R.toArray 36) = w0 at *
 generalize w.heap.size = g at *
 refine (wnum_y (And1 Y g) _ b _ k 1 h0 (by omega) (by omega) (by simp only [List.length_append, K.digs_length, List.length_cons, List.length_nil]; omega)).mono ?_
 rintro e w1 ⟨rfl, h1, f1⟩
 rw [numW_1 _ _ (by omega) (by omega)] at h1
 have Z1 := f1.blk Z0 (.inr rfl)
 clear c0 c1 c2 c3 c4
 have c0 := (Z1.cell 0).trans HC0.out
 have c1 := (Z1.cell 1).trans HC1.out
 have c2 := (Z1.cell 2).trans HC2.out
 have c3 := (Z1.cell 3).trans HC3.out
 have c4 := (Z1.cell 4).trans HC4.out
 have F1 : Hid (FY Y w w1) := F0.out.trans f1.one
 clear Z0 h0 f1 F0
 go_wp2_with (first | (go_at_call 60; refine (hasID_any _ _).mono ?_; rintro e w1' ⟨rfl, hw'⟩; subst hw'; rw [q1]) | (go_at_call 47; refine (hasCall_any _ _).mono ?_; rintro e w1' ⟨rfl, hw'⟩; subst hw'; rw [q2]) | (go_at_call 63; refine (hasVal_any _ _).mono ?_; rintro e w1' ⟨rfl, hw'⟩; subst hw'; rw [q3]))
 refine (wnum_y (And1 Y g) _ b _ ep 8 h1 e0 e1 (by simp only [List.length_append, K.digs_length, List.length_cons, List.length_nil]; omega)).mono ?_
 rintro e w2 ⟨rfl, h2, f2⟩
 rw [numW_8 _ _ e1] at h2
 have Z2 := f2.blk Z1 (.inr rfl)
 clear c0 c1 c2 c3 c4
 have c0 := (Z2.cell 0).trans HC0.out
 have c1 := (Z2.cell 1).trans HC1.out
 have c2 := (Z2.cell 2).trans HC2.out
 have c3 := (Z2.cell 3).trans HC3.out
 have c4 := (Z2.cell 4).trans HC4.out
 have F2 : Hid (FY Y w w2) := F1.out.trans f2.one
 clear Z1 h1 f2 F1
 go_wp2_with (first | (go_at_call 60; refine (hasID_any _ _).mono ?_; rintro e w2' ⟨rfl, hw'⟩; subst hw'; rw [q1]) | (go_at_call 47; refine (hasCall_any _ _).mono ?_; rintro e w2' ⟨rfl, hw'⟩; subst hw'; rw [q2]) | (go_at_call 63; refine (hasVal_any _ _).mono ?_; rintro e w2' ⟨rfl, hw'⟩; subst hw'; rw [q3]))
 go_end0
 refine ⟨rfl, ?_, F2.out⟩
 have h := h2.mono (Z := Y) fun _ hk => .inl hk
 simpa only [List.append_assoc, List.cons_append, List.nil_append] using h
set_option linter.unusedSimpArgs false in
theorem nums_id (Y : Nat -> Prop) (w : World) (b : Nat) (l : List Int) (k ep id t v : Int) (R : List Value) (h : WY Y w b (l, 0)) (hl : l.length <= 1000) (r0 : R[0]? = some (.int .i64 k)) (r1 : R[1]? = some (.int .u64 ep)) (r2 : R[2]? = some (.int .u64 id)) (r3 : R[3]? = some (.int .i64 t)) (r4 : R[4]? = some (.int .i64 v)) (k0 : 1 <= k) (k7 : k <= 7) (he : D.U64 ep) (hi : D.U64 id) (q1 : idQ k = true) (q2 : caQ k = false) (q3 : vaQ k = false) :
  Calls Tryz.prog 45 #[.agg R.toArray, .func (Fn.func 46) #[.pointer (some ⟨b, 0, none⟩)] #[]] w fun e w' => e = .returned (.tuple #[]) /\ WY Y w' b (l ++ (k :: (digs 8 ep ++ digs 8 id)), 0) /\ FY Y w w' := by
 have HC0 : Hid (R[0]? = some (.int .i64 k)) := r0
 have HC1 : Hid (R[1]? = some (.int .u64 ep)) := r1
 have HC2 : Hid (R[2]? = some (.int .u64 id)) := r2
 have HC3 : Hid (R[3]? = some (.int .i64 t)) := r3
 have HC4 : Hid (R[4]? = some (.int .i64 v)) := r4
 have hk : IntKind.u64.wrap k = k := by rw [IntKind.wrap_u64]; omega
 obtain ⟨e0, e1⟩ := he
 obtain ⟨i0, i1⟩ := hi
 have h0 := h.one (Obj.cells R.toArray 36)
 have Z0 : Blk (w.alloc (Obj.cells R.toArray 36)) w.heap.size 36 R := D.blk_new w R.toArray 36
 have F0 : Hid (FY Y w (w.alloc (Obj.cells R.toArray 36))) := fy_below h.lt ((Below.refl _ _).alloc (Nat.le_refl _) _)
 have c0 := (Z0.cell 0).trans HC0.out
 have c1 := (Z0.cell 1).trans HC1.out
 have c2 := (Z0.cell 2).trans HC2.out
 have c3 := (Z0.cell 3).trans HC3.out
 have c4 := (Z0.cell 4).trans HC4.out
 clear r0 r1 r2 r3 r4 h
 go_enter Tryz.func45, Tryz.ntmps45
 go_wp2_with fail
 generalize w.alloc (Obj.cells R.toArray 36) = w0 at *
 generalize w.heap.size = g at *
 refine (wnum_y (And1 Y g) _ b _ k 1 h0 (by omega) (by omega) (by simp only [List.length_append, K.digs_length, List.length_cons, List.length_nil]; omega)).mono ?_
 rintro e w1 ⟨rfl, h1, f1⟩
 rw [numW_1 _ _ (by omega) (by omega)] at h1
 have Z1 := f1.blk Z0 (.inr rfl)
 clear c0 c1 c2 c3 c4
 have c0 := (Z1.cell 0).trans HC0.out
 have c1 := (Z1.cell 1).trans HC1.out
 have c2 := (Z1.cell 2).trans HC2.out
 have c3 := (Z1.cell 3).trans HC3.out
 have c4 := (Z1.cell 4).trans HC4.out
 have F1 : Hid (FY Y w w1) := F0.out.trans f1.one
 clear Z0 h0 f1 F0
 go_wp2_with (first | (go_at_call 60; refine (hasID_any _ _).mono ?_; rintro e w1' ⟨rfl, hw'⟩; subst hw'; rw [q1]) | (go_at_call 47; refine (hasCall_any _ _).mono ?_; rintro e w1' ⟨rfl, hw'⟩; subst hw'; rw [q2]) | (go_at_call 63; refine (hasVal_any _ _).mono ?_; rintro e w1' ⟨rfl, hw'⟩; subst hw'; rw [q3]))
 refine (wnum_y (And1 Y g) _ b _ ep 8 h1 e0 e1 (by simp only [List.length_append, K.digs_length, List.length_cons, List.length_nil]; omega)).mono ?_
 rintro e w2 ⟨rfl, h2, f2⟩
 rw [numW_8 _ _ e1] at h2
 have Z2 := f2.blk Z1 (.inr rfl)
 clear c0 c1 c2 c3 c4
 have c0 := (Z2.cell 0).trans HC0.out
 have c1 := (Z2.cell 1).trans HC1.out
 have c2 := (Z2.cell 2).trans HC2.out
 have c3 := (Z2.cell 3).trans HC3.out
 have c4 := (Z2.cell 4).trans HC4.out
 have F2 : Hid (FY Y w w2) := F1.out.trans f2.one
 clear Z1 h1 f2 F1
 go_wp2_with (first | (go_at_call 60; refine (hasID_any _ _).mono ?_; rintro e w2' ⟨rfl, hw'⟩; subst hw'; rw [q1]) | (go_at_call 47; refine (hasCall_any _ _).mono ?_; rintro e w2' ⟨rfl, hw'⟩; subst hw'; rw [q2]) | (go_at_call 63; refine (hasVal_any _ _).mono ?_; rintro e w2' ⟨rfl, hw'⟩; subst hw'; rw [q3]))
 refine (wnum_y (And1 Y g) _ b _ id 8 h2 i0 i1 (by simp only [List.length_append, K.digs_length, List.length_cons, List.length_nil]; omega)).mono ?_
 rintro e w3 ⟨rfl, h3, f3⟩
 rw [numW_8 _ _ i1] at h3
 have Z3 := f3.blk Z2 (.inr rfl)
 clear c0 c1 c2 c3 c4
 have c0 := (Z3.cell 0).trans HC0.out
 have c1 := (Z3.cell 1).trans HC1.out
 have c2 := (Z3.cell 2).trans HC2.out
 have c3 := (Z3.cell 3).trans HC3.out
 have c4 := (Z3.cell 4).trans HC4.out
 have F3 : Hid (FY Y w w3) := F2.out.trans f3.one
 clear Z2 h2 f3 F2
 go_wp2_with (first | (go_at_call 60; refine (hasID_any _ _).mono ?_; rintro e w3' ⟨rfl, hw'⟩; subst hw'; rw [q1]) | (go_at_call 47; refine (hasCall_any _ _).mono ?_; rintro e w3' ⟨rfl, hw'⟩; subst hw'; rw [q2]) | (go_at_call 63; refine (hasVal_any _ _).mono ?_; rintro e w3' ⟨rfl, hw'⟩; subst hw'; rw [q3]))
 go_end0
 refine ⟨rfl, ?_, F3.out⟩
 have h := h3.mono (Z := Y) fun _ hk => .inl hk
 simpa only [List.append_assoc, List.cons_append, List.nil_append] using h
set_option linter.unusedSimpArgs false in
theorem nums_val (Y : Nat -> Prop) (w : World) (b : Nat) (l : List Int) (k ep id t v : Int) (R : List Value) (h : WY Y w b (l, 0)) (hl : l.length <= 1000) (r0 : R[0]? = some (.int .i64 k)) (r1 : R[1]? = some (.int .u64 ep)) (r2 : R[2]? = some (.int .u64 id)) (r3 : R[3]? = some (.int .i64 t)) (r4 : R[4]? = some (.int .i64 v)) (k0 : 1 <= k) (k7 : k <= 7) (he : D.U64 ep) (hi : D.U64 id) (q1 : idQ k = true) (q2 : caQ k = false) (q3 : vaQ k = true) (v0 : 0 <= v) (v1 : v <= 65535) :
  Calls Tryz.prog 45 #[.agg R.toArray, .func (Fn.func 46) #[.pointer (some ⟨b, 0, none⟩)] #[]] w fun e w' => e = .returned (.tuple #[]) /\ WY Y w' b (l ++ (k :: (digs 8 ep ++ (digs 8 id ++ digs 2 v))), 0) /\ FY Y w w' := by
 have HC0 : Hid (R[0]? = some (.int .i64 k)) := r0
 have HC1 : Hid (R[1]? = some (.int .u64 ep)) := r1
 have HC2 : Hid (R[2]? = some (.int .u64 id)) := r2
 have HC3 : Hid (R[3]? = some (.int .i64 t)) := r3
 have HC4 : Hid (R[4]? = some (.int .i64 v)) := r4
 have hk : IntKind.u64.wrap k = k := by rw [IntKind.wrap_u64]; omega
 obtain ⟨e0, e1⟩ := he
 obtain ⟨i0, i1⟩ := hi
 have hv : IntKind.u64.wrap v = v := by rw [IntKind.wrap_u64]; omega
 have h0 := h.one (Obj.cells R.toArray 36)
 have Z0 : Blk (w.alloc (Obj.cells R.toArray 36)) w.heap.size 36 R := D.blk_new w R.toArray 36
 have F0 : Hid (FY Y w (w.alloc (Obj.cells R.toArray 36))) := fy_below h.lt ((Below.refl _ _).alloc (Nat.le_refl _) _)
 have c0 := (Z0.cell 0).trans HC0.out
 have c1 := (Z0.cell 1).trans HC1.out
 have c2 := (Z0.cell 2).trans HC2.out
 have c3 := (Z0.cell 3).trans HC3.out
 have c4 := (Z0.cell 4).trans HC4.out
 clear r0 r1 r2 r3 r4 h
 go_enter Tryz.func45, Tryz.ntmps45
 go_wp2_with fail
 generalize w.alloc (Obj.cells R.toArray 36) = w0 at *
 generalize w.heap.size = g at *
 refine (wnum_y (And1 Y g) _ b _ k 1 h0 (by omega) (by omega) (by simp only [List.length_append, K.digs_length, List.length_cons, List.length_nil]; omega)).mono ?_
 rintro e w1 ⟨rfl, h1, f1⟩
 rw [numW_1 _ _ (by omega) (by omega)] at h1
 have Z1 := f1.blk Z0 (.inr rfl)
 clear c0 c1 c2 c3 c4
 have c0 := (Z1.cell 0).trans HC0.out
 have c1 := (Z1.cell 1).trans HC1.out
 have c2 := (Z1.cell 2).trans HC2.out
 have c3 := (Z1.cell 3).trans HC3.out
 have c4 := (Z1.cell 4).trans HC4.out
 have F1 : Hid (FY Y w w1) := F0.out.trans f1.one
 clear Z0 h0 f1 F0
 go_wp2_with (first | (go_at_call 60; refine (hasID_any _ _).mono ?_; rintro e w1' ⟨rfl, hw'⟩; subst hw'; rw [q1]) | (go_at_call 47; refine (hasCall_any _ _).mono ?_; rintro e w1' ⟨rfl, hw'⟩; subst hw'; rw [q2]) | (go_at_call 63; refine (hasVal_any _ _).mono ?_; rintro e w1' ⟨rfl, hw'⟩; subst hw'; rw [q3]))
 refine (wnum_y (And1 Y g) _ b _ ep 8 h1 e0 e1 (by simp only [List.length_append, K.digs_length, List.length_cons, List.length_nil]; omega)).mono ?_
 rintro e w2 ⟨rfl, h2, f2⟩
 rw [numW_8 _ _ e1] at h2
 have Z2 := f2.blk Z1 (.inr rfl)
 clear c0 c1 c2 c3 c4
 have c0 := (Z2.cell 0).trans HC0.out
 have c1 := (Z2.cell 1).trans HC1.out
 have c2 := (Z2.cell 2).trans HC2.out
 have c3 := (Z2.cell 3).trans HC3.out
 have c4 := (Z2.cell 4).trans HC4.out
 have F2 : Hid (FY Y w w2) := F1.out.trans f2.one
 clear Z1 h1 f2 F1
 go_wp2_with (first | (go_at_call 60; refine (hasID_any _ _).mono ?_; rintro e w2' ⟨rfl, hw'⟩; subst hw'; rw [q1]) | (go_at_call 47; refine (hasCall_any _ _).mono ?_; rintro e w2' ⟨rfl, hw'⟩; subst hw'; rw [q2]) | (go_at_call 63; refine (hasVal_any _ _).mono ?_; rintro e w2' ⟨rfl, hw'⟩; subst hw'; rw [q3]))
 refine (wnum_y (And1 Y g) _ b _ id 8 h2 i0 i1 (by simp only [List.length_append, K.digs_length, List.length_cons, List.length_nil]; omega)).mono ?_
 rintro e w3 ⟨rfl, h3, f3⟩
 rw [numW_8 _ _ i1] at h3
 have Z3 := f3.blk Z2 (.inr rfl)
 clear c0 c1 c2 c3 c4
 have c0 := (Z3.cell 0).trans HC0.out
 have c1 := (Z3.cell 1).trans HC1.out
 have c2 := (Z3.cell 2).trans HC2.out
 have c3 := (Z3.cell 3).trans HC3.out
 have c4 := (Z3.cell 4).trans HC4.out
 have F3 : Hid (FY Y w w3) := F2.out.trans f3.one
 clear Z2 h2 f3 F2
 go_wp2_with (first | (go_at_call 60; refine (hasID_any _ _).mono ?_; rintro e w3' ⟨rfl, hw'⟩; subst hw'; rw [q1]) | (go_at_call 47; refine (hasCall_any _ _).mono ?_; rintro e w3' ⟨rfl, hw'⟩; subst hw'; rw [q2]) | (go_at_call 63; refine (hasVal_any _ _).mono ?_; rintro e w3' ⟨rfl, hw'⟩; subst hw'; rw [q3]))
 refine (wnum_y (And1 Y g) _ b _ v 2 h3 v0 (by omega) (by simp only [List.length_append, K.digs_length, List.length_cons, List.length_nil]; omega)).mono ?_
 rintro e w4 ⟨rfl, h4, f4⟩
 rw [numW_2 _ _ v1] at h4
 have Z4 := f4.blk Z3 (.inr rfl)
 clear c0 c1 c2 c3 c4
 have c0 := (Z4.cell 0).trans HC0.out
 have c1 := (Z4.cell 1).trans HC1.out
 have c2 := (Z4.cell 2).trans HC2.out
 have c3 := (Z4.cell 3).trans HC3.out
 have c4 := (Z4.cell 4).trans HC4.out
 have F4 : Hid (FY Y w w4) := F3.out.trans f4.one
 clear Z3 h3 f4 F3
 go_wp2_with (first | (go_at_call 60; refine (hasID_any _ _).mono ?_; rintro e w4' ⟨rfl, hw'⟩; subst hw'; rw [q1]) | (go_at_call 47; refine (hasCall_any _ _).mono ?_; rintro e w4' ⟨rfl, hw'⟩; subst hw'; rw [q2]) | (go_at_call 63; refine (hasVal_any _ _).mono ?_; rintro e w4' ⟨rfl, hw'⟩; subst hw'; rw [q3]))
 go_end0
 refine ⟨rfl, ?_, F4.out⟩
 have h := h4.mono (Z := Y) fun _ hk => .inl hk
 simpa only [List.append_assoc, List.cons_append, List.nil_append] using h
set_option linter.unusedSimpArgs false in
theorem nums_call (Y : Nat -> Prop) (w : World) (b : Nat) (l : List Int) (k ep id t v : Int) (R : List Value) (h : WY Y w b (l, 0)) (hl : l.length <= 1000) (r0 : R[0]? = some (.int .i64 k)) (r1 : R[1]? = some (.int .u64 ep)) (r2 : R[2]? = some (.int .u64 id)) (r3 : R[3]? = some (.int .i64 t)) (r4 : R[4]? = some (.int .i64 v)) (k0 : 1 <= k) (k7 : k <= 7) (he : D.U64 ep) (hi : D.U64 id) (q1 : idQ k = true) (q2 : caQ k = true) (q3 : vaQ k = false) (t0 : 1 <= t) (t4 : t <= 4) (d : Da) (hd : d.ok) (r5 : ∀ j, j < 9 -> R[5 + j]? = d.cells[j]?) :
  Calls Tryz.prog 45 #[.agg R.toArray, .func (Fn.func 46) #[.pointer (some ⟨b, 0, none⟩)] #[]] w fun e w' => e = .returned (.tuple #[]) /\ WY Y w' b (l ++ (k :: (digs 8 ep ++ (digs 8 id ++ (t :: d.enc)))), 0) /\ FY Y w w' := by
 obtain ⟨dn, da, dp, dg⟩ := d
 have hg6 := hd.2.2.2.1
 simp only at hg6
 obtain ⟨x0, x1, x2, x3, x4, x5, rfl⟩ := D.six hg6
 have HD0 : Hid (R[5]? = some (.int .u32 dn)) := r5 0 (by decide)
 have HD1 : Hid (R[6]? = some (.int .u32 da)) := r5 1 (by decide)
 have HD2 : Hid (R[7]? = some (.int .u64 dp)) := r5 2 (by decide)
 have HD3 : Hid (R[8]? = some (.int .u64 x0)) := r5 3 (by decide)
 have HD4 : Hid (R[9]? = some (.int .u64 x1)) := r5 4 (by decide)
 have HD5 : Hid (R[10]? = some (.int .u64 x2)) := r5 5 (by decide)
 have HD6 : Hid (R[11]? = some (.int .u64 x3)) := r5 6 (by decide)
 have HD7 : Hid (R[12]? = some (.int .u64 x4)) := r5 7 (by decide)
 have HD8 : Hid (R[13]? = some (.int .u64 x5)) := r5 8 (by decide)
 have HB : Hid (∀ W : World, Calls Tryz.prog 84 #[.agg #[.int .u32 dn, .int .u32 da, .int .u64 dp, .int .u64 x0, .int .u64 x1, .int .u64 x2, .int .u64 x3, .int .u64 x4, .int .u64 x5]] W fun e w' => Below W.heap.size W w' /\ ∃ v, e = .returned v /\ w'.ownsRow W.heap.size 5 1 v 64 (K.cellsB (Da.mk dn da dp [x0, x1, x2, x3, x4, x5]).enc)) := fun W => D.bytes_any (Da.mk dn da dp [x0, x1, x2, x3, x4, x5]) W hd
 have HY : Hid (∀ z ∈ (Da.mk dn da dp [x0, x1, x2, x3, x4, x5]).enc, 0 <= z /\ z <= 255) := D.enc_byt _ hd
 have HN : Hid ((Da.mk dn da dp [x0, x1, x2, x3, x4, x5]).enc.length = 64) := D.enc_len _ hd
 generalize (Da.mk dn da dp [x0, x1, x2, x3, x4, x5]).enc = E at *
 clear r5 hd hg6
 have HC0 : Hid (R[0]? = some (.int .i64 k)) := r0
 have HC1 : Hid (R[1]? = some (.int .u64 ep)) := r1
 have HC2 : Hid (R[2]? = some (.int .u64 id)) := r2
 have HC3 : Hid (R[3]? = some (.int .i64 t)) := r3
 have HC4 : Hid (R[4]? = some (.int .i64 v)) := r4
 have hk : IntKind.u64.wrap k = k := by rw [IntKind.wrap_u64]; omega
 obtain ⟨e0, e1⟩ := he
 obtain ⟨i0, i1⟩ := hi
 have ht : IntKind.u64.wrap t = t := by rw [IntKind.wrap_u64]; omega
 have h0 := h.one (Obj.cells R.toArray 36)
 have Z0 : Blk (w.alloc (Obj.cells R.toArray 36)) w.heap.size 36 R := D.blk_new w R.toArray 36
 have F0 : Hid (FY Y w (w.alloc (Obj.cells R.toArray 36))) := fy_below h.lt ((Below.refl _ _).alloc (Nat.le_refl _) _)
 have c0 := (Z0.cell 0).trans HC0.out
 have c1 := (Z0.cell 1).trans HC1.out
 have c2 := (Z0.cell 2).trans HC2.out
 have c3 := (Z0.cell 3).trans HC3.out
 have c4 := (Z0.cell 4).trans HC4.out
 clear r0 r1 r2 r3 r4 h
 go_enter Tryz.func45, Tryz.ntmps45
 go_wp2_with fail
 generalize w.alloc (Obj.cells R.toArray 36) = w0 at *
 generalize w.heap.size = g at *
 refine (wnum_y (And1 Y g) _ b _ k 1 h0 (by omega) (by omega) (by simp only [List.length_append, K.digs_length, List.length_cons, List.length_nil]; omega)).mono ?_
 rintro e w1 ⟨rfl, h1, f1⟩
 rw [numW_1 _ _ (by omega) (by omega)] at h1
 have Z1 := f1.blk Z0 (.inr rfl)
 clear c0 c1 c2 c3 c4
 have c0 := (Z1.cell 0).trans HC0.out
 have c1 := (Z1.cell 1).trans HC1.out
 have c2 := (Z1.cell 2).trans HC2.out
 have c3 := (Z1.cell 3).trans HC3.out
 have c4 := (Z1.cell 4).trans HC4.out
 have F1 : Hid (FY Y w w1) := F0.out.trans f1.one
 clear Z0 h0 f1 F0
 go_wp2_with (first | (go_at_call 60; refine (hasID_any _ _).mono ?_; rintro e w1' ⟨rfl, hw'⟩; subst hw'; rw [q1]) | (go_at_call 47; refine (hasCall_any _ _).mono ?_; rintro e w1' ⟨rfl, hw'⟩; subst hw'; rw [q2]) | (go_at_call 63; refine (hasVal_any _ _).mono ?_; rintro e w1' ⟨rfl, hw'⟩; subst hw'; rw [q3]))
 refine (wnum_y (And1 Y g) _ b _ ep 8 h1 e0 e1 (by simp only [List.length_append, K.digs_length, List.length_cons, List.length_nil]; omega)).mono ?_
 rintro e w2 ⟨rfl, h2, f2⟩
 rw [numW_8 _ _ e1] at h2
 have Z2 := f2.blk Z1 (.inr rfl)
 clear c0 c1 c2 c3 c4
 have c0 := (Z2.cell 0).trans HC0.out
 have c1 := (Z2.cell 1).trans HC1.out
 have c2 := (Z2.cell 2).trans HC2.out
 have c3 := (Z2.cell 3).trans HC3.out
 have c4 := (Z2.cell 4).trans HC4.out
 have F2 : Hid (FY Y w w2) := F1.out.trans f2.one
 clear Z1 h1 f2 F1
 go_wp2_with (first | (go_at_call 60; refine (hasID_any _ _).mono ?_; rintro e w2' ⟨rfl, hw'⟩; subst hw'; rw [q1]) | (go_at_call 47; refine (hasCall_any _ _).mono ?_; rintro e w2' ⟨rfl, hw'⟩; subst hw'; rw [q2]) | (go_at_call 63; refine (hasVal_any _ _).mono ?_; rintro e w2' ⟨rfl, hw'⟩; subst hw'; rw [q3]))
 refine (wnum_y (And1 Y g) _ b _ id 8 h2 i0 i1 (by simp only [List.length_append, K.digs_length, List.length_cons, List.length_nil]; omega)).mono ?_
 rintro e w3 ⟨rfl, h3, f3⟩
 rw [numW_8 _ _ i1] at h3
 have Z3 := f3.blk Z2 (.inr rfl)
 clear c0 c1 c2 c3 c4
 have c0 := (Z3.cell 0).trans HC0.out
 have c1 := (Z3.cell 1).trans HC1.out
 have c2 := (Z3.cell 2).trans HC2.out
 have c3 := (Z3.cell 3).trans HC3.out
 have c4 := (Z3.cell 4).trans HC4.out
 have F3 : Hid (FY Y w w3) := F2.out.trans f3.one
 clear Z2 h2 f3 F2
 go_wp2_with (first | (go_at_call 60; refine (hasID_any _ _).mono ?_; rintro e w3' ⟨rfl, hw'⟩; subst hw'; rw [q1]) | (go_at_call 47; refine (hasCall_any _ _).mono ?_; rintro e w3' ⟨rfl, hw'⟩; subst hw'; rw [q2]) | (go_at_call 63; refine (hasVal_any _ _).mono ?_; rintro e w3' ⟨rfl, hw'⟩; subst hw'; rw [q3]))
 refine (wnum_y (And1 Y g) _ b _ t 1 h3 (by omega) (by omega) (by simp only [List.length_append, K.digs_length, List.length_cons, List.length_nil]; omega)).mono ?_
 rintro e w4 ⟨rfl, h4, f4⟩
 rw [numW_1 _ _ (by omega) (by omega)] at h4
 have Z4 := f4.blk Z3 (.inr rfl)
 clear c0 c1 c2 c3 c4
 have c0 := (Z4.cell 0).trans HC0.out
 have c1 := (Z4.cell 1).trans HC1.out
 have c2 := (Z4.cell 2).trans HC2.out
 have c3 := (Z4.cell 3).trans HC3.out
 have c4 := (Z4.cell 4).trans HC4.out
 have F4 : Hid (FY Y w w4) := F3.out.trans f4.one
 clear Z3 h3 f4 F3
 obtain ⟨l4, hl4⟩ : ∃ x, l ++ [k] ++ digs 8 ep ++ digs 8 id ++ [t] = x := ⟨_, rfl⟩
 rw [hl4] at h4
 have HL4 : Hid (l4.length <= 2000) := by unfold Hid; rw [<- hl4]; simp only [List.length_append, K.digs_length, List.length_cons, List.length_nil]; omega
 have c5 := (Z4.cell 5).trans HD0.out
 have c6 := (Z4.cell 6).trans HD1.out
 have c7 := (Z4.cell 7).trans HD2.out
 have c8 := (Z4.cell 8).trans HD3.out
 have c9 := (Z4.cell 9).trans HD4.out
 have c10 := (Z4.cell 10).trans HD5.out
 have c11 := (Z4.cell 11).trans HD6.out
 have c12 := (Z4.cell 12).trans HD7.out
 have c13 := (Z4.cell 13).trans HD8.out
 go_wp2_with fail
 refine (HB.out _).mono ?_
 rintro e w5 ⟨b5, v5, rfl, o5⟩
 obtain ⟨a5, cap5, rfl, s5, _, _, y5⟩ := K.owns_bs o5 HY.out
 obtain ⟨rb, off, rfl, s5c⟩ := s5.2.2 (by decide)
 have lt5 : rb < w5.heap.size := World.block_lt_of_cell? w5 _ (s5c 0 (by decide))
 have ge5 : w4.heap.size <= rb := y5 _ rfl
 have h5 : WY (And1 (And1 Y g) rb) w5 b (l4, 0) := h4.below b5 fun k hk => hk.imp (fun h => h) fun e => by subst e; exact ⟨ge5, lt5⟩
 have F5 : Hid (FY Y w w5) := F4.out.trans ((fy_below h4.lt b5).one)
 have Z5 : Hid (Blk w5 g 36 R) := (fy_below h4.lt b5).blk Z4 (.inr rfl)
 have S5 : Hid (K.Bs w5 (some ⟨rb, off, none⟩) 64 E) := s5
 clear c0 c1 c2 c3 c4 c5 c6 c7 c8 c9 c10 c11 c12 c13 Z4 h4 F4 s5c s5 o5 y5 lt5 ge5 b5
 go_wp2_with fail
 go_loopw [34] (fun i wr => ∃ n : Nat, n <= 64 /\ i = .int .i64 n /\ WY (And1 (And1 Y g) rb) wr b (l4 ++ E.take n, 0) /\ FY Y w wr /\ Blk wr g 36 R /\ K.Bs wr (some ⟨rb, off, none⟩) 64 E) (fun i _ => 64 - (intOf i).toNat)
 case atStart => exact ⟨0, Nat.zero_le _, rfl, by rw [List.take_zero, List.append_nil]; exact h5, F5.out, Z5.out, S5.out⟩
 case round =>
  obtain ⟨n, hn, rfl, h6, F6, Z6, S6⟩ := hrel
  clear h5 F5 Z5 S5
  have F6' : Hid (FY Y w wr) := F6
  have Z6' : Hid (Blk wr g 36 R) := Z6
  have S6' : Hid (K.Bs wr (some ⟨rb, off, none⟩) 64 E) := S6
  have d0 := (Z6.cell 0).trans HC0.out
  by_cases hlt : n < 64
  ·obtain ⟨_, _, ea, hc⟩ := S6.2.2 (by decide)
   cases ea
   have cz := hc n hlt
   obtain ⟨z0, z1⟩ := S6.byte n
   have HT : Hid (E.take (n + 1) = E.take n ++ [E.getD n 0]) := K.take_snoc E n (by rw [HN.out]; exact hlt)
   have HM : Hid ((l4 ++ E.take n).length <= 900000000) := by
    unfold Hid
    rw [List.length_append, List.length_take]
    have := HL4.out
    omega
   clear hc F6 Z6 S6
   generalize E.getD n 0 = z at *
   have hz : IntKind.u64.wrap z = z := by rw [IntKind.wrap_u64]; omega
   go_wp2_with fail
   refine (wnum_y (And1 (And1 Y g) rb) _ b _ z 1 h6 z0 (by omega) HM.out).mono ?_
   rintro e w7 ⟨rfl, h7, f7⟩
   rw [numW_1 _ _ z0 z1] at h7
   have F7 : Hid (FY Y w w7) := F6'.out.trans f7.one.one
   have Z7 : Hid (Blk w7 g 36 R) := f7.one.blk Z6'.out (.inr rfl)
   have S7 : Hid (K.Bs w7 (some ⟨rb, off, none⟩) 64 E) := K.Bs.same S6'.out fun x hx => by cases hx; exact f7.block rb (.inr rfl)
   clear h6 F6' Z6' S6' f7 d0 cz
   go_wp2
   go_roundw
   case rel => exact ⟨n + 1, by omega, by go_num, by rw [HT.out, <- List.append_assoc]; exact h7, F7.out, Z7.out, S7.out⟩
   case measure => simp [intOf]; omega
  ·obtain rfl : n = 64 := by omega
   have HE : Hid (E.take 64 = E) := List.take_of_length_le (Nat.le_of_eq HN.out)
   clear F6 Z6 S6
   go_wp2_with (first | (go_at_call 60; refine (hasID_any _ _).mono ?_; rintro e w6' ⟨rfl, hw'⟩; subst hw'; rw [q1]) | (go_at_call 47; refine (hasCall_any _ _).mono ?_; rintro e w6' ⟨rfl, hw'⟩; subst hw'; rw [q2]) | (go_at_call 63; refine (hasVal_any _ _).mono ?_; rintro e w6' ⟨rfl, hw'⟩; subst hw'; rw [q3]))
   go_end0
   rw [HE.out] at h6
   refine ⟨rfl, ?_, F6'.out⟩
   have h := h6.mono (Z := Y) fun _ hk => .inl (.inl hk)
   subst hl4
   simpa only [List.append_assoc, List.cons_append, List.nil_append] using h
end Go.Proofs.YtmcgcbgblgmmkaaGreatDoor.G
