/-
  The bytes of a call, and the word at a place, by the document's own words.
-/
import Derived.Test.YtamioifoemklfaaVCalls
import Derived.Deep.AppendLies
import Derived.Laws.OwnMore
import Derived.Deep.RegionHeld3
import Derived.Deep.DeepCutAuto
namespace Go.Proofs.Ytamioifoemklfaa.V
open Go.RowKit

theorem run_append_bytes (w : World) (ty : TypeId) (base : Nat) (v : Value) (n : Nat) (l : List Int) (hown : w.ownsRow base 5 1 v n (cellsB l))
    (ao : Option Addr) (m c : Nat) (k : List Int) (hao : ao = none → c = 0) (hb : Bs w ao m k) (hn : n + m ≤ 1000000000) (hbase : base ≤ w.heap.size) :
    ∃ v' w', (Builtin.append_ #[104, 104] ty #[v, .slice ao m c]).run Try.prog w = .ok v' w' ∧ w'.ownsRow base 5 1 v' (n + m) (cellsB (l ++ k)) ∧ w.grownBy w' v.ownBlock := by
  obtain ⟨i0, hi, hz0, hz1, hz2⟩ := info_parts Try.info5
  cases ao with
  | none =>
    obtain ⟨rfl, rfl⟩ := hb.nil
    obtain rfl := hao rfl
    exact ⟨v, w, run_append_owned_none (P := Try.prog) (w := w) base 104 ty 5 i0 1 Try.underlying104 hi v n (cellsB l) hown, by simpa using hown, grow_refl _ _⟩
  | some ad =>
    obtain ⟨v', w', h1, h2, h3, _⟩ := run_append_own (P := Try.prog) w base 104 ty 5 i0 (.int .u8 0) 1 1 Try.underlying104 hi hz0 hz1 hz2 rfl (by decide) v n (cellsB l) hown ad m c (cellsB k) (by simp [cellsB, hb.1]) hb.news (by intro u hu; simp [cellsB] at hu; obtain ⟨z, _, rfl⟩ := hu; rfl) (by unfold maxLen; omega) (by omega) hbase
    exact ⟨v', w', h1, by rw [cellsB_app]; exact h2, h3⟩

theorem step_append_bytes {w : World} {ops : Array Oper} {o : Oper} {a : Act} {K : Act → World → Prop} {Q : Exit → Act → World → Prop} {E : Prop} (hgd : o.guard = none) (s x : Operand)
    (ho : o.op = .call { callee := .builtin .append, args := #[s, x], argTypes := #[104, 104] })
    (base : Nat) (v : Value) (n : Nat) (l : List Int) (hs : a.eval s = v) (hown : w.ownsRow base 5 1 v n (cellsB l))
    (ao : Option Addr) (m c : Nat) (k : List Int) (hx : a.eval x = .slice ao m c) (hao : ao = none → c = 0) (hb : Bs w ao m k) (hn : n + m ≤ 1000000000) (hbase : base ≤ w.heap.size)
    (h : ∀ v' w', w'.ownsRow base 5 1 v' (n + m) (cellsB (l ++ k)) → w.grownBy w' v.ownBlock → K (a.put o.dst v') w') :
    if Region.wanted o (yielded ops a.tmps) = true then Oper.wp Try.prog o a w K Q else E := by
  have hw : Region.wanted o (yielded ops a.tmps) = true := by simp [Region.wanted, hgd]
  rw [if_pos hw]
  obtain ⟨v', w', hr, h2, h3⟩ := run_append_bytes w o.type base v n l hown ao m c k hao hb hn hbase
  unfold Oper.wp execOp
  simp only [ho, resolve, invoke, builtin, Sem.run_bind, Sem.run_pure, Result.andThen_ok, List.map_toArray, List.map_cons, List.map_nil, hs, hx, hr]
  exact h v' w' h2 h3

theorem Blk.grown {w w' : World} {b : Nat} {t : TypeId} {l : List Value} {r : Option Nat} (h : Blk w b t l) (hg : w.grownBy w' r) (hne : some b ≠ r) : Blk w' b t l := by
  unfold Blk
  rw [hg.block b h.lt hne]
  exact h

/-- a block that is elder than a row is not the row's. -/
theorem own_ne {w : World} {base sz b : Nat} {t : TypeId} {v : Value} {n : Nat} {xs : List Value} (h : w.ownsRow base t sz v n xs) (hb : b < base) : some b ≠ v.ownBlock := by
  intro e
  have := owns_block h b e.symm
  omega

theorem wpAnyH_switch {P : Program} {md : Region.Mode} {ops : Array Oper} {Q : Exit → Act → World → Prop} {S S2 : World → Prop} (hS : ∀ w, S2 w → S w) :
    ∀ {fuel : Nat} {listed : Array Bool} {a : Act} {w : World}, wpAnyH P md ops Q S2 fuel listed a w → wpAnyH P md ops Q S fuel listed a w := by
  intro fuel
  induction fuel with
  | zero => intro listed a w h; exact h
  | succ n ih => intro listed a w h; exact ⟨h.1, fun i hi => wpOp_mono (fun a' w' h' => ⟨hS _ h'.1, ih h'.2⟩) (h.2 i hi)⟩

end Go.Proofs.Ytamioifoemklfaa.V

namespace Go.Proofs.Ytamioifoemklfaa.V
open Go.RowKit

theorem owns_nilB (w : World) (base : Nat) : w.ownsRow base 5 1 (.slice none 0 0) 0 (cellsB []) := ⟨rfl, .inl ⟨rfl, rfl⟩⟩

theorem Bs.one (w : World) (x : Int) (h : 0 ≤ x ∧ x ≤ 255) : Bs (w.alloc (.cells #[.int .u8 x] 5)) (some ⟨w.heap.size, 0, none⟩) 1 [x] := by
  refine ⟨rfl, ?_, fun _ => ⟨_, _, rfl, fun i hi => ?_⟩⟩
  · intro z hz
    simp only [List.mem_cons, List.not_mem_nil, or_false] at hz
    subst hz
    exact h
  · match i, hi with
    | 0, _ => simp

set_option maxHeartbeats 800000 in
theorem low_any (n : Int) (size : Nat) (w : World) (hn : U64 n) (hs : size ≤ 8) :
    Calls Try.prog 77 #[.int .u64 n, .int .i64 size] w fun e w' => Below w.heap.size w w' ∧ ∃ v, e = .returned v ∧ w'.ownsRow w.heap.size 5 1 v size (cellsB (low n size)) := by
  have HN : Hid (∀ k, U64 (cutN n k)) := fun k => cutN_u n hn k
  clear hn
  go_enter Try.func77, Try.ntmps77
  go_wp2
  go_loopw [0, 5, 6] (fun x v i wr => ∃ k : Nat, k ≤ size ∧ x = .int .u64 (cutN n k) ∧ i = .int .i64 k ∧ wr.ownsRow w.heap.size 5 1 v k (cellsB (low n k)) ∧ Below w.heap.size w wr) (fun _ _ i _ => size - (intOf i).toNat)
  case atStart => exact ⟨0, Nat.zero_le _, rfl, rfl, owns_nilB _ _, Below.refl _ _⟩
  case round =>
    obtain ⟨k, hk, rfl, rfl, ho, hbr⟩ := hrel
    by_cases hlt : k < size
    · have HC : Hid (cutN n (k + 1) = cutN n k / 256) := rfl
      have HL : Hid (low n (k + 1) = low n k ++ [cutN n k % 256]) := low_snoc n k
      obtain ⟨u0, u1⟩ := HN.out k
      have hr : Int.tmod (cutN n k) 256 = cutN n k % 256 := Int.tmod_eq_emod_of_nonneg u0
      have hq : Int.tdiv (cutN n k) 256 = cutN n k / 256 := Int.tdiv_eq_ediv_of_nonneg u0
      have V1 : Hid (0 ≤ cutN n k % 256 ∧ cutN n k % 256 ≤ 255) := by unfold Hid; omega
      have HX : Hid (IntKind.u64.wrap (cutN n k / 256) = cutN n k / 256) := by unfold Hid; rw [IntKind.wrap_u64]; omega
      generalize cutN n k = x at *
      generalize low n k = L at *
      have hbs := hbr.size
      have hi1 : (k : Int) < (size : Int) := by omega
      clear u1 u0
      go_wp2_with (at_builtin; refine append_bytes rfl (.tmp 12) (.tmp 16) rfl w.heap.size _ k L rfl (ho.alloc _) (some ⟨wr.heap.size, 0, none⟩) 1 1 [x % 256] rfl (by simp) (Bs.one wr _ V1.out) (by omega) (by rw [size_alloc']; omega) ?_; intro v1 w1 ho1 hg1)
      go_roundw
      case rel =>
        refine ⟨k + 1, by omega, by rw [HC.out, HX.out], by go_num, by rw [HL.out]; exact ho1, ?_⟩
        have hb4 := hbr.alloc hbs (Obj.cells #[.int .u8 (x % 256)] 5)
        exact hb4.grown hg1 hb4.size (owns_block ho)
      case measure => simp [intOf]; omega
    · have hi1 : ¬ (k : Int) < (size : Int) := by omega
      obtain rfl : k = size := by omega
      clear hlt hk
      go_wp2
      go_ret
      exact ⟨hbr, _, rfl, ho⟩

set_option maxHeartbeats 800000 in
theorem number_any (a : Option Addr) (len cap : Nat) (l : List Int) (w : World) (hb : Bs w a len l) (hl : len ≤ 8) :
    Calls Try.prog 68 #[.slice a len cap] w fun e w' => e = .returned (.int .u64 (num l)) ∧ w' = w := by
  have HU : Hid (∀ k, U64 (num (l.drop k))) := fun k => num_u _ (byt_drop hb.2.1 k) (by rw [List.length_drop, hb.1]; omega)
  have HB : Hid (Bs w a len l) := hb
  clear hb
  have h0 : IntKind.i64.wrap ((len : Int) - 1) = (len : Int) - 1 := by rw [IntKind.wrap_i64]; omega
  go_enter Try.func68, Try.ntmps68
  go_wp2
  go_loopw [3, 4] (fun x i wr => ∃ k : Nat, k ≤ len ∧ x = .int .u64 (num (l.drop k)) ∧ i = .int .i64 ((k : Int) - 1) ∧ wr = w) (fun _ i _ => (intOf i + 1).toNat)
  case atStart => exact ⟨len, Nat.le_refl _, by rw [List.drop_of_length_le (by rw [HB.out.1]; exact Nat.le_refl _)]; rfl, by first | rfl | rw [h0], rfl⟩
  case round =>
    obtain ⟨k, hk, rfl, rfl, rfl⟩ := hrel
    clear h0
    cases k with
    | zero =>
      have hi1 : ¬ (0 : Int) ≤ ((0 : Nat) : Int) - 1 := by omega
      have HD : Hid (l.drop 0 = l) := rfl
      rw [HD.out]
      go_wp2
      go_ret
      exact ⟨rfl, rfl⟩
    | succ k =>
      obtain ⟨b, off, rfl, hc⟩ := HB.out.2.2 (by omega)
      have q0 := hc k (by omega)
      have HN : Hid (num (l.drop k) = l.getD k 0 + 256 * num (l.drop (k + 1))) := num_drop l k (by have := HB.out.1; omega)
      obtain ⟨u0, u1⟩ := HU.out k
      obtain ⟨v0, v1⟩ := HU.out (k + 1)
      have g0 := byt_get HB.out.2.1 k
      have HV : Hid (IntKind.u64.wrap (IntKind.u64.wrap (num (l.drop (k + 1)) * 256) + IntKind.u64.wrap (l.getD k 0)) = num (l.drop k)) := by
        unfold Hid
        have := HN.out
        simp only [IntKind.wrap_u64]
        omega
      have e1 : ((k + 1 : Nat) : Int) - 1 = (k : Int) := by omega
      rw [e1]
      clear hc u0 u1 v0 v1 g0 HN HU e1
      generalize num (l.drop (k + 1)) = x at *
      generalize l.getD k 0 = z at *
      have hkl : (k : Int) < (len : Int) := by omega
      go_wp2
      go_roundw
      case rel => exact ⟨k, by omega, by rw [HV.out], rfl, trivial⟩
      case measure => simp [intOf] <;> omega

end Go.Proofs.Ytamioifoemklfaa.V

namespace Go.Proofs.Ytamioifoemklfaa.V
open Go.RowKit

set_option linter.unusedSimpArgs false in
set_option maxHeartbeats 2000000 in
theorem refBytes_any (d : Da) (w : World) (hd : d.ok) :
    Calls Try.prog 69 #[d.val] w fun e w' => Below w.heap.size w w' ∧ ∃ v, e = .returned v ∧ w'.ownsRow w.heap.size 5 1 v 64 (cellsB d.enc) := by
  have HE : Hid (low d.n 4 ++ low d.a 4 ++ low d.p 8 ++ lowG d.g = d.enc) := ref_enc d hd
  have Z1 := blk_new w d.cells.toArray 27
  have Z5 : Below w.heap.size w (w.alloc (Obj.cells d.cells.toArray 27)) := (Below.refl _ _).alloc (Nat.le_refl _) _
  have ZS : (w.alloc (Obj.cells d.cells.toArray 27)).heap.size = w.heap.size + 1 := size_alloc' _ _
  have C0 : Hid (d.cells[0]? = some (.int .u32 d.n)) := rfl
  have C1 : Hid (d.cells[1]? = some (.int .u32 d.a)) := rfl
  have CG : Hid (∀ k, k < 6 → d.cells[3 + k]? = some (.int .u64 (d.g.getD k 0))) := by
    intro k hk
    have := hd.2.2.2.1
    rw [Nat.add_comm]
    simp [Da.cells, List.getElem?_eq_getElem (show k < d.g.length by omega)]
  have UG : Hid (∀ k, k < 6 → U64 (d.g.getD k 0)) := by
    intro k hk
    rw [List.getD_eq_getElem?_getD, List.getElem?_eq_getElem (show k < d.g.length by have := hd.2.2.2.1; omega)]
    exact hd.2.2.2.2 _ (List.getElem_mem _)
  have LG : Hid (∀ k, k < 6 → lowG (d.g.take (k + 1)) = lowG (d.g.take k) ++ low (d.g.getD k 0) 8) := fun k hk => lowG_take d.g k (by have := hd.2.2.2.1; omega)
  have LA : Hid (d.g.take 6 = d.g) := List.take_of_length_le (by rw [hd.2.2.2.1]; omega)
  have C2 : Hid (d.cells[2]? = some (.int .u64 d.p)) := rfl
  have UP : Hid (U64 d.p) := hd.2.2.1
  have wn : IntKind.u64.wrap d.n = d.n := by have := hd.1; unfold U32 at this; rw [IntKind.wrap_u64]; omega
  have wa : IntKind.u64.wrap d.a = d.a := by have := hd.2.1; unfold U32 at this; rw [IntKind.wrap_u64]; omega
  have UN : Hid (U64 d.n) := by have := hd.1; unfold U32 at this; unfold Hid U64; omega
  have UA : Hid (U64 d.a) := by have := hd.2.1; unfold U32 at this; unfold Hid U64; omega
  unfold Da.val
  clear hd
  generalize d.enc = en at *
  generalize d.cells = A at *
  obtain ⟨dn, da, dp, dg⟩ := d
  dsimp only at *
  have HL4 : Hid (∀ (x : Int) (W : World), U64 x → Calls Try.prog 77 #[.int .u64 x, .int .i64 4] W fun e w' => Below W.heap.size W w' ∧ ∃ v, e = .returned v ∧ w'.ownsRow W.heap.size 5 1 v 4 (cellsB (low x 4))) := fun x W h => low_any x 4 W h (by decide)
  have HL8 : Hid (∀ (x : Int) (W : World), U64 x → Calls Try.prog 77 #[.int .u64 x, .int .i64 8] W fun e w' => Below W.heap.size W w' ∧ ∃ v, e = .returned v ∧ w'.ownsRow W.heap.size 5 1 v 8 (cellsB (low x 8))) := fun x W h => low_any x 8 W h (by decide)
  go_enter Try.func69, Try.ntmps69
  go_wp2_with fail
  generalize w.alloc (Obj.cells A.toArray 27) = W0 at *
  have z1 : Hid (Blk W0 w.heap.size 27 A) := Z1
  have z5 : Hid (Below w.heap.size w W0) := Z5
  clear Z1 Z5
  go_cut [3] (fun v wc => wc.ownsRow (w.heap.size + 1) 5 1 v 8 (cellsB (low dn 4 ++ low da 4)) ∧ Blk wc w.heap.size 27 A ∧ Below w.heap.size w wc)
  case first =>
    refine wp_region_held_drew (S := (fun w' => Blk w' w.heap.size 27 A)) (by kernel_rfl) (z1.out.drew) (fun hHeld => ?_)
    simp only [List.size_toArray, List.length_cons, List.length_nil, Nat.reduceAdd]
    refine wpAnyH_take (i := 0) (v := ?_) rfl (by kernel_rfl) (by kernel_rfl) (by kernel_rfl) (fun _ _ _ h => h) (Or.inl ⟨by rfl, ?_⟩) hHeld ?_
    rotate_left
    · (intro w hSw; (try dsimp only at hSw); go_simp; try with_reducible rfl)
    try simp only [Act.put, List.setIfInBounds_toArray, List.set_cons_zero, List.set_cons_succ, List.getElem_toArray, List.getElem_cons_zero, List.getElem_cons_succ]
    refine wpAnyH_take (i := 1) (v := ?_) rfl (by kernel_rfl) (by kernel_rfl) (by kernel_rfl) (fun _ _ _ h => h) (Or.inl ⟨by rfl, ?_⟩) hHeld ?_
    rotate_left
    · (intro w hSw; (try dsimp only at hSw); have s0 := (hSw.cell 0).trans C0.out; go_simp; try with_reducible rfl)
    try simp only [Act.put, List.setIfInBounds_toArray, List.set_cons_zero, List.set_cons_succ, List.getElem_toArray, List.getElem_cons_zero, List.getElem_cons_succ]
    refine wpAnyH_take (i := 2) (v := ?_) rfl (by kernel_rfl) (by kernel_rfl) (by kernel_rfl) (fun _ _ _ h => h) (Or.inl ⟨by rfl, ?_⟩) hHeld ?_
    rotate_left
    · (intro w hSw; (try dsimp only at hSw); go_simp; try with_reducible rfl)
    try simp only [Act.put, List.setIfInBounds_toArray, List.set_cons_zero, List.set_cons_succ, List.getElem_toArray, List.getElem_cons_zero, List.getElem_cons_succ]
    refine wpAnyH_take (i := 4) (v := ?_) rfl (by kernel_rfl) (by kernel_rfl) (by kernel_rfl) (fun _ _ _ h => h) (Or.inl ⟨by rfl, ?_⟩) hHeld ?_
    rotate_left
    · (intro w hSw; (try dsimp only at hSw); go_simp; try with_reducible rfl)
    try simp only [Act.put, List.setIfInBounds_toArray, List.set_cons_zero, List.set_cons_succ, List.getElem_toArray, List.getElem_cons_zero, List.getElem_cons_succ]
    refine wpAnyH_take (i := 5) (v := ?_) rfl (by kernel_rfl) (by kernel_rfl) (by kernel_rfl) (fun _ _ _ h => h) (Or.inl ⟨by rfl, ?_⟩) hHeld ?_
    rotate_left
    · (intro w hSw; (try dsimp only at hSw); have s1 := (hSw.cell 1).trans C1.out; go_simp; try with_reducible rfl)
    try simp only [Act.put, List.setIfInBounds_toArray, List.set_cons_zero, List.set_cons_succ, List.getElem_toArray, List.getElem_cons_zero, List.getElem_cons_succ]
    refine wpAnyH_take (i := 6) (v := ?_) rfl (by kernel_rfl) (by kernel_rfl) (by kernel_rfl) (fun _ _ _ h => h) (Or.inl ⟨by rfl, ?_⟩) hHeld ?_
    rotate_left
    · (intro w hSw; (try dsimp only at hSw); go_simp; try with_reducible rfl)
    try simp only [Act.put, List.setIfInBounds_toArray, List.set_cons_zero, List.set_cons_succ, List.getElem_toArray, List.getElem_cons_zero, List.getElem_cons_succ]
    refine wpAnyH_ready (rs := [3]) (by kernel_rfl) (by simp) ?_
    refine AllReadyH.cons rfl (fun K hK => ?_) AllReadyH.nil
    go_simp
    refine (HL4.out _ _ UN.out).mono ?_
    rintro e w2 ⟨hb2, v2, rfl, ho2⟩
    have c2 := z5.out.drew.trans (hb2.mono z5.out.size)
    go_wp2_with fail
    refine hK.out _ _ (hHeld.over hb2) (fun hHeld => ?_)
    clear hK K
    try simp only [Act.put, List.setIfInBounds_toArray, List.set_cons_zero, List.set_cons_succ, List.getElem_toArray, List.getElem_cons_zero, List.getElem_cons_succ]
    refine wpAnyH_ready (rs := [7]) (by kernel_rfl) (by simp) ?_
    refine AllReadyH.cons rfl (fun K hK => ?_) AllReadyH.nil
    go_simp
    refine (HL4.out _ _ UA.out).mono ?_
    rintro e w3 ⟨hb3, v3, rfl, ho3⟩
    have c3 := c2.trans (hb3.mono c2.size)
    have ho2' := owns_below ho2 hb3 (Nat.le_refl _)
    obtain ⟨a3, cap3, rfl, bs3, _, hn3⟩ := owns_bs ho3 (low_byt _ _)
    go_wp2_with fail
    refine hK.out _ _ (hHeld.over hb3) (fun hHeld => ?_)
    clear hK K
    try simp only [Act.put, List.setIfInBounds_toArray, List.set_cons_zero, List.set_cons_succ, List.getElem_toArray, List.getElem_cons_zero, List.getElem_cons_succ]
    refine wpAnyH_ready (rs := [8]) (by kernel_rfl) (by simp) ?_
    refine AllReadyH.cons rfl (fun K hK => ?_) AllReadyH.nil
    refine step_append_bytes (by rfl) (.tmp 8) (.tmp 12) (by rfl) (w.heap.size + 1) _ 4 (low dn 4) (by rfl) (owns_lower ho2' (Nat.le_of_eq ZS.symm)) a3 4 cap3 (low da 4) (by rfl) hn3 bs3 (by decide) (by rw [← ZS]; exact Nat.le_trans hb2.size hb3.size) ?_
    intro v4 w4 ho4 hg4
    have c4 := c3.grown hg4 c3.size (owns_block (owns_lower ho2' z5.out.size))
    refine hK.out _ _ (hHeld.grown hg4 (own_ne ho2' (by show w.heap.size < W0.heap.size; rw [ZS]; omega))) (fun hHeld => ?_)
    clear hK K
    try simp only [Act.put, List.setIfInBounds_toArray, List.set_cons_zero, List.set_cons_succ, List.getElem_toArray, List.getElem_cons_zero, List.getElem_cons_succ]
    refine wpAnyH_take (i := 9) (v := ?_) rfl (by kernel_rfl) (by kernel_rfl) (by kernel_rfl) (fun _ _ _ h => h) (Or.inl ⟨by rfl, ?_⟩) hHeld ?_
    rotate_left
    · (intro w hSw; (try dsimp only at hSw); go_simp; try with_reducible rfl)
    try simp only [Act.put, List.setIfInBounds_toArray, List.set_cons_zero, List.set_cons_succ, List.getElem_toArray, List.getElem_cons_zero, List.getElem_cons_succ]
    refine wpAnyH_done (by kernel_rfl) ?_ _
    go_wp2_with fail
    go_meet
    exact ⟨ho4, hHeld, c4⟩
  case rest =>
    obtain ⟨ho, hA, hB⟩ := hcut
    have s2 := (hA.cell 2).trans C2.out
    have h1 : Hid (Blk wc w.heap.size 27 A) := hA
    have h2 : w.heap.size + 1 ≤ wc.heap.size := hA.lt
    clear z1 z5 ZS hA wn wa
    go_wp2_with (first | (go_at_call 77; refine (HL8.out _ _ UP.out).mono ?_; rintro e w2 ⟨hb2, v2, rfl, ho2⟩; have c2 := hB.trans (hb2.mono hB.size); have ho' := owns_below ho hb2 (Nat.le_refl _); have h3 := h1.out.over hb2; obtain ⟨a2, cap2, rfl, bs2, -, hn2⟩ := owns_bs ho2 (low_byt _ _)) | (at_builtin; refine append_bytes rfl (.tmp 14) (.tmp 17) rfl (w.heap.size + 1) _ 8 _ rfl ho' a2 8 cap2 (low dp 8) rfl hn2 bs2 (by decide) h3.lt ?_; intro v4 w4 ho4 hg4; have c4 := c2.grown hg4 c2.size (owns_block (owns_lower ho' (Nat.le_succ _))); have h4 := h3.grown hg4 (own_ne ho' (Nat.lt_succ_self _))))
    have ho5 : w4.ownsRow (w.heap.size + 1) 5 1 v4 (16 + 0 * 8) (cellsB (low dn 4 ++ low da 4 ++ low dp 8 ++ lowG (dg.take 0))) := by
      have : low dn 4 ++ low da 4 ++ low dp 8 ++ lowG (dg.take 0) = low dn 4 ++ low da 4 ++ low dp 8 := List.append_nil _
      rw [this]
      exact ho4
    clear ho ho' ho2 ho4 hg4 bs2 h3 h1 h2 c2 hb2 hB s2 hn2
    have HE2 : Hid (∀ k, k < 6 → low dn 4 ++ low da 4 ++ low dp 8 ++ lowG (dg.take (k + 1)) = low dn 4 ++ low da 4 ++ low dp 8 ++ lowG (dg.take k) ++ low (dg.getD k 0) 8) := by
      intro k hk
      rw [LG.out k hk, ← List.append_assoc]
    have HE3 : Hid (low dn 4 ++ low da 4 ++ low dp 8 ++ lowG (dg.take 6) = en) := by
      unfold Hid
      rw [LA.out]
      exact HE.out
    generalize low dn 4 ++ low da 4 ++ low dp 8 = P0 at *
    clear HL4 LG LA HE UN UA UP C0 C1 C2
    go_loopw [3, 4] (fun v i wr => ∃ k : Nat, k ≤ 6 ∧ i = .int .i64 k ∧ wr.ownsRow (w.heap.size + 1) 5 1 v (16 + k * 8) (cellsB (P0 ++ lowG (dg.take k))) ∧ Blk wr w.heap.size 27 A ∧ Below w.heap.size w wr) (fun _ i _ => 6 - (intOf i).toNat)
    case atStart => exact ⟨0, by decide, rfl, ho5, h4, c4⟩
    case round =>
      obtain ⟨k, hk, rfl, ho, hA, hB⟩ := hrel
      clear ho5 h4 c4
      by_cases hlt : k < 6
      · have s2 := (hA.cell (3 + k)).trans (CG.out k hlt)
        have HU : Hid (U64 (dg.getD k 0)) := UG.out k hlt
        have HN : Hid (P0 ++ lowG (dg.take (k + 1)) = P0 ++ lowG (dg.take k) ++ low (dg.getD k 0) 8) := HE2.out k hlt
        have h1 : Hid (Blk wr w.heap.size 27 A) := hA
        have h2 : w.heap.size + 1 ≤ wr.heap.size := hA.lt
        clear hA
        generalize dg.getD k 0 = x at *
        generalize P0 ++ lowG (dg.take k) = P1 at *
        have hi1 : (k : Int) < 6 := by omega
        go_wp2_with (first | (go_at_call 77; refine (HL8.out _ _ HU.out).mono ?_; rintro e w2 ⟨hb2, v2, rfl, ho2⟩; have c2 := hB.trans (hb2.mono hB.size); have ho' := owns_below ho hb2 (Nat.le_refl _); have h3 := h1.out.over hb2; obtain ⟨a2, cap2, rfl, bs2, -, hn2⟩ := owns_bs ho2 (low_byt _ _)) | (at_builtin; refine append_bytes rfl (.tmp 23) (.tmp 28) rfl (w.heap.size + 1) _ (16 + k * 8) _ rfl ho' a2 8 cap2 (low x 8) rfl hn2 bs2 (by omega) h3.lt ?_; intro v4 w4 ho4 hg4; have c4 := c2.grown hg4 c2.size (owns_block (owns_lower ho' (Nat.le_succ _))); have h4 := h3.grown hg4 (own_ne ho' (Nat.lt_succ_self _))))
        go_roundw
        case rel =>
          refine ⟨k + 1, by omega, by go_num, ?_, h4, c4⟩
          rw [HN.out, show 16 + (k + 1) * 8 = 16 + k * 8 + 8 by omega]
          exact ho4
        case measure => simp [intOf]; omega
      · have hi1 : ¬ (k : Int) < 6 := by omega
        obtain ⟨e1, e2⟩ : 16 + k * 8 = 64 ∧ P0 ++ lowG (dg.take k) = en := by
          obtain rfl : k = 6 := by omega
          exact ⟨rfl, HE3.out⟩
        rw [e1, e2] at ho
        clear e1 e2 hlt hk
        go_wp2
        go_ret
        exact ⟨hB, _, rfl, owns_lower ho (Nat.le_succ _)⟩

end Go.Proofs.Ytamioifoemklfaa.V

namespace Go.Proofs.Ytamioifoemklfaa.V
open Go.RowKit

set_option maxHeartbeats 400000 in
theorem refLoad_any (d : Da) (m : Int) (w : World) (hd : d.ok) (hm : U32 m) :
    Calls Try.prog 50 #[d.val, .int .u32 m] w fun e w' => e = .returned (.tuple #[.int .u32 (ldv d m), .int .i64 (lde m)]) ∧ Below w.heap.size w w' := by
  have hk2 : Hid (Below w.heap.size w (w.alloc (Obj.cells d.cells.toArray 27))) := (Below.refl _ _).alloc (Nat.le_refl _) _
  by_cases hc : m % 4 = 0 ∧ m < 64
  · have HC : Hid ((Try.prog.info? 27).map (·.size) = some d.cells.toArray.size) := by unfold Hid; rw [Try.size27]; simp [d.cells_len hd]
    have HS : Hid (∀ W : World, Calls Try.prog 69 #[.agg d.cells.toArray] W fun e w' => Below W.heap.size W w' ∧ ∃ v, e = .returned v ∧ w'.ownsRow W.heap.size 5 1 v 64 (cellsB d.enc)) := fun W => refBytes_any d W hd
    have HB : Hid (Byt d.enc) := enc_byt d hd
    have HN : Hid (∀ (b off cap : Nat) (l : List Int) (W : World), Bs W (some ⟨b, off, none⟩) 4 l → Calls Try.prog 68 #[.slice (some ⟨b, off, none⟩) 4 cap] W fun e w' => e = .returned (.int .u64 (num l)) ∧ w' = W) := fun b off cap l W h => number_any _ 4 cap l W h (by decide)
    obtain ⟨h0, h1⟩ := hm
    obtain ⟨j, hj, rfl⟩ : ∃ j : Nat, j < 16 ∧ m = ((4 * j : Nat) : Int) := ⟨(m / 4).toNat, by omega, by omega⟩
    obtain ⟨e1, e2⟩ := ld_in d j hj
    rw [e1, e2]
    have HW : Hid (num ((d.enc.drop (4 * j)).take 4) = d.words.getD j 0) := by
      unfold Hid
      rw [num_four _ (by rw [List.length_drop, enc_len d hd]; omega), Nat.mul_comm]
      exact word_at d hd j hj
    have HV : Hid (d.words.getD j 0 % 4294967296 = d.words.getD j 0) := by
      have := getD_u (words_u d hd) j
      unfold U32 at this
      unfold Hid
      omega
    have hr : Int.tmod ((4 * j : Nat) : Int) 4 = 0 := by rw [Int.tmod_eq_emod_of_nonneg (by omega)]; omega
    have hlt : ¬ (64 : Int) ≤ ((4 * j : Nat) : Int) := by omega
    have hB : Hid (Blk (w.alloc (Obj.cells d.cells.toArray 27)) w.heap.size 27 d.cells.toArray.toList) := blk_new w _ 27
    have hw4 : IntKind.u32.wrap (((4 * j : Nat) : Int) + 4) = ((4 * j + 4 : Nat) : Int) := by rw [IntKind.wrap_u32]; omega
    have hj4 : 4 * j + 4 ≤ 64 := by omega
    clear e1 e2 hc h0 h1 hd hj
    unfold Da.val
    generalize d.words.getD j 0 = x at *
    generalize d.cells.toArray = A at *
    generalize d.enc = en at *
    generalize 4 * j = M at *
    go_enter Try.func50, Try.ntmps50
    go_wp2_with (first | (refine wpList_load_row rfl 27 (.tmp 2) rfl w.heap.size rfl 27 A (0, 0) _ hB.out Try.underlying27 rfl HC.out ?_) | (go_at_call 69; refine (HS.out _).mono ?_; rintro e w2 ⟨hb2, v2, rfl, ho2⟩; obtain ⟨a2, cap2, rfl, bs2, hcap, -⟩ := owns_bs ho2 HB.out; obtain ⟨b, off, rfl, -⟩ := bs2.2.2 (by decide); have hcm : M + 4 ≤ cap2 := by omega) | (go_at_call 68; refine (HN.out _ _ _ _ _ (bs2.sub M 4 (by omega))).mono ?_; rintro e w3 ⟨rfl, rfl⟩))
    go_ret2
    rw [HW.out, HV.out]
    exact ⟨rfl, hk2.out.trans (hb2.mono hk2.out.size)⟩
  · obtain ⟨e1, e2⟩ := ld_out d m hc
    rw [e1, e2]
    obtain ⟨h0, h1⟩ := hm
    clear e1 e2 hd
    unfold Da.val
    generalize d.cells.toArray = A at *
    by_cases h4 : m % 4 = 0
    · have hr : Int.tmod m 4 = 0 := by rw [Int.tmod_eq_emod_of_nonneg (by omega)]; omega
      have hlt : (64 : Int) ≤ m := by omega
      clear hc h4 h0 h1
      go_enter Try.func50, Try.ntmps50
      go_wp2
      go_ret2
      exact ⟨rfl, hk2.out⟩
    · have hr : ¬ Int.tmod m 4 = 0 := by rw [Int.tmod_eq_emod_of_nonneg (by omega)]; omega
      clear hc h4 h0 h1
      go_enter Try.func50, Try.ntmps50
      go_wp2
      go_ret2
      exact ⟨rfl, hk2.out⟩

end Go.Proofs.Ytamioifoemklfaa.V

