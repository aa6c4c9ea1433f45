/-
  A run of a program by the document.
-/
import Derived.Test.YtpojlfenmanehaaGreatGV2
import Derived.Deep.AppendLies
import Derived.Laws.OwnMore
import Derived.Deep.RegionHeld3
import Derived.Deep.DeepCutAuto
import Derived.Test.YtpojlfenmanehaaGreatGV4
namespace Go.Proofs.YtpojlfenmanehaaGreat.V
open Go.RowKit

theorem run_append_bytes (w : World) (ty : TypeId) (base : Nat) (v : Value) (n : Nat) (l : List Int) (hown : w.ownsRow base 5 1 v n (cellsB l))
    (ao : Option Addr) (m c : Nat) (k : List Int) (hao : ao = none → c = 0) (hb : Bs w ao m k) (hn : n + m ≤ 1000000000) (hbase : base ≤ w.heap.size) :
    ∃ v' w', (Builtin.append_ #[129, 129] ty #[v, .slice ao m c]).run Tryz.prog w = .ok v' w' ∧ w'.ownsRow base 5 1 v' (n + m) (cellsB (l ++ k)) ∧ w.grownBy w' v.ownBlock := by
  obtain ⟨i0, hi, hz0, hz1, hz2⟩ := info_parts Tryz.info5
  cases ao with
  | none =>
    obtain ⟨rfl, rfl⟩ := hb.nil
    obtain rfl := hao rfl
    exact ⟨v, w, run_append_owned_none (P := Tryz.prog) (w := w) base 129 ty 5 i0 1 Tryz.underlying129 hi v n (cellsB l) hown, by simpa using hown, grow_refl _ _⟩
  | some ad =>
    obtain ⟨v', w', h1, h2, h3, _⟩ := run_append_own (P := Tryz.prog) w base 129 ty 5 i0 (.int .u8 0) 1 1 Tryz.underlying129 hi hz0 hz1 hz2 rfl (by decide) v n (cellsB l) hown ad m c (cellsB k) (by simp [cellsB, hb.1]) hb.news (by intro u hu; simp [cellsB] at hu; obtain ⟨z, _, rfl⟩ := hu; rfl) (by unfold maxLen; omega) (by omega) hbase
    exact ⟨v', w', h1, by rw [cellsB_app]; exact h2, h3⟩

theorem step_append_bytes {w : World} {ops : Array Oper} {o : Oper} {a : Act} {K : Act → World → Prop} {Q : Exit → Act → World → Prop} {E : Prop} (hgd : o.guard = none) (s x : Operand)
    (ho : o.op = .call { callee := .builtin .append, args := #[s, x], argTypes := #[129, 129] })
    (base : Nat) (v : Value) (n : Nat) (l : List Int) (hs : a.eval s = v) (hown : w.ownsRow base 5 1 v n (cellsB l))
    (ao : Option Addr) (m c : Nat) (k : List Int) (hx : a.eval x = .slice ao m c) (hao : ao = none → c = 0) (hb : Bs w ao m k) (hn : n + m ≤ 1000000000) (hbase : base ≤ w.heap.size)
    (h : ∀ v' w', w'.ownsRow base 5 1 v' (n + m) (cellsB (l ++ k)) → w.grownBy w' v.ownBlock → K (a.put o.dst v') w') :
    if Region.wanted o (yielded ops a.tmps) = true then Oper.wp Tryz.prog o a w K Q else E := by
  have hw : Region.wanted o (yielded ops a.tmps) = true := by simp [Region.wanted, hgd]
  rw [if_pos hw]
  obtain ⟨v', w', hr, h2, h3⟩ := run_append_bytes w o.type base v n l hown ao m c k hao hb hn hbase
  unfold Oper.wp execOp
  simp only [ho, resolve, invoke, builtin, Sem.run_bind, Sem.run_pure, Result.andThen_ok, List.map_toArray, List.map_cons, List.map_nil, hs, hx, hr]
  exact h v' w' h2 h3

theorem Blk.grown {w w' : World} {b : Nat} {t : TypeId} {l : List Value} {r : Option Nat} (h : Blk w b t l) (hg : w.grownBy w' r) (hne : some b ≠ r) : Blk w' b t l := by
  unfold Blk
  rw [hg.block b h.lt hne]
  exact h

/-- a block that is elder than a row is not the row's. -/
theorem own_ne {w : World} {base sz b : Nat} {t : TypeId} {v : Value} {n : Nat} {xs : List Value} (h : w.ownsRow base t sz v n xs) (hb : b < base) : some b ≠ v.ownBlock := by
  intro e
  have := owns_block h b e.symm
  omega

theorem wpAnyH_switch {P : Program} {md : Region.Mode} {ops : Array Oper} {Q : Exit → Act → World → Prop} {S S2 : World → Prop} (hS : ∀ w, S2 w → S w) :
    ∀ {fuel : Nat} {listed : Array Bool} {a : Act} {w : World}, wpAnyH P md ops Q S2 fuel listed a w → wpAnyH P md ops Q S fuel listed a w := by
  intro fuel
  induction fuel with
  | zero => intro listed a w h; exact h
  | succ n ih => intro listed a w h; exact ⟨h.1, fun i hi => wpOp_mono (fun a' w' h' => ⟨hS _ h'.1, ih h'.2⟩) (h.2 i hi)⟩

end Go.Proofs.YtpojlfenmanehaaGreat.V

namespace Go.Proofs.YtpojlfenmanehaaGreat.V
open Go.RowKit

theorem owns_nilB (w : World) (base : Nat) : w.ownsRow base 5 1 (.slice none 0 0) 0 (cellsB []) := ⟨rfl, .inl ⟨rfl, rfl⟩⟩

theorem Bs.one (w : World) (x : Int) (h : 0 ≤ x ∧ x ≤ 255) : Bs (w.alloc (.cells #[.int .u8 x] 5)) (some ⟨w.heap.size, 0, none⟩) 1 [x] := by
  refine ⟨rfl, ?_, fun _ => ⟨_, _, rfl, fun i hi => ?_⟩⟩
  · intro z hz
    simp only [List.mem_cons, List.not_mem_nil, or_false] at hz
    subst hz
    exact h
  · match i, hi with
    | 0, _ => simp

set_option maxHeartbeats 800000 in
theorem low_any (n : Int) (size : Nat) (w : World) (hn : U64 n) (hs : size ≤ 8) :
    Calls Tryz.prog 118 #[.int .u64 n, .int .i64 size] w fun e w' => Below w.heap.size w w' ∧ ∃ v, e = .returned v ∧ w'.ownsRow w.heap.size 5 1 v size (cellsB (low n size)) := by
  have HN : Hid (∀ k, U64 (cutN n k)) := fun k => cutN_u n hn k
  clear hn
  go_enter Tryz.func118, Tryz.ntmps118
  go_wp2
  go_loopw [0, 5, 6] (fun x v i wr => ∃ k : Nat, k ≤ size ∧ x = .int .u64 (cutN n k) ∧ i = .int .i64 k ∧ wr.ownsRow w.heap.size 5 1 v k (cellsB (low n k)) ∧ Below w.heap.size w wr) (fun _ _ i _ => size - (intOf i).toNat)
  case atStart => exact ⟨0, Nat.zero_le _, rfl, rfl, owns_nilB _ _, Below.refl _ _⟩
  case round =>
    obtain ⟨k, hk, rfl, rfl, ho, hbr⟩ := hrel
    by_cases hlt : k < size
    · have HC : Hid (cutN n (k + 1) = cutN n k / 256) := rfl
      have HL : Hid (low n (k + 1) = low n k ++ [cutN n k % 256]) := low_snoc n k
      obtain ⟨u0, u1⟩ := HN.out k
      have hr : Int.tmod (cutN n k) 256 = cutN n k % 256 := Int.tmod_eq_emod_of_nonneg u0
      have hq : Int.tdiv (cutN n k) 256 = cutN n k / 256 := Int.tdiv_eq_ediv_of_nonneg u0
      have V1 : Hid (0 ≤ cutN n k % 256 ∧ cutN n k % 256 ≤ 255) := by unfold Hid; omega
      have HX : Hid (IntKind.u64.wrap (cutN n k / 256) = cutN n k / 256) := by unfold Hid; rw [IntKind.wrap_u64]; omega
      generalize cutN n k = x at *
      generalize low n k = L at *
      have hbs := hbr.size
      have hi1 : (k : Int) < (size : Int) := by omega
      clear u1 u0
      go_wp2_with (at_builtin; refine append_bytes rfl (.tmp 12) (.tmp 16) rfl w.heap.size _ k L rfl (ho.alloc _) (some ⟨wr.heap.size, 0, none⟩) 1 1 [x % 256] rfl (by simp) (Bs.one wr _ V1.out) (by omega) (by rw [size_alloc']; omega) ?_; intro v1 w1 ho1 hg1)
      go_roundw
      case rel =>
        refine ⟨k + 1, by omega, by rw [HC.out, HX.out], by go_num, by rw [HL.out]; exact ho1, ?_⟩
        have hb4 := hbr.alloc hbs (Obj.cells #[.int .u8 (x % 256)] 5)
        exact hb4.grown hg1 hb4.size (owns_block ho)
      case measure => simp [intOf]; omega
    · have hi1 : ¬ (k : Int) < (size : Int) := by omega
      obtain rfl : k = size := by omega
      clear hlt hk
      go_wp2
      go_ret
      exact ⟨hbr, _, rfl, ho⟩

set_option maxHeartbeats 800000 in
theorem number_any (a : Option Addr) (len cap : Nat) (l : List Int) (w : World) (hb : Bs w a len l) (hl : len ≤ 8) :
    Calls Tryz.prog 87 #[.slice a len cap] w fun e w' => e = .returned (.int .u64 (num l)) ∧ w' = w := by
  have HU : Hid (∀ k, U64 (num (l.drop k))) := fun k => num_u _ (byt_drop hb.2.1 k) (by rw [List.length_drop, hb.1]; omega)
  have HB : Hid (Bs w a len l) := hb
  clear hb
  have h0 : IntKind.i64.wrap ((len : Int) - 1) = (len : Int) - 1 := by rw [IntKind.wrap_i64]; omega
  go_enter Tryz.func87, Tryz.ntmps87
  go_wp2
  go_loopw [3, 4] (fun x i wr => ∃ k : Nat, k ≤ len ∧ x = .int .u64 (num (l.drop k)) ∧ i = .int .i64 ((k : Int) - 1) ∧ wr = w) (fun _ i _ => (intOf i + 1).toNat)
  case atStart => exact ⟨len, Nat.le_refl _, by rw [List.drop_of_length_le (by rw [HB.out.1]; exact Nat.le_refl _)]; rfl, by first | rfl | rw [h0], rfl⟩
  case round =>
    obtain ⟨k, hk, rfl, rfl, rfl⟩ := hrel
    clear h0
    cases k with
    | zero =>
      have hi1 : ¬ (0 : Int) ≤ ((0 : Nat) : Int) - 1 := by omega
      have HD : Hid (l.drop 0 = l) := rfl
      rw [HD.out]
      go_wp2
      go_ret
      exact ⟨rfl, rfl⟩
    | succ k =>
      obtain ⟨b, off, rfl, hc⟩ := HB.out.2.2 (by omega)
      have q0 := hc k (by omega)
      have HN : Hid (num (l.drop k) = l.getD k 0 + 256 * num (l.drop (k + 1))) := num_drop l k (by have := HB.out.1; omega)
      obtain ⟨u0, u1⟩ := HU.out k
      obtain ⟨v0, v1⟩ := HU.out (k + 1)
      have g0 := byt_get HB.out.2.1 k
      have HV : Hid (IntKind.u64.wrap (IntKind.u64.wrap (num (l.drop (k + 1)) * 256) + IntKind.u64.wrap (l.getD k 0)) = num (l.drop k)) := by
        unfold Hid
        have := HN.out
        simp only [IntKind.wrap_u64]
        omega
      have e1 : ((k + 1 : Nat) : Int) - 1 = (k : Int) := by omega
      rw [e1]
      clear hc u0 u1 v0 v1 g0 HN HU e1
      generalize num (l.drop (k + 1)) = x at *
      generalize l.getD k 0 = z at *
      have hkl : (k : Int) < (len : Int) := by omega
      go_wp2
      go_roundw
      case rel => exact ⟨k, by omega, by rw [HV.out], rfl, trivial⟩
      case measure => simp [intOf] <;> omega

end Go.Proofs.YtpojlfenmanehaaGreat.V

namespace Go.Proofs.YtpojlfenmanehaaGreat.V
open Go.RowKit

set_option linter.unusedSimpArgs false in
set_option maxHeartbeats 2000000 in
theorem refBytes_any (d : Da) (w : World) (hd : d.ok) :
    Calls Tryz.prog 88 #[d.val] w fun e w' => Below w.heap.size w w' ∧ ∃ v, e = .returned v ∧ w'.ownsRow w.heap.size 5 1 v 64 (cellsB d.enc) := by
  have HE : Hid (low d.n 4 ++ low d.a 4 ++ low d.p 8 ++ lowG d.g = d.enc) := ref_enc d hd
  have Z1 := blk_new w d.cells.toArray 41
  have Z5 : Below w.heap.size w (w.alloc (Obj.cells d.cells.toArray 41)) := (Below.refl _ _).alloc (Nat.le_refl _) _
  have ZS : (w.alloc (Obj.cells d.cells.toArray 41)).heap.size = w.heap.size + 1 := size_alloc' _ _
  have C0 : Hid (d.cells[0]? = some (.int .u32 d.n)) := rfl
  have C1 : Hid (d.cells[1]? = some (.int .u32 d.a)) := rfl
  have CG : Hid (∀ k, k < 6 → d.cells[3 + k]? = some (.int .u64 (d.g.getD k 0))) := by
    intro k hk
    have := hd.2.2.2.1
    rw [Nat.add_comm]
    simp [Da.cells, List.getElem?_eq_getElem (show k < d.g.length by omega)]
  have UG : Hid (∀ k, k < 6 → U64 (d.g.getD k 0)) := by
    intro k hk
    rw [List.getD_eq_getElem?_getD, List.getElem?_eq_getElem (show k < d.g.length by have := hd.2.2.2.1; omega)]
    exact hd.2.2.2.2 _ (List.getElem_mem _)
  have LG : Hid (∀ k, k < 6 → lowG (d.g.take (k + 1)) = lowG (d.g.take k) ++ low (d.g.getD k 0) 8) := fun k hk => lowG_take d.g k (by have := hd.2.2.2.1; omega)
  have LA : Hid (d.g.take 6 = d.g) := List.take_of_length_le (by rw [hd.2.2.2.1]; omega)
  have C2 : Hid (d.cells[2]? = some (.int .u64 d.p)) := rfl
  have UP : Hid (U64 d.p) := hd.2.2.1
  have wn : IntKind.u64.wrap d.n = d.n := by have := hd.1; unfold U32 at this; rw [IntKind.wrap_u64]; omega
  have wa : IntKind.u64.wrap d.a = d.a := by have := hd.2.1; unfold U32 at this; rw [IntKind.wrap_u64]; omega
  have UN : Hid (U64 d.n) := by have := hd.1; unfold U32 at this; unfold Hid U64; omega
  have UA : Hid (U64 d.a) := by have := hd.2.1; unfold U32 at this; unfold Hid U64; omega
  unfold Da.val
  clear hd
  generalize d.enc = en at *
  generalize d.cells = A at *
  obtain ⟨dn, da, dp, dg⟩ := d
  dsimp only at *
  have HL4 : Hid (∀ (x : Int) (W : World), U64 x → Calls Tryz.prog 118 #[.int .u64 x, .int .i64 4] W fun e w' => Below W.heap.size W w' ∧ ∃ v, e = .returned v ∧ w'.ownsRow W.heap.size 5 1 v 4 (cellsB (low x 4))) := fun x W h => low_any x 4 W h (by decide)
  have HL8 : Hid (∀ (x : Int) (W : World), U64 x → Calls Tryz.prog 118 #[.int .u64 x, .int .i64 8] W fun e w' => Below W.heap.size W w' ∧ ∃ v, e = .returned v ∧ w'.ownsRow W.heap.size 5 1 v 8 (cellsB (low x 8))) := fun x W h => low_any x 8 W h (by decide)
  go_enter Tryz.func88, Tryz.ntmps88
  go_wp2_with fail
  generalize w.alloc (Obj.cells A.toArray 41) = W0 at *
  have z1 : Hid (Blk W0 w.heap.size 41 A) := Z1
  have z5 : Hid (Below w.heap.size w W0) := Z5
  clear Z1 Z5
  go_cut [3] (fun v wc => wc.ownsRow (w.heap.size + 1) 5 1 v 8 (cellsB (low dn 4 ++ low da 4)) ∧ Blk wc w.heap.size 41 A ∧ Below w.heap.size w wc)
  case first =>
    refine wp_region_held_drew (S := (fun w' => Blk w' w.heap.size 41 A)) (by kernel_rfl) (z1.out.drew) (fun hHeld => ?_)
    simp only [List.size_toArray, List.length_cons, List.length_nil, Nat.reduceAdd]
    refine wpAnyH_take (i := 0) (v := ?_) rfl (by kernel_rfl) (by kernel_rfl) (by kernel_rfl) (fun _ _ _ h => h) (Or.inl ⟨by rfl, ?_⟩) hHeld ?_
    rotate_left
    · (intro w hSw; (try dsimp only at hSw); go_simp; try with_reducible rfl)
    try simp only [Act.put, List.setIfInBounds_toArray, List.set_cons_zero, List.set_cons_succ, List.getElem_toArray, List.getElem_cons_zero, List.getElem_cons_succ]
    refine wpAnyH_take (i := 1) (v := ?_) rfl (by kernel_rfl) (by kernel_rfl) (by kernel_rfl) (fun _ _ _ h => h) (Or.inl ⟨by rfl, ?_⟩) hHeld ?_
    rotate_left
    · (intro w hSw; (try dsimp only at hSw); have s0 := (hSw.cell 0).trans C0.out; go_simp; try with_reducible rfl)
    try simp only [Act.put, List.setIfInBounds_toArray, List.set_cons_zero, List.set_cons_succ, List.getElem_toArray, List.getElem_cons_zero, List.getElem_cons_succ]
    refine wpAnyH_take (i := 2) (v := ?_) rfl (by kernel_rfl) (by kernel_rfl) (by kernel_rfl) (fun _ _ _ h => h) (Or.inl ⟨by rfl, ?_⟩) hHeld ?_
    rotate_left
    · (intro w hSw; (try dsimp only at hSw); go_simp; try with_reducible rfl)
    try simp only [Act.put, List.setIfInBounds_toArray, List.set_cons_zero, List.set_cons_succ, List.getElem_toArray, List.getElem_cons_zero, List.getElem_cons_succ]
    refine wpAnyH_take (i := 4) (v := ?_) rfl (by kernel_rfl) (by kernel_rfl) (by kernel_rfl) (fun _ _ _ h => h) (Or.inl ⟨by rfl, ?_⟩) hHeld ?_
    rotate_left
    · (intro w hSw; (try dsimp only at hSw); go_simp; try with_reducible rfl)
    try simp only [Act.put, List.setIfInBounds_toArray, List.set_cons_zero, List.set_cons_succ, List.getElem_toArray, List.getElem_cons_zero, List.getElem_cons_succ]
    refine wpAnyH_take (i := 5) (v := ?_) rfl (by kernel_rfl) (by kernel_rfl) (by kernel_rfl) (fun _ _ _ h => h) (Or.inl ⟨by rfl, ?_⟩) hHeld ?_
    rotate_left
    · (intro w hSw; (try dsimp only at hSw); have s1 := (hSw.cell 1).trans C1.out; go_simp; try with_reducible rfl)
    try simp only [Act.put, List.setIfInBounds_toArray, List.set_cons_zero, List.set_cons_succ, List.getElem_toArray, List.getElem_cons_zero, List.getElem_cons_succ]
    refine wpAnyH_take (i := 6) (v := ?_) rfl (by kernel_rfl) (by kernel_rfl) (by kernel_rfl) (fun _ _ _ h => h) (Or.inl ⟨by rfl, ?_⟩) hHeld ?_
    rotate_left
    · (intro w hSw; (try dsimp only at hSw); go_simp; try with_reducible rfl)
    try simp only [Act.put, List.setIfInBounds_toArray, List.set_cons_zero, List.set_cons_succ, List.getElem_toArray, List.getElem_cons_zero, List.getElem_cons_succ]
    refine wpAnyH_ready (rs := [3]) (by kernel_rfl) (by simp) ?_
    refine AllReadyH.cons rfl (fun K hK => ?_) AllReadyH.nil
    go_simp
    refine (HL4.out _ _ UN.out).mono ?_
    rintro e w2 ⟨hb2, v2, rfl, ho2⟩
    have c2 := z5.out.drew.trans (hb2.mono z5.out.size)
    go_wp2_with fail
    refine hK.out _ _ (hHeld.over hb2) (fun hHeld => ?_)
    clear hK K
    try simp only [Act.put, List.setIfInBounds_toArray, List.set_cons_zero, List.set_cons_succ, List.getElem_toArray, List.getElem_cons_zero, List.getElem_cons_succ]
    refine wpAnyH_ready (rs := [7]) (by kernel_rfl) (by simp) ?_
    refine AllReadyH.cons rfl (fun K hK => ?_) AllReadyH.nil
    go_simp
    refine (HL4.out _ _ UA.out).mono ?_
    rintro e w3 ⟨hb3, v3, rfl, ho3⟩
    have c3 := c2.trans (hb3.mono c2.size)
    have ho2' := owns_below ho2 hb3 (Nat.le_refl _)
    obtain ⟨a3, cap3, rfl, bs3, _, hn3⟩ := owns_bs ho3 (low_byt _ _)
    go_wp2_with fail
    refine hK.out _ _ (hHeld.over hb3) (fun hHeld => ?_)
    clear hK K
    try simp only [Act.put, List.setIfInBounds_toArray, List.set_cons_zero, List.set_cons_succ, List.getElem_toArray, List.getElem_cons_zero, List.getElem_cons_succ]
    refine wpAnyH_ready (rs := [8]) (by kernel_rfl) (by simp) ?_
    refine AllReadyH.cons rfl (fun K hK => ?_) AllReadyH.nil
    refine step_append_bytes (by rfl) (.tmp 8) (.tmp 12) (by rfl) (w.heap.size + 1) _ 4 (low dn 4) (by rfl) (owns_lower ho2' (Nat.le_of_eq ZS.symm)) a3 4 cap3 (low da 4) (by rfl) hn3 bs3 (by decide) (by rw [← ZS]; exact Nat.le_trans hb2.size hb3.size) ?_
    intro v4 w4 ho4 hg4
    have c4 := c3.grown hg4 c3.size (owns_block (owns_lower ho2' z5.out.size))
    refine hK.out _ _ (hHeld.grown hg4 (own_ne ho2' (by show w.heap.size < W0.heap.size; rw [ZS]; omega))) (fun hHeld => ?_)
    clear hK K
    try simp only [Act.put, List.setIfInBounds_toArray, List.set_cons_zero, List.set_cons_succ, List.getElem_toArray, List.getElem_cons_zero, List.getElem_cons_succ]
    refine wpAnyH_take (i := 9) (v := ?_) rfl (by kernel_rfl) (by kernel_rfl) (by kernel_rfl) (fun _ _ _ h => h) (Or.inl ⟨by rfl, ?_⟩) hHeld ?_
    rotate_left
    · (intro w hSw; (try dsimp only at hSw); go_simp; try with_reducible rfl)
    try simp only [Act.put, List.setIfInBounds_toArray, List.set_cons_zero, List.set_cons_succ, List.getElem_toArray, List.getElem_cons_zero, List.getElem_cons_succ]
    refine wpAnyH_done (by kernel_rfl) ?_ _
    go_wp2_with fail
    go_meet
    exact ⟨ho4, hHeld, c4⟩
  case rest =>
    obtain ⟨ho, hA, hB⟩ := hcut
    have s2 := (hA.cell 2).trans C2.out
    have h1 : Hid (Blk wc w.heap.size 41 A) := hA
    have h2 : w.heap.size + 1 ≤ wc.heap.size := hA.lt
    clear z1 z5 ZS hA wn wa
    go_wp2_with (first | (go_at_call 118; refine (HL8.out _ _ UP.out).mono ?_; rintro e w2 ⟨hb2, v2, rfl, ho2⟩; have c2 := hB.trans (hb2.mono hB.size); have ho' := owns_below ho hb2 (Nat.le_refl _); have h3 := h1.out.over hb2; obtain ⟨a2, cap2, rfl, bs2, -, hn2⟩ := owns_bs ho2 (low_byt _ _)) | (at_builtin; refine append_bytes rfl (.tmp 14) (.tmp 17) rfl (w.heap.size + 1) _ 8 _ rfl ho' a2 8 cap2 (low dp 8) rfl hn2 bs2 (by decide) h3.lt ?_; intro v4 w4 ho4 hg4; have c4 := c2.grown hg4 c2.size (owns_block (owns_lower ho' (Nat.le_succ _))); have h4 := h3.grown hg4 (own_ne ho' (Nat.lt_succ_self _))))
    have ho5 : w4.ownsRow (w.heap.size + 1) 5 1 v4 (16 + 0 * 8) (cellsB (low dn 4 ++ low da 4 ++ low dp 8 ++ lowG (dg.take 0))) := by
      have : low dn 4 ++ low da 4 ++ low dp 8 ++ lowG (dg.take 0) = low dn 4 ++ low da 4 ++ low dp 8 := List.append_nil _
      rw [this]
      exact ho4
    clear ho ho' ho2 ho4 hg4 bs2 h3 h1 h2 c2 hb2 hB s2 hn2
    have HE2 : Hid (∀ k, k < 6 → low dn 4 ++ low da 4 ++ low dp 8 ++ lowG (dg.take (k + 1)) = low dn 4 ++ low da 4 ++ low dp 8 ++ lowG (dg.take k) ++ low (dg.getD k 0) 8) := by
      intro k hk
      rw [LG.out k hk, ← List.append_assoc]
    have HE3 : Hid (low dn 4 ++ low da 4 ++ low dp 8 ++ lowG (dg.take 6) = en) := by
      unfold Hid
      rw [LA.out]
      exact HE.out
    generalize low dn 4 ++ low da 4 ++ low dp 8 = P0 at *
    clear HL4 LG LA HE UN UA UP C0 C1 C2
    go_loopw [3, 4] (fun v i wr => ∃ k : Nat, k ≤ 6 ∧ i = .int .i64 k ∧ wr.ownsRow (w.heap.size + 1) 5 1 v (16 + k * 8) (cellsB (P0 ++ lowG (dg.take k))) ∧ Blk wr w.heap.size 41 A ∧ Below w.heap.size w wr) (fun _ i _ => 6 - (intOf i).toNat)
    case atStart => exact ⟨0, by decide, rfl, ho5, h4, c4⟩
    case round =>
      obtain ⟨k, hk, rfl, ho, hA, hB⟩ := hrel
      clear ho5 h4 c4
      by_cases hlt : k < 6
      · have s2 := (hA.cell (3 + k)).trans (CG.out k hlt)
        have HU : Hid (U64 (dg.getD k 0)) := UG.out k hlt
        have HN : Hid (P0 ++ lowG (dg.take (k + 1)) = P0 ++ lowG (dg.take k) ++ low (dg.getD k 0) 8) := HE2.out k hlt
        have h1 : Hid (Blk wr w.heap.size 41 A) := hA
        have h2 : w.heap.size + 1 ≤ wr.heap.size := hA.lt
        clear hA
        generalize dg.getD k 0 = x at *
        generalize P0 ++ lowG (dg.take k) = P1 at *
        have hi1 : (k : Int) < 6 := by omega
        go_wp2_with (first | (go_at_call 118; refine (HL8.out _ _ HU.out).mono ?_; rintro e w2 ⟨hb2, v2, rfl, ho2⟩; have c2 := hB.trans (hb2.mono hB.size); have ho' := owns_below ho hb2 (Nat.le_refl _); have h3 := h1.out.over hb2; obtain ⟨a2, cap2, rfl, bs2, -, hn2⟩ := owns_bs ho2 (low_byt _ _)) | (at_builtin; refine append_bytes rfl (.tmp 23) (.tmp 28) rfl (w.heap.size + 1) _ (16 + k * 8) _ rfl ho' a2 8 cap2 (low x 8) rfl hn2 bs2 (by omega) h3.lt ?_; intro v4 w4 ho4 hg4; have c4 := c2.grown hg4 c2.size (owns_block (owns_lower ho' (Nat.le_succ _))); have h4 := h3.grown hg4 (own_ne ho' (Nat.lt_succ_self _))))
        go_roundw
        case rel =>
          refine ⟨k + 1, by omega, by go_num, ?_, h4, c4⟩
          rw [HN.out, show 16 + (k + 1) * 8 = 16 + k * 8 + 8 by omega]
          exact ho4
        case measure => simp [intOf]; omega
      · have hi1 : ¬ (k : Int) < 6 := by omega
        obtain ⟨e1, e2⟩ : 16 + k * 8 = 64 ∧ P0 ++ lowG (dg.take k) = en := by
          obtain rfl : k = 6 := by omega
          exact ⟨rfl, HE3.out⟩
        rw [e1, e2] at ho
        clear e1 e2 hlt hk
        go_wp2
        go_ret
        exact ⟨hB, _, rfl, owns_lower ho (Nat.le_succ _)⟩

end Go.Proofs.YtpojlfenmanehaaGreat.V

namespace Go.Proofs.YtpojlfenmanehaaGreat.V
open Go.RowKit

set_option maxHeartbeats 400000 in
theorem refLoad_any (d : Da) (m : Int) (w : World) (hd : d.ok) (hm : U32 m) :
    Calls Tryz.prog 50 #[d.val, .int .u32 m] w fun e w' => e = .returned (.tuple #[.int .u32 (ldv d m), .int .i64 (lde m)]) ∧ Below w.heap.size w w' := by
  have hk2 : Hid (Below w.heap.size w (w.alloc (Obj.cells d.cells.toArray 41))) := (Below.refl _ _).alloc (Nat.le_refl _) _
  by_cases hc : m % 4 = 0 ∧ m < 64
  · have HC : Hid ((Tryz.prog.info? 41).map (·.size) = some d.cells.toArray.size) := by unfold Hid; rw [Tryz.size41]; simp [d.cells_len hd]
    have HS : Hid (∀ W : World, Calls Tryz.prog 88 #[.agg d.cells.toArray] W fun e w' => Below W.heap.size W w' ∧ ∃ v, e = .returned v ∧ w'.ownsRow W.heap.size 5 1 v 64 (cellsB d.enc)) := fun W => refBytes_any d W hd
    have HB : Hid (Byt d.enc) := enc_byt d hd
    have HN : Hid (∀ (b off cap : Nat) (l : List Int) (W : World), Bs W (some ⟨b, off, none⟩) 4 l → Calls Tryz.prog 87 #[.slice (some ⟨b, off, none⟩) 4 cap] W fun e w' => e = .returned (.int .u64 (num l)) ∧ w' = W) := fun b off cap l W h => number_any _ 4 cap l W h (by decide)
    obtain ⟨h0, h1⟩ := hm
    obtain ⟨j, hj, rfl⟩ : ∃ j : Nat, j < 16 ∧ m = ((4 * j : Nat) : Int) := ⟨(m / 4).toNat, by omega, by omega⟩
    obtain ⟨e1, e2⟩ := ld_in d j hj
    rw [e1, e2]
    have HW : Hid (num ((d.enc.drop (4 * j)).take 4) = d.words.getD j 0) := by
      unfold Hid
      rw [num_four _ (by rw [List.length_drop, enc_len d hd]; omega), Nat.mul_comm]
      exact word_at d hd j hj
    have HV : Hid (d.words.getD j 0 % 4294967296 = d.words.getD j 0) := by
      have := getD_u (words_u d hd) j
      unfold U32 at this
      unfold Hid
      omega
    have hr : Int.tmod ((4 * j : Nat) : Int) 4 = 0 := by rw [Int.tmod_eq_emod_of_nonneg (by omega)]; omega
    have hlt : ¬ (64 : Int) ≤ ((4 * j : Nat) : Int) := by omega
    have hB : Hid (Blk (w.alloc (Obj.cells d.cells.toArray 41)) w.heap.size 41 d.cells.toArray.toList) := blk_new w _ 41
    have hw4 : IntKind.u32.wrap (((4 * j : Nat) : Int) + 4) = ((4 * j + 4 : Nat) : Int) := by rw [IntKind.wrap_u32]; omega
    have hj4 : 4 * j + 4 ≤ 64 := by omega
    clear e1 e2 hc h0 h1 hd hj
    unfold Da.val
    generalize d.words.getD j 0 = x at *
    generalize d.cells.toArray = A at *
    generalize d.enc = en at *
    generalize 4 * j = M at *
    go_enter Tryz.func50, Tryz.ntmps50
    go_wp2_with (first | (refine wpList_load_row rfl 41 (.tmp 2) rfl w.heap.size rfl 41 A (0, 0) _ hB.out Tryz.underlying41 rfl HC.out ?_) | (go_at_call 88; refine (HS.out _).mono ?_; rintro e w2 ⟨hb2, v2, rfl, ho2⟩; obtain ⟨a2, cap2, rfl, bs2, hcap, -⟩ := owns_bs ho2 HB.out; obtain ⟨b, off, rfl, -⟩ := bs2.2.2 (by decide); have hcm : M + 4 ≤ cap2 := by omega) | (go_at_call 87; refine (HN.out _ _ _ _ _ (bs2.sub M 4 (by omega))).mono ?_; rintro e w3 ⟨rfl, rfl⟩))
    go_ret2
    rw [HW.out, HV.out]
    exact ⟨rfl, hk2.out.trans (hb2.mono hk2.out.size)⟩
  · obtain ⟨e1, e2⟩ := ld_out d m hc
    rw [e1, e2]
    obtain ⟨h0, h1⟩ := hm
    clear e1 e2 hd
    unfold Da.val
    generalize d.cells.toArray = A at *
    by_cases h4 : m % 4 = 0
    · have hr : Int.tmod m 4 = 0 := by rw [Int.tmod_eq_emod_of_nonneg (by omega)]; omega
      have hlt : (64 : Int) ≤ m := by omega
      clear hc h4 h0 h1
      go_enter Tryz.func50, Tryz.ntmps50
      go_wp2
      go_ret2
      exact ⟨rfl, hk2.out⟩
    · have hr : ¬ Int.tmod m 4 = 0 := by rw [Int.tmod_eq_emod_of_nonneg (by omega)]; omega
      clear hc h4 h0 h1
      go_enter Tryz.func50, Tryz.ntmps50
      go_wp2
      go_ret2
      exact ⟨rfl, hk2.out⟩

end Go.Proofs.YtpojlfenmanehaaGreat.V

namespace Go.Proofs.YtpojlfenmanehaaGreat.V
open Go.RowKit

/-- a number by so many bits, one by one. -/
def shV (l : Bool) (a : Int) (k : Nat) : Int := if l = true then (a * 2 ^ k) % 4294967296 else a / 2 ^ k

theorem shV_zero (l : Bool) (a : Int) (ha : U32 a) : shV l a 0 = a := by
  unfold shV U32 at *
  cases l <;> simp
  omega

theorem shV_left (a : Int) (k : Nat) : (shV true a k * 2) % 4294967296 = shV true a (k + 1) := by
  unfold shV
  rw [if_pos rfl, if_pos rfl, Int.pow_succ, ← Int.mul_assoc]
  omega

theorem shV_right (a : Int) (k : Nat) : shV false a k / 2 = shV false a (k + 1) := by
  unfold shV
  rw [if_neg (by decide), if_neg (by decide), Int.pow_succ, Int.ediv_ediv_of_nonneg (Int.pow_nonneg (by decide))]

theorem shV_u (l : Bool) (a : Int) (k : Nat) (ha : U32 a) : U32 (shV l a k) := by
  unfold shV U32 at *
  cases l
  · rw [if_neg (by decide)]
    have h1 : (0 : Int) ≤ a / 2 ^ k := Int.ediv_nonneg ha.1 (Int.pow_nonneg (by decide))
    have h2 : a / 2 ^ k ≤ a := Int.ediv_le_self _ ha.1
    omega
  · rw [if_pos rfl]
    omega

set_option maxHeartbeats 400000 in
theorem shift_any (a n : Int) (l : Bool) (w : World) (ha : U32 a) (hn : U32 n) : Calls Tryz.prog 89 #[.int .u32 a, .int .u32 n, .bool l] w fun e w' => e = .returned (.int .u32 (shV l a (n % 32).toNat)) ∧ w' = w := by
  obtain ⟨n0, n1⟩ := hn
  have HZ : Hid (shV l a 0 = a) := shV_zero l a ha
  have HU : Hid (∀ k, U32 (shV l a k)) := fun k => shV_u l a k ha
  have HL : Hid (∀ k, (shV true a k * 2) % 4294967296 = shV true a (k + 1)) := shV_left a
  have HR : Hid (∀ k, shV false a k / 2 = shV false a (k + 1)) := shV_right a
  obtain ⟨m, hm⟩ : ∃ m : Nat, m = (n % 32).toNat := ⟨_, rfl⟩
  have hm32 : m < 32 := by omega
  have hr : Int.tmod n 32 = (m : Int) := by rw [Int.tmod_eq_emod_of_nonneg n0]; omega
  rw [← hm]
  clear hm ha
  go_enter Tryz.func89, Tryz.ntmps89
  go_wp2
  go_loop [0, 7] (fun v i => ∃ k : Nat, k ≤ m ∧ i = .int .u32 k ∧ v = .int .u32 (shV l a k)) (fun _ i => m - (intOf i).toNat)
  case atStart => exact ⟨0, Nat.zero_le _, rfl, by rw [HZ.out]⟩
  case round =>
    obtain ⟨k, hk, rfl, rfl⟩ := hrel
    by_cases hlt : k < m
    · have hlt2 : (k : Int) < (m : Int) := by omega
      cases l with
      | true =>
        go_wp2
        go_round
        case rel => exact ⟨k + 1, by omega, by go_num, by rw [HL.out]⟩
        case measure => simp [intOf] <;> omega
      | false =>
        have hu := HU.out k
        unfold U32 at hu
        have hq : (shV false a k).tdiv 2 % 4294967296 = shV false a (k + 1) := by
          rw [Int.tdiv_eq_ediv_of_nonneg hu.1, ← HR.out]
          omega
        clear hu
        go_wp2
        go_round
        case rel => exact ⟨k + 1, by omega, by go_num, by rw [hq]⟩
        case measure => simp [intOf] <;> omega
    · obtain rfl : k = m := by omega
      have hlt2 : ¬ (k : Int) < (k : Int) := by omega
      go_wp2
      go_ret
      exact ⟨rfl, rfl⟩

set_option maxHeartbeats 800000 in
theorem refReckon_any (c a n : Int) (w : World) (ha : U32 a) (hn : U32 n) (hz : (c == 52) = true → ¬ n = 0) (hc : isIn compL c = true) : Calls Tryz.prog 52 #[.int .u16 c, .int .u32 a, .int .u32 n] w fun e w' => e = .returned (.int .u32 (reckV c a n)) ∧ w' = w := by
  have HS : Hid (∀ (l : Bool) (W : World), Calls Tryz.prog 89 #[.int .u32 a, .int .u32 n, .bool l] W fun e w' => e = .returned (.int .u32 (shV l a (n % 32).toNat)) ∧ w' = W) := fun l W => shift_any a n l W ha hn
  have HC : Hid (isIn compL c = true) := hc
  clear hc
  obtain ⟨a0, a1⟩ := ha
  obtain ⟨n0, n1⟩ := hn
  have hq : a.tdiv n % 4294967296 = a / n := by
    rw [Int.tdiv_eq_ediv_of_nonneg a0]
    have h1 : 0 ≤ a / n := Int.ediv_nonneg a0 n0
    have h2 : a / n ≤ a := Int.ediv_le_self n a0
    omega
  go_enter Tryz.func52, Tryz.ntmps52
  go_wp2_with (go_at_call 89; refine (HS.out _ _).mono ?_; rintro e w2 ⟨rfl, rfl⟩)
  all_goals (go_ret; refine ⟨ret_int ?_, rfl⟩; have hk := HC.out; clear HS HC; simp [reckV, shV, compL, isIn_cons, isIn_nil, *] at hk ⊢ <;> (intro h; simp_all))

end Go.Proofs.YtpojlfenmanehaaGreat.V

namespace Go.Proofs.YtpojlfenmanehaaGreat.V
open Go.RowKit

/-- the cells of a state. -/
def rcells (p st : Int) (s : St) (ov : Bool) : List Value :=
  [.int .i64 p, .int .i64 st, .int .u32 s.a, .int .u32 s.x, .int .u32 (s.c 0), .int .u32 (s.c 1), .int .u32 (s.c 2), .int .u32 (s.c 3), .int .u32 (s.c 4), .int .u32 (s.c 5), .int .u32 (s.c 6), .int .u32 (s.c 7), .int .u32 (s.c 8), .int .u32 (s.c 9), .int .u32 (s.c 10), .int .u32 (s.c 11), .int .u32 (s.c 12), .int .u32 (s.c 13), .int .u32 (s.c 14), .int .u32 (s.c 15), .bool ov, .int .u32 s.ans]

theorem rcells_len (p st : Int) (s : St) (ov : Bool) : (rcells p st s ov).length = 22 := rfl
theorem rcells_one (p st : Int) (s : St) (ov : Bool) : (rcells p st s ov).toArray.all (·.oneCell') = true := by simp [rcells, Value.oneCell']
theorem rcells_c (p st : Int) (s : St) (ov : Bool) (k : Nat) (hk : k < 16) : (rcells p st s ov)[4 + k]? = some (.int .u32 (s.c k)) := by
  match k, hk with
  | 0, _ | 1, _ | 2, _ | 3, _ | 4, _ | 5, _ | 6, _ | 7, _ | 8, _ | 9, _ | 10, _ | 11, _ | 12, _ | 13, _ | 14, _ | 15, _ => rfl
  | n + 16, h => omega
theorem rcells_put (p st : Int) (s : St) (ov : Bool) (k : Nat) (v : Int) (hk : k < 16) : (rcells p st s ov).set (4 + k) (.int .u32 v) = rcells p st { s with c := putC s.c k v } ov := by
  match k, hk with
  | 0, _ | 1, _ | 2, _ | 3, _ | 4, _ | 5, _ | 6, _ | 7, _ | 8, _ | 9, _ | 10, _ | 11, _ | 12, _ | 13, _ | 14, _ | 15, _ => rfl
  | n + 16, h => omega

theorem Tryz.size67 : (Tryz.prog.info? 67).map (·.size) = some 22 := by kernel_rfl

/-- a state in a block of its own. -/
def RB (w : World) (b : Nat) (p st : Int) (s : St) (ov : Bool) : Prop := Blk w b 67 (rcells p st s ov)

section
variable {w : World} {b : Nat} {p st : Int} {s : St} {ov : Bool}
theorem RB.setAt (h : RB w b p st s ov) (v : Int) : RB (w.setCell ⟨b, 0, none⟩ (.int .i64 v)) b v st s ov := h.set 0 _
theorem RB.setSteps (h : RB w b p st s ov) (v : Int) : RB (w.setCell ⟨b, 1, none⟩ (.int .i64 v)) b p v s ov := h.set 1 _
theorem RB.setA (h : RB w b p st s ov) (v : Int) : RB (w.setCell ⟨b, 2, none⟩ (.int .u32 v)) b p st { s with a := v } ov := h.set 2 _
theorem RB.setX (h : RB w b p st s ov) (v : Int) : RB (w.setCell ⟨b, 3, none⟩ (.int .u32 v)) b p st { s with x := v } ov := h.set 3 _
theorem RB.setOver (h : RB w b p st s ov) (v : Bool) : RB (w.setCell ⟨b, 20, none⟩ (.bool v)) b p st s v := h.set 20 _
theorem RB.setAns (h : RB w b p st s ov) (v : Int) : RB (w.setCell ⟨b, 21, none⟩ (.int .u32 v)) b p st { s with ans := v } ov := h.set 21 _
theorem RB.setC (h : RB w b p st s ov) (k : Nat) (hk : k < 16) (v : Int) : RB (w.setCell ⟨b, 4 + k, none⟩ (.int .u32 v)) b p st { s with c := putC s.c k v } ov := by
  have := h.set (4 + k) (.int .u32 v)
  rw [rcells_put p st s ov k v hk] at this
  exact this
end

end Go.Proofs.YtpojlfenmanehaaGreat.V

namespace Go.Proofs.YtpojlfenmanehaaGreat.V
open Go.RowKit
set_option linter.unusedVariables false


/-- a world may be named anew. -/
theorem switch_world {P : Program} {ops : Array Oper} {Q : Exit → Act → World → Prop} {l : List Oper} {a : Act} {w X : World} (hw : w = X) (h : wpList P ops Q l a X) : wpList P ops Q l a w := hw ▸ h

/-- the operation that comes next. -/
theorem at_op {P : Program} {ops : Array Oper} {Q : Exit → Act → World → Prop} {rest : List Oper} {o : Oper} {a : Act} {w : World} (op : Op) (_ho : o.op = op) (h : wpList P ops Q (o :: rest) a w) : wpList P ops Q (o :: rest) a w := h

theorem r55 {p st : Int} {s : St} {ov : Bool} : (Tryz.prog.info? 67).map (·.size) = some (rcells p st s ov).toArray.size := Tryz.size67

/-- behind the first three blocks. -/
structure Three (w : World) (d : Da) (L : Array Value) (X : World) : Prop where
  bw : Below w.heap.size w X
  sz : X.heap.size = w.heap.size + 1 + 1 + 1
  rd : Blk X w.heap.size 41 d.cells
  rb : Blk X (w.heap.size + 1) 67 L.toList
  rz : Blk X (w.heap.size + 1 + 1) 67 [.int .i64 0, .int .i64 0, .int .u32 0, .int .u32 0, .int .u32 0, .int .u32 0, .int .u32 0, .int .u32 0, .int .u32 0, .int .u32 0, .int .u32 0, .int .u32 0, .int .u32 0, .int .u32 0, .int .u32 0, .int .u32 0, .int .u32 0, .int .u32 0, .int .u32 0, .int .u32 0, .bool false, .int .u32 0]

theorem step_open (w : World) (d : Da) (L : Array Value) : ∃ X, Hid ((((w.alloc (Obj.cells d.cells.toArray 41)).alloc (Obj.cells L 67)).alloc (Obj.cells #[.int .i64 0, .int .i64 0, .int .u32 0, .int .u32 0, .int .u32 0, .int .u32 0, .int .u32 0, .int .u32 0, .int .u32 0, .int .u32 0, .int .u32 0, .int .u32 0, .int .u32 0, .int .u32 0, .int .u32 0, .int .u32 0, .int .u32 0, .int .u32 0, .int .u32 0, .int .u32 0, .bool false, .int .u32 0] 67)) = X) ∧ Three w d L X := by
  refine ⟨_, rfl, ?_⟩
  have b1 := below_new w (Obj.cells d.cells.toArray 41)
  have b2 := b1.alloc b1.size (Obj.cells L 67)
  have b3 := b2.alloc b2.size (Obj.cells #[.int .i64 0, .int .i64 0, .int .u32 0, .int .u32 0, .int .u32 0, .int .u32 0, .int .u32 0, .int .u32 0, .int .u32 0, .int .u32 0, .int .u32 0, .int .u32 0, .int .u32 0, .int .u32 0, .int .u32 0, .int .u32 0, .int .u32 0, .int .u32 0, .int .u32 0, .int .u32 0, .bool false, .int .u32 0] 67)
  have hz := blk_new ((w.alloc (Obj.cells d.cells.toArray 41)).alloc (Obj.cells L 67)) #[.int .i64 0, .int .i64 0, .int .u32 0, .int .u32 0, .int .u32 0, .int .u32 0, .int .u32 0, .int .u32 0, .int .u32 0, .int .u32 0, .int .u32 0, .int .u32 0, .int .u32 0, .int .u32 0, .int .u32 0, .int .u32 0, .int .u32 0, .int .u32 0, .int .u32 0, .int .u32 0, .bool false, .int .u32 0] 67
  rw [size_alloc', size_alloc'] at hz
  exact ⟨b3, by rw [size_alloc', size_alloc', size_alloc'], ((blk_new w d.cells.toArray 41).alloc _).alloc _, (blk_new' w _ L 67).alloc _, hz⟩

/-- behind the instruction's copy. -/
structure Park (w : World) (d : Da) (X Y : World) (x : In) (p st : Int) (s : St) : Prop where
  bw : Below w.heap.size w Y
  rd : Blk Y w.heap.size 41 d.cells
  rb : RB Y (w.heap.size + 1) p st s false
  rz : Blk Y (w.heap.size + 1 + 1) 67 [.int .i64 0, .int .i64 0, .int .u32 0, .int .u32 0, .int .u32 0, .int .u32 0, .int .u32 0, .int .u32 0, .int .u32 0, .int .u32 0, .int .u32 0, .int .u32 0, .int .u32 0, .int .u32 0, .int .u32 0, .int .u32 0, .int .u32 0, .int .u32 0, .int .u32 0, .int .u32 0, .bool false, .int .u32 0]
  ci : In.at x Y X.heap.size 0

theorem step_park {w X Y : World} {d : Da} {x : In} {p st : Int} {s : St} (h : Three w d (rcells p st s false).toArray X) (hY : X.alloc (Obj.cells #[.int .u16 x.c, .int .u8 x.t, .int .u8 x.f, .int .u32 x.k] 78) = Y) : Park w d X Y x p st s := by
  subst hY
  exact ⟨h.bw.alloc h.bw.size _, h.rd.alloc _, Blk.alloc h.rb _, h.rz.alloc _, at_new X x⟩

/-- behind a call. -/
structure Parked (w w2 : World) (p st : Int) (s : St) : Prop where
  bw : Below w.heap.size w w2
  rb : RB w2 (w.heap.size + 1) p st s false
  rz : Blk w2 (w.heap.size + 1 + 1) 67 [.int .i64 0, .int .i64 0, .int .u32 0, .int .u32 0, .int .u32 0, .int .u32 0, .int .u32 0, .int .u32 0, .int .u32 0, .int .u32 0, .int .u32 0, .int .u32 0, .int .u32 0, .int .u32 0, .int .u32 0, .int .u32 0, .int .u32 0, .int .u32 0, .int .u32 0, .int .u32 0, .bool false, .int .u32 0]

theorem park_over {w X Y w2 : World} {d : Da} {x : In} {p st p' st' : Int} {s : St} (h : Park w d X Y x p st s) (hb : Below ((Y.setCell ⟨w.heap.size + 1, 0, none⟩ (.int .i64 p')).setCell ⟨w.heap.size + 1, 1, none⟩ (.int .i64 st')).heap.size ((Y.setCell ⟨w.heap.size + 1, 0, none⟩ (.int .i64 p')).setCell ⟨w.heap.size + 1, 1, none⟩ (.int .i64 st')) w2) : Parked w w2 p' st' s := by
  have r1 := (h.rb.setAt p').setSteps st'
  have r2 := (h.rz.other ⟨w.heap.size + 1, 0, none⟩ (.int .i64 p') (by show w.heap.size + 1 + 1 ≠ w.heap.size + 1; omega)).other ⟨w.heap.size + 1, 1, none⟩ (.int .i64 st') (by show w.heap.size + 1 + 1 ≠ w.heap.size + 1; omega)
  have r3 := (h.bw.setCell (p := ⟨w.heap.size + 1, 0, none⟩) (by show w.heap.size ≤ w.heap.size + 1; omega) (.int .i64 p')).setCell (p := ⟨w.heap.size + 1, 1, none⟩) (by show w.heap.size ≤ w.heap.size + 1; omega) (.int .i64 st')
  exact ⟨r3.trans (hb.mono r3.size), Blk.over r1 hb, r2.over hb⟩

end Go.Proofs.YtpojlfenmanehaaGreat.V

namespace Go.Proofs.YtpojlfenmanehaaGreat.V
open Go.RowKit
set_option linter.unusedVariables false

set_option maxRecDepth 8000 in
set_option maxHeartbeats 4000000 in
theorem step_0 (t f k : Int) (p st len cap ib off : Nat) (s : St) (d : Da) (w : World) (hd : d.ok) (hp : p < len) (hlen : len ≤ 4096) (hst : st ≤ 4096) (hat : In.at ⟨0, t, f, k⟩ w ib (off + p * 4)) :
    Calls Tryz.prog 28 #[.slice (some ⟨ib, off, none⟩) len cap, d.val, .agg (rcells p st s false).toArray] w fun e w' => e = .returned (.agg (rcells (p + 1) (st + 1) { s with a := k } false).toArray) ∧ Below w.heap.size w w' := by
  have b8 : bits .and .u16 0 8 = 0 := by kernel_rfl
  have b7 : bits .and .u16 0 7 = 0 := by kernel_rfl
  unfold Da.val
  obtain ⟨X, HX, hX⟩ := step_open w d (rcells p st s false).toArray
  obtain ⟨q1, q2, q3, q4⟩ := hat.below hX.bw
  obtain ⟨Y, HY⟩ : ∃ Y, Hid (X.alloc (Obj.cells #[.int .u16 0, .int .u8 t, .int .u8 f, .int .u32 k] 78) = Y) := ⟨_, rfl⟩
  have hP : Park w d X Y ⟨0, t, f, k⟩ p st s := step_park hX HY.out
  have HP : Hid (Park w d X Y ⟨0, t, f, k⟩ p st s) := hP
  obtain ⟨i1, i2, i3, i4⟩ := hP.ci
  have c0 : X.cell? ⟨w.heap.size + 1, 0, none⟩ = some (.int .i64 p) := Blk.cell hX.rb 0
  have e0 : Y.cell? ⟨w.heap.size + 1, 0, none⟩ = some (.int .i64 p) := Blk.cell hP.rb 0
  have e1 : Y.cell? ⟨w.heap.size + 1, 1, none⟩ = some (.int .i64 st) := Blk.cell hP.rb 1
  have e2 : Y.cell? ⟨w.heap.size + 1, 2, none⟩ = some (.int .u32 s.a) := Blk.cell hP.rb 2
  have e3 : Y.cell? ⟨w.heap.size + 1, 3, none⟩ = some (.int .u32 s.x) := Blk.cell hP.rb 3
  have e20 : Y.cell? ⟨w.heap.size + 1, 20, none⟩ = some (.bool false) := Blk.cell hP.rb 20
  have e21 : Y.cell? ⟨w.heap.size + 1, 21, none⟩ = some (.int .u32 s.ans) := Blk.cell hP.rb 21
  have f0 : ∀ i, Y.frozen? ⟨w.heap.size + 1, i, none⟩ = false := fun i => Blk.f hP.rb i
  have n1 : X.heap.size ≠ w.heap.size + 1 := by have := hX.sz; omega
  have n2 : w.heap.size + 1 ≠ X.heap.size := fun h => n1 h.symm
  have hi1 : (p : Int) < (len : Int) := by omega
  clear hat hX hP hd
  generalize hL : (rcells p st s false).toArray = L at HX ⊢
  clear hL
  go_enter Tryz.func28, Tryz.ntmps28
  go_wp2_with (first | (refine switch_world HX.out ?_) | (refine switch_world HY.out ?_) | (refine at_op (.load 67 (.tmp 5)) rfl ?_; refine wpList_load_row rfl 67 (.tmp 5) rfl (w.heap.size + 1) rfl 67 (rcells (p + 1) (st + 1) { s with a := k } false).toArray (0, 0) _ (((HP.out.rb.setAt _).setSteps _).setA _) Tryz.underlying67 rfl r55 ?_) | (refine at_op (.store 67 (.tmp 6) (.tmp 176)) rfl ?_; refine wpList_store_row rfl 67 (.tmp 6) (.tmp 176) rfl (w.heap.size + 1 + 1) (rcells (p + 1) (st + 1) { s with a := k } false).toArray rfl rfl 67 _ (((HP.out.rz.other _ _ (by show w.heap.size + 1 + 1 ≠ w.heap.size + 1; omega)).other _ _ (by show w.heap.size + 1 + 1 ≠ w.heap.size + 1; omega)).other _ _ (by show w.heap.size + 1 + 1 ≠ w.heap.size + 1; omega)) r55 rfl (rcells_one _ _ _ _) ?_))
  refine bodyPost_ret (v := .agg (rcells (p + 1) (st + 1) { s with a := k } false).toArray) ?_ rfl ⟨rfl, ?_⟩
  · exact results_cell_row Tryz.results28 _ _ (w.heap.size + 1 + 1) 67 (rcells (p + 1) (st + 1) { s with a := k } false).toArray (0, 0) _ rfl (Blk.row (((HP.out.rz.other _ _ (by show w.heap.size + 1 + 1 ≠ w.heap.size + 1; omega)).other _ _ (by show w.heap.size + 1 + 1 ≠ w.heap.size + 1; omega)).other _ _ (by show w.heap.size + 1 + 1 ≠ w.heap.size + 1; omega)) _) Tryz.underlying67 rfl r55
  · exact below_setRow (((HP.out.bw.setCell (by show w.heap.size ≤ w.heap.size + 1; omega) _).setCell (by show w.heap.size ≤ w.heap.size + 1; omega) _).setCell (by show w.heap.size ≤ w.heap.size + 1; omega) _) (show w.heap.size ≤ w.heap.size + 1 + 1 by omega) _

set_option maxRecDepth 8000 in
set_option maxHeartbeats 4000000 in
theorem step_1 (t f k : Int) (p st len cap ib off : Nat) (s : St) (d : Da) (w : World) (hd : d.ok) (hp : p < len) (hlen : len ≤ 4096) (hst : st ≤ 4096) (hat : In.at ⟨1, t, f, k⟩ w ib (off + p * 4)) :
    Calls Tryz.prog 28 #[.slice (some ⟨ib, off, none⟩) len cap, d.val, .agg (rcells p st s false).toArray] w fun e w' => e = .returned (.agg (rcells (p + 1) (st + 1) { s with x := k } false).toArray) ∧ Below w.heap.size w w' := by
  have b8 : bits .and .u16 1 8 = 0 := by kernel_rfl
  have b7 : bits .and .u16 1 7 = 1 := by kernel_rfl
  unfold Da.val
  obtain ⟨X, HX, hX⟩ := step_open w d (rcells p st s false).toArray
  obtain ⟨q1, q2, q3, q4⟩ := hat.below hX.bw
  obtain ⟨Y, HY⟩ : ∃ Y, Hid (X.alloc (Obj.cells #[.int .u16 1, .int .u8 t, .int .u8 f, .int .u32 k] 78) = Y) := ⟨_, rfl⟩
  have hP : Park w d X Y ⟨1, t, f, k⟩ p st s := step_park hX HY.out
  have HP : Hid (Park w d X Y ⟨1, t, f, k⟩ p st s) := hP
  obtain ⟨i1, i2, i3, i4⟩ := hP.ci
  have c0 : X.cell? ⟨w.heap.size + 1, 0, none⟩ = some (.int .i64 p) := Blk.cell hX.rb 0
  have e0 : Y.cell? ⟨w.heap.size + 1, 0, none⟩ = some (.int .i64 p) := Blk.cell hP.rb 0
  have e1 : Y.cell? ⟨w.heap.size + 1, 1, none⟩ = some (.int .i64 st) := Blk.cell hP.rb 1
  have e2 : Y.cell? ⟨w.heap.size + 1, 2, none⟩ = some (.int .u32 s.a) := Blk.cell hP.rb 2
  have e3 : Y.cell? ⟨w.heap.size + 1, 3, none⟩ = some (.int .u32 s.x) := Blk.cell hP.rb 3
  have e20 : Y.cell? ⟨w.heap.size + 1, 20, none⟩ = some (.bool false) := Blk.cell hP.rb 20
  have e21 : Y.cell? ⟨w.heap.size + 1, 21, none⟩ = some (.int .u32 s.ans) := Blk.cell hP.rb 21
  have f0 : ∀ i, Y.frozen? ⟨w.heap.size + 1, i, none⟩ = false := fun i => Blk.f hP.rb i
  have n1 : X.heap.size ≠ w.heap.size + 1 := by have := hX.sz; omega
  have n2 : w.heap.size + 1 ≠ X.heap.size := fun h => n1 h.symm
  have hi1 : (p : Int) < (len : Int) := by omega
  clear hat hX hP hd
  generalize hL : (rcells p st s false).toArray = L at HX ⊢
  clear hL
  go_enter Tryz.func28, Tryz.ntmps28
  go_wp2_with (first | (refine switch_world HX.out ?_) | (refine switch_world HY.out ?_) | (refine at_op (.load 67 (.tmp 5)) rfl ?_; refine wpList_load_row rfl 67 (.tmp 5) rfl (w.heap.size + 1) rfl 67 (rcells (p + 1) (st + 1) { s with x := k } false).toArray (0, 0) _ (((HP.out.rb.setAt _).setSteps _).setX _) Tryz.underlying67 rfl r55 ?_) | (refine at_op (.store 67 (.tmp 6) (.tmp 176)) rfl ?_; refine wpList_store_row rfl 67 (.tmp 6) (.tmp 176) rfl (w.heap.size + 1 + 1) (rcells (p + 1) (st + 1) { s with x := k } false).toArray rfl rfl 67 _ (((HP.out.rz.other _ _ (by show w.heap.size + 1 + 1 ≠ w.heap.size + 1; omega)).other _ _ (by show w.heap.size + 1 + 1 ≠ w.heap.size + 1; omega)).other _ _ (by show w.heap.size + 1 + 1 ≠ w.heap.size + 1; omega)) r55 rfl (rcells_one _ _ _ _) ?_))
  refine bodyPost_ret (v := .agg (rcells (p + 1) (st + 1) { s with x := k } false).toArray) ?_ rfl ⟨rfl, ?_⟩
  · exact results_cell_row Tryz.results28 _ _ (w.heap.size + 1 + 1) 67 (rcells (p + 1) (st + 1) { s with x := k } false).toArray (0, 0) _ rfl (Blk.row (((HP.out.rz.other _ _ (by show w.heap.size + 1 + 1 ≠ w.heap.size + 1; omega)).other _ _ (by show w.heap.size + 1 + 1 ≠ w.heap.size + 1; omega)).other _ _ (by show w.heap.size + 1 + 1 ≠ w.heap.size + 1; omega)) _) Tryz.underlying67 rfl r55
  · exact below_setRow (((HP.out.bw.setCell (by show w.heap.size ≤ w.heap.size + 1; omega) _).setCell (by show w.heap.size ≤ w.heap.size + 1; omega) _).setCell (by show w.heap.size ≤ w.heap.size + 1; omega) _) (show w.heap.size ≤ w.heap.size + 1 + 1 by omega) _

set_option maxRecDepth 8000 in
set_option maxHeartbeats 4000000 in
theorem step_7 (t f k : Int) (p st len cap ib off : Nat) (s : St) (d : Da) (w : World) (hd : d.ok) (hp : p < len) (hlen : len ≤ 4096) (hst : st ≤ 4096) (hat : In.at ⟨7, t, f, k⟩ w ib (off + p * 4)) :
    Calls Tryz.prog 28 #[.slice (some ⟨ib, off, none⟩) len cap, d.val, .agg (rcells p st s false).toArray] w fun e w' => e = .returned (.agg (rcells (p + 1) (st + 1) { s with x := s.a } false).toArray) ∧ Below w.heap.size w w' := by
  have b8 : bits .and .u16 7 8 = 0 := by kernel_rfl
  have b7 : bits .and .u16 7 7 = 7 := by kernel_rfl
  unfold Da.val
  obtain ⟨X, HX, hX⟩ := step_open w d (rcells p st s false).toArray
  obtain ⟨q1, q2, q3, q4⟩ := hat.below hX.bw
  obtain ⟨Y, HY⟩ : ∃ Y, Hid (X.alloc (Obj.cells #[.int .u16 7, .int .u8 t, .int .u8 f, .int .u32 k] 78) = Y) := ⟨_, rfl⟩
  have hP : Park w d X Y ⟨7, t, f, k⟩ p st s := step_park hX HY.out
  have HP : Hid (Park w d X Y ⟨7, t, f, k⟩ p st s) := hP
  obtain ⟨i1, i2, i3, i4⟩ := hP.ci
  have c0 : X.cell? ⟨w.heap.size + 1, 0, none⟩ = some (.int .i64 p) := Blk.cell hX.rb 0
  have e0 : Y.cell? ⟨w.heap.size + 1, 0, none⟩ = some (.int .i64 p) := Blk.cell hP.rb 0
  have e1 : Y.cell? ⟨w.heap.size + 1, 1, none⟩ = some (.int .i64 st) := Blk.cell hP.rb 1
  have e2 : Y.cell? ⟨w.heap.size + 1, 2, none⟩ = some (.int .u32 s.a) := Blk.cell hP.rb 2
  have e3 : Y.cell? ⟨w.heap.size + 1, 3, none⟩ = some (.int .u32 s.x) := Blk.cell hP.rb 3
  have e20 : Y.cell? ⟨w.heap.size + 1, 20, none⟩ = some (.bool false) := Blk.cell hP.rb 20
  have e21 : Y.cell? ⟨w.heap.size + 1, 21, none⟩ = some (.int .u32 s.ans) := Blk.cell hP.rb 21
  have f0 : ∀ i, Y.frozen? ⟨w.heap.size + 1, i, none⟩ = false := fun i => Blk.f hP.rb i
  have n1 : X.heap.size ≠ w.heap.size + 1 := by have := hX.sz; omega
  have n2 : w.heap.size + 1 ≠ X.heap.size := fun h => n1 h.symm
  have hi1 : (p : Int) < (len : Int) := by omega
  clear hat hX hP hd
  generalize hL : (rcells p st s false).toArray = L at HX ⊢
  clear hL
  go_enter Tryz.func28, Tryz.ntmps28
  go_wp2_with (first | (refine switch_world HX.out ?_) | (refine switch_world HY.out ?_) | (refine at_op (.load 67 (.tmp 5)) rfl ?_; refine wpList_load_row rfl 67 (.tmp 5) rfl (w.heap.size + 1) rfl 67 (rcells (p + 1) (st + 1) { s with x := s.a } false).toArray (0, 0) _ (((HP.out.rb.setAt _).setSteps _).setX _) Tryz.underlying67 rfl r55 ?_) | (refine at_op (.store 67 (.tmp 6) (.tmp 176)) rfl ?_; refine wpList_store_row rfl 67 (.tmp 6) (.tmp 176) rfl (w.heap.size + 1 + 1) (rcells (p + 1) (st + 1) { s with x := s.a } false).toArray rfl rfl 67 _ (((HP.out.rz.other _ _ (by show w.heap.size + 1 + 1 ≠ w.heap.size + 1; omega)).other _ _ (by show w.heap.size + 1 + 1 ≠ w.heap.size + 1; omega)).other _ _ (by show w.heap.size + 1 + 1 ≠ w.heap.size + 1; omega)) r55 rfl (rcells_one _ _ _ _) ?_))
  refine bodyPost_ret (v := .agg (rcells (p + 1) (st + 1) { s with x := s.a } false).toArray) ?_ rfl ⟨rfl, ?_⟩
  · exact results_cell_row Tryz.results28 _ _ (w.heap.size + 1 + 1) 67 (rcells (p + 1) (st + 1) { s with x := s.a } false).toArray (0, 0) _ rfl (Blk.row (((HP.out.rz.other _ _ (by show w.heap.size + 1 + 1 ≠ w.heap.size + 1; omega)).other _ _ (by show w.heap.size + 1 + 1 ≠ w.heap.size + 1; omega)).other _ _ (by show w.heap.size + 1 + 1 ≠ w.heap.size + 1; omega)) _) Tryz.underlying67 rfl r55
  · exact below_setRow (((HP.out.bw.setCell (by show w.heap.size ≤ w.heap.size + 1; omega) _).setCell (by show w.heap.size ≤ w.heap.size + 1; omega) _).setCell (by show w.heap.size ≤ w.heap.size + 1; omega) _) (show w.heap.size ≤ w.heap.size + 1 + 1 by omega) _

set_option maxRecDepth 8000 in
set_option maxHeartbeats 4000000 in
theorem step_135 (t f k : Int) (p st len cap ib off : Nat) (s : St) (d : Da) (w : World) (hd : d.ok) (hp : p < len) (hlen : len ≤ 4096) (hst : st ≤ 4096) (hat : In.at ⟨135, t, f, k⟩ w ib (off + p * 4)) :
    Calls Tryz.prog 28 #[.slice (some ⟨ib, off, none⟩) len cap, d.val, .agg (rcells p st s false).toArray] w fun e w' => e = .returned (.agg (rcells (p + 1) (st + 1) { s with a := s.x } false).toArray) ∧ Below w.heap.size w w' := by
  have b8 : bits .and .u16 135 8 = 0 := by kernel_rfl
  have b7 : bits .and .u16 135 7 = 7 := by kernel_rfl
  unfold Da.val
  obtain ⟨X, HX, hX⟩ := step_open w d (rcells p st s false).toArray
  obtain ⟨q1, q2, q3, q4⟩ := hat.below hX.bw
  obtain ⟨Y, HY⟩ : ∃ Y, Hid (X.alloc (Obj.cells #[.int .u16 135, .int .u8 t, .int .u8 f, .int .u32 k] 78) = Y) := ⟨_, rfl⟩
  have hP : Park w d X Y ⟨135, t, f, k⟩ p st s := step_park hX HY.out
  have HP : Hid (Park w d X Y ⟨135, t, f, k⟩ p st s) := hP
  obtain ⟨i1, i2, i3, i4⟩ := hP.ci
  have c0 : X.cell? ⟨w.heap.size + 1, 0, none⟩ = some (.int .i64 p) := Blk.cell hX.rb 0
  have e0 : Y.cell? ⟨w.heap.size + 1, 0, none⟩ = some (.int .i64 p) := Blk.cell hP.rb 0
  have e1 : Y.cell? ⟨w.heap.size + 1, 1, none⟩ = some (.int .i64 st) := Blk.cell hP.rb 1
  have e2 : Y.cell? ⟨w.heap.size + 1, 2, none⟩ = some (.int .u32 s.a) := Blk.cell hP.rb 2
  have e3 : Y.cell? ⟨w.heap.size + 1, 3, none⟩ = some (.int .u32 s.x) := Blk.cell hP.rb 3
  have e20 : Y.cell? ⟨w.heap.size + 1, 20, none⟩ = some (.bool false) := Blk.cell hP.rb 20
  have e21 : Y.cell? ⟨w.heap.size + 1, 21, none⟩ = some (.int .u32 s.ans) := Blk.cell hP.rb 21
  have f0 : ∀ i, Y.frozen? ⟨w.heap.size + 1, i, none⟩ = false := fun i => Blk.f hP.rb i
  have n1 : X.heap.size ≠ w.heap.size + 1 := by have := hX.sz; omega
  have n2 : w.heap.size + 1 ≠ X.heap.size := fun h => n1 h.symm
  have hi1 : (p : Int) < (len : Int) := by omega
  clear hat hX hP hd
  generalize hL : (rcells p st s false).toArray = L at HX ⊢
  clear hL
  go_enter Tryz.func28, Tryz.ntmps28
  go_wp2_with (first | (refine switch_world HX.out ?_) | (refine switch_world HY.out ?_) | (refine at_op (.load 67 (.tmp 5)) rfl ?_; refine wpList_load_row rfl 67 (.tmp 5) rfl (w.heap.size + 1) rfl 67 (rcells (p + 1) (st + 1) { s with a := s.x } false).toArray (0, 0) _ (((HP.out.rb.setAt _).setSteps _).setA _) Tryz.underlying67 rfl r55 ?_) | (refine at_op (.store 67 (.tmp 6) (.tmp 176)) rfl ?_; refine wpList_store_row rfl 67 (.tmp 6) (.tmp 176) rfl (w.heap.size + 1 + 1) (rcells (p + 1) (st + 1) { s with a := s.x } false).toArray rfl rfl 67 _ (((HP.out.rz.other _ _ (by show w.heap.size + 1 + 1 ≠ w.heap.size + 1; omega)).other _ _ (by show w.heap.size + 1 + 1 ≠ w.heap.size + 1; omega)).other _ _ (by show w.heap.size + 1 + 1 ≠ w.heap.size + 1; omega)) r55 rfl (rcells_one _ _ _ _) ?_))
  refine bodyPost_ret (v := .agg (rcells (p + 1) (st + 1) { s with a := s.x } false).toArray) ?_ rfl ⟨rfl, ?_⟩
  · exact results_cell_row Tryz.results28 _ _ (w.heap.size + 1 + 1) 67 (rcells (p + 1) (st + 1) { s with a := s.x } false).toArray (0, 0) _ rfl (Blk.row (((HP.out.rz.other _ _ (by show w.heap.size + 1 + 1 ≠ w.heap.size + 1; omega)).other _ _ (by show w.heap.size + 1 + 1 ≠ w.heap.size + 1; omega)).other _ _ (by show w.heap.size + 1 + 1 ≠ w.heap.size + 1; omega)) _) Tryz.underlying67 rfl r55
  · exact below_setRow (((HP.out.bw.setCell (by show w.heap.size ≤ w.heap.size + 1; omega) _).setCell (by show w.heap.size ≤ w.heap.size + 1; omega) _).setCell (by show w.heap.size ≤ w.heap.size + 1; omega) _) (show w.heap.size ≤ w.heap.size + 1 + 1 by omega) _

set_option maxRecDepth 8000 in
set_option maxHeartbeats 4000000 in
theorem step_132 (t f k : Int) (p st len cap ib off : Nat) (s : St) (d : Da) (w : World) (hd : d.ok) (hp : p < len) (hlen : len ≤ 4096) (hst : st ≤ 4096) (hat : In.at ⟨132, t, f, k⟩ w ib (off + p * 4)) :
    Calls Tryz.prog 28 #[.slice (some ⟨ib, off, none⟩) len cap, d.val, .agg (rcells p st s false).toArray] w fun e w' => e = .returned (.agg (rcells (p + 1) (st + 1) { s with a := (-s.a) % 4294967296 } false).toArray) ∧ Below w.heap.size w w' := by
  have b8 : bits .and .u16 132 8 = 0 := by kernel_rfl
  have b7 : bits .and .u16 132 7 = 4 := by kernel_rfl
  have hng : (0 - s.a) % 4294967296 = (-s.a) % 4294967296 := by rw [Int.zero_sub]
  unfold Da.val
  obtain ⟨X, HX, hX⟩ := step_open w d (rcells p st s false).toArray
  obtain ⟨q1, q2, q3, q4⟩ := hat.below hX.bw
  obtain ⟨Y, HY⟩ : ∃ Y, Hid (X.alloc (Obj.cells #[.int .u16 132, .int .u8 t, .int .u8 f, .int .u32 k] 78) = Y) := ⟨_, rfl⟩
  have hP : Park w d X Y ⟨132, t, f, k⟩ p st s := step_park hX HY.out
  have HP : Hid (Park w d X Y ⟨132, t, f, k⟩ p st s) := hP
  obtain ⟨i1, i2, i3, i4⟩ := hP.ci
  have c0 : X.cell? ⟨w.heap.size + 1, 0, none⟩ = some (.int .i64 p) := Blk.cell hX.rb 0
  have e0 : Y.cell? ⟨w.heap.size + 1, 0, none⟩ = some (.int .i64 p) := Blk.cell hP.rb 0
  have e1 : Y.cell? ⟨w.heap.size + 1, 1, none⟩ = some (.int .i64 st) := Blk.cell hP.rb 1
  have e2 : Y.cell? ⟨w.heap.size + 1, 2, none⟩ = some (.int .u32 s.a) := Blk.cell hP.rb 2
  have e3 : Y.cell? ⟨w.heap.size + 1, 3, none⟩ = some (.int .u32 s.x) := Blk.cell hP.rb 3
  have e20 : Y.cell? ⟨w.heap.size + 1, 20, none⟩ = some (.bool false) := Blk.cell hP.rb 20
  have e21 : Y.cell? ⟨w.heap.size + 1, 21, none⟩ = some (.int .u32 s.ans) := Blk.cell hP.rb 21
  have f0 : ∀ i, Y.frozen? ⟨w.heap.size + 1, i, none⟩ = false := fun i => Blk.f hP.rb i
  have n1 : X.heap.size ≠ w.heap.size + 1 := by have := hX.sz; omega
  have n2 : w.heap.size + 1 ≠ X.heap.size := fun h => n1 h.symm
  have hi1 : (p : Int) < (len : Int) := by omega
  clear hat hX hP hd
  generalize hL : (rcells p st s false).toArray = L at HX ⊢
  clear hL
  go_enter Tryz.func28, Tryz.ntmps28
  go_wp2_with (first | (refine switch_world HX.out ?_) | (refine switch_world HY.out ?_) | (refine at_op (.load 67 (.tmp 5)) rfl ?_; refine wpList_load_row rfl 67 (.tmp 5) rfl (w.heap.size + 1) rfl 67 (rcells (p + 1) (st + 1) { s with a := (-s.a) % 4294967296 } false).toArray (0, 0) _ (((HP.out.rb.setAt _).setSteps _).setA _) Tryz.underlying67 rfl r55 ?_) | (refine at_op (.store 67 (.tmp 6) (.tmp 176)) rfl ?_; refine wpList_store_row rfl 67 (.tmp 6) (.tmp 176) rfl (w.heap.size + 1 + 1) (rcells (p + 1) (st + 1) { s with a := (-s.a) % 4294967296 } false).toArray rfl rfl 67 _ (((HP.out.rz.other _ _ (by show w.heap.size + 1 + 1 ≠ w.heap.size + 1; omega)).other _ _ (by show w.heap.size + 1 + 1 ≠ w.heap.size + 1; omega)).other _ _ (by show w.heap.size + 1 + 1 ≠ w.heap.size + 1; omega)) r55 rfl (rcells_one _ _ _ _) ?_))
  refine bodyPost_ret (v := .agg (rcells (p + 1) (st + 1) { s with a := (-s.a) % 4294967296 } false).toArray) ?_ rfl ⟨rfl, ?_⟩
  · exact results_cell_row Tryz.results28 _ _ (w.heap.size + 1 + 1) 67 (rcells (p + 1) (st + 1) { s with a := (-s.a) % 4294967296 } false).toArray (0, 0) _ rfl (Blk.row (((HP.out.rz.other _ _ (by show w.heap.size + 1 + 1 ≠ w.heap.size + 1; omega)).other _ _ (by show w.heap.size + 1 + 1 ≠ w.heap.size + 1; omega)).other _ _ (by show w.heap.size + 1 + 1 ≠ w.heap.size + 1; omega)) _) Tryz.underlying67 rfl r55
  · exact below_setRow (((HP.out.bw.setCell (by show w.heap.size ≤ w.heap.size + 1; omega) _).setCell (by show w.heap.size ≤ w.heap.size + 1; omega) _).setCell (by show w.heap.size ≤ w.heap.size + 1; omega) _) (show w.heap.size ≤ w.heap.size + 1 + 1 by omega) _

end Go.Proofs.YtpojlfenmanehaaGreat.V

namespace Go.Proofs.YtpojlfenmanehaaGreat.V
open Go.RowKit
set_option linter.unusedVariables false

set_option maxRecDepth 8000 in
set_option maxHeartbeats 4000000 in
theorem step_96 (t f k : Int) (p st len cap ib off : Nat) (s : St) (d : Da) (w : World) (hd : d.ok) (hp : p < len) (hlen : len ≤ 4096) (hst : st ≤ 4096) (kk : Nat) (hkk : kk < 16) (hat : In.at ⟨96, t, f, (kk : Int)⟩ w ib (off + p * 4)) :
    Calls Tryz.prog 28 #[.slice (some ⟨ib, off, none⟩) len cap, d.val, .agg (rcells p st s false).toArray] w fun e w' => e = .returned (.agg (rcells (p + 1) (st + 1) { s with a := s.c kk } false).toArray) ∧ Below w.heap.size w w' := by
  have b8 : bits .and .u16 96 8 = 0 := by kernel_rfl
  have b7 : bits .and .u16 96 7 = 0 := by kernel_rfl
  unfold Da.val
  obtain ⟨X, HX, hX⟩ := step_open w d (rcells p st s false).toArray
  obtain ⟨q1, q2, q3, q4⟩ := hat.below hX.bw
  obtain ⟨Y, HY⟩ : ∃ Y, Hid (X.alloc (Obj.cells #[.int .u16 96, .int .u8 t, .int .u8 f, .int .u32 (kk : Int)] 78) = Y) := ⟨_, rfl⟩
  have hP : Park w d X Y ⟨96, t, f, (kk : Int)⟩ p st s := step_park hX HY.out
  have HP : Hid (Park w d X Y ⟨96, t, f, (kk : Int)⟩ p st s) := hP
  obtain ⟨i1, i2, i3, i4⟩ := hP.ci
  have c0 : X.cell? ⟨w.heap.size + 1, 0, none⟩ = some (.int .i64 p) := Blk.cell hX.rb 0
  have e0 : Y.cell? ⟨w.heap.size + 1, 0, none⟩ = some (.int .i64 p) := Blk.cell hP.rb 0
  have e1 : Y.cell? ⟨w.heap.size + 1, 1, none⟩ = some (.int .i64 st) := Blk.cell hP.rb 1
  have e2 : Y.cell? ⟨w.heap.size + 1, 2, none⟩ = some (.int .u32 s.a) := Blk.cell hP.rb 2
  have e3 : Y.cell? ⟨w.heap.size + 1, 3, none⟩ = some (.int .u32 s.x) := Blk.cell hP.rb 3
  have e20 : Y.cell? ⟨w.heap.size + 1, 20, none⟩ = some (.bool false) := Blk.cell hP.rb 20
  have e21 : Y.cell? ⟨w.heap.size + 1, 21, none⟩ = some (.int .u32 s.ans) := Blk.cell hP.rb 21
  have f0 : ∀ i, Y.frozen? ⟨w.heap.size + 1, i, none⟩ = false := fun i => Blk.f hP.rb i
  have n1 : X.heap.size ≠ w.heap.size + 1 := by have := hX.sz; omega
  have n2 : w.heap.size + 1 ≠ X.heap.size := fun h => n1 h.symm
  have hi1 : (p : Int) < (len : Int) := by omega
  have ek : Y.cell? ⟨w.heap.size + 1, 4 + kk, none⟩ = some (.int .u32 (s.c kk)) := (Blk.cell hP.rb (4 + kk)).trans (rcells_c _ _ _ _ kk hkk)
  have hk16 : (kk : Int) < 16 := by omega
  clear hat hX hP hd
  generalize hL : (rcells p st s false).toArray = L at HX ⊢
  clear hL
  go_enter Tryz.func28, Tryz.ntmps28
  go_wp2_with (first | (refine switch_world HX.out ?_) | (refine switch_world HY.out ?_) | (refine at_op (.load 67 (.tmp 5)) rfl ?_; refine wpList_load_row rfl 67 (.tmp 5) rfl (w.heap.size + 1) rfl 67 (rcells (p + 1) (st + 1) { s with a := s.c kk } false).toArray (0, 0) _ (((HP.out.rb.setAt _).setSteps _).setA _) Tryz.underlying67 rfl r55 ?_) | (refine at_op (.store 67 (.tmp 6) (.tmp 176)) rfl ?_; refine wpList_store_row rfl 67 (.tmp 6) (.tmp 176) rfl (w.heap.size + 1 + 1) (rcells (p + 1) (st + 1) { s with a := s.c kk } false).toArray rfl rfl 67 _ (((HP.out.rz.other _ _ (by show w.heap.size + 1 + 1 ≠ w.heap.size + 1; omega)).other _ _ (by show w.heap.size + 1 + 1 ≠ w.heap.size + 1; omega)).other _ _ (by show w.heap.size + 1 + 1 ≠ w.heap.size + 1; omega)) r55 rfl (rcells_one _ _ _ _) ?_))
  refine bodyPost_ret (v := .agg (rcells (p + 1) (st + 1) { s with a := s.c kk } false).toArray) ?_ rfl ⟨rfl, ?_⟩
  · exact results_cell_row Tryz.results28 _ _ (w.heap.size + 1 + 1) 67 (rcells (p + 1) (st + 1) { s with a := s.c kk } false).toArray (0, 0) _ rfl (Blk.row (((HP.out.rz.other _ _ (by show w.heap.size + 1 + 1 ≠ w.heap.size + 1; omega)).other _ _ (by show w.heap.size + 1 + 1 ≠ w.heap.size + 1; omega)).other _ _ (by show w.heap.size + 1 + 1 ≠ w.heap.size + 1; omega)) _) Tryz.underlying67 rfl r55
  · exact below_setRow (((HP.out.bw.setCell (by show w.heap.size ≤ w.heap.size + 1; omega) _).setCell (by show w.heap.size ≤ w.heap.size + 1; omega) _).setCell (by show w.heap.size ≤ w.heap.size + 1; omega) _) (show w.heap.size ≤ w.heap.size + 1 + 1 by omega) _

set_option maxRecDepth 8000 in
set_option maxHeartbeats 4000000 in
theorem step_97 (t f k : Int) (p st len cap ib off : Nat) (s : St) (d : Da) (w : World) (hd : d.ok) (hp : p < len) (hlen : len ≤ 4096) (hst : st ≤ 4096) (kk : Nat) (hkk : kk < 16) (hat : In.at ⟨97, t, f, (kk : Int)⟩ w ib (off + p * 4)) :
    Calls Tryz.prog 28 #[.slice (some ⟨ib, off, none⟩) len cap, d.val, .agg (rcells p st s false).toArray] w fun e w' => e = .returned (.agg (rcells (p + 1) (st + 1) { s with x := s.c kk } false).toArray) ∧ Below w.heap.size w w' := by
  have b8 : bits .and .u16 97 8 = 0 := by kernel_rfl
  have b7 : bits .and .u16 97 7 = 1 := by kernel_rfl
  unfold Da.val
  obtain ⟨X, HX, hX⟩ := step_open w d (rcells p st s false).toArray
  obtain ⟨q1, q2, q3, q4⟩ := hat.below hX.bw
  obtain ⟨Y, HY⟩ : ∃ Y, Hid (X.alloc (Obj.cells #[.int .u16 97, .int .u8 t, .int .u8 f, .int .u32 (kk : Int)] 78) = Y) := ⟨_, rfl⟩
  have hP : Park w d X Y ⟨97, t, f, (kk : Int)⟩ p st s := step_park hX HY.out
  have HP : Hid (Park w d X Y ⟨97, t, f, (kk : Int)⟩ p st s) := hP
  obtain ⟨i1, i2, i3, i4⟩ := hP.ci
  have c0 : X.cell? ⟨w.heap.size + 1, 0, none⟩ = some (.int .i64 p) := Blk.cell hX.rb 0
  have e0 : Y.cell? ⟨w.heap.size + 1, 0, none⟩ = some (.int .i64 p) := Blk.cell hP.rb 0
  have e1 : Y.cell? ⟨w.heap.size + 1, 1, none⟩ = some (.int .i64 st) := Blk.cell hP.rb 1
  have e2 : Y.cell? ⟨w.heap.size + 1, 2, none⟩ = some (.int .u32 s.a) := Blk.cell hP.rb 2
  have e3 : Y.cell? ⟨w.heap.size + 1, 3, none⟩ = some (.int .u32 s.x) := Blk.cell hP.rb 3
  have e20 : Y.cell? ⟨w.heap.size + 1, 20, none⟩ = some (.bool false) := Blk.cell hP.rb 20
  have e21 : Y.cell? ⟨w.heap.size + 1, 21, none⟩ = some (.int .u32 s.ans) := Blk.cell hP.rb 21
  have f0 : ∀ i, Y.frozen? ⟨w.heap.size + 1, i, none⟩ = false := fun i => Blk.f hP.rb i
  have n1 : X.heap.size ≠ w.heap.size + 1 := by have := hX.sz; omega
  have n2 : w.heap.size + 1 ≠ X.heap.size := fun h => n1 h.symm
  have hi1 : (p : Int) < (len : Int) := by omega
  have ek : Y.cell? ⟨w.heap.size + 1, 4 + kk, none⟩ = some (.int .u32 (s.c kk)) := (Blk.cell hP.rb (4 + kk)).trans (rcells_c _ _ _ _ kk hkk)
  have hk16 : (kk : Int) < 16 := by omega
  clear hat hX hP hd
  generalize hL : (rcells p st s false).toArray = L at HX ⊢
  clear hL
  go_enter Tryz.func28, Tryz.ntmps28
  go_wp2_with (first | (refine switch_world HX.out ?_) | (refine switch_world HY.out ?_) | (refine at_op (.load 67 (.tmp 5)) rfl ?_; refine wpList_load_row rfl 67 (.tmp 5) rfl (w.heap.size + 1) rfl 67 (rcells (p + 1) (st + 1) { s with x := s.c kk } false).toArray (0, 0) _ (((HP.out.rb.setAt _).setSteps _).setX _) Tryz.underlying67 rfl r55 ?_) | (refine at_op (.store 67 (.tmp 6) (.tmp 176)) rfl ?_; refine wpList_store_row rfl 67 (.tmp 6) (.tmp 176) rfl (w.heap.size + 1 + 1) (rcells (p + 1) (st + 1) { s with x := s.c kk } false).toArray rfl rfl 67 _ (((HP.out.rz.other _ _ (by show w.heap.size + 1 + 1 ≠ w.heap.size + 1; omega)).other _ _ (by show w.heap.size + 1 + 1 ≠ w.heap.size + 1; omega)).other _ _ (by show w.heap.size + 1 + 1 ≠ w.heap.size + 1; omega)) r55 rfl (rcells_one _ _ _ _) ?_))
  refine bodyPost_ret (v := .agg (rcells (p + 1) (st + 1) { s with x := s.c kk } false).toArray) ?_ rfl ⟨rfl, ?_⟩
  · exact results_cell_row Tryz.results28 _ _ (w.heap.size + 1 + 1) 67 (rcells (p + 1) (st + 1) { s with x := s.c kk } false).toArray (0, 0) _ rfl (Blk.row (((HP.out.rz.other _ _ (by show w.heap.size + 1 + 1 ≠ w.heap.size + 1; omega)).other _ _ (by show w.heap.size + 1 + 1 ≠ w.heap.size + 1; omega)).other _ _ (by show w.heap.size + 1 + 1 ≠ w.heap.size + 1; omega)) _) Tryz.underlying67 rfl r55
  · exact below_setRow (((HP.out.bw.setCell (by show w.heap.size ≤ w.heap.size + 1; omega) _).setCell (by show w.heap.size ≤ w.heap.size + 1; omega) _).setCell (by show w.heap.size ≤ w.heap.size + 1; omega) _) (show w.heap.size ≤ w.heap.size + 1 + 1 by omega) _

set_option maxRecDepth 8000 in
set_option maxHeartbeats 4000000 in
theorem step_2 (t f k : Int) (p st len cap ib off : Nat) (s : St) (d : Da) (w : World) (hd : d.ok) (hp : p < len) (hlen : len ≤ 4096) (hst : st ≤ 4096) (kk : Nat) (hkk : kk < 16) (hat : In.at ⟨2, t, f, (kk : Int)⟩ w ib (off + p * 4)) :
    Calls Tryz.prog 28 #[.slice (some ⟨ib, off, none⟩) len cap, d.val, .agg (rcells p st s false).toArray] w fun e w' => e = .returned (.agg (rcells (p + 1) (st + 1) { s with c := putC s.c kk s.a } false).toArray) ∧ Below w.heap.size w w' := by
  have b8 : bits .and .u16 2 8 = 0 := by kernel_rfl
  have b7 : bits .and .u16 2 7 = 2 := by kernel_rfl
  unfold Da.val
  obtain ⟨X, HX, hX⟩ := step_open w d (rcells p st s false).toArray
  obtain ⟨q1, q2, q3, q4⟩ := hat.below hX.bw
  obtain ⟨Y, HY⟩ : ∃ Y, Hid (X.alloc (Obj.cells #[.int .u16 2, .int .u8 t, .int .u8 f, .int .u32 (kk : Int)] 78) = Y) := ⟨_, rfl⟩
  have hP : Park w d X Y ⟨2, t, f, (kk : Int)⟩ p st s := step_park hX HY.out
  have HP : Hid (Park w d X Y ⟨2, t, f, (kk : Int)⟩ p st s) := hP
  obtain ⟨i1, i2, i3, i4⟩ := hP.ci
  have c0 : X.cell? ⟨w.heap.size + 1, 0, none⟩ = some (.int .i64 p) := Blk.cell hX.rb 0
  have e0 : Y.cell? ⟨w.heap.size + 1, 0, none⟩ = some (.int .i64 p) := Blk.cell hP.rb 0
  have e1 : Y.cell? ⟨w.heap.size + 1, 1, none⟩ = some (.int .i64 st) := Blk.cell hP.rb 1
  have e2 : Y.cell? ⟨w.heap.size + 1, 2, none⟩ = some (.int .u32 s.a) := Blk.cell hP.rb 2
  have e3 : Y.cell? ⟨w.heap.size + 1, 3, none⟩ = some (.int .u32 s.x) := Blk.cell hP.rb 3
  have e20 : Y.cell? ⟨w.heap.size + 1, 20, none⟩ = some (.bool false) := Blk.cell hP.rb 20
  have e21 : Y.cell? ⟨w.heap.size + 1, 21, none⟩ = some (.int .u32 s.ans) := Blk.cell hP.rb 21
  have f0 : ∀ i, Y.frozen? ⟨w.heap.size + 1, i, none⟩ = false := fun i => Blk.f hP.rb i
  have n1 : X.heap.size ≠ w.heap.size + 1 := by have := hX.sz; omega
  have n2 : w.heap.size + 1 ≠ X.heap.size := fun h => n1 h.symm
  have hi1 : (p : Int) < (len : Int) := by omega
  have ek : Y.cell? ⟨w.heap.size + 1, 4 + kk, none⟩ = some (.int .u32 (s.c kk)) := (Blk.cell hP.rb (4 + kk)).trans (rcells_c _ _ _ _ kk hkk)
  have hk16 : (kk : Int) < 16 := by omega
  clear hat hX hP hd
  generalize hL : (rcells p st s false).toArray = L at HX ⊢
  clear hL
  go_enter Tryz.func28, Tryz.ntmps28
  go_wp2_with (first | (refine switch_world HX.out ?_) | (refine switch_world HY.out ?_) | (refine at_op (.load 67 (.tmp 5)) rfl ?_; refine wpList_load_row rfl 67 (.tmp 5) rfl (w.heap.size + 1) rfl 67 (rcells (p + 1) (st + 1) { s with c := putC s.c kk s.a } false).toArray (0, 0) _ (((HP.out.rb.setAt _).setSteps _).setC kk hkk _) Tryz.underlying67 rfl r55 ?_) | (refine at_op (.store 67 (.tmp 6) (.tmp 176)) rfl ?_; refine wpList_store_row rfl 67 (.tmp 6) (.tmp 176) rfl (w.heap.size + 1 + 1) (rcells (p + 1) (st + 1) { s with c := putC s.c kk s.a } false).toArray rfl rfl 67 _ (((HP.out.rz.other _ _ (by show w.heap.size + 1 + 1 ≠ w.heap.size + 1; omega)).other _ _ (by show w.heap.size + 1 + 1 ≠ w.heap.size + 1; omega)).other _ _ (by show w.heap.size + 1 + 1 ≠ w.heap.size + 1; omega)) r55 rfl (rcells_one _ _ _ _) ?_))
  refine bodyPost_ret (v := .agg (rcells (p + 1) (st + 1) { s with c := putC s.c kk s.a } false).toArray) ?_ rfl ⟨rfl, ?_⟩
  · exact results_cell_row Tryz.results28 _ _ (w.heap.size + 1 + 1) 67 (rcells (p + 1) (st + 1) { s with c := putC s.c kk s.a } false).toArray (0, 0) _ rfl (Blk.row (((HP.out.rz.other _ _ (by show w.heap.size + 1 + 1 ≠ w.heap.size + 1; omega)).other _ _ (by show w.heap.size + 1 + 1 ≠ w.heap.size + 1; omega)).other _ _ (by show w.heap.size + 1 + 1 ≠ w.heap.size + 1; omega)) _) Tryz.underlying67 rfl r55
  · exact below_setRow (((HP.out.bw.setCell (by show w.heap.size ≤ w.heap.size + 1; omega) _).setCell (by show w.heap.size ≤ w.heap.size + 1; omega) _).setCell (by show w.heap.size ≤ w.heap.size + 1; omega) _) (show w.heap.size ≤ w.heap.size + 1 + 1 by omega) _

set_option maxRecDepth 8000 in
set_option maxHeartbeats 4000000 in
theorem step_3 (t f k : Int) (p st len cap ib off : Nat) (s : St) (d : Da) (w : World) (hd : d.ok) (hp : p < len) (hlen : len ≤ 4096) (hst : st ≤ 4096) (kk : Nat) (hkk : kk < 16) (hat : In.at ⟨3, t, f, (kk : Int)⟩ w ib (off + p * 4)) :
    Calls Tryz.prog 28 #[.slice (some ⟨ib, off, none⟩) len cap, d.val, .agg (rcells p st s false).toArray] w fun e w' => e = .returned (.agg (rcells (p + 1) (st + 1) { s with c := putC s.c kk s.x } false).toArray) ∧ Below w.heap.size w w' := by
  have b8 : bits .and .u16 3 8 = 0 := by kernel_rfl
  have b7 : bits .and .u16 3 7 = 3 := by kernel_rfl
  unfold Da.val
  obtain ⟨X, HX, hX⟩ := step_open w d (rcells p st s false).toArray
  obtain ⟨q1, q2, q3, q4⟩ := hat.below hX.bw
  obtain ⟨Y, HY⟩ : ∃ Y, Hid (X.alloc (Obj.cells #[.int .u16 3, .int .u8 t, .int .u8 f, .int .u32 (kk : Int)] 78) = Y) := ⟨_, rfl⟩
  have hP : Park w d X Y ⟨3, t, f, (kk : Int)⟩ p st s := step_park hX HY.out
  have HP : Hid (Park w d X Y ⟨3, t, f, (kk : Int)⟩ p st s) := hP
  obtain ⟨i1, i2, i3, i4⟩ := hP.ci
  have c0 : X.cell? ⟨w.heap.size + 1, 0, none⟩ = some (.int .i64 p) := Blk.cell hX.rb 0
  have e0 : Y.cell? ⟨w.heap.size + 1, 0, none⟩ = some (.int .i64 p) := Blk.cell hP.rb 0
  have e1 : Y.cell? ⟨w.heap.size + 1, 1, none⟩ = some (.int .i64 st) := Blk.cell hP.rb 1
  have e2 : Y.cell? ⟨w.heap.size + 1, 2, none⟩ = some (.int .u32 s.a) := Blk.cell hP.rb 2
  have e3 : Y.cell? ⟨w.heap.size + 1, 3, none⟩ = some (.int .u32 s.x) := Blk.cell hP.rb 3
  have e20 : Y.cell? ⟨w.heap.size + 1, 20, none⟩ = some (.bool false) := Blk.cell hP.rb 20
  have e21 : Y.cell? ⟨w.heap.size + 1, 21, none⟩ = some (.int .u32 s.ans) := Blk.cell hP.rb 21
  have f0 : ∀ i, Y.frozen? ⟨w.heap.size + 1, i, none⟩ = false := fun i => Blk.f hP.rb i
  have n1 : X.heap.size ≠ w.heap.size + 1 := by have := hX.sz; omega
  have n2 : w.heap.size + 1 ≠ X.heap.size := fun h => n1 h.symm
  have hi1 : (p : Int) < (len : Int) := by omega
  have ek : Y.cell? ⟨w.heap.size + 1, 4 + kk, none⟩ = some (.int .u32 (s.c kk)) := (Blk.cell hP.rb (4 + kk)).trans (rcells_c _ _ _ _ kk hkk)
  have hk16 : (kk : Int) < 16 := by omega
  clear hat hX hP hd
  generalize hL : (rcells p st s false).toArray = L at HX ⊢
  clear hL
  go_enter Tryz.func28, Tryz.ntmps28
  go_wp2_with (first | (refine switch_world HX.out ?_) | (refine switch_world HY.out ?_) | (refine at_op (.load 67 (.tmp 5)) rfl ?_; refine wpList_load_row rfl 67 (.tmp 5) rfl (w.heap.size + 1) rfl 67 (rcells (p + 1) (st + 1) { s with c := putC s.c kk s.x } false).toArray (0, 0) _ (((HP.out.rb.setAt _).setSteps _).setC kk hkk _) Tryz.underlying67 rfl r55 ?_) | (refine at_op (.store 67 (.tmp 6) (.tmp 176)) rfl ?_; refine wpList_store_row rfl 67 (.tmp 6) (.tmp 176) rfl (w.heap.size + 1 + 1) (rcells (p + 1) (st + 1) { s with c := putC s.c kk s.x } false).toArray rfl rfl 67 _ (((HP.out.rz.other _ _ (by show w.heap.size + 1 + 1 ≠ w.heap.size + 1; omega)).other _ _ (by show w.heap.size + 1 + 1 ≠ w.heap.size + 1; omega)).other _ _ (by show w.heap.size + 1 + 1 ≠ w.heap.size + 1; omega)) r55 rfl (rcells_one _ _ _ _) ?_))
  refine bodyPost_ret (v := .agg (rcells (p + 1) (st + 1) { s with c := putC s.c kk s.x } false).toArray) ?_ rfl ⟨rfl, ?_⟩
  · exact results_cell_row Tryz.results28 _ _ (w.heap.size + 1 + 1) 67 (rcells (p + 1) (st + 1) { s with c := putC s.c kk s.x } false).toArray (0, 0) _ rfl (Blk.row (((HP.out.rz.other _ _ (by show w.heap.size + 1 + 1 ≠ w.heap.size + 1; omega)).other _ _ (by show w.heap.size + 1 + 1 ≠ w.heap.size + 1; omega)).other _ _ (by show w.heap.size + 1 + 1 ≠ w.heap.size + 1; omega)) _) Tryz.underlying67 rfl r55
  · exact below_setRow (((HP.out.bw.setCell (by show w.heap.size ≤ w.heap.size + 1; omega) _).setCell (by show w.heap.size ≤ w.heap.size + 1; omega) _).setCell (by show w.heap.size ≤ w.heap.size + 1; omega) _) (show w.heap.size ≤ w.heap.size + 1 + 1 by omega) _

end Go.Proofs.YtpojlfenmanehaaGreat.V

