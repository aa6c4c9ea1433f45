/-
  The call whose bytes stand next in a reader, by package msg: proved of every reader.
-/
import Derived.Test.YtpdndcmaaghnjaaMsCall
import Derived.Deep.OwnRows
import Derived.Laws.CopyOwn
namespace Go.Proofs.Ytpdndcmaaghnjaa
open Go.RowKit
open D (Da Blk)
open K (numR takeR failW numOf)

/-- a row that is filled from its front. -/
def front (l : List Int) (n i : Nat) : Value := .int .u8 (if i < n then l.getD i 0 else 0)
theorem front_zero (l : List Int) (i : Nat) : front l 0 i = .int .u8 0 := rfl
theorem front_step (l : List Int) (z : Int) (i : Nat) : (if i = l.length then Value.int .u8 z else front l l.length i) = front (l ++ [z]) (l.length + 1) i := by
  unfold front
  by_cases h : i = l.length
  · subst h
    rw [if_pos rfl, if_pos (by omega), List.getD_eq_getElem?_getD, List.getElem?_append_right (Nat.le_refl _), Nat.sub_self]
    rfl
  · rw [if_neg h]
    by_cases h2 : i < l.length
    · rw [if_pos h2, if_pos (by omega), List.getD_eq_getElem?_getD, List.getD_eq_getElem?_getD, List.getElem?_append_left h2]
    · rw [if_neg h2, if_neg (by omega)]
theorem front_bs {w : World} {b : Nat} {l : List Int} {n : Nat} (hl : l.length = n) (hb : D.Byt l) (h : w.rowIs b 5 n (front l n)) : D.Bs w (some ⟨b, 0, none⟩) n l := by
  refine ⟨hl, hb, fun _ => ⟨b, 0, rfl, fun i hi => ?_⟩⟩
  rw [Nat.zero_add, h.cell hi]
  unfold front
  rw [if_pos hi]
theorem rowIs_kept {w w' : World} {b n : Nat} {t : TypeId} {f : Nat → Value} (h : w.rowIs b t n f) (hk : w'.heap[b]? = w.heap[b]?) : w'.rowIs b t n f := by
  obtain ⟨c, h1, h2⟩ := h
  exact ⟨c, hk.trans h1, h2⟩
theorem byteR_byts (st : List Int × Int) (hd : D.Byt st.1) (n : Nat) : D.Byt (byteR st n).1 ∧ D.Byt (byteR st n).2.1 := by
  induction n with
  | zero => exact ⟨(fun z hz => by cases hz), hd⟩
  | succ n ih =>
    have ht : ∀ m : List Int × Int, D.Byt m.1 → (0 ≤ (numR m 1).1 ∧ (numR m 1).1 ≤ 255) ∧ D.Byt (numR m 1).2.1 := by
      intro m hm
      unfold numR takeR
      rw [if_pos ⟨by decide, by decide⟩]
      split
      · exact ⟨⟨Int.le_refl 0, show (0 : Int) ≤ 255 by decide⟩, hm⟩
      · split
        · exact ⟨⟨Int.le_refl 0, show (0 : Int) ≤ 255 by decide⟩, fun z hz => by cases hz⟩
        · obtain ⟨l, e⟩ := m
          cases l with
          | nil => exact ⟨⟨Int.le_refl 0, show (0 : Int) ≤ 255 by decide⟩, fun z hz => by simp at hz⟩
          | cons x r =>
            refine ⟨?_, fun z hz => hm z (List.mem_of_mem_drop hz)⟩
            have := hm x List.mem_cons_self
            show 0 ≤ numOf ([x]) ∧ numOf [x] ≤ 255
            simp only [numOf, List.foldl_cons, List.foldl_nil]
            omega
    have h2 := ht _ ih.2
    refine ⟨fun z hz => ?_, h2.2⟩
    rcases List.mem_append.1 hz with hz | hz
    · exact ih.1 z hz
    · rw [List.mem_singleton.1 hz]; exact h2.1
theorem byteR_byt {Y : Nat → Prop} {w : World} {b : Nat} {st : List Int × Int} (h : R.Rd Y w b st) (n : Nat) : D.Byt (byteR st n).1 := (byteR_byts st h.rd.bd n).1

/-- a reader lies in no block that is yet to come. -/
theorem rd_later {w : World} {b : Nat} {st : List Int × Int} (h : K.Rd w b st) : R.Rd (w.heap.size ≤ ·) w b st := by
  obtain ⟨a, n, cap, h2, hb, hc, hao, hx⟩ := h.ex
  refine ⟨⟨a, n, cap, h2, hb, hc, hao, fun x e => ?_⟩, h.no⟩
  obtain ⟨h1, C, f, hC⟩ := hx x e
  exact ⟨h1, Nat.not_le.2 (lt_of_block hC), C, f, hC⟩

theorem grown_row (w : World) (g : Nat) (cs : Array Value) : w.grownBy (w.setRow g cs) (some g) := by
  have h := below_setRow (Below.refl 0 w) (Nat.zero_le g) cs
  exact ⟨h.os, h.tape, h.output, h.size, fun k _ hr => setRow_other w g k cs (fun e => hr (by rw [e]))⟩
/-- what was there but one block stays behind calls that make memory, and what they make may be written. -/
theorem kept_row {w w' : World} {r : Option Nat} (h : w.grownBy w' r) (g : Nat) (hg : w.heap.size ≤ g) (cs : Array Value) : w.grownBy (w'.setRow g cs) r := by
  have k := grown_row w' g cs
  exact ⟨k.os.trans h.os, k.tape.trans h.tape, k.output.trans h.output, Nat.le_trans h.size k.size, fun i hi hr => (k.block i (Nat.lt_of_lt_of_le hi h.size) (fun e => by cases e; exact absurd hi (Nat.not_lt.2 hg))).trans (h.block i hi hr)⟩

set_option maxRecDepth 8000 in
set_option maxHeartbeats 1600000 in
theorem call_any (w : World) (b : Nat) (st : List Int × Int) (h : K.Rd w b st) :
    Calls Try.prog 37 #[.pointer (some ⟨b, 0, none⟩)] w fun e w' => e = .returned (D.decOf (byteR st 64).1).val ∧ K.Rd w' b (byteR st 64).2 ∧ w.grownBy w' (some b) := by
  have hr := rd_later h
  have hlt := h.lt
  have hmk : ∀ w, (Instr.makeSlice 30 (.int .i64 64) (.int .i64 64)).run Try.prog w = .ok (.slice (some ⟨w.heap.size, 0, none⟩) 64 64) (w.alloc (.cells (madeCells #[.int .u8 0] 64) 5)) := run_make_row' (P := Try.prog) 30 5 (.int .u8 0) 1 Try.underlying30 D.Try.info5 rfl .i64 .i64 64 (by omega) (by omega)
  have HY : Hid (∀ n, D.Byt (byteR st n).1) := fun n => byteR_byt hr n
  have HL : Hid (∀ n, (byteR st n).1.length = n) := byteR_len st
  have Y64 : Hid (D.Byt (byteR st 64).1) := HY.out 64
  have L64 : Hid ((byteR st 64).1.length = 64) := HL.out 64
  have E64 : Hid (∀ n, n = 64 → byteR st n = byteR st 64) := fun n h => by rw [h]
  generalize byteR st 64 = D64 at *
  obtain ⟨DL, s64⟩ := D64
  dsimp only at *
  have HZ : Hid ((Try.prog.info? 26).map (·.size) = some (D.decOf DL).cells.toArray.size) := by
    unfold Hid
    rw [D.Try.size26, List.size_toArray, D.Da.cells_len _ (D.decOf_ok _ Y64.out)]
  have H1 : Hid ((D.decOf DL).cells.toArray.all (·.oneCell') = true) := D.Da.cells_one _
  have HS : Hid (D.zero9.toArray.size = (D.decOf DL).cells.toArray.size) := by
    unfold Hid
    rw [List.size_toArray, List.size_toArray, D.Da.cells_len _ (D.decOf_ok _ Y64.out)]
    rfl
  have hf0 : Hid (Blk (w.alloc (Obj.cells D.zero9.toArray 26)) w.heap.size 26 D.zero9) := D.blk_new w _ 26
  have E0 : Below w.heap.size w (w.alloc (Obj.cells D.zero9.toArray 26)) := (Below.refl _ _).alloc (Nat.le_refl _) _
  have E1 : Below w.heap.size w ((w.alloc (Obj.cells D.zero9.toArray 26)).alloc (.cells (madeCells #[.int .u8 0] 64) 5)) := E0.alloc E0.size _
  have hf1 : Hid (Blk ((w.alloc (Obj.cells D.zero9.toArray 26)).alloc (.cells (madeCells #[.int .u8 0] 64) 5)) w.heap.size 26 D.zero9) := hf0.out.alloc _
  have hr1 : R.Rd (w.heap.size ≤ ·) ((w.alloc (Obj.cells D.zero9.toArray 26)).alloc (.cells (madeCells #[.int .u8 0] 64) 5)) b st := hr.below E1
  have ho1 : ((w.alloc (Obj.cells D.zero9.toArray 26)).alloc (.cells (madeCells #[.int .u8 0] 64) 5)).rowIs (w.heap.size + 1) 5 64 (front [] 0) := by
    have := World.rowIs_made (w.alloc (Obj.cells D.zero9.toArray 26)) (.int .u8 0) 64 5
    rw [D.size_alloc'] at this
    exact this.congr (fun i hi => rfl)
  have G1 : w.grownBy ((w.alloc (Obj.cells D.zero9.toArray 26)).alloc (.cells (madeCells #[.int .u8 0] 64) 5)) (some b) := K.grown_of E1
  have HW : Hid (∀ W : World, R.Rd (w.heap.size ≤ ·) W b st → True) := fun _ _ => trivial
  clear HW h hr E0 E1
  have HO : Hid (∀ (W : World) (x : Nat), D.Bs W (some ⟨x, 0, none⟩) 64 DL → Calls Try.prog 49 #[.slice (some ⟨x, 0, none⟩) 64 64] W fun e w' => e = .returned (.tuple #[.agg (D.decOf DL).cells.toArray, .int .i64 0]) ∧ Below W.heap.size W w') := fun W x hW => by
    have := D.of_any _ 64 64 DL W hW
    exact this
  unfold D.Da.val
  generalize (D.decOf DL).cells = DR at *
  unfold D.zero9 at *
  go_enter Try.func37, Try.ntmps37
  go_wp2_with fail
  generalize (w.alloc (Obj.cells #[.int .u32 0, .int .u32 0, .int .u64 0, .int .u64 0, .int .u64 0, .int .u64 0, .int .u64 0, .int .u64 0, .int .u64 0] 26)).alloc (.cells (madeCells #[.int .u8 0] 64) 5) = w1 at *
  generalize hN : w.heap.size = N at *
  clear hmk hf0
  go_loopw [10] (fun i wr => ∃ n : Nat, n ≤ 64 ∧ i = .int .i64 n ∧ R.Rd (N ≤ ·) wr b (byteR st n).2 ∧ wr.rowIs (N + 1) 5 64 (front (byteR st n).1 n) ∧ Blk wr N 26 D.zero9 ∧ w.grownBy wr (some b)) (fun i _ => 64 - (intOf i).toNat)
  case atStart => exact ⟨0, Nat.zero_le _, rfl, hr1, ho1, hf1.out, G1⟩
  case round =>
    obtain ⟨n, hn, rfl, h2, o2, B2, G2⟩ := hrel
    clear hr1 ho1 hf1 G1
    have G2' : Hid (w.grownBy wr (some b)) := G2
    have B2' : Hid (Blk wr N 26 D.zero9) := B2
    have O2 : Hid (wr.rowIs (N + 1) 5 64 (front (byteR st n).1 n)) := o2
    have RY : Hid (D.Byt (byteR st (n + 1)).1) := HY.out (n + 1)
    have R1 : Hid ((byteR st (n + 1)).1 = (byteR st n).1 ++ [(numR (byteR st n).2 1).1]) := rfl
    have R2 : Hid ((byteR st (n + 1)).2 = (numR (byteR st n).2 1).2) := rfl
    have HLn : Hid ((byteR st n).1.length = n) := HL.out n
    clear G2 B2 o2
    by_cases hlt2 : n < 64
    · have hz : 0 ≤ (numR (byteR st n).2 1).1 ∧ (numR (byteR st n).2 1).1 ≤ 255 := RY.out _ (by rw [R1.out]; exact List.mem_append_right _ List.mem_cons_self)
      have HR : Hid (∀ W : World, R.Rd (N ≤ ·) W b (byteR st n).2 → Calls Try.prog 36 #[.pointer (some ⟨b, 0, none⟩), .int .i64 1] W fun e w' => e = .returned (.int .u64 (numR (byteR st n).2 1).1) ∧ R.Rd (N ≤ ·) w' b (numR (byteR st n).2 1).2 ∧ W.grownBy w' (some b)) := fun W hW => R.rnum_any _ W b (byteR st n).2 1 hW
      have H2 : Hid (R.Rd (N ≤ ·) wr b (byteR st n).2) := h2
      clear h2 RY
      generalize (byteR st n).1 = l at *
      generalize (numR (byteR st n).2 1).1 = z at *
      generalize (numR (byteR st n).2 1).2 = st' at *
      generalize (byteR st n).2 = sn at *
      obtain ⟨z0, z1⟩ := hz
      have hz8 : IntKind.u8.wrap z = z := by rw [IntKind.wrap_u8]; omega
      clear z0 z1 hn
      go_wp2_with fail
      refine (HR.out _ H2.out).mono ?_
      rintro e w3 ⟨rfl, h3, g3⟩
      have o3 : w3.rowIs (N + 1) 5 64 (front l n) := rowIs_kept O2.out (g3.block _ (by obtain ⟨c, hc, _⟩ := O2.out; exact lt_of_block hc) (fun e => by cases e; omega))
      have O3 : Hid (w3.rowIs (N + 1) 5 64 (front l n)) := o3
      have B3 : Hid (Blk w3 N 26 D.zero9) := by
        unfold Hid D.Blk
        rw [g3.block N B2'.out.lt (fun e => by cases e; omega)]
        exact B2'.out
      have G3 : Hid (w.grownBy w3 (some b)) := K.grown_trans G2'.out g3
      have cz := o3.cell hlt2
      have cf := o3.frozen n
      have S3 : Hid (N + 1 < w3.heap.size) := by obtain ⟨c, hc, _⟩ := o3; exact lt_of_block hc
      clear o3 g3 H2 O2 B2' G2' HR
      go_wp2
      go_roundw
      case rel =>
        refine ⟨n + 1, by omega, by go_num, ?_, ?_, ?_, ?_⟩
        · rw [R2.out]
          exact h3.grown (row := some (N + 1)) (K.grown_set _ _ _ _) (fun e => by cases e; omega) (fun g C f hC hy e => by cases e; exact hy (Nat.le_succ _))
        · rw [R1.out]
          have := O3.out.set n (.int .u8 z)
          refine this.congr fun i _ => ?_
          have e := front_step l z i
          rw [HLn.out] at e
          exact e
        · exact B3.out.other _ _ (by show N ≠ N + 1; omega)
        · exact ⟨G3.out.os, G3.out.tape, G3.out.output, by have := G3.out.size; simpa [World.setCell] using this, fun k hk hr => by
            rw [Below.heap_setCell _ _ _ _ (by show k ≠ N + 1; omega)]
            exact G3.out.block k hk hr⟩
      case measure => simp [intOf]; omega
    · have e64 := E64.out n (by omega)
      rw [e64] at O2 h2
      obtain rfl : n = 64 := by omega
      have s4 : D.Bs wr (some ⟨N + 1, 0, none⟩) 64 DL := front_bs L64.out Y64.out O2.out
      have h4 : Hid (R.Rd (N ≤ ·) wr b s64) := h2
      clear h2 O2 RY R1 R2 e64 E64 HLn HY HL
      have N1 : Hid (∀ W : World, Blk (W.alloc (Obj.cells D.zero9.toArray 26)) W.heap.size 26 D.zero9) := fun W => D.blk_new W _ 26
      unfold D.zero9 at *
      go_wp2_with (first | (go_at_call 49; refine (HO.out _ _ s4).mono ?_; rintro e w5 ⟨rfl, b5⟩; have Z5 := N1.out w5; have F5 : Hid (Blk (w5.alloc (Obj.cells #[.int .u32 0, .int .u32 0, .int .u64 0, .int .u64 0, .int .u64 0, .int .u64 0, .int .u64 0, .int .u64 0, .int .u64 0] 26)) N 26 _) := (B2'.out.over b5).alloc _; have S5 : Hid (N < w5.heap.size) := (B2'.out.over b5).lt) | (refine wpList_store_row rfl 26 (.tmp 5) (.tmp 23) rfl w5.heap.size DR.toArray rfl rfl 26 _ Z5 HZ.out HS.out H1.out ?_) | (refine wpList_load_row rfl 26 (.tmp 5) rfl w5.heap.size rfl 26 DR.toArray (0, 0) _ (Z5.row DR.toArray) Try.underlying26 rfl HZ.out ?_) | (refine wpList_store_row rfl 26 (.tmp 2) (.tmp 25) rfl N DR.toArray rfl rfl 26 _ (F5.out.row_other _ _ (Nat.ne_of_lt S5.out)) HZ.out HS.out H1.out ?_))
      have h5 : R.Rd (N ≤ ·) w5 b s64 := h4.out.below b5
      have h6 := h5.below ((Below.refl _ _).alloc (o := Obj.cells #[.int .u32 0, .int .u32 0, .int .u64 0, .int .u64 0, .int .u64 0, .int .u64 0, .int .u64 0, .int .u64 0, .int .u64 0] 26) (Nat.le_refl _))
      have h7 := h6.grown (grown_row _ w5.heap.size DR.toArray) (fun e => by cases e; exact absurd h5.lt (Nat.lt_irrefl _)) (fun g C f _ hy e => by cases e; exact hy (Nat.le_of_lt S5.out))
      have h8 := h7.grown (grown_row _ N DR.toArray) (fun e => by cases e; exact absurd hlt (Nat.lt_irrefl _)) (fun g C f _ hy e => by cases e; exact hy (Nat.le_refl _))
      refine bodyPost_ret (v := .agg DR.toArray) ?_ rfl ⟨rfl, h8.rd, ?_⟩
      · exact results_cell_row Try.results37 _ _ N 26 DR.toArray (0, 0) _ rfl (Blk.row (F5.out.row_other _ _ (Nat.ne_of_lt S5.out)) _) Try.underlying26 rfl HZ.out
      · have g6 := K.grown_trans G2'.out (K.grown_of (row := some b) (b5.trans ((Below.refl _ _).alloc (o := Obj.cells #[.int .u32 0, .int .u32 0, .int .u64 0, .int .u64 0, .int .u64 0, .int .u64 0, .int .u64 0, .int .u64 0, .int .u64 0] 26) b5.size)))
        exact kept_row (kept_row g6 w5.heap.size (by rw [hN]; exact Nat.le_of_lt S5.out) _) N (Nat.le_of_eq hN) _

end Go.Proofs.Ytpdndcmaaghnjaa
