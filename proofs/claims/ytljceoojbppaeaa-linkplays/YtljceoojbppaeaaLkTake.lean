/-
  The other methods of a link.
-/
import Derived.Test.YtljceoojbppaeaaLkSpoil
import Derived.Deep.MidRow
namespace Go.Proofs.Ytljceoojbppaeaa
open Go.RowKit D

set_option maxHeartbeats 1000000 in
theorem drop_any (b : Nat) (s : Lk) (w : World) (h : LkV w b s) (n : Int) (hn : n < 9223372036854775808) :
    Calls Try.prog 15 #[.pointer (some ⟨b, 0, none⟩), .int .i64 n] w fun e w' => e = .returned (.bool (s.has n)) ∧ LkV w' b (s.drop n) ∧ Kb b w w' := by
  have HB := drop_bef b s w h n hn
  go_enter Try.func15, Try.ntmps15
  go_wp2_with (go_at_call 30; refine HB.mono ?_; rintro e w1 ⟨rfl, h1, k1⟩)
  go_ret
  exact ⟨rfl, h1, k1⟩
set_option maxHeartbeats 1000000 in
theorem twice_any (b : Nat) (s : Lk) (w : World) (h : LkV w b s) (n : Int) (hn : n < 9223372036854775808) :
    Calls Try.prog 16 #[.pointer (some ⟨b, 0, none⟩), .int .i64 n] w fun e w' => e = .returned (.bool (s.mayTwice n)) ∧ LkV w' b (s.twice n) ∧ Kb b w w' := by
  have HB := twice_bef b s w h n hn
  go_enter Try.func16, Try.ntmps16
  go_wp2_with (go_at_call 30; refine HB.mono ?_; rintro e w1 ⟨rfl, h1, k1⟩)
  go_ret
  exact ⟨rfl, h1, k1⟩
set_option maxHeartbeats 1000000 in
theorem spoil_any (b : Nat) (s : Lk) (w : World) (h : LkV w b s) (n bit : Int) (hn : n < 9223372036854775808) :
    Calls Try.prog 17 #[.pointer (some ⟨b, 0, none⟩), .int .i64 n, .int .i64 bit] w fun e w' => e = .returned (.bool (s.has n)) ∧ LkV w' b (s.spoil n bit) ∧ Kb b w w' := by
  have HB := spoil_bef b s w h n bit hn
  go_enter Try.func17, Try.ntmps17
  go_wp2_with (go_at_call 30; refine HB.mono ?_; rintro e w1 ⟨rfl, h1, k1⟩)
  go_ret
  exact ⟨rfl, h1, k1⟩
set_option maxHeartbeats 1000000 in
theorem len_any (b : Nat) (s : Lk) (up : Bool) (w : World) (h : LkV w b s) :
    Calls Try.prog 11 #[.pointer (some ⟨b, 0, none⟩), .bool up] w fun e w' => e = .returned (.int .i64 ((s.sel up).length : Nat)) ∧ Below w.heap.size w w' := by
  have HL : Hid (LkV w b s) := h
  clear h
  have HM : Hid (∀ W, LkV W b s → W.cell? ⟨b, offs up + 64, none⟩ = some (.int .i64 ((s.sel up).length : Nat))) := fun W hW => by
    obtain ⟨A, Z, hA, hR, _⟩ := hW.row up
    rw [← hA]
    exact hR.many
  go_enter Try.func11, Try.ntmps11
  go_wp2_with (first
    | (go_at_call 26; refine (wayOf_any up _).mono ?_; rintro e w1 ⟨rfl, hw1⟩; subst w1)
    | (go_at_call 25; refine (row_any b up _).mono ?_; rintro e w2 ⟨rfl, hb2⟩; have hm := HM.out _ (HL.out.over hb2)))
  go_ret
  exact ⟨rfl, hb2⟩

/-- no frame. -/
def lk0 : Lk := ⟨[], []⟩
theorem lk0_ok : lk0.ok := ⟨okR_nil, okR_nil⟩
def zeroLk : Array Value := (rowC [] ++ rowC []).toArray
theorem lk_new (w : World) : LkV (w.alloc (.cells zeroLk 30)) w.heap.size lk0 := ⟨blk_new w zeroLk 30, lk0_ok⟩

set_option maxRecDepth 20000 in
set_option maxHeartbeats 4000000 in
theorem clear_any (b : Nat) (s : Lk) (w : World) (h : LkV w b s) :
    Calls Try.prog 18 #[.pointer (some ⟨b, 0, none⟩)] w fun e w' => e = .returned (.tuple #[]) ∧ LkV w' b lk0 ∧ Kb b w w' := by
  have HL : Hid (LkV w b s) := h
  have HZ : Hid (∀ W, W = w.setRow b zeroLk → LkV W b lk0 ∧ Kb b w W) := fun W hW => by
    subst hW
    exact ⟨⟨HL.out.blk.row zeroLk, lk0_ok⟩, ⟨rfl, rfl, rfl, by simp [World.setRow], fun k hk hne => setRow_other w b k zeroLk hne⟩⟩
  have hlen : (rowC s.u ++ rowC s.d).toArray.size = zeroLk.size := by
    have h1 := rowC_len h.ok.1.1
    have h2 := rowC_len h.ok.2.1
    have h3 := rowC_len (l := []) (by decide)
    simp only [zeroLk, List.size_toArray, List.length_append, h1, h2, h3]
  have hz : (Try.prog.info? 30).map (·.size) = some zeroLk.size := by kernel_rfl
  have hone : zeroLk.all (·.oneCell') = true := by kernel_rfl
  have hbu : ∀ W, (zeroValue 30).run Try.prog W = .ok (.agg zeroLk) W := fun W => by kernel_rfl
  clear h
  generalize zeroLk = Z at *
  go_enter Try.func18, Try.ntmps18
  go_wp2_with (refine wpList_store_row rfl 30 (.tmp 4) (.tmp 3) rfl b Z rfl rfl 30 _ HL.out.blk hz hlen hone ?_)
  go_end0
  exact ⟨rfl, HZ.out _ rfl⟩

/-- a slice of bytes; one that was made since. -/
def PcV (w : World) (v : Value) (l : List Int) : Prop := ∃ a cap, v = .slice a l.length cap ∧ Bs w a l.length l ∧ (a = none → cap = 0)
def New (B : Nat) (v : Value) : Prop := ∀ k, v.ownBlock = some k → B ≤ k
theorem pc_nil (w : World) : PcV w (.slice none 0 0) [] := ⟨none, 0, rfl, ⟨rfl, (fun _ h => by cases h), fun h => absurd h (by decide)⟩, fun _ => rfl⟩
/-- what Take tells. -/
def Lk.came (s : Lk) (up : Bool) (n : Int) : List Int := if hasN (s.sel up) n then (s.sel up).getD n.toNat [] else []

set_option maxHeartbeats 4000000 in
theorem take_any (b : Nat) (s : Lk) (up : Bool) (n : Int) (w : World) (h : LkV w b s) :
    Calls Try.prog 14 #[.pointer (some ⟨b, 0, none⟩), .bool up, .int .i64 n] w fun e w' => ∃ v, e = .returned (.tuple #[v, .bool (hasN (s.sel up) n)]) ∧ PcV w' v (s.came up n) ∧ New w.heap.size v ∧ LkV w' b (s.take up n) ∧ Kb b w w' := by
  have HL : Hid (LkV w b s) := h
  clear h
  have HC : Hid (s.came up n = if hasN (s.sel up) n then (s.sel up).getD n.toNat [] else []) := rfl
  have HE : Hid (hasN (s.sel up) n = false → s.take up n = s) := fun e => by unfold Lk.take; rw [e, if_neg (by decide)]
  have HH : Hid (∀ W, LkV W b s → Calls Try.prog 28 #[.pointer (some ⟨b, offs up, none⟩), .int .i64 n] W fun e w' => e = .returned (.bool (hasN (s.sel up) n)) ∧ w' = W) := fun W hW => hasL_any W b s up hW n
  have HR : Hid (∀ W, LkV W b s → hasN (s.sel up) n = true → Calls Try.prog 29 #[.pointer (some ⟨b, offs up, none⟩), .int .i64 n] W fun e w' => e = .returned (.tuple #[]) ∧ LkV w' b (s.take up n) ∧ Kb b W w') := fun W hW hq => removeL_any W b s up hW n hq
  have HK : Hid (∀ W, LkV W b s → hasN (s.sel up) n = true → ∃ k : Nat, n = (k : Int) ∧ k < 64 ∧ W.cell? ⟨b, offs up + k, none⟩ = some (.string (strOfNums ((s.sel up).getD k []))) ∧ okF ((s.sel up).getD k []) ∧ b < W.heap.size) := fun W hW hq => by
    obtain ⟨k, rfl, h1, h2, _⟩ := hW.cell up n hq
    exact ⟨k, rfl, h1, h2, okR_get (Lk.ok_sel hW.ok up) (by have := hasN_lt hq; simpa using this.2), hW.blk.lt⟩
  generalize s.take up n = s' at *
  generalize s.came up n = f at *
  generalize hasN (s.sel up) n = q at *
  go_enter Try.func14, Try.ntmps14
  go_upto_region 2 with (first
    | (go_at_call 26; refine (wayOf_any up _).mono ?_; rintro e w1 ⟨rfl, hw1⟩; subst w1)
    | (go_at_call 25; refine (row_any b up _).mono ?_; rintro e w2 ⟨rfl, hb2⟩))
  have HL2 : Hid (LkV w2 b s) := HL.out.over hb2
  have HB2 : Hid (Below w.heap.size w w2) := hb2
  clear hb2
  cases q with
  | false =>
    go_wp2_with (go_at_call 28; refine (HH.out w2 HL2.out).mono ?_; rintro e w3 ⟨rfl, rfl⟩)
    go_ret2
    rw [HC.out, if_neg (by decide), HE.out trivial]
    exact ⟨_, rfl, pc_nil _, (fun k e => by cases e), HL2.out, kb_below HB2.out⟩
  | true =>
    obtain ⟨k, rfl, hk, hc, hok, hbl⟩ := HK.out w2 HL2.out rfl
    have HF : Hid (f = (s.sel up).getD k []) := by
      unfold Hid
      rw [HC.out, if_pos rfl]
      rfl
    rw [← HF.out] at hc hok
    obtain ⟨c, w4, hrun, hM⟩ := to_bytes w2 f hok.1
    have HM : Hid (Mk w2 w4 f) := hM
    have HL4 : Hid (LkV w4 b s) := HL2.out.over hM.bel
    have HR4 : Hid (Calls Try.prog 29 #[.pointer (some ⟨b, offs up, none⟩), .int .i64 k] w4 fun e w' => e = .returned (.tuple #[]) ∧ LkV w' b s' ∧ Kb b w4 w') := HR.out w4 HL4.out rfl
    have HX : Hid (b < w2.heap.size) := hbl
    have hki : (k : Int) < 64 := by omega
    clear hM hbl hok
    generalize hsf : strOfNums f = sf at *
    generalize offs up = o at *
    go_wp2_with (first
      | (go_at_call 28; refine (HH.out w2 HL2.out).mono ?_; rintro e w3 ⟨rfl, rfl⟩)
      | (go_at_call 29; refine HR4.out.mono ?_; rintro e w5 ⟨rfl, h5, k5⟩))
    go_ret2
    refine ⟨_, rfl, ⟨_, c, rfl, ?_, fun e => by cases e⟩, fun i e => ?_, h5, ((kb_below HB2.out).trans (kb_below HM.out.bel)).trans k5⟩
    · refine ⟨rfl, HM.out.bs.2.1, fun h0 => ?_⟩
      obtain ⟨g, off, e, hcs⟩ := HM.out.bs.2.2 h0
      cases e
      refine ⟨_, _, rfl, fun i hi => ?_⟩
      have := hcs i hi
      rw [World.cell?_of_block (k5.block _ HM.out.lt (Nat.ne_of_gt HX.out))]
      exact this
    · cases e
      exact HB2.out.size

end Go.Proofs.Ytljceoojbppaeaa
