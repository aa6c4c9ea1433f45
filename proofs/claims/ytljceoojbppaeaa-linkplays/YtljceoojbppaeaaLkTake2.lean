/-
  Take, with where its bytes lie.
-/
import Derived.Test.YtljceoojbppaeaaLkRows
namespace Go.Proofs.Ytljceoojbppaeaa
open Go.RowKit D

theorem to_bytes_tag (w : World) (f : List Int) (hf : Byt f) : ∃ c w', (convert 9 37 (.string (strOfNums f))).run Try.prog w = .ok (.slice (some ⟨w.heap.size, 0, none⟩) f.length c) w' ∧ Mk w w' f ∧ ∃ cs fr, w'.heap[w.heap.size]? = some (.cells cs 5 fr) := by
  obtain ⟨c, w', h1, h2⟩ := to_bytes w f hf
  have h := run_bytes_of_string (P := Try.prog) w 9 37 5 (strOfNums f) Try.underlying9 Try.underlying37 Try.underlying5
  rw [h1] at h
  injection h with _ h3
  exact ⟨c, w', h1, h2, _, _, by rw [h3]; exact heap_alloc_new w.drew _⟩

set_option maxHeartbeats 4000000 in
theorem take_tag (b : Nat) (s : Lk) (up : Bool) (n : Int) (w : World) (h : LkV w b s) :
    Calls Try.prog 14 #[.pointer (some ⟨b, 0, none⟩), .bool up, .int .i64 n] w fun e w' => ∃ v, e = .returned (.tuple #[v, .bool (hasN (s.sel up) n)]) ∧ (∀ B, PcT B w' v (s.came up n)) ∧ New w.heap.size v ∧ LkV w' b (s.take up n) ∧ Kb b w w' := by
  have HL : Hid (LkV w b s) := h
  clear h
  have HC : Hid (s.came up n = if hasN (s.sel up) n then (s.sel up).getD n.toNat [] else []) := rfl
  have HE : Hid (hasN (s.sel up) n = false → s.take up n = s) := fun e => by unfold Lk.take; rw [e, if_neg (by decide)]
  have HH : Hid (∀ W, LkV W b s → Calls Try.prog 28 #[.pointer (some ⟨b, offs up, none⟩), .int .i64 n] W fun e w' => e = .returned (.bool (hasN (s.sel up) n)) ∧ w' = W) := fun W hW => hasL_any W b s up hW n
  have HR : Hid (∀ W, LkV W b s → hasN (s.sel up) n = true → Calls Try.prog 29 #[.pointer (some ⟨b, offs up, none⟩), .int .i64 n] W fun e w' => e = .returned (.tuple #[]) ∧ LkV w' b (s.take up n) ∧ Kb b W w') := fun W hW hq => removeL_any W b s up hW n hq
  have HK : Hid (∀ W, LkV W b s → hasN (s.sel up) n = true → ∃ k : Nat, n = (k : Int) ∧ k < 64 ∧ W.cell? ⟨b, offs up + k, none⟩ = some (.string (strOfNums ((s.sel up).getD k []))) ∧ okF ((s.sel up).getD k []) ∧ b < W.heap.size) := fun W hW hq => by
    obtain ⟨k, rfl, h1, h2, _⟩ := hW.cell up n hq
    exact ⟨k, rfl, h1, h2, okR_get (Lk.ok_sel hW.ok up) (by have := hasN_lt hq; simpa using this.2), hW.blk.lt⟩
  generalize s.take up n = s' at *
  generalize s.came up n = f at *
  generalize hasN (s.sel up) n = q at *
  go_enter Try.func14, Try.ntmps14
  go_upto_region 2 with (first
    | (go_at_call 26; refine (wayOf_any up _).mono ?_; rintro e w1 ⟨rfl, hw1⟩; subst w1)
    | (go_at_call 25; refine (row_any b up _).mono ?_; rintro e w2 ⟨rfl, hb2⟩))
  have HL2 : Hid (LkV w2 b s) := HL.out.over hb2
  have HB2 : Hid (Below w.heap.size w w2) := hb2
  clear hb2
  cases q with
  | false =>
    go_wp2_with (go_at_call 28; refine (HH.out w2 HL2.out).mono ?_; rintro e w3 ⟨rfl, rfl⟩)
    go_ret2
    rw [HC.out, if_neg (by decide), HE.out trivial]
    exact ⟨_, rfl, fun B => ⟨pc_nil _, fun h => absurd h (by decide)⟩, (fun k e => by cases e), HL2.out, kb_below HB2.out⟩
  | true =>
    obtain ⟨k, rfl, hk, hc, hok, hbl⟩ := HK.out w2 HL2.out rfl
    have HF : Hid (f = (s.sel up).getD k []) := by
      unfold Hid
      rw [HC.out, if_pos rfl]
      rfl
    rw [← HF.out] at hc hok
    obtain ⟨c, w4, hrun, hM, cs4, fr4, ht4⟩ := to_bytes_tag w2 f hok.1
    have HT4 : Hid (w4.heap[w2.heap.size]? = some (.cells cs4 5 fr4)) := ht4
    have HM : Hid (Mk w2 w4 f) := hM
    have HL4 : Hid (LkV w4 b s) := HL2.out.over hM.bel
    have HR4 : Hid (Calls Try.prog 29 #[.pointer (some ⟨b, offs up, none⟩), .int .i64 k] w4 fun e w' => e = .returned (.tuple #[]) ∧ LkV w' b s' ∧ Kb b w4 w') := HR.out w4 HL4.out rfl
    have HX : Hid (b < w2.heap.size) := hbl
    have hki : (k : Int) < 64 := by omega
    clear hM hbl hok ht4
    generalize hsf : strOfNums f = sf at *
    generalize offs up = o at *
    go_wp2_with (first
      | (go_at_call 28; refine (HH.out w2 HL2.out).mono ?_; rintro e w3 ⟨rfl, rfl⟩)
      | (go_at_call 29; refine HR4.out.mono ?_; rintro e w5 ⟨rfl, h5, k5⟩))
    go_ret2
    refine ⟨_, rfl, fun B => ⟨⟨_, c, rfl, ?_, fun e => by cases e⟩, fun _ => ⟨_, rfl, .inr ⟨cs4, fr4, by rw [k5.block _ HM.out.lt (Nat.ne_of_gt HX.out)]; exact HT4.out⟩⟩⟩, fun i e => ?_, h5, ((kb_below HB2.out).trans (kb_below HM.out.bel)).trans k5⟩
    · refine ⟨rfl, HM.out.bs.2.1, fun h0 => ?_⟩
      obtain ⟨g, off, e, hcs⟩ := HM.out.bs.2.2 h0
      cases e
      refine ⟨_, _, rfl, fun i hi => ?_⟩
      have := hcs i hi
      rw [World.cell?_of_block (k5.block _ HM.out.lt (Nat.ne_of_gt HX.out))]
      exact this
    · cases e
      exact HB2.out.size


theorem take_tag_to {b : Nat} {s s' : Lk} {up q : Bool} {w : World} (h : LkV w b s) {n : Int} {f : List Int} (hq : hasN (s.sel up) n = q) (hf : s.came up n = f) (hs : s.take up n = s') :
    Calls Try.prog 14 #[.pointer (some ⟨b, 0, none⟩), .bool up, .int .i64 n] w fun e w' => ∃ v, e = .returned (.tuple #[v, .bool q]) ∧ (∀ B, PcT B w' v f) ∧ New w.heap.size v ∧ LkV w' b s' ∧ Kb b w w' := by subst hq hf hs; exact take_tag b s up n w h

end Go.Proofs.Ytljceoojbppaeaa
