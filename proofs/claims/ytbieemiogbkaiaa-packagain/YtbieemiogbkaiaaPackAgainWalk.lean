/-
  The law PackAgain, walked: true for all bytes and all asks.
-/
import Derived.Test.YtbieemiogbkaiaaAgainMath
namespace Go.Proofs.Ytbieemiogbkaiaa
open Go.RowKit

theorem own_apart2 {w : World} {base n : Nat} {s : Value} {xs : List Value} {b : Nat} {t : TypeId} {u v : Value} (ht : t ≠ 32) (h : w.ownsRow base 32 4 s n xs) (h2 : Two w b t u v) : s.ownBlock ≠ some b := by
  intro e
  rcases h.2 with ⟨rfl, rfl⟩ | ⟨g, cap, cur, rfl, hb, hg, _⟩
  · cases e
  · cases e
    unfold Two at h2
    rw [h2] at hg
    simp at hg
    exact ht hg.2

/-- a reader stays as it was while items are appended. -/
theorem Rd.items {w w' : World} {b base n : Nat} {st : List Int × Int} {s : Value} {xs : List Value} (h : Rd w b st) (ho : w.ownsRow base 32 4 s n xs) (hg : w.grownBy w' s.ownBlock) : Rd w' b st := by
  obtain ⟨a, m, cap, t2, _⟩ := h.ex
  refine h.grown hg (own_apart2 (by decide) ho t2) (fun g C f hC e => ?_)
  rcases ho.2 with ⟨rfl, rfl⟩ | ⟨g', cap', cur, rfl, hb, hg', _⟩
  · cases e
  · cases e
    rw [hC] at hg'
    simp at hg'

/-- items stay as they were while a reader is asked. -/
theorem owns_read {w w' : World} {b base n : Nat} {st : List Int × Int} {s : Value} {xs : List Value} (h : Rd w b st) (ho : w.ownsRow base 32 4 s n xs) (hg : w.grownBy w' (some b)) : w'.ownsRow base 32 4 s n xs := by
  obtain ⟨a, m, cap, t2, _⟩ := h.ex
  exact ho.kept hg (.inr (own_apart2 (by decide) ho t2))

theorem owns_block2 {w : World} {base : Nat} {v : Value} {n : Nat} {xs : List Value} (h : w.ownsRow base 32 4 v n xs) : ∀ k, v.ownBlock = some k → base ≤ k := by
  intro k hk
  rcases h.2 with ⟨rfl, rfl⟩ | ⟨g, cap, cur, rfl, hb, _⟩
  · cases hk
  · cases hk; exact hb

set_option maxRecDepth 4000 in
set_option maxHeartbeats 6000000 in
theorem packAgain_walk (a1 : Option Addr) (len1 cap1 : Nat) (l1 : List Int) (a2 : Option Addr) (len2 cap2 : Nat) (l2 : List Int) (w : World) (hao : a1 = none → cap1 = 0) (hb : Bs w a1 len1 l1) (hs : Ns w a2 len2 l2) :
    Calls Try.prog 6 #[.slice a1 len1 cap1, .slice a2 len2 cap2] w fun e w' => e = .returned (.bool true) ∧ Below w.heap.size w w' := by
  by_cases hl1 : 20000 < len1
  · clear hao hb hs
    go_enter Try.func6, Try.ntmps6
    go_wp2_with (go_at_call 9; refine (awake_any _).mono ?_; rintro e w1 ⟨rfl, hbel⟩)
    go_ret
    exact ⟨rfl, hbel⟩
  by_cases hl2 : 200 < len2
  · clear hao hb hs
    go_enter Try.func6, Try.ntmps6
    go_wp2_with (go_at_call 9; refine (awake_any _).mono ?_; rintro e w1 ⟨rfl, hbel⟩)
    go_ret
    exact ⟨rfl, hbel⟩
  have AO : Hid (a1 = none → cap1 = 0) := hao
  clear hao
  have hll := hb.1
  go_enter Try.func6, Try.ntmps6
  go_wp2_with fail
  refine (awake_any _).mono ?_
  rintro e w1 ⟨rfl, hbel⟩
  have hb1 := hb.below hbel
  go_wp2_with fail
  refine (read_any a1 len1 cap1 l1 _ AO.out (by omega) hb1).mono ?_
  rintro e w2 ⟨rb, rfl, hr2, hrb, hb2⟩
  have hB : w.heap.size ≤ rb := Nat.le_trans hbel.size hrb
  have hbb2 := hbel.trans (hb2.mono hbel.size)
  have HA0 : Hid (Agn l1 [] (l1, 0)) := ⟨by simp, hb.2.1, fun _ => ⟨[], rfl, rfl⟩⟩
  clear hb1 hb2 hrb hbel
  go_wp2
  go_loopw [7, 8] (fun v i wr => ∃ k : Nat, ∃ its : List It, ∃ st : List Int × Int, k ≤ len2 ∧ i = .int .i64 k ∧ its.length = k ∧ wr.ownsRow w.heap.size 32 4 v k (cellsI its) ∧ Agn l1 its st ∧ Rd wr rb st ∧ Below w.heap.size w wr) (fun _ i _ => len2 - (intOf i).toNat)
  case atStart => exact ⟨0, [], (l1, 0), Nat.zero_le _, rfl, rfl, ⟨rfl, .inl ⟨rfl, rfl⟩⟩, HA0.out, hr2, hbb2⟩
  case round =>
    obtain ⟨k, its, st, hk, rfl, hlen, ho, hag, hr, hbr⟩ := hrel
    by_cases hlt : k < len2
    · obtain ⟨b, off, rfl, hc⟩ := hs.2 (by omega)
      have HCW : Hid (w.cell? ⟨b, off + k, none⟩ = some (.int .i64 (l2.getD k 0))) := hc k hlt
      have HBL : Hid (b < w.heap.size) := World.block_lt_of_cell? w _ HCW.out
      have hck : wr.cell? ⟨b, off + k, none⟩ = some (.int .i64 (l2.getD k 0)) := (hbr.cell (p := ⟨b, off + k, none⟩) HBL.out).trans HCW.out
      clear hc hr2 hbb2
      generalize l2.getD k 0 = x at *
      have hi1 : (k : Int) < (len2 : Int) := by omega
      by_cases hx : x = 0
      · subst hx
        have HA : Hid (Agn l1 (its ++ [⟨0, 0, true, strOfNums (textR st).1⟩]) (textR st).2) := agn_text l1 its st hag
        go_wp2_with (first | (go_at_call 15; refine (rtext_any _ rb _ hr).mono ?_; rintro e w3 ⟨rfl, hr3, hg3⟩; have ho3 := owns_read hr ho hg3; have hb3 := hbr.trans (below_grown hg3 hbr.size hB); generalize textR st = tr at *; obtain ⟨t1, t2⟩ := tr; simp only at hr3) | (at_builtin; refine append_item rfl (.tmp 40) (.tmp 43) rfl w.heap.size _ k its rfl (ho3.alloc _) ⟨0, 0, true, strOfNums t1⟩ _ rfl (new_cells w3 _ _ rfl) (by omega) (Nat.le_trans hb3.size (by simp)) ?_; intro v4 w4 ho4 hg4))
        go_roundw
        case rel =>
          have hb3a := hb3.alloc hb3.size (Obj.cells #[.int .u64 0, .int .i64 0, .bool true, .string (strOfNums t1)] 32)
          have hb4 := hb3a.grown hg4 hb3a.size (owns_block2 ho3)
          have hr4 := (hr3.boxed _).items (ho3.alloc _) hg4
          exact ⟨k + 1, _, t2, by omega, by go_num, by rw [List.length_append, hlen]; rfl, ho4, HA.out, hr4, hb4⟩
        case measure => simp [intOf]; omega
      · have HA : Hid (Agn l1 (its ++ [⟨(numR st x).1, x, false, ⟨#[]⟩⟩]) (numR st x).2) := agn_num l1 its st x hag
        go_wp2_with (first | (go_at_call 17; refine (rnum_any _ rb _ x hr).mono ?_; rintro e w3 ⟨rfl, hr3, hg3⟩; have ho3 := owns_read hr ho hg3; have hb3 := hbr.trans (below_grown hg3 hbr.size hB); have hck3 : w3.cell? ⟨b, off + k, none⟩ = some (.int .i64 x) := (hb3.cell (p := ⟨b, off + k, none⟩) HBL.out).trans HCW.out; generalize numR st x = tr at *; obtain ⟨t1, t2⟩ := tr; simp only at hr3) | (at_builtin; refine append_item rfl (.tmp 51) (.tmp 58) rfl w.heap.size _ k its rfl (ho3.alloc _) ⟨t1, x, false, ⟨#[]⟩⟩ _ rfl (new_cells w3 _ _ rfl) (by omega) (Nat.le_trans hb3.size (by simp)) ?_; intro v4 w4 ho4 hg4))
        go_roundw
        case rel =>
          have hb3a := hb3.alloc hb3.size (Obj.cells #[.int .u64 t1, .int .i64 x, .bool false, .string ⟨#[]⟩] 32)
          have hb4 := hb3a.grown hg4 hb3a.size (owns_block2 ho3)
          have hr4 := (hr3.boxed _).items (ho3.alloc _) hg4
          exact ⟨k + 1, _, t2, by omega, by go_num, by rw [List.length_append, hlen]; rfl, ho4, HA.out, hr4, hb4⟩
        case measure => simp [intOf]; omega
    · obtain rfl : k = len2 := by omega
      obtain ⟨a4, cap4, rfl, hit⟩ := owns_items ho hag.1
      by_cases he : endR st = 0
      · have hla := agn_end l1 its st hag he
        go_wp2_with fail
        refine (rend_any _ rb _ hr).mono ?_
        rintro e w' ⟨rfl, rfl⟩
        rw [he]
        go_wp2_with fail
        refine (laid_any a4 k cap4 its _ (by omega) hit).mono ?_
        rintro e w5 ⟨hb5, v5, rfl, ho5, hbd5⟩
        rw [hla] at ho5 hbd5
        rw [hla]
        obtain ⟨a5, cap5, rfl, hbs5, _⟩ := owns_bs ho5 hbd5
        have hb6 := hbr.trans (hb5.mono hbr.size)
        have hc5 := run_text hbs5 cap5
        have hc1 := run_text (hb.below hb6) cap1
        simp only [hll] at hc5 ⊢
        clear hbs5 ho5 hbd5
        go_wp2
        go_ret
        exact ⟨rfl, hb6⟩
      · go_wp2_with fail
        refine (rend_any _ rb _ hr).mono ?_
        rintro e w' ⟨rfl, rfl⟩
        generalize endR st = q at *
        go_wp2
        go_ret
        exact ⟨rfl, hbr⟩

end Go.Proofs.Ytbieemiogbkaiaa
