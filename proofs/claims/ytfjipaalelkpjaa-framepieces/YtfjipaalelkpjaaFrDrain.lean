/-
  All that is found in a reader, by the laws' own function.
-/
import Derived.Test.YtfjipaalelkpjaaFrDrn
namespace Go.Proofs.Ytfjipaalelkpjaa
open Go.RowKit D

set_option maxRecDepth 100000 in
set_option maxHeartbeats 4000000 in
theorem drained_any (b n : Nat) (v : Value) (l : List Int) (w : World) (h : Rdr w b v l n) (hn : l.length ≤ 4000) (hn2 : n + l.length ≤ 100000) :
    Calls Try.prog 18 #[.pointer (some ⟨b, 0, none⟩)] w fun e w' => ∃ u vs v', e = .returned u ∧ DrT b n v l w u vs v' w' := by
  have hbl := h.blk.lt
  have HLT : Hid (∀ k, v.ownBlock = some k → k < w.heap.size) := h.wt.lt
  have H0 : Hid (Dr b n v l w w (.slice none 0 0) [] [] v l 0) := ⟨rw_nil _ _, h, rfl, Kp.refl _ _, by rw [List.nil_append, Nat.zero_add], by simp⟩
  have HLN : Hid (l.length ≤ 4000 ∧ n + l.length ≤ 100000) := ⟨hn, hn2⟩
  clear h hn hn2
  go_enter Try.func18, Try.ntmps18
  go_wp2
  go_loopg [3, 4] (l.length + 1) (fun g vo vi wr => ∃ (i : Nat) (ds : List (List Int)) (vs : List Value) (v' : Value) (l' : List Int) (j : Nat), vi = .int .i64 i ∧ l'.length + 1 = g ∧ Hid (i = ds.length ∧ Dr b n v l w wr vo ds vs v' l' j))
  case atStart => exact ⟨0, [], [], v, l, 0, rfl, rfl, rfl, H0.out⟩
  case round =>
    obtain ⟨i, ds, vs, v', l', j, rfl, rfl, hd⟩ := hrel
    obtain ⟨hil, hg⟩ := hd.out
    have HG : Hid (Dr b n v l w wr u3 ds vs v' l' j) := hg
    have hs := hg.s
    have hi4 : (i : Int) < 4000 := by have := HLN.out; omega
    have h1 : l'.length ≤ 100000 := by have := HLN.out; omega
    have h2 : n + j + l'.length ≤ 1000000 := by have := HLN.out; omega
    have HI : Hid (i = ds.length ∧ ds.length ≤ 4000) := ⟨hil, by have := HLN.out; omega⟩
    have hbw : b < wr.heap.size := hg.r.blk.lt
    rcases hq : nxt sm l' with ⟨k, _ | bd, r⟩
    · have HN : Hid (Calls Try.prog 14 #[.pointer (some ⟨b, 0, none⟩)] wr fun e w' => ∃ v2, e = .returned (.tuple #[.slice none 0 0, .bool false]) ∧ Rdr w' b v2 r (n + j + k) ∧ v2.ownBlock = v'.ownBlock ∧ Kp (· = b) wr w') := next_none hg.r h1 h2 hq
      have HQ : Hid (nxt sm l' = (k, none, r)) := hq
      clear hg hs h1 h2 hil hq hd
      go_wp2_with (go_at_call 14; refine HN.out.mono ?_; rintro e w2 ⟨v2, rfl, hr2, ho2, hk2⟩)
      go_ret
      exact ⟨_, vs, v2, rfl, HG.out.fin HQ.out hr2 ho2 hk2 hbl⟩
    · have HN : Hid (Calls Try.prog 14 #[.pointer (some ⟨b, 0, none⟩)] wr fun e w' => ∃ u v2, e = .returned (.tuple #[u, .bool true]) ∧ Wt w' u bd ∧ Own wr.heap.size u ∧ Rdr w' b v2 r (n + j + k) ∧ v2.ownBlock = v'.ownBlock ∧ Kp (· = b) wr w') := next_some hg.r h1 h2 hq
      have HQ : Hid (nxt sm l' = (k, some bd, r)) := hq
      have hlt : Hid (r.length + 1 < l'.length + 1) := by have := nxt_less hq; unfold Hid; omega
      clear hg hs h1 h2 hil hq hd
      go_upto_region 8 with (go_at_call 14; refine HN.out.mono ?_; rintro e w2 ⟨u, v2, rfl, hu, hou, hr2, ho2, hk2⟩)
      have HR2 : Hid (Rw (· < w.heap.size) w2 u3 ds vs) := HG.out.rw.kp hk2 fun k _ e => by rw [e]; exact hbl
      have HU : Hid (Bd (fun k => k < w.heap.size ∨ u3.ownBlock = some k) w2 u bd) := hu.bd fun k hk hx => by
        have := hou k hk
        rcases hx with hx | hx
        · have := HG.out.k.size; omega
        · have := HG.out.rw.lt k hx; omega
      have HS : Hid (w.heap.size ≤ w2.heap.size) := Nat.le_trans HG.out.k.size hk2.size
      have HRd : Hid (Rdr w2 b v2 r (n + j + k) ∧ v2.ownBlock = v'.ownBlock ∧ Kp (· = b) wr w2) := ⟨hr2, ho2, hk2⟩
      obtain ⟨ua, uc, rfl, _⟩ := hu.slice
      clear hu hou hr2 ho2 hk2
      go_wp2_with
        (refine app_one rfl (.tmp 19) (.tmp 21) rfl u3 ds vs rfl HR2.out (.slice ua bd.length uc) bd HU.out _ rfl rfl (by have := HI.out; omega) ⟨by have := HS.out; omega, by have := HS.out; omega⟩ ?_; intro o' w3 hr3 hk3 ho3
         have HO3 : Hid (Rw (· < w.heap.size) w3 o' (ds ++ [bd]) (vs ++ [.slice ua bd.length uc]) ∧ Kp (fun k => u3.ownBlock = some k) w2 w3) := ⟨hr3, hk3⟩
         clear hr3 hk3 ho3)
      go_roundg (r.length + 1)
      case measure => exact hlt.out
      case rel =>
        have hrd : Rdr w3 b v2 r (n + j + k) := HRd.out.1.kp HO3.out.2 (fun e => HG.out.rw.ap b e hbl) fun q hq e => by
          rw [HRd.out.2.1, HG.out.o] at hq
          exact HG.out.rw.ap q e (HLT.out q hq)
        exact ⟨i + 1, ds ++ [bd], _, v2, r, j + k, rfl, rfl, by rw [List.length_append, List.length_singleton, HI.out.1], HG.out.more HQ.out hrd HRd.out.2.1 ((HRd.out.2.2.mono fun _ _ e => .inl e).trans (HO3.out.2.mono fun _ _ e => .inr e)) HO3.out.1⟩

end Go.Proofs.Ytfjipaalelkpjaa
