/-
  The small question comes out true; the frame of any body.
-/
import Derived.Test.YtfjipaalelkpjaaFrRNx
import Derived.Lib.SlBytesConst
namespace Go.Proofs.Ytfjipaalelkpjaa
open Go.RowKit D

theorem rdr_new (w : World) : Rdr (w.alloc (.cells #[.slice none 0 0, .int .i64 0] 32)) w.heap.size (.slice none 0 0) [] 0 := ⟨blk_new w _ _, wt_nil _, fun e => by cases e⟩
theorem feed_wt (b n : Nat) (v : Value) (l : List Int) (w : World) (h : Rdr w b v l n) (u : Value) (k : List Int) (hu : Wt w u k) (hn : l.length + k.length ≤ 100000) :
    Calls Try.prog 13 #[.pointer (some ⟨b, 0, none⟩), u] w fun e w' => e = .returned (.tuple #[]) ∧ ∃ v', Rdr w' b v' (l ++ k) n ∧ (v'.ownBlock = v.ownBlock ∨ v'.ownBlock = some w.heap.size) ∧ Kp (fun i => i = b ∨ v.ownBlock = some i) w w' := by
  obtain ⟨a, c, rfl, hb, _, _, hao⟩ := hu.slice
  exact feed_any b n v l w h a _ c k hb hao hn
theorem next_some {b n k : Nat} {v : Value} {l bd r : List Int} {w : World} (h : Rdr w b v l n) (hn : l.length ≤ 100000) (hn2 : n + l.length ≤ 1000000) (hx : nxt sm l = (k, some bd, r)) :
    Calls Try.prog 14 #[.pointer (some ⟨b, 0, none⟩)] w fun e w' => ∃ u v', e = .returned (.tuple #[u, .bool true]) ∧ Wt w' u bd ∧ Own w.heap.size u ∧ Rdr w' b v' r (n + k) ∧ v'.ownBlock = v.ownBlock ∧ Kp (· = b) w w' := by
  refine (next_any b n v l w h hn hn2).mono ?_
  intro e w' ht
  unfold NxT at ht
  rw [hx] at ht
  obtain ⟨⟨u, h1, h2, h3⟩, v', h4, h5, h6⟩ := ht
  exact ⟨u, v', h1, h2, h3, h4, h5, h6⟩
theorem next_none {b n k : Nat} {v : Value} {l r : List Int} {w : World} (h : Rdr w b v l n) (hn : l.length ≤ 100000) (hn2 : n + l.length ≤ 1000000) (hx : nxt sm l = (k, none, r)) :
    Calls Try.prog 14 #[.pointer (some ⟨b, 0, none⟩)] w fun e w' => ∃ v', e = .returned (.tuple #[.slice none 0 0, .bool false]) ∧ Rdr w' b v' r (n + k) ∧ v'.ownBlock = v.ownBlock ∧ Kp (· = b) w w' := by
  refine (next_any b n v l w h hn hn2).mono ?_
  intro e w' ht
  unfold NxT at ht
  rw [hx] at ht
  obtain ⟨h1, v', h4, h5, h6⟩ := ht
  exact ⟨v', h1, h4, h5, h6⟩

def xs7 : List Int := [120, 120, 120, 120, 120, 120, 120]
/-- the bytes of a constant text. -/
theorem bs_const (w : World) (l : List Int) (hl : ∀ n ∈ l, 0 ≤ n ∧ n ≤ 255) (f : Nat × Nat) : Bs (w.alloc (.cells (cellsB l).toArray 5 f)) (some ⟨w.heap.size, 0, none⟩) l.length l := by
  refine ⟨rfl, hl, fun _ => ⟨_, _, rfl, fun i hi => ?_⟩⟩
  rw [Nat.zero_add, World.cell?_alloc_mark, List.getElem?_toArray]
  unfold cellsB
  rw [List.getElem?_map, List.getElem?_eq_getElem hi, List.getD_eq_getElem?_getD, List.getElem?_eq_getElem hi]
  rfl
theorem bs_seven (w : World) : Bs (w.alloc (.cells #[.int .u8 120, .int .u8 120, .int .u8 120, .int .u8 120, .int .u8 120, .int .u8 120, .int .u8 120] 5 (7, 8))) (some ⟨w.heap.size, 0, none⟩) 7 xs7 := bs_const w xs7 (by decide) (7, 8)
theorem bs_a (w : World) : Bs (w.alloc (.cells #[.int .u8 97] 5 (1, 2))) (some ⟨w.heap.size, 0, none⟩) 1 [97] := bs_const w [97] (by decide) (1, 2)
theorem frame_wt (u : Value) (l : List Int) (w : World) (hu : Wt w u l) (h0 : 1 ≤ l.length) (h1 : l.length ≤ 512) :
    Calls Try.prog 10 #[u] w fun e w' => ∃ v, e = .returned (.tuple #[v, .int .i64 0]) ∧ Wt w' v (frm sm l) ∧ Below w.heap.size w w' ∧ Own w.heap.size v := by
  obtain ⟨a, c, rfl, hb, _, _, hao⟩ := hu.slice
  exact frame_any a _ c l w h0 h1 hb
theorem awk_nxt : nxt sm ([] ++ xs7 ++ frm sm [97]) = (7, some [97], []) := by decide +kernel
theorem awk_len : (frm sm [97]).length = 9 := frm_len _ _
theorem text_wt {w : World} {u : Value} {l : List Int} (h : Wt w u l) : (convert 22 9 u).run Try.prog w = .ok (.string (strOfNums l)) w := by
  obtain ⟨a, c, rfl, hb, _⟩ := h.slice
  exact text_any hb c
theorem str_a : strOfNums [97] = ⟨#[97]⟩ := by decide +kernel

set_option maxRecDepth 100000 in
set_option maxHeartbeats 8000000 in
theorem awake_any (w : World) : Calls Try.prog 9 #[] w fun e w' => e = .returned (.bool true) ∧ Below w.heap.size w w' := by
  have w1 := bs_a w
  have kc := fun (w : World) (C : Array Value) (n c : Nat) => Lib.run_convert_bytes_const (P := Try.prog) w 22 5 C n c Try.underlying22 Try.underlying5
  have b0 : Below w.heap.size w (w.alloc (.cells #[.int .u8 97] 5 (1, 2))) := (Below.refl _ _).alloc (Nat.le_refl _) _
  go_enter Try.func9, Try.ntmps9
  go_upto_region 2 with (go_at_call 10; refine (frame_any _ 1 1 [97] _ (by decide) (by decide) w1).mono ?_; rintro e w2 ⟨f, rfl, hf, hb2, _⟩)
  have HB2 : Hid (Below w.heap.size w w2) := b0.trans (hb2.mono b0.size)
  obtain ⟨fa, fc, rfl, _⟩ := hf.slice' 9 awk_len
  have b3 : Below w2.heap.size w2 (w2.alloc (.cells #[.slice none 0 0, .int .i64 0] 32)) := (Below.refl _ _).alloc (Nat.le_refl _) _
  have HF3 : Hid (Wt (w2.alloc (.cells #[.slice none 0 0, .int .i64 0] 32)) (.slice fa 9 fc) (frm sm [97])) := hf.over b3
  have HR3 : Hid (Rdr (w2.alloc (.cells #[.slice none 0 0, .int .i64 0] 32)) w2.heap.size (.slice none 0 0) [] 0) := rdr_new w2
  have HB3 : Hid (Below w.heap.size w (w2.alloc (.cells #[.slice none 0 0, .int .i64 0] 32)) ∧ w.heap.size ≤ w2.heap.size) := ⟨HB2.out.trans (b3.mono HB2.out.size), HB2.out.size⟩
  have HA3 : Hid ((Value.slice fa 9 fc).ownBlock ≠ some w2.heap.size) := fun e => absurd (hf.lt _ e) (Nat.lt_irrefl _)
  clear hf b3 hb2 b0 w1
  go_upto_region 3 with fail
  generalize w2.heap.size = r at *
  generalize w2.alloc (.cells #[.slice none 0 0, .int .i64 0] 32) = w3 at *
  have hs4 := bs_seven w3
  have b4 : Below w3.heap.size w3 (w3.alloc (.cells #[.int .u8 120, .int .u8 120, .int .u8 120, .int .u8 120, .int .u8 120, .int .u8 120, .int .u8 120] 5 (7, 8))) := (Below.refl _ _).alloc (Nat.le_refl _) _
  have HR4 := HR3.out.over b4
  go_upto_region 4 with (go_at_call 13; refine (feed_any r 0 _ [] _ HR4 _ 7 7 xs7 hs4 (fun h => by cases h) (by decide)).mono ?_; rintro e w5 ⟨rfl, v5, hr5, ho5, hk5⟩)
  have HK5 : Hid (Kp (· = r) (w3.alloc (.cells #[.int .u8 120, .int .u8 120, .int .u8 120, .int .u8 120, .int .u8 120, .int .u8 120, .int .u8 120] 5 (7, 8))) w5) := hk5.mono fun k _ h => h.elim id fun e => by cases e
  have HF5 : Hid (Wt w5 (.slice fa 9 fc) (frm sm [97])) := (HF3.out.over b4).kp HK5.out fun k hk e => HA3.out (by rw [← e]; exact hk)
  have HB5 : Hid (Below w.heap.size w w5) := HB3.out.1.trans ((b4.mono HB3.out.1.size).trans (HK5.out.below (Nat.le_trans HB3.out.1.size b4.size) fun k hk e => by have := HB3.out.2; omega))
  have HO5 : Hid (∀ k, v5.ownBlock = some k → w.heap.size ≤ k) := fun k hk => by
    rcases ho5 with e | e
    · rw [e] at hk; cases hk
    · rw [e] at hk
      cases hk
      exact Nat.le_trans HB3.out.1.size b4.size
  clear hs4 ho5 hk5 HR4 HF3
  go_upto_region 5 with (go_at_call 13; refine (feed_wt r 0 v5 _ _ hr5 _ (frm sm [97]) HF5.out (by rw [awk_len]; decide)).mono ?_; rintro e w6 ⟨rfl, v6, hr6, ho6, hk6⟩)
  have HB6 : Hid (Below w.heap.size w w6) := HB5.out.trans (hk6.below HB5.out.size fun k hk e => by
    rcases e with rfl | e
    · have := HB3.out.2; omega
    · have := HO5.out k e; omega)
  clear ho6 hk6 hr5
  go_upto_region 6 with (go_at_call 14; refine (next_some hr6 (by rw [List.length_append, List.length_append, awk_len]; decide) (by rw [List.length_append, List.length_append, awk_len]; decide) awk_nxt).mono ?_; rintro e w7 ⟨u, v7, rfl, hu, hou, hr7, ho7, hk7⟩)
  have ht := text_wt hu
  rw [str_a] at ht
  have HB7 : Hid (Below w.heap.size w w7) := HB6.out.trans (hk7.below HB6.out.size fun k hk e => by have := HB3.out.2; omega)
  clear kc hou ho7 hk7 hr6 HO5
  go_wp2_with (first
    | (go_at_call 17; refine (lost_any r _ v7 _ _ hr7).mono ?_; rintro e w8 ⟨rfl, rfl⟩)
    | (go_at_call 16; refine (left_any r _ v7 _ _ hr7).mono ?_; rintro e w8 ⟨rfl, rfl⟩))
  go_ret
  exact ⟨rfl, HB7.out⟩

end Go.Proofs.Ytfjipaalelkpjaa
