/-
  What a writer comes to, call by call: a number, a text, and all its bytes; each proved of every writer and every argument.
-/
import Derived.Test.YtpdndcmaaghnjaaKMem
import Derived.Laws.IdiomStrings
import Derived.Deep.QuietTactic
import Derived.BigQuiet
namespace Go.Proofs.Ytpdndcmaaghnjaa.K
open Go.RowKit

/-- a writer, behind a number. -/
def numW (st : List Int × Int) (n size : Int) : List Int × Int :=
  if 1 ≤ size ∧ size ≤ 8 ∧ n < pow256 size.toNat then layW st (digs size.toNat n) else failW st 1

/-- a text's bytes. -/
def bytesOf (s : ByteArray) : List Int := s.data.toList.map fun b => (b.toNat : Int)

theorem bytesOf_length (s : ByteArray) : (bytesOf s).length = s.size := by unfold bytesOf; rw [List.length_map, Array.length_toList]; rfl

theorem bytesOf_bd (s : ByteArray) : ∀ z ∈ bytesOf s, 0 ≤ z ∧ z ≤ 255 := by
  intro z hz
  obtain ⟨b, _, rfl⟩ := List.mem_map.1 hz
  have := b.toNat_lt
  omega

/-- a writer, behind a text. -/
def textW (st : List Int × Int) (s : ByteArray) : List Int × Int :=
  if 65535 < s.size then failW st 4 else layW (numW st s.size 2) (bytesOf s)

theorem layW_len (st : List Int × Int) (k : List Int) : (layW st k).1.length ≤ st.1.length + k.length := by
  unfold layW
  split
  · rw [List.length_append]; omega
  · omega

theorem failW_len (st : List Int × Int) (c : Int) : (failW st c).1.length ≤ st.1.length := by
  unfold failW
  split
  · simp
  · omega

theorem numW_len (st : List Int × Int) (n size : Int) : (numW st n size).1.length ≤ st.1.length + 8 := by
  unfold numW
  split
  · next h =>
    have := layW_len st (digs size.toNat n)
    rw [digs_length] at this
    omega
  · have := failW_len st 1
    omega

theorem rowIs_bs {w : World} {b size : Nat} {n : Int} (h : w.rowIs b 5 size (filled n size 0)) : Bs w (some ⟨b, 0, none⟩) size (digs size n) := filled_bs h

theorem Wr.below {base : Nat} {w w' : World} {b : Nat} {st : List Int × Int} (h : Wr base w b st) (hb : Below w.heap.size w w') : Wr base w' b st := by
  obtain ⟨s, h2, ho⟩ := h.ex
  refine ⟨⟨s, h2.below hb h2.lt, ho.1, ?_⟩, h.lo, h.bd, h.no⟩
  rcases ho.2 with hn | ⟨g, cap, cur, hv, hg, hh, r⟩
  · exact .inl hn
  · exact .inr ⟨g, cap, cur, hv, hg, by rw [hb.block g (lt_of_block hh)]; exact hh, r⟩

set_option maxHeartbeats 800000 in
theorem wnum_any (base : Nat) (w : World) (b : Nat) (st : List Int × Int) (n size : Int) (hbase : base ≤ w.heap.size) (h : Wr base w b st) (n0 : 0 ≤ n) (n1 : n ≤ 18446744073709551615) (hn : st.1.length ≤ 900000000) :
    Calls Try.prog 28 #[.pointer (some ⟨b, 0, none⟩), .int .u64 n, .int .i64 size] w fun e w' => e = .returned (.tuple #[]) ∧ Wr base w' b (numW st n size) ∧ Below base w w' := by
  by_cases hs : 1 ≤ size ∧ size ≤ 8
  · obtain ⟨m, rfl⟩ : ∃ m : Nat, size = (m : Int) := ⟨size.toNat, by omega⟩
    have hd : decide (1 ≤ (m : Int) ∧ (m : Int) ≤ 8) = true := decide_eq_true hs
    have m1 : 1 ≤ m := by omega
    have m8 : m ≤ 8 := by omega
    have HT : Hid ((m : Int).toNat = m) := rfl
    clear hs
    go_enter Try.func28, Try.ntmps28
    go_wp2_with (go_at_call 42; refine (isSize_any _ _).mono ?_; rintro e w' ⟨rfl, rfl⟩; rw [hd])
    refine (digits_any n m _ n0 n1 m1 m8).mono ?_
    rintro e w1 ⟨hbel, ⟨hlt, rfl, hrow⟩ | ⟨hge, rfl⟩⟩
    · have h1 := h.below hbel
      have hbs := rowIs_bs hrow
      have hbB := hbel.mono hbase
      have HN : Hid (numW st n m = layW st (digs m n)) := by unfold Hid numW; rw [if_pos ⟨by omega, by omega, hlt⟩]; rfl
      clear hlt
      go_wp2_with (go_at_call 45; refine (wlay_any base _ b st _ m m _ h1 (by simp) hbs (by omega)).mono ?_; rintro e w2 ⟨rfl, h2, hb2⟩)
      go_end0
      exact ⟨rfl, by rw [HN.out]; exact h2, hbB.trans hb2⟩
    · have h1 := h.below hbel
      have hbB := hbel.mono hbase
      have HN : Hid (numW st n m = failW st 1) := by unfold Hid numW; rw [if_neg (fun hx => by have := hx.2.2; rw [HT.out] at this; omega)]
      clear hge
      go_wp2_with (go_at_call 43; refine (wfail_any base _ b st 1 h1).mono ?_; rintro e w2 ⟨rfl, h2, hb2⟩)
      (try simp only [Exit.inBlock, Exit.then]); refine bodyPost_ret (results_none rfl _ _ _) rfl ?_
      exact ⟨rfl, by rw [HN.out]; exact h2, hbB.trans hb2⟩
  · have hd : decide (1 ≤ size ∧ size ≤ 8) = false := decide_eq_false hs
    have HN : Hid (numW st n size = failW st 1) := by unfold Hid numW; rw [if_neg (fun hx => hs ⟨hx.1, hx.2.1⟩)]
    clear hs
    go_enter Try.func28, Try.ntmps28
    go_wp2_with (first | (go_at_call 42; refine (isSize_any _ _).mono ?_; rintro e w' ⟨rfl, rfl⟩; rw [hd]) | (go_at_call 43; refine (wfail_any base _ b st 1 h).mono ?_; rintro e w2 ⟨rfl, h2, hb2⟩))
    (try simp only [Exit.inBlock, Exit.then]); refine bodyPost_ret (results_none rfl _ _ _) rfl ?_
    exact ⟨rfl, by rw [HN.out]; exact h2, hb2⟩

theorem toBytes (w : World) (s : ByteArray) : ∃ C cap f, (convert 9 30 (.string s)).run Try.prog w = .ok (.slice (some ⟨w.heap.size, 0, none⟩) s.size cap) (w.drew.alloc (.cells C 5 f)) ∧ Bs (w.drew.alloc (.cells C 5 f)) (some ⟨w.heap.size, 0, none⟩) s.size (bytesOf s) ∧ Below w.heap.size w (w.drew.alloc (.cells C 5 f)) := by
  refine ⟨_, _, _, run_bytes_of_string w 9 30 5 s Try.underlying9 Try.underlying30 Try.underlying5, ⟨bytesOf_length s, bytesOf_bd s, fun _ => ⟨_, _, rfl, fun i hi => ?_⟩⟩, ((Below.refl _ _).drew).alloc (Nat.le_refl _) _⟩
  have hi' : i < s.data.size := hi
  rw [Nat.zero_add]
  show World.cell? (w.drew.alloc _) ⟨w.drew.heap.size, i, none⟩ = _
  rw [World.cell?_alloc_mark]
  unfold bytesRow bytesOf
  rw [Array.getElem?_append_left (by rw [Array.size_map]; exact hi'), Array.getElem?_map, Array.getElem?_eq_getElem hi', List.getD_eq_getElem?_getD, List.getElem?_map, Array.getElem?_toList, Array.getElem?_eq_getElem hi']
  rfl

set_option maxHeartbeats 800000 in
theorem wtext_any (base : Nat) (w : World) (b : Nat) (st : List Int × Int) (s : ByteArray) (hbase : base ≤ w.heap.size) (h : Wr base w b st) (hn : st.1.length ≤ 800000000) :
    Calls Try.prog 30 #[.pointer (some ⟨b, 0, none⟩), .string s] w fun e w' => e = .returned (.tuple #[]) ∧ Wr base w' b (textW st s) ∧ Below base w w' := by
  by_cases hl : 65535 < s.size
  · have HN : Hid (textW st s = failW st 4) := by unfold Hid textW; rw [if_pos hl]
    go_enter Try.func30, Try.ntmps30
    go_wp2_with (go_at_call 43; refine (wfail_any base _ b st 4 h).mono ?_; rintro e w2 ⟨rfl, h2, hb2⟩)
    (try simp only [Exit.inBlock, Exit.then]); refine bodyPost_ret (results_none rfl _ _ _) rfl ?_
    exact ⟨rfl, by rw [HN.out]; exact h2, hb2⟩
  · have HN : Hid (textW st s = layW (numW st s.size 2) (bytesOf s)) := by unfold Hid textW; rw [if_neg hl]
    have HX : Hid (st.1.length ≤ 800000000) := hn
    obtain ⟨m, hm⟩ : ∃ m, s.size = m := ⟨_, rfl⟩
    rw [hm] at HN hl
    have hl2 : m ≤ 65535 := by omega
    clear hl hn
    go_enter Try.func30, Try.ntmps30
    go_wp2_with fail
    refine (wnum_any base _ b st m 2 hbase h (by omega) (by omega) (Nat.le_trans HX.out (by decide))).mono ?_
    rintro e w2 ⟨rfl, h2, hb2⟩
    obtain ⟨C, cap, f, hcv, hbs, hbc⟩ := toBytes w2 s
    rw [hm] at hcv hbs
    go_wp2_with fail
    refine (wlay_any base _ b _ _ m cap _ (h2.below hbc) (by simp) hbs (by have := numW_len st m 2; have := HX.out; omega)).mono ?_
    rintro e w3 ⟨rfl, h3, hb3⟩
    go_wp2
    go_end0
    have h4 := hbc.mono (Nat.le_trans hbase hb2.size)
    exact ⟨rfl, by rw [HN.out]; exact h3, (hb2.trans h4).trans hb3⟩

theorem below_drewN (w : World) (n : Nat) : Below w.heap.size w (w.drewN n) := ⟨rfl, rfl, rfl, Nat.le_refl _, fun _ _ => rfl⟩

set_option maxHeartbeats 800000 in
theorem wbytes_any (base : Nat) (w : World) (b : Nat) (st : List Int × Int) (h : Wr base w b st) (hn : st.1.length ≤ 900000000) :
    Calls Try.prog 16 #[.pointer (some ⟨b, 0, none⟩)] w fun e w' => Below w.heap.size w w' ∧ ∃ v, e = .returned (.tuple #[v, .int .i64 st.2]) ∧ w'.ownsRow w.heap.size 5 1 v st.1.length (cellsB st.1) := by
  obtain ⟨s, h2, ho⟩ := h.ex
  obtain ⟨a, cap, rfl, hbs, hcap, hao, _⟩ := owns_bs ho h.bd
  have hno := h.no
  have c0 := h2.c0
  have c1 := h2.c1
  obtain ⟨l, e⟩ := st
  simp only at *
  by_cases he : e = 0
  · subst he
    have AO : Hid (a = none → cap = 0) := hao
    clear h hno hao
    go_enter Try.func16, Try.ntmps16
    go_wp2_with (go_at_call 31; refine (clone_any a l.length cap l _ AO.out hn hbs).mono ?_; rintro e w2 ⟨hb2, v, rfl, ho2⟩)
    go_ret2
    exact ⟨hb2, v, rfl, ho2⟩
  · obtain rfl := hno he
    clear h hao hno
    go_enter Try.func16, Try.ntmps16
    go_wp2
    go_quiet (fail)
    go_wp2
    go_ret2
    exact ⟨below_drewN _ _, _, rfl, owns_nil _ _⟩

end Go.Proofs.Ytpdndcmaaghnjaa.K
