/-
  All the tokens of a text, by package lex.
-/
import Derived.Test.YtcckipimfgmmdaaGreatDoorPFirst
namespace Go.Proofs.YtcckipimfgmmdaaGreatDoor.P
open Go.RowKit

/-- what is told of a text's tokens. -/
def Told (base : Nat) (r : (Except (Nat × Nat) (List Tok))) (e : Ending) (w' : World) : Prop :=
  match r with
  | .error (c, p) => e = .returned (.tuple #[.slice none 0 0, .int .i64 c, .int .i64 p])
  | .ok ts => ∃ v, e = .returned (.tuple #[v, .int .i64 0, .int .i64 (-1)]) ∧ w'.ownsRow base 108 4 v ts.length (cellsT ts)

/-- how far it has gone: the iterator's place, the tokens so far. -/
structure Ho (w : World) (s : ByteArray) (wr : World) (pos : Nat) (acc : List Tok) (v : Value) : Prop where
  it : wr.heap[w.heap.size]? = some (.stringIter s pos)
  own : wr.ownsRow w.heap.size 108 4 v acc.length (cellsT acc)
  be : Below w.heap.size w wr

section
variable {w wr : World} {s : ByteArray} {pos : Nat} {acc : List Tok} {v : Value}
theorem Ho.lt (h : Ho w s wr pos acc v) : w.heap.size < wr.heap.size := (Array.getElem?_eq_some_iff.1 h.it).1
theorem Ho.move (h : Ho w s wr pos acc v) (pos' : Nat) : Ho w s (iterTo wr w.heap.size s pos') pos' acc v :=
  ⟨iterTo_at h.it, iterTo_owns h.own h.it, iterTo_below h.be (Nat.le_refl _) _ _⟩
theorem Ho.over {X : World} (h : Ho w s wr pos acc v) (hb : Below wr.heap.size wr X) : Ho w s X pos acc v :=
  ⟨by rw [hb.block _ h.lt]; exact h.it, owns_below h.own hb (Nat.le_refl _), h.be.trans (hb.mono h.be.size)⟩
theorem Ho.alloc (h : Ho w s wr pos acc v) (o : Obj) : Ho w s (wr.alloc o) pos acc v := h.over ((Below.refl _ _).alloc (Nat.le_refl _) _)
theorem Ho.drew (h : Ho w s wr pos acc v) : Ho w s wr.drew pos acc v := h.over (Below.refl _ _).drew
theorem Ho.ne (h : Ho w s wr pos acc v) : v.ownBlock ≠ some w.heap.size := by
  intro e
  rcases h.own.2 with ⟨rfl, _⟩ | ⟨g, cap, cur, rfl, hb, hg, _⟩
  · cases e
  · have e2 : g = w.heap.size := Option.some.inj e
    subst e2
    rw [h.it] at hg
    cases hg
theorem Ho.app {X : World} {v' : Value} {x : Tok} (h : Ho w s wr pos acc v) (ho : X.ownsRow w.heap.size 108 4 v' (acc.length + 1) (cellsT (acc ++ [x]))) (hg : wr.grownBy X v.ownBlock) : Ho w s X pos (acc ++ [x]) v' :=
  ⟨by rw [hg.block _ h.lt (fun e => h.ne e.symm)]; exact h.it, by rw [List.length_append]; exact ho, h.be.grown hg h.be.size (owns_block h.own)⟩
/-- a block that was made behind the row is none of its. -/
theorem Ho.apart (h : Ho w s wr pos acc v) {b : Nat} (hb : wr.heap.size ≤ b) : v.ownBlock ≠ some b := by
  intro e
  rcases h.own.2 with ⟨rfl, _⟩ | ⟨g, cap, cur, rfl, _, hg, _⟩
  · cases e
  · have e2 : g = b := Option.some.inj e
    have := lt_of_block hg
    omega
end

theorem ho_new (w : World) (s : ByteArray) : Ho w s (w.iter s 0) 0 [] (.slice none 0 0) :=
  ⟨World.iter_heap w s 0, ⟨rfl, .inl ⟨rfl, rfl⟩⟩, (Below.refl _ _).alloc (Nat.le_refl _) _⟩

/-- how far it has gone, in plain words. -/
structure Pl (s : ByteArray) (pos next : Nat) (acc : List Tok) : Prop where
  eq : glue acc (go (next - pos) pos ((lst s).drop pos)) = go 0 0 (lst s)
  le : pos ≤ s.size
  st : pos ≤ next → Stop (lst s) pos next
  len : acc.length ≤ pos
  nx : next ≤ s.size

theorem pl_new (s : ByteArray) : Pl s 0 0 [] :=
  ⟨by rw [glue_nil]; rfl, Nat.zero_le _, fun _ => ⟨Nat.zero_le _, .inl fun i c _ h => by omega⟩, Nat.zero_le _, Nat.zero_le _⟩

section
variable {s : ByteArray} {pos next : Nat} {acc : List Tok}

theorem Pl.skip (h : Pl s pos next acc) (hp : pos < next) : Pl s (pos + (Utf8.decode s pos).2) next acc := by
  obtain ⟨h1, h2⟩ := (h.st (by omega)).step hp
  have hl := h2.1
  rw [lst_length] at hl
  refine ⟨?_, by omega, fun _ => h2, by have := h.len; omega, h.nx⟩
  have he := h.eq
  rw [show next - pos = (Utf8.decode s pos).2 + (next - (pos + (Utf8.decode s pos).2)) from by omega] at he
  rw [go_skip _ _ _ _ (by rw [List.length_drop, lst_length]; omega), List.drop_drop] at he
  exact he

theorem wide1 (hp : pos < s.size) (ha : (s[pos]'hp).toNat < 128) : (Utf8.decode s pos).2 = 1 := by rw [decode_ascii s pos hp ha]

theorem Pl.blank (h : Pl s pos next acc) (hp : ¬ pos < next) (hs : pos < s.size) (hb : blN (Utf8.decode s pos).1 = true) : Pl s (pos + (Utf8.decode s pos).2) next acc := by
  have ha : (s[pos]'hs).toNat < 128 := by
    rcases Nat.lt_or_ge (s[pos]'hs).toNat 128 with h | h
    · exact h
    · rw [blN_high (decode_high s pos hs h).1] at hb; cases hb
  rw [decode_ascii s pos hs ha] at hb ⊢
  refine ⟨?_, by omega, fun h => by simp at h; omega, by have := h.len; omega, h.nx⟩
  have he := h.eq
  rw [show next - pos = 0 from by omega, drop_cons s pos hs, go_blank hb] at he
  rw [show next - (pos + 1) = 0 from by omega]
  exact he

theorem Pl.note (h : Pl s pos next acc) (hp : ¬ pos < next) (hs : pos < s.size) (hb : (Utf8.decode s pos).1 = 35) : Pl s (pos + (Utf8.decode s pos).2) (pos + (((lst s).drop pos).takeWhile ofN).length) acc := by
  have ha : (s[pos]'hs).toNat < 128 := by
    rcases Nat.lt_or_ge (s[pos]'hs).toNat 128 with h | h
    · exact h
    · have := (decode_high s pos hs h).1; omega
  rw [decode_ascii s pos hs ha] at hb ⊢
  have hle := take_while_le ofN ((lst s).drop pos)
  rw [List.length_drop, lst_length] at hle
  have hn : (((lst s).drop pos).takeWhile ofN).length = (((lst s).drop (pos + 1)).takeWhile ofN).length + 1 := by
    rw [drop_cons s pos hs]
    exact note_len hb
  refine ⟨?_, by omega, fun _ => ⟨by rw [lst_length]; omega, ?_⟩, by have := h.len; omega, by omega⟩
  · have he := h.eq
    rw [show next - pos = 0 from by omega, drop_cons s pos hs, go_note hb, note_len hb, go_over (Nat.succ_pos _)] at he
    rw [hn]
    rw [show pos + ((((lst s).drop (pos + 1)).takeWhile ofN).length + 1) - (pos + 1) = (((lst s).drop (pos + 1)).takeWhile ofN).length from by omega]
    exact he
  · right
    rcases Nat.lt_or_ge (pos + (((lst s).drop pos).takeWhile ofN).length) s.size with hlt | hge
    · right
      have hc := lst_at s _ hlt
      refine ⟨_, hc, ?_⟩
      have := take_while_next ofN ((lst s).drop pos) _ (by rw [List.getElem?_drop]; exact hc)
      simp [ofN, noN] at this
      omega
    · left
      rw [lst_length]
      omega

theorem Pl.bad (h : Pl s pos next acc) (hp : ¬ pos < next) (hs : pos < s.size) (hb : blN (Utf8.decode s pos).1 = false) (hn : ¬ (Utf8.decode s pos).1 = 35) {c : Nat} (ho : one ((lst s).drop pos) = .error c) : go 0 0 (lst s) = .error (c, pos) := by
  have he := h.eq
  have h1 : blN (s[pos]'hs).toNat = false := by rw [← (Kind.mk (fun _ h => blN_high h) : Kind blN false).rune s pos hs]; exact hb
  have h2 : ¬ (s[pos]'hs).toNat = 35 := by
    intro e
    rw [decode_ascii s pos hs (by omega)] at hn
    exact hn e
  rw [drop_cons s pos hs] at ho he
  rw [show next - pos = 0 from by omega, go_one h1 h2, ho] at he
  exact he.symm

theorem Pl.tok (h : Pl s pos next acc) (hp : ¬ pos < next) (hs : pos < s.size) (hb : blN (Utf8.decode s pos).1 = false) (hn : ¬ (Utf8.decode s pos).1 = 35) {k m : Nat} {t : (List UInt8)} (ho : one ((lst s).drop pos) = .ok (k, t, m)) :
    Pl s (pos + (Utf8.decode s pos).2) (pos + t.length) (acc ++ [⟨k, pos, t, m⟩]) := by
  have he := h.eq
  have h1 : blN (s[pos]'hs).toNat = false := by rw [← (Kind.mk (fun _ h => blN_high h) : Kind blN false).rune s pos hs]; exact hb
  have h2 : ¬ (s[pos]'hs).toNat = 35 := by
    intro e
    rw [decode_ascii s pos hs (by omega)] at hn
    exact hn e
  obtain ⟨t1, t2, t3⟩ := one_take ho
  have tl := one_le ho
  rw [List.length_drop, lst_length] at tl
  have ha : (s[pos]'hs).toNat < 128 := by
    apply t3
    rw [← t1, drop_cons s pos hs]
    match t, t2 with
    | d :: t', _ => simp
  rw [decode_ascii s pos hs ha]
  rw [drop_cons s pos hs] at ho he
  rw [show next - pos = 0 from by omega, go_one h1 h2, ho] at he
  refine ⟨?_, by simp; omega, fun _ => ⟨by rw [lst_length]; omega, .inl fun i c hi1 hi2 hc => ?_⟩, by have := h.len; simp; omega, by omega⟩
  · simp only at he
    rw [glue_glue] at he
    rw [show pos + t.length - (pos + 1) = t.length - 1 from by omega]
    exact he
  · apply t3
    rw [← t1]
    have : ((lst s).drop pos)[i - pos]? = some c := by rw [List.getElem?_drop, show pos + (i - pos) = i from by omega]; exact hc
    exact List.mem_of_getElem? (i := i - pos) (by rw [List.getElem?_take_of_lt (by omega)]; exact this)

theorem Pl.fin (h : Pl s pos next acc) (hs : ¬ pos < s.size) : go 0 0 (lst s) = .ok (acc ++ [⟨4, s.size, [], 0⟩]) := by
  have he := h.eq
  have hl := h.le
  obtain rfl : pos = s.size := by omega
  rw [List.drop_eq_nil_of_le (by rw [lst_length]; exact Nat.le_refl _)] at he
  exact he.symm
end

end Go.Proofs.YtcckipimfgmmdaaGreatDoor.P
