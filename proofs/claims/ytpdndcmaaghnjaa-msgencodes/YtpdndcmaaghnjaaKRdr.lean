/-
  What a reader comes to, call by call; each proved of every reader and every argument.
-/
import Derived.Test.YtpdndcmaaghnjaaKWtr
import Derived.RegionTactic
import Derived.ChangeAlike
namespace Go.Proofs.Ytpdndcmaaghnjaa.K
open Go.RowKit

/-- a reader: what is left, what was wrong. -/
structure Rd (w : World) (b : Nat) (st : List Int × Int) : Prop where
  ex : ∃ a n cap, Two w b 77 (.slice a n cap) (.int .i64 st.2) ∧ Bs w a n st.1 ∧ n ≤ cap ∧ (a = none → cap = 0) ∧ (∀ x, a = some x → x.spot = none ∧ ∃ C f, w.heap[x.block]? = some (.cells C 5 f))
  no : st.2 ≠ 0 → st.1 = []

theorem Rd.lt {w : World} {b : Nat} {st : List Int × Int} (h : Rd w b st) : b < w.heap.size := by
  obtain ⟨a, n, cap, h2, _⟩ := h.ex
  exact h2.lt

/-- bytes stay where their block does. -/
theorem Bs.same {w w' : World} {a : Option Addr} {len : Nat} {l : List Int} (h : Bs w a len l) (hs : ∀ x, a = some x → w'.heap[x.block]? = w.heap[x.block]?) : Bs w' a len l := by
  refine ⟨h.1, h.2.1, fun h0 => ?_⟩
  obtain ⟨b, off, ha, hc⟩ := h.2.2 h0
  refine ⟨b, off, ha, fun i hi => ?_⟩
  rw [World.cell?_of_block (w := w) (a := ⟨b, off + i, none⟩) (hs ⟨b, off, none⟩ ha)]
  exact hc i hi

theorem Rd.grown {w w' : World} {b : Nat} {st : List Int × Int} {row : Option Nat} (h : Rd w b st) (hg : w.grownBy w' row) (h1 : row ≠ some b) (h2 : ∀ g C f, w.heap[g]? = some (.cells C 5 f) → row ≠ some g) : Rd w' b st := by
  obtain ⟨a, n, cap, t2, hb, hc, hao, hx⟩ := h.ex
  have hs : ∀ x, a = some x → w'.heap[x.block]? = w.heap[x.block]? := by
    intro x e
    obtain ⟨_, C, f, hC⟩ := hx x e
    exact hg.block _ (lt_of_block hC) (fun e => h2 _ C f hC e.symm)
  refine ⟨⟨a, n, cap, t2.grown hg h1, hb.same hs, hc, hao, fun x e => ⟨(hx x e).1, ?_⟩⟩, h.no⟩
  obtain ⟨_, C, f, hC⟩ := hx x e
  exact ⟨C, f, by rw [hs x e]; exact hC⟩

theorem Rd.below {w w' : World} {b : Nat} {st : List Int × Int} (h : Rd w b st) (hb : Below w.heap.size w w') : Rd w' b st :=
  h.grown (row := none) ⟨hb.os, hb.tape, hb.output, hb.size, fun k hk _ => hb.block k hk⟩ (by simp) (by simp)

theorem grown_trans {a b c : World} {row : Option Nat} (h : a.grownBy b row) (k : b.grownBy c row) : a.grownBy c row :=
  ⟨k.os.trans h.os, k.tape.trans h.tape, k.output.trans h.output, Nat.le_trans h.size k.size, fun i hi hr => (k.block i (Nat.lt_of_lt_of_le hi h.size) hr).trans (h.block i hi hr)⟩

theorem grown_set (w : World) (b i : Nat) (v : Value) : w.grownBy (w.setCell ⟨b, i, none⟩ v) (some b) :=
  ⟨rfl, rfl, rfl, by simp [World.setCell], fun k _ hk => Below.heap_setCell _ _ _ _ (fun e => hk (by rw [e]))⟩

theorem grown_of {w w' : World} {row : Option Nat} (hb : Below w.heap.size w w') : w.grownBy w' row := ⟨hb.os, hb.tape, hb.output, hb.size, fun k hk _ => hb.block k hk⟩

set_option maxHeartbeats 400000 in
theorem rfail_any (w : World) (b : Nat) (st : List Int × Int) (c : Int) (h : Rd w b st) :
    Calls Try.prog 46 #[.pointer (some ⟨b, 0, none⟩), .int .i64 c] w fun e w' => e = .returned (.tuple #[]) ∧ Rd w' b (failW st c) ∧ w.grownBy w' (some b) := by
  have H := h
  obtain ⟨a, n, cap, h2, hb, hc, hao, hx⟩ := h.ex
  have c0 := h2.c0
  have c1 := h2.c1
  have f0 := h2.f 0
  have f1 := h2.f 1
  obtain ⟨l, e⟩ := st
  simp only at c1
  clear hb hc hao hx
  by_cases he : e = 0
  · subst he
    clear h H
    go_enter Try.func46, Try.ntmps46
    go_wp2
    go_end0
    refine ⟨rfl, ⟨⟨_, _, _, (h2.set1 (x := .int .i64 c)).set0 (x := .slice none 0 0), bs_none, Nat.le_refl _, fun _ => rfl, by simp⟩, fun _ => rfl⟩, grown_trans (grown_set _ _ _ _) (grown_set _ _ _ _)⟩
  · have hf : failW (l, e) c = (l, e) := by unfold failW; rw [if_neg he]
    rw [hf]
    clear h
    go_enter Try.func46, Try.ntmps46
    go_wp2
    go_end0
    exact ⟨rfl, H, grow_refl _ _⟩

theorem grown_drew {w w' : World} {r : Option Nat} (h : w.grownBy w' r) : w.grownBy w'.drew r := ⟨h.os, h.tape, h.output, h.size, h.block⟩

theorem rd_done {w : World} {b g off m cap : Nat} {s : Value} {k : List Int} {C : Array Value} {f : Nat × Nat} (h2 : Two w b 77 s (.int .i64 0)) (hC : w.heap[g]? = some (.cells C 5 f)) (hgb : g ≠ b) (hb : Bs w (some ⟨g, off, none⟩) m k) (hm : m ≤ cap) :
    Rd (w.setCell ⟨b, 0, none⟩ (.slice (some ⟨g, off, none⟩) m cap)).drew b (k, 0) ∧ w.grownBy (w.setCell ⟨b, 0, none⟩ (.slice (some ⟨g, off, none⟩) m cap)).drew (some b) := by
  have hs : ∀ v, (w.setCell ⟨b, 0, none⟩ v).drew.heap[g]? = w.heap[g]? := fun v => Below.heap_setCell w ⟨b, 0, none⟩ v g hgb
  refine ⟨⟨⟨_, _, _, h2.set0, hb.same (fun x e => by cases e; exact hs _), hm, by simp, fun x e => by cases e; exact ⟨rfl, C, f, by rw [hs]; exact hC⟩⟩, fun h => absurd rfl h⟩, grown_drew (grown_set _ _ _ _)⟩

theorem bs_kept {w : World} {b g off m : Nat} {v : Value} {k : List Int} (hgb : g ≠ b) (hb : Bs w (some ⟨g, off, none⟩) m k) : Bs (w.setCell ⟨b, 0, none⟩ v).drew (some ⟨g, off, none⟩) m k :=
  hb.same (fun x e => by cases e; exact Below.heap_setCell w ⟨b, 0, none⟩ v g hgb)

/-- what is taken of a reader, and what it comes to. -/
def takeR (st : List Int × Int) (size : Nat) : List Int × (List Int × Int) :=
  if st.2 ≠ 0 then ([], st) else if st.1.length < size then ([], ([], 2)) else (st.1.take size, (st.1.drop size, 0))

set_option maxHeartbeats 800000 in
theorem taker_any (w : World) (b bc : Nat) (st : List Int × Int) (size : Nat) (h : Rd w b st) (hne : bc ≠ b) (hp : w.cell? ⟨bc, 0, none⟩ = some (.pointer (some ⟨b, 0, none⟩))) :
    Calls Try.prog 51 #[.int .i64 size, .pointer (some ⟨bc, 0, none⟩)] w fun e w' => (∃ a n cap, e = .returned (.slice a n cap) ∧ Bs w' a n (takeR st size).1) ∧ Rd w' b (takeR st size).2 ∧ w.grownBy w' (some b) := by
  have H := h
  obtain ⟨a, n, cap, h2, hb, hc, hao, hx⟩ := h.ex
  have hll := hb.1
  have hno := h.no
  have c0 := h2.c0
  have c1 := h2.c1
  have f0 := h2.f 0
  obtain ⟨l, e⟩ := st
  simp only at c1 hll hno
  by_cases he : e = 0
  · subst he
    by_cases hs : n < size
    · have HT : Hid (takeR (l, 0) size = ([], ([], 2))) := by unfold Hid takeR; rw [if_neg (by simp), if_pos (by simpa [hll] using hs)]
      clear hb hc hao hx hno h
      go_enter Try.func51, Try.ntmps51
      go_wp2_with (go_at_call 46; refine (rfail_any _ b (l, 0) 2 H).mono ?_; rintro e w2 ⟨rfl, h3, hg3⟩; rw [show failW (l, 0) 2 = ([], 2) from rfl] at h3; have hlt := World.block_lt_of_cell? w _ hp; have hp2 : w2.cell? ⟨bc, 0, none⟩ = some (.pointer (some ⟨b, 0, none⟩)) := (World.cell?_of_block (w := w) (a := ⟨bc, 0, none⟩) (hg3.block bc hlt (by simpa using hne))).trans hp; obtain ⟨a3, n3, cap3, t3, _⟩ := h3.ex; have d1 := t3.c1; simp only at d1)
      go_ret
      rw [HT.out]
      exact ⟨⟨_, _, _, rfl, bs_none⟩, h3, hg3⟩
    · have HT : Hid (takeR (l, 0) size = (l.take size, (l.drop size, 0))) := by unfold Hid takeR; rw [if_neg (by simp), if_neg (by simpa [hll] using hs)]
      cases a with
      | none =>
        obtain ⟨rfl, rfl⟩ := hb.nil
        obtain rfl := hao rfl
        obtain rfl : size = 0 := by omega
        clear hb hc hao hx hno h
        go_enter Try.func51, Try.ntmps51
        go_wp2
        go_region
        all_goals
          go_wp2
          go_ret
          rw [HT.out]
          exact ⟨⟨_, _, _, rfl, bs_none⟩, ⟨⟨_, _, _, h2.set0, bs_none, Nat.le_refl _, fun _ => rfl, by simp⟩, fun h => absurd rfl h⟩, grown_drew (grown_set _ _ _ _)⟩
      | some x =>
        obtain ⟨g, off, sp⟩ := x
        obtain ⟨hsp, C, f, hC⟩ := hx _ rfl
        simp only at hsp hC
        subst hsp
        have hgb : g ≠ b := by
          intro e
          subst e
          unfold Two at h2
          rw [h2] at hC
          simp at hC
        have hb1 : Bs w (some ⟨g, off, none⟩) size (l.take size) := by simpa using hb.sub 0 size (by omega)
        have hb2 := hb.sub size (n - size) (by omega)
        rw [List.take_of_length_le (by rw [List.length_drop]; show l.length - size ≤ _; omega)] at hb2
        clear hb hao hno h hx
        have hs' : (size : Int) ≤ (n : Int) := by omega
        by_cases hcs : cap = size
        · have hb3 : Bs w (some ⟨g, off, none⟩) (n - size) (l.drop size) := by
            obtain rfl : n = size := by omega
            have : l.drop n = [] := List.drop_of_length_le (by omega)
            rw [Nat.sub_self, this]
            exact bs_none
          go_enter Try.func51, Try.ntmps51
          go_wp2
          go_region
          all_goals
            go_wp2
            go_ret
            rw [HT.out]
            obtain ⟨r1, r2⟩ := rd_done h2 hC hgb hb3 (show n - size ≤ 0 by omega)
            exact ⟨⟨_, _, _, rfl, bs_kept hgb hb1⟩, r1, r2⟩
        · go_enter Try.func51, Try.ntmps51
          go_wp2
          go_region
          all_goals
            go_wp2
            go_ret
            rw [HT.out]
            obtain ⟨r1, r2⟩ := rd_done h2 hC hgb hb2 (show n - size ≤ cap - size by omega)
            exact ⟨⟨_, _, _, rfl, bs_kept hgb hb1⟩, r1, r2⟩
  · obtain rfl := hno he
    have HT : Hid (takeR ([], e) size = ([], ([], e))) := by unfold Hid takeR; rw [if_pos (by simpa using he)]
    obtain rfl : n = 0 := by simpa using hll.symm
    clear hb hc hao hx hno h hll
    by_cases hs : 0 < size
    · go_enter Try.func51, Try.ntmps51
      go_wp2_with (go_at_call 46; refine (rfail_any _ b ([], e) 2 H).mono ?_; rintro e' w2 ⟨rfl, h3, hg3⟩; rw [show failW ([], e) 2 = ([], e) from if_neg he] at h3; have hlt := World.block_lt_of_cell? w _ hp; have hp2 : w2.cell? ⟨bc, 0, none⟩ = some (.pointer (some ⟨b, 0, none⟩)) := (World.cell?_of_block (w := w) (a := ⟨bc, 0, none⟩) (hg3.block bc hlt (by simpa using hne))).trans hp; obtain ⟨a3, n3, cap3, t3, _⟩ := h3.ex; have d1 := t3.c1; simp only at d1)
      go_ret
      rw [HT.out]
      exact ⟨⟨_, _, _, rfl, bs_none⟩, h3, hg3⟩
    · go_enter Try.func51, Try.ntmps51
      go_wp2
      go_ret
      rw [HT.out]
      exact ⟨⟨none, 0, ⟨0, rfl⟩, bs_none⟩, H, grow_refl _ _⟩

end Go.Proofs.Ytpdndcmaaghnjaa.K
