/-
  A reader, call by call, whose bytes lie in none of some blocks; each proved of every reader and every argument.
-/
import Derived.Test.YtpdndcmaaghnjaaKNumR
namespace Go.Proofs.Ytpdndcmaaghnjaa.R
open Go.RowKit
open K hiding Rd Rd.lt Rd.grown Rd.below rfail_any rd_done taker_any Rd.boxed rnum_any rtext_any

/-- a reader: what is left, what was wrong. -/
structure Rd (Y : Nat → Prop) (w : World) (b : Nat) (st : List Int × Int) : Prop where
  ex : ∃ a n cap, Two w b 77 (.slice a n cap) (.int .i64 st.2) ∧ Bs w a n st.1 ∧ n ≤ cap ∧ (a = none → cap = 0) ∧ (∀ x, a = some x → x.spot = none ∧ ¬ Y x.block ∧ ∃ C f, w.heap[x.block]? = some (.cells C 5 f))
  no : st.2 ≠ 0 → st.1 = []

theorem Rd.lt {Y : Nat → Prop} {w : World} {b : Nat} {st : List Int × Int} (h : Rd Y w b st) : b < w.heap.size := by
  obtain ⟨a, n, cap, h2, _⟩ := h.ex
  exact h2.lt

theorem Rd.grown {Y : Nat → Prop} {w w' : World} {b : Nat} {st : List Int × Int} {row : Option Nat} (h : Rd Y w b st) (hg : w.grownBy w' row) (h1 : row ≠ some b) (h2 : ∀ g C f, w.heap[g]? = some (.cells C 5 f) → ¬ Y g → row ≠ some g) : Rd Y w' b st := by
  obtain ⟨a, n, cap, t2, hb, hc, hao, hx⟩ := h.ex
  have hs : ∀ x, a = some x → w'.heap[x.block]? = w.heap[x.block]? := by
    intro x e
    obtain ⟨_, hy, C, f, hC⟩ := hx x e
    exact hg.block _ (lt_of_block hC) (fun e => h2 _ C f hC hy e.symm)
  refine ⟨⟨a, n, cap, t2.grown hg h1, K.Bs.same hb hs, hc, hao, fun x e => ⟨(hx x e).1, ?_⟩⟩, h.no⟩
  obtain ⟨_, hy, C, f, hC⟩ := hx x e
  exact ⟨hy, C, f, by rw [hs x e]; exact hC⟩

theorem Rd.below {Y : Nat → Prop} {w w' : World} {b : Nat} {st : List Int × Int} (h : Rd Y w b st) (hb : Below w.heap.size w w') : Rd Y w' b st :=
  h.grown (row := none) ⟨hb.os, hb.tape, hb.output, hb.size, fun k hk _ => hb.block k hk⟩ (by simp) (by simp)

set_option maxHeartbeats 400000 in
theorem rfail_any (Y : Nat → Prop) (w : World) (b : Nat) (st : List Int × Int) (c : Int) (h : Rd Y w b st) :
    Calls Try.prog 46 #[.pointer (some ⟨b, 0, none⟩), .int .i64 c] w fun e w' => e = .returned (.tuple #[]) ∧ Rd Y w' b (failW st c) ∧ w.grownBy w' (some b) := by
  have H := h
  obtain ⟨a, n, cap, h2, hb, hc, hao, hx⟩ := h.ex
  have c0 := h2.c0
  have c1 := h2.c1
  have f0 := h2.f 0
  have f1 := h2.f 1
  obtain ⟨l, e⟩ := st
  simp only at c1
  clear hb hc hao hx
  by_cases he : e = 0
  · subst he
    clear h H
    go_enter Try.func46, Try.ntmps46
    go_wp2
    go_end0
    refine ⟨rfl, ⟨⟨_, _, _, (h2.set1 (x := .int .i64 c)).set0 (x := .slice none 0 0), bs_none, Nat.le_refl _, fun _ => rfl, by simp⟩, fun _ => rfl⟩, grown_trans (grown_set _ _ _ _) (grown_set _ _ _ _)⟩
  · have hf : failW (l, e) c = (l, e) := by unfold failW; rw [if_neg he]
    rw [hf]
    clear h
    go_enter Try.func46, Try.ntmps46
    go_wp2
    go_end0
    exact ⟨rfl, H, grow_refl _ _⟩

theorem rd_done {Y : Nat → Prop} {w : World} {b g off m cap : Nat} {s : Value} {k : List Int} {C : Array Value} {f : Nat × Nat} (h2 : Two w b 77 s (.int .i64 0)) (hC : w.heap[g]? = some (.cells C 5 f)) (hgb : g ≠ b) (hb : Bs w (some ⟨g, off, none⟩) m k) (hm : m ≤ cap) (hy : ¬ Y g) :
    Rd Y (w.setCell ⟨b, 0, none⟩ (.slice (some ⟨g, off, none⟩) m cap)).drew b (k, 0) ∧ w.grownBy (w.setCell ⟨b, 0, none⟩ (.slice (some ⟨g, off, none⟩) m cap)).drew (some b) := by
  have hs : ∀ v, (w.setCell ⟨b, 0, none⟩ v).drew.heap[g]? = w.heap[g]? := fun v => Below.heap_setCell w ⟨b, 0, none⟩ v g hgb
  refine ⟨⟨⟨_, _, _, h2.set0, K.Bs.same hb (fun x e => by cases e; exact hs _), hm, by simp, fun x e => by cases e; exact ⟨rfl, hy, C, f, by rw [hs]; exact hC⟩⟩, fun h => absurd rfl h⟩, grown_drew (grown_set _ _ _ _)⟩

set_option maxHeartbeats 800000 in
theorem taker_any (Y : Nat → Prop) (w : World) (b bc : Nat) (st : List Int × Int) (size : Nat) (h : Rd Y w b st) (hne : bc ≠ b) (hp : w.cell? ⟨bc, 0, none⟩ = some (.pointer (some ⟨b, 0, none⟩))) :
    Calls Try.prog 51 #[.int .i64 size, .pointer (some ⟨bc, 0, none⟩)] w fun e w' => (∃ a n cap, e = .returned (.slice a n cap) ∧ Bs w' a n (takeR st size).1) ∧ Rd Y w' b (takeR st size).2 ∧ w.grownBy w' (some b) := by
  have H := h
  obtain ⟨a, n, cap, h2, hb, hc, hao, hx⟩ := h.ex
  have hll := hb.1
  have hno := h.no
  have c0 := h2.c0
  have c1 := h2.c1
  have f0 := h2.f 0
  obtain ⟨l, e⟩ := st
  simp only at c1 hll hno
  by_cases he : e = 0
  · subst he
    by_cases hs : n < size
    · have HT : Hid (takeR (l, 0) size = ([], ([], 2))) := by unfold Hid takeR; rw [if_neg (by simp), if_pos (by simpa [hll] using hs)]
      clear hb hc hao hx hno h
      go_enter Try.func51, Try.ntmps51
      go_wp2_with (go_at_call 46; refine (rfail_any Y _ b (l, 0) 2 H).mono ?_; rintro e w2 ⟨rfl, h3, hg3⟩; rw [show failW (l, 0) 2 = ([], 2) from rfl] at h3; have hlt := World.block_lt_of_cell? w _ hp; have hp2 : w2.cell? ⟨bc, 0, none⟩ = some (.pointer (some ⟨b, 0, none⟩)) := (World.cell?_of_block (w := w) (a := ⟨bc, 0, none⟩) (hg3.block bc hlt (by simpa using hne))).trans hp; obtain ⟨a3, n3, cap3, t3, _⟩ := h3.ex; have d1 := t3.c1; simp only at d1)
      go_ret
      rw [HT.out]
      exact ⟨⟨_, _, _, rfl, bs_none⟩, h3, hg3⟩
    · have HT : Hid (takeR (l, 0) size = (l.take size, (l.drop size, 0))) := by unfold Hid takeR; rw [if_neg (by simp), if_neg (by simpa [hll] using hs)]
      cases a with
      | none =>
        obtain ⟨rfl, rfl⟩ := hb.nil
        obtain rfl := hao rfl
        obtain rfl : size = 0 := by omega
        clear hb hc hao hx hno h
        go_enter Try.func51, Try.ntmps51
        go_wp2
        go_region
        all_goals
          go_wp2
          go_ret
          rw [HT.out]
          exact ⟨⟨_, _, _, rfl, bs_none⟩, ⟨⟨_, _, _, h2.set0, bs_none, Nat.le_refl _, fun _ => rfl, by simp⟩, fun h => absurd rfl h⟩, grown_drew (grown_set _ _ _ _)⟩
      | some x =>
        obtain ⟨g, off, sp⟩ := x
        obtain ⟨hsp, hyg, C, f, hC⟩ := hx _ rfl
        simp only at hsp hyg hC
        subst hsp
        have hgb : g ≠ b := by
          intro e
          subst e
          unfold Two at h2
          rw [h2] at hC
          simp at hC
        have hb1 : Bs w (some ⟨g, off, none⟩) size (l.take size) := by simpa using hb.sub 0 size (by omega)
        have hb2 := hb.sub size (n - size) (by omega)
        rw [List.take_of_length_le (by rw [List.length_drop]; show l.length - size ≤ _; omega)] at hb2
        clear hb hao hno h hx
        have hs' : (size : Int) ≤ (n : Int) := by omega
        by_cases hcs : cap = size
        · have hb3 : Bs w (some ⟨g, off, none⟩) (n - size) (l.drop size) := by
            obtain rfl : n = size := by omega
            have : l.drop n = [] := List.drop_of_length_le (by omega)
            rw [Nat.sub_self, this]
            exact bs_none
          go_enter Try.func51, Try.ntmps51
          go_wp2
          go_region
          all_goals
            go_wp2
            go_ret
            rw [HT.out]
            obtain ⟨r1, r2⟩ := rd_done h2 hC hgb hb3 (show n - size ≤ 0 by omega) hyg
            exact ⟨⟨_, _, _, rfl, bs_kept hgb hb1⟩, r1, r2⟩
        · go_enter Try.func51, Try.ntmps51
          go_wp2
          go_region
          all_goals
            go_wp2
            go_ret
            rw [HT.out]
            obtain ⟨r1, r2⟩ := rd_done h2 hC hgb hb2 (show n - size ≤ cap - size by omega) hyg
            exact ⟨⟨_, _, _, rfl, bs_kept hgb hb1⟩, r1, r2⟩
  · obtain rfl := hno he
    have HT : Hid (takeR ([], e) size = ([], ([], e))) := by unfold Hid takeR; rw [if_pos (by simpa using he)]
    obtain rfl : n = 0 := by simpa using hll.symm
    clear hb hc hao hx hno h hll
    by_cases hs : 0 < size
    · go_enter Try.func51, Try.ntmps51
      go_wp2_with (go_at_call 46; refine (rfail_any Y _ b ([], e) 2 H).mono ?_; rintro e' w2 ⟨rfl, h3, hg3⟩; rw [show failW ([], e) 2 = ([], e) from if_neg he] at h3; have hlt := World.block_lt_of_cell? w _ hp; have hp2 : w2.cell? ⟨bc, 0, none⟩ = some (.pointer (some ⟨b, 0, none⟩)) := (World.cell?_of_block (w := w) (a := ⟨bc, 0, none⟩) (hg3.block bc hlt (by simpa using hne))).trans hp; obtain ⟨a3, n3, cap3, t3, _⟩ := h3.ex; have d1 := t3.c1; simp only at d1)
      go_ret
      rw [HT.out]
      exact ⟨⟨_, _, _, rfl, bs_none⟩, h3, hg3⟩
    · go_enter Try.func51, Try.ntmps51
      go_wp2
      go_ret
      rw [HT.out]
      exact ⟨⟨none, 0, ⟨0, rfl⟩, bs_none⟩, H, grow_refl _ _⟩

theorem Rd.boxed {Y : Nat → Prop} {w : World} {b : Nat} {st : List Int × Int} (h : Rd Y w b st) (o : Obj) : Rd Y (w.alloc o) b st := h.below ((Below.refl _ _).alloc (Nat.le_refl _) _)

set_option maxHeartbeats 800000 in
theorem rnum_any (Y : Nat → Prop) (w : World) (b : Nat) (st : List Int × Int) (size : Int) (h : Rd Y w b st) :
    Calls Try.prog 36 #[.pointer (some ⟨b, 0, none⟩), .int .i64 size] w fun e w' => e = .returned (.int .u64 (numR st size).1) ∧ Rd Y w' b (numR st size).2 ∧ w.grownBy w' (some b) := by
  have hlt := h.lt
  by_cases hs : 1 ≤ size ∧ size ≤ 8
  · obtain ⟨m, rfl⟩ : ∃ m : Nat, size = (m : Int) := ⟨size.toNat, by omega⟩
    have hd : decide (1 ≤ (m : Int) ∧ (m : Int) ≤ 8) = true := decide_eq_true hs
    have HN : Hid (numR st m = (numOf (takeR st m).1, (takeR st m).2)) := by unfold Hid numR; rw [if_pos hs]; rfl
    have m8 : m ≤ 8 := by omega
    clear hs
    have hne : w.heap.size ≠ b := by omega
    have g1 : w.grownBy (w.alloc (.cells #[.pointer (some ⟨b, 0, none⟩)] 65)) (some b) := grown_of ((Below.refl _ _).alloc (Nat.le_refl _) _)
    go_enter Try.func36, Try.ntmps36
    go_wp2_with (first | (go_at_call 42; refine (isSize_any _ _).mono ?_; rintro e w' ⟨rfl, rfl⟩; rw [hd]) | (go_at_call 47; refine (mk_any _ _).mono ?_; rintro e w' ⟨rfl, rfl⟩))
    refine (taker_any Y _ b _ st m (h.boxed _) hne (box_cell _ _ _)).mono ?_
    rintro e w2 ⟨⟨a, n, cap, rfl, hb⟩, hr, hg⟩
    have hn8 : n ≤ 8 := by have := takeR_len st m; rw [hb.1] at this; omega
    go_wp2_with (go_at_call 48; refine (number_any a n cap _ _ hn8 hb).mono ?_; rintro e w' ⟨rfl, rfl⟩)
    go_ret
    rw [HN.out]
    exact ⟨rfl, hr, grown_trans g1 hg⟩
  · have hd : decide (1 ≤ size ∧ size ≤ 8) = false := decide_eq_false hs
    have HN : Hid (numR st size = (0, failW st 1)) := by unfold Hid numR; rw [if_neg hs]
    clear hs
    go_enter Try.func36, Try.ntmps36
    go_wp2_with (first | (go_at_call 42; refine (isSize_any _ _).mono ?_; rintro e w' ⟨rfl, rfl⟩; rw [hd]) | (go_at_call 46; refine (rfail_any Y _ b st 1 h).mono ?_; rintro e w2 ⟨rfl, h2, hg2⟩))
    go_ret
    rw [HN.out]
    exact ⟨rfl, h2, hg2⟩

set_option maxHeartbeats 800000 in
theorem rtext_any (Y : Nat → Prop) (w : World) (b : Nat) (st : List Int × Int) (h : Rd Y w b st) :
    Calls Try.prog 38 #[.pointer (some ⟨b, 0, none⟩)] w fun e w' => e = .returned (.string (strOfNums (textR st).1)) ∧ Rd Y w' b (textR st).2 ∧ w.grownBy w' (some b) := by
  have hlt := h.lt
  have hne : w.heap.size ≠ b := by omega
  have g1 : w.grownBy (w.alloc (.cells #[.pointer (some ⟨b, 0, none⟩)] 65)) (some b) := grown_of ((Below.refl _ _).alloc (Nat.le_refl _) _)
  go_enter Try.func38, Try.ntmps38
  go_wp2_with (go_at_call 47; refine (mk_any _ _).mono ?_; rintro e w' ⟨rfl, rfl⟩)
  refine (taker_any Y _ b _ st 2 (h.boxed _) hne (box_cell _ _ _)).mono ?_
  rintro e w2 ⟨⟨a, n, cap, rfl, hb⟩, hr, hg⟩
  have hp := cell_kept hg hne (box_cell w _ 65)
  have hn2 : n ≤ 2 := by have := takeR_len st 2; rw [hb.1] at this; omega
  have hnb := numOf_bd _ hb.2.1
  have hpw : pow256 (takeR st 2).1.length ≤ pow256 2 := pow256_mono (takeR_len st 2)
  rw [show pow256 2 = 65536 from by decide] at hpw
  obtain ⟨m, hm⟩ : ∃ m : Nat, numOf (takeR st 2).1 = (m : Int) := ⟨(numOf (takeR st 2).1).toNat, by omega⟩
  have hm1 : m ≤ 65535 := by omega
  have HT : Hid (textR st = takeR (takeR st 2).2 m) := by unfold Hid textR; rw [hm]; rfl
  clear hnb hpw
  go_wp2_with (go_at_call 48; refine (number_any a n cap _ _ (by omega) hb).mono ?_; rintro e w' ⟨rfl, rfl⟩; rw [hm])
  refine (taker_any Y _ b _ _ m hr hne hp).mono ?_
  rintro e w3 ⟨⟨a3, n3, cap3, rfl, hb3⟩, hr3, hg3⟩
  have hcv := run_text hb3 cap3
  go_wp2
  go_ret
  rw [HT.out]
  exact ⟨rfl, hr3, grown_trans (grown_trans g1 hg) hg3⟩

set_option maxHeartbeats 400000 in
theorem read_any (a : Option Addr) (len cap : Nat) (l : List Int) (w : World) (hao : a = none → cap = 0) (hlen : len ≤ 900000000) (hb : Bs w a len l) :
    Calls Try.prog 35 #[.slice a len cap] w fun e w' => ∃ b, e = .returned (.pointer (some ⟨b, 0, none⟩)) ∧ Rd (· < w.heap.size) w' b (l, 0) ∧ w.heap.size ≤ b ∧ Below w.heap.size w w' := by
  go_enter Try.func35, Try.ntmps35
  go_wp2_with (go_at_call 31; refine (clone_any a len cap l _ hao hlen hb).mono ?_; rintro e w2 ⟨hb2, v, rfl, ho2⟩; obtain ⟨a2, cap2, rfl, hbs, hcap, hao2, _⟩ := owns_bs ho2 hb.2.1)
  go_ret
  have hx : ∀ x, a2 = some x → x.spot = none ∧ ¬ x.block < w.heap.size ∧ ∃ C f, w2.heap[x.block]? = some (.cells C 5 f) := by
    intro x e
    rcases ho2.2 with ⟨e2, _⟩ | ⟨g, c, cur, e2, hgb, hh, _⟩
    · cases e2; cases e
    · cases e2; cases e; exact ⟨rfl, Nat.not_lt.2 hgb, cur, _, hh⟩
  have t2 : Two (w2.alloc (Obj.cells #[.slice a2 len cap2, .int .i64 0] 77)) w2.heap.size 77 (.slice a2 len cap2) (.int .i64 0) := by
    unfold Two
    show (w2.heap.push _)[w2.heap.size]? = _
    simp
  have hal : Below w2.heap.size w2 (w2.alloc (Obj.cells #[.slice a2 len cap2, .int .i64 0] 77)) := (Below.refl _ _).alloc (Nat.le_refl _) _
  refine ⟨_, rfl, ⟨⟨_, _, _, t2, hbs.below hal, hcap, hao2, fun x e => ⟨(hx x e).1, ?_⟩⟩, fun h => absurd rfl h⟩, hb2.size, hb2.alloc hb2.size _⟩
  obtain ⟨_, hy, C, f, hC⟩ := hx x e
  exact ⟨hy, C, f, by rw [hal.block _ (lt_of_block hC)]; exact hC⟩

theorem Rd.mono {Y Z : Nat → Prop} {w : World} {b : Nat} {st : List Int × Int} (h : Rd Y w b st) (hZ : ∀ k, k < w.heap.size → Z k → Y k) : Rd Z w b st := by
  obtain ⟨a, n, cap, h2, hb, hc, hao, hx⟩ := h.ex
  refine ⟨⟨a, n, cap, h2, hb, hc, hao, fun x e => ?_⟩, h.no⟩
  obtain ⟨h1, hy, C, f, hC⟩ := hx x e
  exact ⟨h1, fun hz => hy (hZ _ (lt_of_block hC) hz), C, f, hC⟩
theorem Rd.rd {Y : Nat → Prop} {w : World} {b : Nat} {st : List Int × Int} (h : Rd Y w b st) : K.Rd w b st := by
  obtain ⟨a, n, cap, h2, hb, hc, hao, hx⟩ := h.ex
  refine ⟨⟨a, n, cap, h2, hb, hc, hao, fun x e => ?_⟩, h.no⟩
  obtain ⟨h1, hy, C, f, hC⟩ := hx x e
  exact ⟨h1, C, f, hC⟩

end Go.Proofs.Ytpdndcmaaghnjaa.R
