/-
  The document's link: small functions; one frame less.
-/
import Derived.Test.YtljceoojbppaeaaLkPair
namespace Go.Proofs.Ytljceoojbppaeaa
open Go.RowKit D

theorem refRow_any (up : Bool) (w : World) : Calls Try.prog 31 #[.bool up] w fun e w' => e = .returned (.int .i64 (ix up)) ∧ w' = w := by
  cases up with
  | true =>
    go_enter Try.func31, Try.ntmps31
    go_wp2
    go_ret
    exact ⟨rfl, rfl⟩
  | false =>
    go_enter Try.func31, Try.ntmps31
    go_wp2
    go_ret
    exact ⟨rfl, rfl⟩

/-- a row without one frame, so far. -/
def cutL (ls : List (List Int)) (n i : Nat) : List (List Int) := (ls.take i).eraseIdx n
theorem cutL_skip {ls : List (List Int)} {i : Nat} (hi : i < ls.length) : cutL ls i (i + 1) = cutL ls i i := by
  unfold cutL
  have hl : (ls.take i).length = i := by rw [List.length_take]; omega
  rw [List.take_succ_eq_append_getElem hi, List.eraseIdx_append_of_length_le (by omega), hl, Nat.sub_self]
  show ls.take i ++ [] = _
  rw [List.append_nil, List.eraseIdx_of_length_le (by omega)]
theorem cutL_take {ls : List (List Int)} {n i : Nat} (hi : i < ls.length) (hn : i ≠ n) : cutL ls n (i + 1) = cutL ls n i ++ [ls[i]] := by
  unfold cutL
  rw [List.take_succ_eq_append_getElem hi]
  rcases Nat.lt_or_ge n i with h | h
  · rw [List.eraseIdx_append_of_lt_length (by rw [List.length_take]; omega)]
  · rw [List.eraseIdx_append_of_length_le (by rw [List.length_take]; omega), List.length_take, Nat.min_eq_left (Nat.le_of_lt hi), List.eraseIdx_of_length_le (l := ls.take i) (by rw [List.length_take]; omega)]
    congr 1
    obtain ⟨k, hk⟩ : ∃ k, n - i = k + 1 := ⟨n - i - 1, by omega⟩
    rw [hk]
    rfl
theorem cutL_len (ls : List (List Int)) (n i : Nat) : (cutL ls n i).length ≤ i := by
  unfold cutL
  exact Nat.le_trans (List.length_eraseIdx_le ..) (by rw [List.length_take]; omega)
theorem cutL_all (ls : List (List Int)) (n : Nat) : cutL ls n ls.length = ls.eraseIdx n := by unfold cutL; rw [List.take_length]
/-- what a row in another one's place tells. -/
structure ApW (B : Nat) (w w' : World) (v v' : Value) (ls : List (List Int)) : Prop where
  row : RowS B w' v' ls
  os : w'.os = w.os
  tape : w'.tape = w.tape
  output : w'.output = w.output
  size : w.heap.size ≤ w'.heap.size
  block : ∀ k, k < w.heap.size → v.ownBlock ≠ some k → w'.heap[k]? = w.heap[k]?
  own : ∀ k, v'.ownBlock = some k → v.ownBlock = some k ∨ w.heap.size ≤ k
theorem ApT.w {B : Nat} {w w' : World} {v v' : Value} {l : List (List Int)} (h : ApT B w w' v v' l) : ApW B w w' v v' l := by
  refine ⟨h.row, h.os, h.tape, h.output, h.size, h.block, fun k e => ?_⟩
  rcases h.own with e2 | ⟨g, e2, hg⟩
  · exact .inl (by rw [← e2]; exact e)
  · rw [e2] at e
    cases e
    exact .inr hg
theorem apw_new {B : Nat} {w w' : World} {v v' : Value} {l : List (List Int)} (h : RowS B w' v' l) (hn : New w.heap.size v') (hb : Below w.heap.size w w') : ApW B w w' v v' l :=
  ⟨h, hb.os, hb.tape, hb.output, hb.size, fun k hk _ => hb.block k hk, fun k e => .inr (hn k e)⟩
theorem ApW.sk {B : Nat} {w w' : World} {v v' : Value} {ls ls' : List (List Int)} (h : ApW B w w' v v' ls') (hv : RowS B w v ls) (hB : B ≤ w.heap.size) : Sk [37] B w w' := by
  refine ⟨⟨h.os, h.tape, h.output, h.size, fun k hk => h.block k (by omega) fun e => ?_⟩, fun k cs t fr hk ht => h.block k (lt_of_block hk) fun e => ?_⟩
  · have := (hv.blk k e).1
    omega
  · obtain ⟨_, _, cs', h1⟩ := hv.blk k e
    rw [h1] at hk
    cases hk
    simp at ht
/-- one of both rows, and another one in its place. -/
theorem RfV.selW {t : TypeId} {B c : Nat} {w : World} {s : Lk} (h : RfV t B w c s) (hB : B ≤ w.heap.size) (h5 : t ≠ 5) (h37 : t ≠ 37) (up : Bool) : ∃ v, w.cell? ⟨c, ix up, none⟩ = some v ∧ RowS B w v (s.sel up) ∧
    ∀ (w1 : World) (v' : Value) (l : List (List Int)), ApW B w w1 v v' l → w1.cell? ⟨c, ix up, none⟩ = some v ∧ w1.frozen? ⟨c, ix up, none⟩ = false ∧ RfV t B (w1.setCell ⟨c, ix up, none⟩ v') c (s.put up l) ∧ Sk [37, t] B w (w1.setCell ⟨c, ix up, none⟩ v') := by
  obtain ⟨hBc, v, u, hb, hp⟩ := h
  have n5 : 5 ∉ [t] := by simp; exact Ne.symm h5
  have n37 : 37 ∉ [t] := by simp; exact Ne.symm h37
  have nt : t ∉ [37] := by simp; exact h37
  cases up with
  | true =>
    refine ⟨v, hb.cell 0, hp.r0, fun w1 v' l ha => ?_⟩
    have hs := ha.sk hp.r0 hB
    have hb1 := hs.blk hb nt
    have hs2 : Sk [t] B w1 (w1.setCell ⟨c, 0, none⟩ v') := sk_set hb1 (by simp) hBc
    have h1 : RowS B w1 u s.d := hp.r1.sk hs (by simp) fun k e => ha.block k (hp.r1.blk k e).2.1 fun e2 => hp.ap k e2 e
    refine ⟨hb1.cell 0, hb1.f 0, ⟨hBc, v', u, hb1.set 0 v', ha.row.sk7 hs2 n5 n37, h1.sk7 hs2 n5 n37, fun k e1 e2 => ?_⟩, (hs.mono (by simp)).trans (hs2.mono (by simp))⟩
    rcases ha.own k e1 with e | e
    · exact hp.ap k e e2
    · exact absurd (hp.r1.blk _ e2).2.1 (Nat.not_lt.2 e)
  | false =>
    refine ⟨u, hb.cell 1, hp.r1, fun w1 v' l ha => ?_⟩
    have hs := ha.sk hp.r1 hB
    have hb1 := hs.blk hb nt
    have hs2 : Sk [t] B w1 (w1.setCell ⟨c, 1, none⟩ v') := sk_set hb1 (by simp) hBc
    have h1 : RowS B w1 v s.u := hp.r0.sk hs (by simp) fun k e => ha.block k (hp.r0.blk k e).2.1 fun e2 => hp.ap k e e2
    refine ⟨hb1.cell 1, hb1.f 1, ⟨hBc, v, v', hb1.set 1 v', h1.sk7 hs2 n5 n37, ha.row.sk7 hs2 n5 n37, fun k e1 e2 => ?_⟩, (hs.mono (by simp)).trans (hs2.mono (by simp))⟩
    rcases ha.own k e2 with e | e
    · exact hp.ap k e1 e
    · exact absurd (hp.r0.blk _ e1).2.1 (Nat.not_lt.2 e)

set_option maxRecDepth 8000 in
set_option maxHeartbeats 4000000 in
/-- a row without one frame. -/
theorem cut_any (B : Nat) (w : World) (v : Value) (ls : List (List Int)) (n : Nat) (h : RowS B w v ls) (hn : n < ls.length) (hl : ls.length ≤ 100) (hB : B ≤ w.heap.size) :
    Calls Try.prog 32 #[v, .int .i64 n] w fun e w' => ∃ v', e = .returned v' ∧ RowS B w' v' (ls.eraseIdx n) ∧ New w.heap.size v' ∧ Below w.heap.size w w' := by
  obtain ⟨p, c, rfl, _⟩ := h.slice
  have HF : Hid (∀ W, Below w.heap.size w W → RowS B W (.slice p ls.length c) ls) := fun W hW => h.over hB hW
  have hl1 : (ls.length : Int) ≤ 100 := by omega
  have HB : Hid (B ≤ w.heap.size ∧ n < ls.length) := ⟨hB, hn⟩
  clear h hn hl hB
  go_enter Try.func32, Try.ntmps32
  go_wp2
  go_loopg [5, 6] ls.length (fun g vo vi wr => ∃ i : Nat, vi = .int .i64 i ∧ i + g = ls.length ∧ Hid (RowS B wr vo (cutL ls n i) ∧ New w.heap.size vo ∧ Below w.heap.size w wr))
  case atStart => exact ⟨0, rfl, Nat.zero_add _, rowS_nil _ _, fun k e => (by cases e), Below.refl _ _⟩
  case round =>
    obtain ⟨i, rfl, hig, hg⟩ := hrel
    have hgk : Hid (i + gk = ls.length) := hig
    obtain ⟨op, oc, rfl, _⟩ := hg.out.1.slice
    rcases Nat.lt_or_ge i ls.length with hlt | hge
    · have hi1 : (i : Int) < (ls.length : Int) := by omega
      have HLt : Hid (i < ls.length) := hlt
      have hi0 : (0 : Int) ≤ (i : Int) := by omega
      by_cases hin : i = n
      · have hq : ((i : Int) != (n : Int)) = false := by rw [hin]; simp
        have hqe : (i : Int) = (n : Int) := by omega
        have HG2 : Hid (RowS B wr (.slice op (cutL ls n i).length oc) (cutL ls n (i + 1)) ∧ New w.heap.size (.slice op (cutL ls n i).length oc) ∧ Below w.heap.size w wr) := by
          subst hin
          rw [cutL_skip hlt]
          exact hg.out
        clear hig hlt hin hg
        generalize (cutL ls n i).length = ol at *
        go_wp2
        go_roundg (gk - 1)
        case measure => (have := hgk.out; have := HLt.out; omega)
        case rel => exact ⟨i + 1, by go_num, by have := hgk.out; have := HLt.out; omega, HG2.out⟩
      · have hq : ((i : Int) != (n : Int)) = true := by simp; omega
        have hqe : ¬ (i : Int) = (n : Int) := by omega
        obtain ⟨g1, a1, d1, e1, x1, pt1, _, _, _⟩ := (HF.out wr hg.out.2.2).at hlt
        subst e1
        have HPt : Hid (PcT B wr (.slice a1 ls[i].length d1) ls[i]) := pt1
        have HCu : Hid (cutL ls n (i + 1) = cutL ls n i ++ [ls[i]]) := cutL_take hlt hin
        have HSz : Hid ((cutL ls n i).length < 1000 ∧ B ≤ wr.heap.size) := ⟨by have := cutL_len ls n i; omega, Nat.le_trans HB.out.1 hg.out.2.2.size⟩
        clear pt1 hig hin
        go_wp2_with (refine app_row1 rfl (.tmp 16) (.tmp 21) rfl (.slice op (cutL ls n i).length oc) (cutL ls n i) rfl hg.out.1 (.slice a1 ls[i].length d1) ls[i] HPt.out _ rfl rfl HSz.out.1 HSz.out.2 ?_; intro v5 w5 ha5)
        go_roundg (gk - 1)
        case measure => (have := hgk.out; have := HLt.out; omega)
        case rel =>
          refine ⟨i + 1, by go_num, by have := hgk.out; have := HLt.out; omega, by rw [HCu.out]; exact ha5.row, fun k e => ?_, hg.out.2.2.trans ⟨ha5.os, ha5.tape, ha5.output, ha5.size, fun k hk => ha5.block k (Nat.lt_of_lt_of_le hk hg.out.2.2.size) fun e => ?_⟩⟩
          · rcases ha5.w.own k e with e2 | e2
            · exact hg.out.2.1 k e2
            · exact Nat.le_trans hg.out.2.2.size e2
          · have := hg.out.2.1 k e
            omega
    · have hi1 : ¬ (i : Int) < (ls.length : Int) := by omega
      have hil : i = ls.length := by omega
      have HG2 := hg.out
      rw [hil, cutL_all] at HG2
      have HG3 : Hid (RowS B wr (.slice op (ls.eraseIdx n).length oc) (ls.eraseIdx n) ∧ New w.heap.size (.slice op (ls.eraseIdx n).length oc) ∧ Below w.heap.size w wr) := HG2
      have hol : (cutL ls n i).length = (ls.eraseIdx n).length := by rw [hil, cutL_all]
      rw [hol]
      clear hg HG2 hil hol
      generalize (ls.eraseIdx n).length = ol at *
      go_wp2
      go_ret
      exact ⟨_, rfl, HG3.out⟩

end Go.Proofs.Ytljceoojbppaeaa
