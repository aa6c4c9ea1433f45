/-
  Pieces in a slice, as arguments; are they light; are two lists of bodies alike.
-/
import Derived.Test.YtfjipaalelkpjaaFrAwk
import Derived.Deep.Slices
import Derived.Deep.Fields
import Derived.ProofKit
import Derived.OpenShut
import Derived.ChangeOld
namespace Go.Proofs.Ytfjipaalelkpjaa
open Go.ChangeShapes Go.WideShapes Go.ChangeAt Go.RowKit Go.Deep D

/-- a piece's slice. -/
def PcV (w : World) (v : Value) (l : List Int) : Prop := ∃ a cap, v = .slice a l.length cap ∧ Bs w a l.length l ∧ (a = none → cap = 0)
/-- pieces that a slice leads to. -/
def PcR (w : World) (v : Value) (ls : List (List Int)) : Prop :=
  ∃ a cap, v = .slice a ls.length cap ∧ (0 < ls.length → ∃ b o, a = some ⟨b, o, none⟩ ∧ ∀ (i : Nat) (l : List Int), ls[i]? = some l → ∃ u, w.cell? ⟨b, o + i, none⟩ = some u ∧ PcV w u l)
theorem PcV.below {w w' : World} {v : Value} {l : List Int} (h : PcV w v l) (hb : Below w.heap.size w w') : PcV w' v l := by
  obtain ⟨a, cap, rfl, h1, h2⟩ := h
  exact ⟨a, cap, rfl, h1.below hb, h2⟩
theorem cellK {w w' : World} {a : Addr} {v : Value} (h : w.cell? a = some v) (hb : Below w.heap.size w w') : w'.cell? a = some v := by
  rw [World.cell?_of_block (hb.block a.block (World.block_lt_of_cell? w _ h))]
  exact h
theorem PcR.below {w w' : World} {v : Value} {ls : List (List Int)} (h : PcR w v ls) (hb : Below w.heap.size w w') : PcR w' v ls := by
  obtain ⟨a, cap, rfl, hc⟩ := h
  refine ⟨a, cap, rfl, fun h0 => ?_⟩
  obtain ⟨b, o, rfl, hx⟩ := hc h0
  refine ⟨b, o, rfl, fun i l hi => ?_⟩
  obtain ⟨u, h3, h4⟩ := hx i l hi
  exact ⟨u, cellK h3 hb, h4.below hb⟩
theorem pcR_at {w : World} {p : Option Addr} {n c i : Nat} {ls : List (List Int)} (h : PcR w (.slice p n c) ls) (hi : i < ls.length) : ∃ b o a' c', p = some ⟨b, o, none⟩ ∧ w.cell? ⟨b, o + i, none⟩ = some (.slice a' ls[i].length c') ∧ Bs w a' ls[i].length ls[i] ∧ (a' = none → c' = 0) := by
  obtain ⟨a, cap, e, hc⟩ := h
  cases e
  obtain ⟨b, o, hb, hx⟩ := hc (by omega)
  obtain ⟨u, h3, a', c', rfl, h4, h5⟩ := hx i _ (List.getElem?_eq_getElem hi)
  exact ⟨b, o, a', c', hb, h3, h4, h5⟩

theorem cellsOfBS : Try.prog.cellsOf 22 = 1 := by kernel_rfl
section
variable {H : Type} {enc : TypeId × Value → H} {w : World} {base : Nat} {spare : Nat → Bool} {held : Bool} {n : Nat} {x : DataW H × List MemPlace}
theorem open_piece {v : Value} (h : DataW.trod enc Try.prog w base spare held n 22 [v] = some x) : ∃ l, PcV w v l := by
  rcases open_ints Try.underlying22 Try.underlying5 (by kernel_rfl) h with ⟨hcs, _⟩ | ⟨x, l, c, zs, hcs, _, hl, hm, hz, _, hcell, hwz⟩
  · simp at hcs
    subst hcs
    exact ⟨[], none, 0, rfl, ⟨rfl, by simp, fun h => absurd h (by decide)⟩, fun _ => rfl⟩
  · simp at hcs
    subst hcs
    have hlz : l ≤ zs.length := by rw [hz]; split <;> omega
    have hlen : (zs.take l).length = l := by rw [List.length_take]; omega
    refine ⟨zs.take l, some x, c, by rw [hlen], ⟨rfl, fun n hn => bounds_u8 (hwz n (List.mem_of_mem_take hn)), fun h0 => ?_⟩, fun h => by cases h⟩
    rw [hlen] at h0 ⊢
    obtain ⟨b, off, spot⟩ := x
    have hc := hcell 0 (by omega)
    have hspot : spot = none := by simpa [Addr.add] using World.cell?_spot hc
    subst hspot
    refine ⟨b, off, rfl, fun i hi => ?_⟩
    have := hcell i (by omega)
    rw [show (⟨b, off + i, none⟩ : Addr) = (⟨b, off, none⟩ : Addr).add i from by unfold Addr.add; split <;> simp_all, this]
    simp [hi]
theorem open_pieces {v : Value} (h : DataW.trod enc Try.prog w base spare held n 28 [v] = some x) : ∃ ls, PcR w v ls := by
  rcases open_slice Try.underlying28 h with ⟨h0, _⟩ | ⟨a', len', cap', m, n, D, Pl, hcs, hb, hl, hm, hmm, _, hx⟩
  · simp at h0
    subst h0
    exact ⟨[], ⟨none, 0, rfl, fun h => absurd h (by decide)⟩⟩
  · simp at hcs
    subst hcs
    have hlm : len' ≤ m := by rw [hmm]; split <;> omega
    obtain ⟨f, hf⟩ := choose_lt (α := List Int) (n := len') (p := fun i y => ∃ u, w.cells? base (a'.add (i * 1)) 1 = some [u] ∧ PcV w u y) (fun i hi => by
      obtain ⟨cs', h1, h2⟩ := hx i (by omega)
      rw [cellsOfBS] at h1
      obtain ⟨_, hlen, _⟩ := World.cells?_some h1
      match cs', hlen with
      | [u], _ =>
        obtain ⟨l, hl⟩ := open_piece h2
        exact ⟨l, u, h1, hl⟩)
    refine ⟨(List.range len').map f, a', cap', by simp, fun h0 => ?_⟩
    have h0' : 0 < len' := by simpa using h0
    obtain ⟨b, off, spot⟩ := a'
    have hspot : spot = none := by
      obtain ⟨u, h1, _⟩ := hf 0 h0'
      have c0 := (World.cells?_some h1).2.2 0 (by decide)
      have : (({ block := b, off := off, spot := spot } : Addr).add (0 * 1)).add 0 = ⟨b, off, spot⟩ := by cases spot <;> simp [Addr.add]
      rw [this] at c0
      simpa using World.cell?_spot c0
    subst hspot
    refine ⟨b, off, rfl, fun i y hi => ?_⟩
    have hil : i < len' := by
      have := (List.getElem?_eq_some_iff.1 hi).1
      simpa using this
    simp [hil] at hi
    subst hi
    obtain ⟨u, h1, h2⟩ := hf i hil
    have c0 := (World.cells?_some h1).2.2 0 (by decide)
    rw [Addr.add_lit, Addr.add_lit, Nat.mul_one, Nat.add_zero] at c0
    exact ⟨u, c0, h2⟩
end

/-- how many bytes pieces have. -/
def tot (ls : List (List Int)) : Nat := (ls.map List.length).sum
theorem tot_step {ls : List (List Int)} {i : Nat} (h : i < ls.length) : tot (ls.take (i + 1)) = tot (ls.take i) + ls[i].length := by
  unfold tot
  rw [List.take_succ_eq_append_getElem h, List.map_append, List.sum_append]
  simp
theorem tot_flat (ls : List (List Int)) : ls.flatten.length = tot ls := by
  unfold tot
  rw [List.length_flatten]
theorem flat_step {ls : List (List Int)} {i : Nat} (h : i < ls.length) : (ls.take (i + 1)).flatten = (ls.take i).flatten ++ ls[i] := by
  rw [List.take_succ_eq_append_getElem h, List.flatten_append]
  simp
theorem tot_le (ls : List (List Int)) (i : Nat) : tot (ls.take i) ≤ tot ls := by
  have := congrArg tot (List.take_append_drop i ls)
  unfold tot at this ⊢
  rw [List.map_append, List.sum_append] at this
  omega
/-- what 'light' tells. -/
def LgR (w : World) (ls : List (List Int)) (e : Ending) (w' : World) : Prop := ∃ bb : Bool, e = .returned (.bool bb) ∧ Below w.heap.size w w' ∧ (bb = true → ls.length ≤ 100 ∧ tot ls ≤ 3000)
/-- as far as it has counted: n is all, or some piece is very long. -/
def Cnt (ls : List (List Int)) (i m : Nat) : Prop := m = tot (ls.take i) ∨ 10000 ≤ m

set_option maxRecDepth 8000 in
set_option maxHeartbeats 2000000 in
theorem light_any (w : World) (v : Value) (ls : List (List Int)) (h : PcR w v ls) :
    Calls Try.prog 12 #[v] w fun e w' => LgR w ls e w' := by
  obtain ⟨p1, c1, rfl⟩ : ∃ p c, v = .slice p ls.length c := by obtain ⟨p, c, e, _⟩ := h; exact ⟨p, c, e⟩
  have HF : Hid (∀ W, Below w.heap.size w W → PcR W (.slice p1 ls.length c1) ls) := fun W hW => h.below hW
  clear h
  go_enter Try.func12, Try.ntmps12
  go_wp2_with fail
  go_loopw [3, 4] (fun v3 vi wr => ∃ (i m : Nat), vi = .int .i64 i ∧ v3 = .int .i64 m ∧ i ≤ ls.length ∧ i ≤ 100 ∧ m ≤ i * 10000 ∧ Hid (Cnt ls i m) ∧ Below w.heap.size w wr) (fun _ vi _ => ls.length - (intOf vi).toNat)
  case atStart => exact ⟨0, 0, rfl, rfl, Nat.zero_le _, by decide, by decide, .inl rfl, Below.refl _ _⟩
  case round =>
    obtain ⟨i, m, rfl, rfl, hi, hi40, hm, HC, hb⟩ := hrel
    by_cases hlt : i < ls.length
    · have hi1 : (i : Int) < (ls.length : Int) := by omega
      by_cases h40 : i < 100
      · have h401 : (i : Int) < 100 := by omega
        obtain ⟨b, o, a', c', rfl, e1, e2⟩ := pcR_at (HF.out wr hb) hlt
        have HS : Hid (tot (ls.take (i + 1)) = tot (ls.take i) + ls[i].length) := tot_step hlt
        generalize ls[i].length = n at *
        clear e2
        by_cases hn : n < 10000
        · have hn1 : (n : Int) < 10000 := by omega
          have hn2 : ¬ (10000 : Int) < (n : Int) := by omega
          go_wp2_with fail
          all_goals first
            | omega
            | (go_roundw
               case rel => exact ⟨i + 1, m + n, by go_num, by go_num, hlt, h40, by omega, (by have := HC.out; have := HS.out; unfold Hid; unfold Cnt at *; omega), hb⟩
               case measure => simp [intOf]; omega)
        · have hn1 : ¬ (n : Int) < 10000 := by omega
          go_wp2_with fail
          all_goals first
            | omega
            | (go_roundw
               case rel => exact ⟨i + 1, m + 10000, by go_num, by go_num, hlt, h40, by omega, .inr (by omega), hb⟩
               case measure => simp [intOf]; omega)
      · have h401 : ¬ (i : Int) < 100 := by omega
        have h41 : ¬ (ls.length : Int) ≤ 100 := by omega
        go_wp2_with fail
        go_ret
        exact ⟨_, rfl, hb, fun e => by cases e⟩
    · have hi1 : ¬ (i : Int) < (ls.length : Int) := by omega
      have h41 : (ls.length : Int) ≤ 100 := by omega
      have h40 : ls.length ≤ 100 := by omega
      have hil : i = ls.length := by omega
      have HI : Hid (i = ls.length) := hil
      clear hil
      by_cases h30 : m ≤ 3000
      · have h31 : (m : Int) ≤ 3000 := by omega
        go_wp2_with fail
        go_ret
        refine ⟨_, rfl, hb, fun _ => ⟨h40, ?_⟩⟩
        rcases HC.out with e | e
        · rw [HI.out, List.take_length] at e
          omega
        · omega
      · have h31 : ¬ (m : Int) ≤ 3000 := by omega
        go_wp2_with fail
        go_ret
        exact ⟨_, rfl, hb, fun e => by cases e⟩

set_option maxRecDepth 100000 in
set_option maxHeartbeats 4000000 in
theorem alike_any (w : World) (v u : Value) (ls ms : List (List Int)) (h : PcR w v ls) (k : PcR w u ms) (hn : ls.length ≤ 100000) (e : ls = ms) :
    Calls Try.prog 19 #[v, u] w fun e w' => e = .returned (.bool true) ∧ Below w.heap.size w w' := by
  subst e
  obtain ⟨p1, c1, rfl⟩ : ∃ p c, v = .slice p ls.length c := by obtain ⟨p, c, e, _⟩ := h; exact ⟨p, c, e⟩
  obtain ⟨p2, c2, rfl⟩ : ∃ p c, u = .slice p ls.length c := by obtain ⟨p, c, e, _⟩ := k; exact ⟨p, c, e⟩
  have HF : Hid (∀ W, Below w.heap.size w W → PcR W (.slice p1 ls.length c1) ls ∧ PcR W (.slice p2 ls.length c2) ls) := fun W hW => ⟨h.below hW, k.below hW⟩
  clear h k
  go_enter Try.func19, Try.ntmps19
  go_wp2_with fail
  go_loopg [5] ls.length (fun g vi wr => ∃ i : Nat, vi = .int .i64 i ∧ i + g = ls.length ∧ Hid (Below w.heap.size w wr))
  case atStart => exact ⟨0, rfl, Nat.zero_add _, Below.refl _ _⟩
  case round =>
    obtain ⟨i, rfl, hig, hb⟩ := hrel
    by_cases hlt : i < ls.length
    · have hi1 : (i : Int) < (ls.length : Int) := by omega
      obtain ⟨b1, o1, a1, d1, e1, x1, y1, _⟩ := pcR_at (HF.out wr hb.out).1 hlt
      obtain ⟨b2, o2, a2, d2, e2, x2, y2, _⟩ := pcR_at (HF.out wr hb.out).2 hlt
      subst e1 e2
      have hgk : Hid (gk - 1 < gk ∧ i + 1 + (gk - 1) = ls.length) := ⟨by omega, by omega⟩
      have s1 := text_any y1 d1
      have s2 := text_any y2 d2
      have r1 := text_any (y1.below (below_drewN wr 1)) d1
      have r2 := text_any (y2.below (below_drewN wr 1)) d2
      have z1 := cellK x1 (below_drewN wr 1)
      have z2 := cellK x2 (below_drewN wr 1)
      clear hig y1 y2
      generalize ls[i].length = n at *
      generalize strOfNums ls[i] = st at *
      clear hlt
      generalize ls.length = len at *
      have hi0 : (0 : Int) ≤ (i : Int) := by omega
      have hS0 : (fun X : World => X.cell? ⟨b1, o1 + i, none⟩ = some (.slice a1 n d1) ∧ X.cell? ⟨b2, o2 + i, none⟩ = some (.slice a2 n d2) ∧ (convert 22 9 (.slice a1 n d1)).run Try.prog X = .ok (.string st) X ∧ (convert 22 9 (.slice a2 n d2)).run Try.prog X = .ok (.string st) X) wr := ⟨x1, x2, s1, s2⟩
      have hS1 : (fun X : World => X.cell? ⟨b1, o1 + i, none⟩ = some (.slice a1 n d1) ∧ X.cell? ⟨b2, o2 + i, none⟩ = some (.slice a2 n d2) ∧ (convert 22 9 (.slice a1 n d1)).run Try.prog X = .ok (.string st) X ∧ (convert 22 9 (.slice a2 n d2)).run Try.prog X = .ok (.string st) X) wr.drew := ⟨z1, z2, r1, r2⟩
      go_upto_region 6 with fail
      go_region_held3 (fun X => X.cell? ⟨b1, o1 + i, none⟩ = some (.slice a1 n d1) ∧ X.cell? ⟨b2, o2 + i, none⟩ = some (.slice a2 n d2) ∧ (convert 22 9 (.slice a1 n d1)).run Try.prog X = .ok (.string st) X ∧ (convert 22 9 (.slice a2 n d2)).run Try.prog X = .ok (.string st) X) (first | assumption | go_keep) (fail)
      have HB2 : Hid (Below w.heap.size w wr.drew) := hb.out.drew
      have hbq : (st.toList == st.toList) = true := beq_self_eq_true _
      go_wp2
      go_roundg (gk - 1)
      case measure => exact hgk.out.1
      case rel => exact ⟨i + 1, rfl, hgk.out.2, HB2.out⟩
    · have hi1 : ¬ (i : Int) < (ls.length : Int) := by omega
      go_wp2_with fail
      go_ret
      exact ⟨rfl, hb.out⟩

end Go.Proofs.Ytfjipaalelkpjaa
