/-
  Two operations of a drawn region that may come in either order; rows in one's own memory behind appends.
-/
import Derived.Test.YtifddbfcongepaaRef
namespace Go.Proofs.Ytifddbfcongepaa
open Go.RowKit Go.Maps

section
variable {P : Program} {ops : Array Oper} {Q : Exit → Act → World → Prop} {md : Region.Mode} {S : World → Prop} {E : List Nat}
/-- one of two comes up. -/
theorem wpAnyL_two {i j fuel : Nat} {listed : Array Bool} {a : Act} {w : World} {o o' : Oper} (hr : Region.ready md ops listed = [i, j]) (ho : ops[i]? = some o) (ho' : ops[j]? = some o')
    (h : ∀ K : Act → World → Prop, Shut (∀ a w, (E.contains i = false → S w) → wpAnyL P md ops Q S E fuel (listed.setIfInBounds i true) a w → K a w) → if Region.wanted o (yielded ops a.tmps) = true then Oper.wp P o a w K Q else K (a.put o.dst undef) w)
    (h' : ∀ K : Act → World → Prop, Shut (∀ a w, (E.contains j = false → S w) → wpAnyL P md ops Q S E fuel (listed.setIfInBounds j true) a w → K a w) → if Region.wanted o' (yielded ops a.tmps) = true then Oper.wp P o' a w K Q else K (a.put o'.dst undef) w) :
    wpAnyL P md ops Q S E (fuel + 1) listed a w :=
  ⟨fun h0 => (by rw [hr] at h0; cases h0), fun k hk => by
    rw [hr] at hk
    rcases List.mem_cons.1 hk with rfl | hk
    · exact wpOp_step ho (fun K hK => h K (fun a w hS hW => hK a w ⟨hS, hW⟩))
    · cases List.mem_singleton.1 hk
      exact wpOp_step ho' (fun K hK => h' K (fun a w hS hW => hK a w ⟨hS, hW⟩))⟩
end

theorem Sc.grown {W W' : World} {x : Value} {ys : List Value} {row : Option Nat} (h : Sc W x ys) (hg : W.grownBy W' row) (hne : ∀ g, x.ownBlock = some g → row ≠ some g) : Sc W' x ys := by
  obtain ⟨ao, c, rfl, h1, h2⟩ := h
  refine ⟨ao, c, rfl, h1, fun a e j u hu => ?_⟩
  have h3 := h2 a e j u hu
  subst e
  have hb : (a.add j).block = a.block := by unfold Addr.add; split <;> rfl
  rw [World.cell?_of_block (a := a.add j) (hg.block _ (World.block_lt_of_cell? W _ h3) (fun e => hne a.block rfl (by rw [← e, hb])))]
  exact h3

/-- a rising row with one number more. -/
theorem rise_in {ts : List Int} {x : Int} {k : Nat} (h : Rise ts) (hlt : ∀ (j : Nat) (z : Int), j < k → ts[j]? = some z → z < x) (hk : k ≤ ts.length) (hge : ∀ z, ts[k]? = some z → x < z) : Rise (ts.take k ++ [x] ++ ts.drop k) ∧ ∀ z, z ∈ ts.take k ++ [x] ++ ts.drop k ↔ z ∈ ts ∨ z = x := by
  have hsplit := List.take_append_drop k ts
  constructor
  · have h2 : Rise (ts.take k ++ ts.drop k) := by rw [hsplit]; exact h
    have h3 := List.pairwise_append.1 h2
    have hl : ∀ a ∈ ts.take k, a < x := fun a ha => by
      obtain ⟨j, hj, e⟩ := List.getElem_of_mem ha
      rw [List.length_take] at hj
      rw [List.getElem_take] at e
      exact hlt j a (by omega) (by rw [List.getElem?_eq_getElem (by omega), e])
    have hg : ∀ b ∈ ts.drop k, x < b := fun b hb => by
      obtain ⟨j, hj, e⟩ := List.getElem_of_mem hb
      rw [List.length_drop] at hj
      rw [List.getElem_drop] at e
      have h0 := hge ts[k] (List.getElem?_eq_getElem (by omega))
      by_cases hj0 : j = 0
      · subst hj0
        rw [← e]
        exact h0
      · have := List.pairwise_iff_getElem.1 h k (k + j) (by omega) (by omega) (by omega)
        rw [← e]
        omega
    refine List.pairwise_append.2 ⟨List.pairwise_append.2 ⟨h3.1, List.pairwise_singleton _ _, fun a ha b hb => ?_⟩, h3.2.1, fun a ha b hb => ?_⟩
    · rw [List.mem_singleton] at hb
      subst hb
      exact hl a ha
    · rcases List.mem_append.1 ha with ha | ha
      · exact h3.2.2 a ha b hb
      · rw [List.mem_singleton] at ha
        subst ha
        exact hg b hb
  · intro z
    rw [List.mem_append, List.mem_append, List.mem_singleton]
    conv => rhs; rw [← hsplit, List.mem_append]
    constructor
    · rintro ((h | h) | h)
      · exact .inl (.inl h)
      · exact .inr h
      · exact .inl (.inr h)
    · rintro ((h | h) | h)
      · exact .inl (.inl h)
      · exact .inr h
      · exact .inl (.inr h)

set_option maxHeartbeats 2000000 in
/-- two rows that are the same. -/
theorem rsame_any (w : World) (b1 b2 : Nat) (v1 v2 : Value) (ts : List Int) (h1 : w.ownsRow b1 31 1 v1 ts.length (cellsZ ts)) (h2 : w.ownsRow b2 31 1 v2 ts.length (cellsZ ts)) (hn : ts.length ≤ 1000) :
    Calls Try.prog 15 #[v1, v2] w fun e w' => e = .returned (.bool true) ∧ Below w.heap.size w w' := by
  obtain ⟨p1, c1, rfl⟩ := row_slice h1
  obtain ⟨p2, c2, rfl⟩ := row_slice h2
  have HF : Hid (w.ownsRow b1 31 1 (.slice p1 ts.length c1) ts.length (cellsZ ts) ∧ w.ownsRow b2 31 1 (.slice p2 ts.length c2) ts.length (cellsZ ts)) := ⟨h1, h2⟩
  clear h1 h2
  go_enter Try.func15, Try.ntmps15
  go_wp2_with fail
  go_loopw [5] (fun vi wr => ∃ i : Nat, vi = .int .i64 i ∧ i ≤ ts.length ∧ Below w.heap.size w wr) (fun vi _ => ts.length - (intOf vi).toNat)
  case atStart => exact ⟨0, rfl, Nat.zero_le _, Below.refl _ _⟩
  case round =>
    obtain ⟨i, rfl, hi, hb⟩ := hrel
    have HB : Hid (Below w.heap.size w wr) := hb
    by_cases hlt : i < ts.length
    · have hi1 : (i : Int) < (ts.length : Int) := by omega
      obtain ⟨g1, rfl, _, x1⟩ := row_at (owns_below HF.out.1 hb (Nat.le_refl _)) hlt
      obtain ⟨g2, rfl, _, x2⟩ := row_at (owns_below HF.out.2 hb (Nat.le_refl _)) hlt
      have HBD : Hid (∀ m, Below w.heap.size w (wr.drewN m)) := fun m => hb.trans ((below_drewN wr m).mono hb.size)
      clear hb
      generalize ts[i] = y at *
      go_wp2_with fail
      go_quiet (fail)
      go_wp2_with fail
      go_roundw
      case rel => exact ⟨i + 1, by go_num, hlt, HBD.out _⟩
      case measure => simp [intOf]; omega
    · have hi1 : ¬ (i : Int) < (ts.length : Int) := by omega
      clear hb
      go_wp2_with fail
      go_ret
      exact ⟨rfl, HB.out⟩

/-- the document's timers, just begun. -/
theorem rnew_any (v : Int) (w : World) (h1 : 1 ≤ v) (h2 : v ≤ 1000) : Calls Try.prog 10 #[.int .i64 v] w fun e w' => ∃ b, e = .returned (.tuple #[.pointer (some ⟨b, 0, none⟩), .int .i64 0]) ∧ RfT w' w.heap.size b v [] ∧ Below w.heap.size w w' := by
  have c1 : decide (v < 1) = false := decide_eq_false (by omega)
  have c2 : ¬ v < 1 := by omega
  have c3 : decide (1000 < v) = false := decide_eq_false (by omega)
  have c4 : ¬ 1000 < v := by omega
  go_enter Try.func10, Try.ntmps10
  go_wp2_with fail
  go_ret2
  exact ⟨w.heap.size, by simp, ⟨_, _, Nat.le_refl _, blk_new w _ _, ⟨rfl, .inl ⟨rfl, rfl⟩⟩, ⟨rfl, .inl ⟨rfl, rfl⟩⟩⟩, below_new w _⟩
theorem rnew_not (v : Int) (w : World) (h1 : v < 1 ∨ 1000 < v) : Calls Try.prog 10 #[.int .i64 v] w fun e w' => e = .returned (.tuple #[.pointer none, .int .i64 1]) ∧ w' = w := by
  by_cases c2 : v < 1
  · have c1 : decide (v < 1) = true := decide_eq_true (by omega)
    go_enter Try.func10, Try.ntmps10
    go_wp2_with fail
    go_ret2
    exact ⟨rfl, rfl⟩
  · have c1 : decide (v < 1) = false := decide_eq_false (by omega)
    have c3 : decide (1000 < v) = true := decide_eq_true (by omega)
    have c4 : 1000 < v := by omega
    go_enter Try.func10, Try.ntmps10
    go_wp2_with fail
    go_ret2
    exact ⟨rfl, rfl⟩

end Go.Proofs.Ytifddbfcongepaa
