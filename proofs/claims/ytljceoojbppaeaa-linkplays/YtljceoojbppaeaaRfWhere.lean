/-
  The document's link: where a frame of both rows stands; all frames lost.
-/
import Derived.Test.YtljceoojbppaeaaRfMem
namespace Go.Proofs.Ytljceoojbppaeaa
open Go.RowKit D

/-- where a frame stands, as numbers. -/
def Lk.whereV (s : Lk) (n : Int) : Value := if s.has n then .tuple #[.int .i64 (ix (s.way n)), .int .i64 (s.at n), .bool true] else .tuple #[.int .i64 0, .int .i64 0, .bool false]
theorem has_iff (s : Lk) (n : Int) : s.has n = true ↔ 0 ≤ n ∧ n < (s.u.length : Int) + (s.d.length : Int) := by
  unfold Lk.has hasN Lk.way Lk.at
  by_cases h : n < (s.u.length : Int)
  · rw [decide_eq_true h, decide_eq_true_iff]
    simp only [if_pos h]
    show 0 ≤ n ∧ n < (s.u.length : Int) ↔ _
    omega
  · rw [decide_eq_false h, decide_eq_true_iff]
    simp only [if_neg h]
    show 0 ≤ n - (s.u.length : Int) ∧ n - (s.u.length : Int) < (s.d.length : Int) ↔ _
    omega

set_option maxRecDepth 8000 in
set_option maxHeartbeats 4000000 in
theorem where_any (B c : Nat) (s : Lk) (w : World) (h : RfV 35 B w c s) (ho : s.ok) (n : Int) (hn : n < 9223372036854775808) :
    Calls Try.prog 33 #[.pointer (some ⟨c, 0, none⟩), .int .i64 n] w fun e w' => e = .returned (s.whereV n) ∧ Below w.heap.size w w' := by
  obtain ⟨v, u, x0, x1, r0, r1⟩ := h.cells
  obtain ⟨p0, c0, rfl, _⟩ := r0.slice
  obtain ⟨p1, c1, rfl, _⟩ := r1.slice
  have z0 := cellK x0 (Below.refl w.heap.size w).drew
  have z1 := cellK x1 (Below.refl w.heap.size w).drew
  have y0 := cellK z0 (Below.refl w.drew.heap.size w.drew).drew
  have hu : (s.u.length : Int) ≤ 64 := by have := ho.1.1; omega
  have hd : (s.d.length : Int) ≤ 64 := by have := ho.2.1; omega
  have HI := has_iff s n
  unfold Lk.whereV
  by_cases h0 : n < 0
  · have e : s.has n = false := by
      cases hq : s.has n with
      | false => rfl
      | true => have := HI.1 hq; omega
    rw [e, if_neg (by decide)]
    have hb : decide (n < 0) = true := decide_eq_true h0
    clear HI r0 r1 h
    generalize s.u.length = lu at *
    generalize s.d.length = ld at *
    go_enter Try.func33, Try.ntmps33
    go_upto_region 1 with fail
    go_quiet (fail)
    go_wp2
    go_ret3
    exact ⟨rfl, D.below_drewN w _⟩
  · have hb : decide (n < 0) = false := decide_eq_false h0
    have h00 : (0 : Int) ≤ n := by omega
    by_cases h1 : n < (s.u.length : Int) + (s.d.length : Int)
    · have e : s.has n = true := HI.2 ⟨h00, h1⟩
      rw [e, if_pos rfl]
      unfold Lk.way Lk.at
      by_cases h2 : n < (s.u.length : Int)
      · rw [decide_eq_true h2, if_pos h2]
        unfold ix
        rw [if_pos rfl]
        clear HI r0 r1 h e
        generalize s.u.length = lu at *
        generalize s.d.length = ld at *
        go_enter Try.func33, Try.ntmps33
        go_upto_region 1 with fail
        go_quiet (fail)
        go_wp2
        go_ret3
        exact ⟨rfl, D.below_drewN w _⟩
      · rw [decide_eq_false h2, if_neg h2]
        unfold ix
        rw [if_neg (by decide)]
        clear HI r0 r1 h e
        generalize s.u.length = lu at *
        generalize s.d.length = ld at *
        go_enter Try.func33, Try.ntmps33
        go_upto_region 1 with fail
        go_quiet (fail)
        go_upto_region 5 with fail
        go_region
        go_wp2
        go_ret3
        exact ⟨rfl, D.below_drewN w _⟩
    · have e : s.has n = false := by
        cases hq : s.has n with
        | false => rfl
        | true => have := HI.1 hq; omega
      rw [e, if_neg (by decide)]
      clear HI r0 r1 h e
      generalize s.u.length = lu at *
      generalize s.d.length = ld at *
      go_enter Try.func33, Try.ntmps33
      go_upto_region 1 with fail
      go_quiet (fail)
      go_wp2
      go_ret3
      exact ⟨rfl, D.below_drewN w _⟩

set_option maxHeartbeats 4000000 in
theorem refClear_any (B c : Nat) (s : Lk) (w : World) (h : RfV 35 B w c s) :
    Calls Try.prog 24 #[.pointer (some ⟨c, 0, none⟩)] w fun e w' => e = .returned (.tuple #[]) ∧ RfV 35 B w' c lk0 ∧ Sk [35, 37] B w w' := by
  obtain ⟨hBc, v, u, hb, hp⟩ := h
  have HZ : Hid (∀ W, W = w.setRow c #[.slice none 0 0, .slice none 0 0] → RfV 35 B W c lk0 ∧ Sk [35, 37] B w W) := fun W hW => by
    subst hW
    have hk : Kb c w (w.setRow c #[.slice none 0 0, .slice none 0 0]) := ⟨rfl, rfl, rfl, by simp [World.setRow], fun k hk hne => setRow_other w c k _ hne⟩
    exact ⟨⟨hBc, _, _, hb.row #[.slice none 0 0, .slice none 0 0], rowS_nil _ _, rowS_nil _ _, fun k e => by cases e⟩, sk_kb hk hb (by simp) hBc⟩
  have x0 := hb.cell 0
  have x1 := hb.cell 1
  have f0 := hb.f 0
  have f1 := hb.f 1
  simp only [List.getElem?_cons_zero, List.getElem?_cons_succ] at x0 x1
  have HBk : Hid (Blk w c 35 [v, u]) := hb
  clear hb hp
  go_enter Try.func24, Try.ntmps24
  go_wp2_with (refine wpList_store_row rfl 33 (.tmp 5) (.tmp 3) rfl c #[.slice none 0 0, .slice none 0 0] rfl rfl 35 _ HBk.out (by kernel_rfl) rfl (by kernel_rfl) ?_)
  go_end0
  exact ⟨rfl, HZ.out _ rfl⟩

end Go.Proofs.Ytljceoojbppaeaa
