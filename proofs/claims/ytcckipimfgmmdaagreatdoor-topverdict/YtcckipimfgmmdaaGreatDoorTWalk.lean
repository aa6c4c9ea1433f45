/-
  Walk: the parts of a list, handed out to whatever body.
-/
import Derived.Test.YtcckipimfgmmdaaGreatDoorTIter
import Derived.Laws.EntriesVeiled
namespace Go.Proofs.YtcckipimfgmmdaaGreatDoor.T
open Go.RowKit Go.Shelf

attribute [local go_sem] Oper.semAt_some

theorem walk_in (F : Fence) (n : Nat) (hF : F.fn 89) (hro : F.round = none) (s : Int) (w : World) :
    CallsIn F n Tryz.prog 89 #[.int .i64 s] w fun e w' => e = .returned (.func (.func 125) #[] #[.pointer (some ⟨w.heap.size, 0, none⟩)]) ∧ w' = w.alloc (.cells #[.int .i64 s] 3) := by
  refine callsIn_of_wp Tryz.func89 rfl hF ?_ hro
  simp only [Tryz.ntmps89, List.size_toArray, List.length_cons, List.length_nil, Nat.reduceAdd, Nat.reduceSub, Array.replicate_succ, Array.replicate_zero, List.push_toArray, List.append_toArray, List.nil_append, List.cons_append]
  gi_wp2
  go_ret
  exact ⟨rfl, rfl⟩

/-- two boxes more. -/
theorem two_more (W : World) (u v : Value) (t : TypeId) : W.grownBy ((W.alloc (.cells #[u] t)).alloc (.cells #[v] t)) none ∧ Boxed ((W.alloc (.cells #[u] t)).alloc (.cells #[v] t)) W.heap.size t u ∧ Boxed ((W.alloc (.cells #[u] t)).alloc (.cells #[v] t)) (W.heap.size + 1) t v := by
  have h1 := World.grownBy_alloc W (.cells #[u] t) none
  have h2 := World.grownBy_alloc (W.alloc (.cells #[u] t)) (.cells #[v] t) none
  refine ⟨⟨rfl, rfl, rfl, by simp; omega, fun k hk hn => ?_⟩, (Boxed.new W t u).alloc _, ?_⟩
  · exact (h2.block k (by simp; omega) hn).trans (h1.block k hk hn)
  · have := Boxed.new (W.alloc (.cells #[u] t)) t v
    rw [World.size_alloc] at this
    exact this

set_option maxRecDepth 100000 in
set_option maxHeartbeats 2000000 in
theorem walk1_in (F : Fence) (hd : F.depth = none) (n : Nat) (h1 : F.fn 125) (hF : F.fn 126) (hH : F.fn 90) (hM : F.fn 91) (hro : F.round = none) (l Bs : Nat) (s : Int) (hs : s ≤ 1000000) (J Jx : List Pt → World → Prop) (W : World)
    (hJ : AbidesFrom W.heap.size J)
    (hY : ∀ pre x W, J pre W → pre.length < (parts 0 s.toNat).length → YieldAt F (n - 1) Tryz.prog l (Pt.encs x) W fun e W' =>
      (e = .returned (.bool true) ∧ J (pre ++ [x]) W' ∧ KeepF W W') ∨ (e = .returned (.bool false) ∧ Jx (pre ++ [x]) W'))
    (hBs : W.cell? ⟨Bs, 0, none⟩ = some (.int .i64 s)) (h0 : J [] W) :
    CallsIn F n Tryz.prog 125 #[.func (.yield l) #[] #[], .pointer (some ⟨Bs, 0, none⟩)] W fun e W' => (∃ v, e = .returned v) ∧
      ((∃ ys, prs ys = parts 0 s.toNat ∧ J ys W') ∨ (∃ pre, prs pre <+: parts 0 s.toNat ∧ Jx pre W')) := by
  have hdd : ∀ k : Nat, (F.depth.isSome = true → 1 ≤ k) := fun k h => by rw [hd] at h; cases h
  have hlt := World.block_lt_of_cell? W _ hBs
  by_cases hs1 : s < 1
  · have e0 : Hid (parts 0 s.toNat = []) := parts_none (by omega)
    have hJ1 := hJ [] W _ none h0 (World.grownBy_alloc W (.cells #[.func (.yield l) #[] #[]] 167) none) (fun r e => by cases e)
    have hB2 : (W.alloc (.cells #[.func (.yield l) #[] #[]] 167)).cell? ⟨Bs, 0, none⟩ = some (.int .i64 s) := cell_kept hBs (World.grownBy_alloc W _ none) (fun r e => by cases e)
    refine callsIn_of_wp Tryz.func125 rfl h1 ?_ hro
    simp only [Tryz.ntmps125, List.size_toArray, List.length_cons, List.length_nil, Nat.reduceAdd, Nat.reduceSub, Array.replicate_succ, Array.replicate_zero, List.push_toArray, List.append_toArray, List.nil_append, List.cons_append]
    gi_wp2
    refine bodyPost_ret (results_none rfl _ _ _) rfl ?_
    exact ⟨⟨_, rfl⟩, .inl ⟨[], by rw [e0.out]; rfl, hJ1⟩⟩
  · obtain ⟨z, rfl⟩ : ∃ z : Nat, s = z := ⟨s.toNat, by omega⟩
    obtain ⟨g2, bY, bV⟩ := two_more W (.func (.yield l) #[] #[]) (.func (.func 126) #[] #[.pointer (some ⟨W.heap.size, 0, none⟩), .pointer (some ⟨W.heap.size + 1, 0, none⟩)]) 167
    have hJ1 := hJ [] W _ none h0 g2 (fun r e => by cases e)
    have hB2 := cell_kept hBs g2 (fun r e => by cases e)
    have hp := within_in F hd hF hH hM hro l W.heap.size (W.heap.size + 1) (parts 0 (z : Int).toNat).length J Jx (fun m pre x W hj hl => yieldAt_any hd m (hY pre x W hj hl)) z (n - 1) 0 z [] _ (by omega) (by omega) (by omega) bY bV hJ1 (by simp)
    have cV := bV.cell
    have hz1 : ¬ (z : Int) < 1 := by omega
    have HT : Hid ((z : Int).toNat = z) := by unfold Hid; omega
    have hB0 : (W.alloc (.cells #[.func (.yield l) #[] #[]] 167)).cell? ⟨Bs, 0, none⟩ = some (.int .i64 z) := cell_kept hBs (World.grownBy_alloc W _ none) (fun r e => by cases e)
    clear bY bV hJ1 g2 hY hs hs1 hJ
    refine callsIn_of_wp Tryz.func125 rfl h1 ?_ hro
    simp only [Tryz.ntmps125, List.size_toArray, List.length_cons, List.length_nil, Nat.reduceAdd, Nat.reduceSub, Array.replicate_succ, Array.replicate_zero, List.push_toArray, List.append_toArray, List.nil_append, List.cons_append]
    gi_wp2_with ((try refine ⟨hdd _, ?_⟩); gi_at_call 126; refine hp.mono ?_; clear hp; rintro e W1 (⟨rfl, ys, e1, hJ1, _⟩ | ⟨rfl, ys, e1, hx⟩))
    · go_end0
      exact ⟨⟨_, rfl⟩, .inl ⟨ys, by rw [HT.out]; exact e1, by simpa using hJ1⟩⟩
    · go_end0
      exact ⟨⟨_, rfl⟩, .inr ⟨ys, by rw [HT.out]; exact e1, by simpa using hx⟩⟩

/-- what Walk hands back is ranged over: all parts, in order; or a beginning of them. -/
theorem walk_stops (F : Fence) (hd : F.depth = none) (n : Nat) (h1 : F.fn 125) (hF : F.fn 126) (hH : F.fn 90) (hM : F.fn 91) (hro : F.round = none) (Bs : Nat) (s : Int) (hs : s ≤ 1000000) (w : World) (hBs : w.cell? ⟨Bs, 0, none⟩ = some (.int .i64 s)) :
    SeqStopsK F n Tryz.prog 125 #[.pointer (some ⟨Bs, 0, none⟩)] Pt.encs KeepF (fun ys => prs ys = parts 0 s.toNat) (fun pre => prs pre <+: parts 0 s.toNat) (parts 0 s.toNat).length w := fun l J Jx W hW hJ _ hY h0 =>
  walk1_in F hd n h1 hF hH hM hro l Bs s hs J Jx W hJ hY ((hW.cell (p := ⟨Bs, 0, none⟩) (World.block_lt_of_cell? w _ hBs)).trans hBs) h0

end Go.Proofs.YtcckipimfgmmdaaGreatDoor.T
